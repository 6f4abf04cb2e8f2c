import PyProof.Rows.All
import Wide.All
import OpenK.AllK
import Wide.FinOn
import Lean
import PyProof.EqAt
import PyProof.EqKinds
import PyProof.TupleCall
import PyProof.NeKinds
import PyProof.Rows.SortStr
import PyProof.Rows.SeqMore
import PyProof.Rows.CatFin
import PyProof.MeetsStr
import PyProof.Rows.SumAny
import PyProof.Rows.SortShell
import PyProof.Rows.SetFrom
import PyProof.DictWalks
import PyProof.Rows.SortReads
import KE.KDictSum
import PyProof.ZipIter
import PyProof.Rows.ZipGen
import PyProof.TupleOfGen
import PyProof.TupleOfStr
import KE.KIsAll
import PyProof.Rows.StrJoin2
import PyProof.AttrMissSeq
import KE.KDictOf
import PySem.Challenge.RW_likepieces_k22_what_is_a_program
open List (all_cons all_eq_true all_map any_cons any_eq_true append_assoc append_nil cons_append contains_iff_mem count_append drop_eq_getElem_cons drop_eq_nil_of_le drop_zero eq_of_mem_replicate filterMap_cons filter_append filter_cons filter_nil flatMap_cons flatten_cons foldl_append foldl_cons getElem_mem isEmpty_cons length_append length_cons length_drop length_filter_le length_map length_nil length_pos_iff length_range length_replicate length_reverse length_set length_singleton length_take lookup_cons map_append map_cons map_map map_nil map_take mem_append mem_append_left mem_append_right mem_cons mem_cons_of_mem mem_cons_self mem_filter mem_filterMap mem_iff_getElem? mem_map mem_map_of_mem mem_of_getElem? mem_of_mem_take mem_range mem_singleton nil_append nodup_append nodup_cons nodup_nil not_mem_nil of_mem_zip replicate_succ replicate_zero reverse_cons set_set size_toArray sum_cons take_append_drop take_length take_of_length_le take_sublist)
set_option Elab.async false
set_option linter.all false
set_option maxRecDepth 100000
set_option maxHeartbeats 4000000
namespace L2
open PySem
def Z1z (s:Stmt):Arguments:=match s with
 | .FunctionDef _ a _ _ _ _ _ _ _ _=>a
 |_=>{ posonlyargs:=[],args:=[],vararg:=none,kwonlyargs:=[],kw_defaults:=[],kwarg:=none,defaults:=[] }
def Z15 (s:Stmt):List Stmt:=match s with
 | .FunctionDef _ _ b _ _ _ _ _ _ _=>b
 |_=>[]
def Z0c (s:Stmt):Scope:=match s with
 | .FunctionDef _ _ _ _ _ _ sc _ _ _=>sc
 |_=>{ kind:=.function,names:=[],isGenerator:=false,isCoroutine:=false }
end L2
namespace M22
open PySem L2
def top (i:Nat):Stmt:=PySem.Challenge.pw_likepieces_k22_what_is_a_program.main.body.getD i (.Pass ⟨0,0,0,0⟩)
noncomputable abbrev eT:Obj:=⟨(.type "tuple"),none,(.seq #[] 0),#[]⟩
noncomputable abbrev eF (m:Value)(n:Str)(i:Nat)(r:Addr):Obj:=⟨(.type "function"),none,(.func (PySem.W.fnOf n n (Z1z (top i)) (Z15 (top i)) (Z0c (top i)) .none .none .none m none (.ref r) .none)),#[]⟩
noncomputable abbrev eF0:=eF (.str "likepieces.trees" 187)
noncomputable abbrev eF1:=eF (.str "likepieces.programs" 365)
noncomputable abbrev eF2:=eF (.str "law_likepieces_k22_what_is_a_program" 398)
noncomputable abbrev eS (a:Array Value):Obj:=⟨(.type "tuple"),none,(.seq a 0),#[]⟩
noncomputable abbrev eC (n:Str)(a b c:Tok)(l k f:Int)(r s:Addr)(v w:Value)(t:Addr)(m:Int)(d:Tok):Obj:=⟨(.type "code"),none,(.fields #[(.str n a),(.str n b),(.str "/claim/cut.py" c),(.int l 0),(.int k 0),(.int 0 0),(.int 0 0),(.int f 0),(.ref r),(.bool true),(.int 181 0),(.ref s),.none,v,w,(.ref t),(.int m 0),(.int l 0),(.str "/claim/cut.py" d)]),#[]⟩
noncomputable def hdQ:Program:={ PySem.Challenge.pw_likepieces_k22_what_is_a_program with main:={ PySem.Challenge.pw_likepieces_k22_what_is_a_program.main with body:=[top 1,top 2,top 3,top 4,top 5,top 6,top 7,top 8,top 9,top 10,top 11,top 12,top 13,top 14,top 15,top 16,top 17,top 18,top 19,top 20,top 21,top 22,top 23,top 25,top 26,top 27,top 28,top 29,top 31,top 32,top 33,top 34,top 35,top 36,top 37,top 38,top 39,top 40,top 41,top 42,top 43,top 44,top 45,top 46,top 47,top 48,top 49,top 50,top 51,top 52,top 53,top 54,top 55,top 56,top 57] } }
noncomputable def hdK:Params->W.Frag:=fun P=>
 (nat_lit 2,⟨.none,none,(.dict #[] 0),#[]⟩) ::
 (nat_lit 3,⟨(.type "dict"),none,(.dict #[⟨(PySem.PyData.keyHash P "__name__"),(.str "__name__" 165),(.str "law_likepieces_k22_what_is_a_program" 398)⟩,⟨(PySem.PyData.keyHash P "__doc__"),(.str "__doc__" 166),.none⟩,⟨(PySem.PyData.keyHash P "__package__"),(.str "__package__" 167),.none⟩,⟨(PySem.PyData.keyHash P "__loader__"),(.str "__loader__" 168),(.builtin "__main__.__loader__#opaque")⟩,⟨(PySem.PyData.keyHash P "__spec__"),(.str "__spec__" 169),.none⟩,⟨(PySem.PyData.keyHash P "__annotations__"),(.str "__annotations__" 170),(.ref 6)⟩,⟨(PySem.PyData.keyHash P "__builtins__"),(.str "__builtins__" 171),(.ref 4)⟩,⟨(PySem.PyData.keyHash P "__file__"),(.str "__file__" 173),(.str "/claim/cut.py" 172)⟩,⟨(PySem.PyData.keyHash P "__cached__"),(.str "__cached__" 174),.none⟩,⟨(PySem.PyData.keyHash P "WORDS"),(.str "WORDS" 202),(.ref 15)⟩,⟨(PySem.PyData.keyHash P "SIGNS"),(.str "SIGNS" 209),(.ref 16)⟩,⟨(PySem.PyData.keyHash P "LONGEST_NAME"),(.str "LONGEST_NAME" 211),(.int 8 210)⟩,⟨(PySem.PyData.keyHash P "GREATEST_VALUE"),(.str "GREATEST_VALUE" 213),(.int 999999999 212)⟩,⟨(PySem.PyData.keyHash P "MOST_TIMES"),(.str "MOST_TIMES" 215),(.int 5 214)⟩,⟨(PySem.PyData.keyHash P "NODE"),(.str "NODE" 217),(.str "node" 216)⟩,⟨(PySem.PyData.keyHash P "OPENED"),(.str "OPENED" 219),(.str "opened" 218)⟩,⟨(PySem.PyData.keyHash P "CLOSED"),(.str "CLOSED" 221),(.str "closed" 220)⟩,⟨(PySem.PyData.keyHash P "is_whole"),(.str "is_whole" 228),(.ref 23)⟩,⟨(PySem.PyData.keyHash P "is_name"),(.str "is_name" 234),(.ref 28)⟩,⟨(PySem.PyData.keyHash P "is_value"),(.str "is_value" 241),(.ref 35)⟩,⟨(PySem.PyData.keyHash P "is_sign"),(.str "is_sign" 248),(.ref 42)⟩,⟨(PySem.PyData.keyHash P "is_times"),(.str "is_times" 255),(.ref 49)⟩,⟨(PySem.PyData.keyHash P "RULES"),(.str "RULES" 300),(.ref 50)⟩,⟨(PySem.PyData.keyHash P "expression_rule"),(.str "expression_rule" 307),(.ref 68)⟩,⟨(PySem.PyData.keyHash P "is_node"),(.str "is_node" 313),(.ref 73)⟩,⟨(PySem.PyData.keyHash P "is_tree"),(.str "is_tree" 323),(.ref 80)⟩,⟨(PySem.PyData.keyHash P "sets_bound"),(.str "sets_bound" 333),(.ref 87)⟩,⟨(PySem.PyData.keyHash P "is_expression"),(.str "is_expression" 340),(.ref 94)⟩,⟨(PySem.PyData.keyHash P "head"),(.str "head" 346),(.ref 99)⟩,⟨(PySem.PyData.keyHash P "parts"),(.str "parts" 352),(.ref 104)⟩,⟨(PySem.PyData.keyHash P "steps"),(.str "steps" 358),(.ref 109)⟩,⟨(PySem.PyData.keyHash P "flat"),(.str "flat" 364),(.ref 114)⟩,⟨(PySem.PyData.keyHash P "MOST_PARAMS"),(.str "MOST_PARAMS" 368),(.int 6 367)⟩,⟨(PySem.PyData.keyHash P "calls_right"),(.str "calls_right" 374),(.ref 119)⟩,⟨(PySem.PyData.keyHash P "is_params"),(.str "is_params" 380),(.ref 124)⟩,⟨(PySem.PyData.keyHash P "is_function"),(.str "is_function" 386),(.ref 129)⟩,⟨(PySem.PyData.keyHash P "is_program"),(.str "is_program" 397),(.ref 136)⟩,⟨(PySem.PyData.keyHash P "_law_feed"),(.str "_law_feed" 406),(.ref 143)⟩,⟨(PySem.PyData.keyHash P "_law_draw"),(.str "_law_draw" 418),(.ref 150)⟩,⟨(PySem.PyData.keyHash P "_law_value"),(.str "_law_value" 426),(.ref 157)⟩,⟨(PySem.PyData.keyHash P "_law_spelled"),(.str "_law_spelled" 436),(.ref 164)⟩,⟨(PySem.PyData.keyHash P "_law_name"),(.str "_law_name" 451),(.ref 171)⟩,⟨(PySem.PyData.keyHash P "_law_names"),(.str "_law_names" 461),(.ref 178)⟩,⟨(PySem.PyData.keyHash P "_law_parts"),(.str "_law_parts" 467),(.ref 183)⟩,⟨(PySem.PyData.keyHash P "_law_work"),(.str "_law_work" 473),(.ref 188)⟩,⟨(PySem.PyData.keyHash P "_law_leaf"),(.str "_law_leaf" 484),(.ref 195)⟩,⟨(PySem.PyData.keyHash P "_law_bound"),(.str "_law_bound" 490),(.ref 200)⟩,⟨(PySem.PyData.keyHash P "_law_called"),(.str "_law_called" 496),(.ref 205)⟩,⟨(PySem.PyData.keyHash P "_law_expr"),(.str "_law_expr" 502),(.ref 210)⟩,⟨(PySem.PyData.keyHash P "_law_world"),(.str "_law_world" 514),(.ref 217)⟩,⟨(PySem.PyData.keyHash P "_law_with"),(.str "_law_with" 520),(.ref 222)⟩,⟨(PySem.PyData.keyHash P "_law_nodes"),(.str "_law_nodes" 526),(.ref 227)⟩,⟨(PySem.PyData.keyHash P "_law_spoilt"),(.str "_law_spoilt" 538),(.ref 234)⟩,⟨(PySem.PyData.keyHash P "_law_program"),(.str "_law_program" 544),(.ref 239)⟩,⟨(PySem.PyData.keyHash P "_law_odd"),(.str "_law_odd" 553),(.ref 246)⟩,⟨(PySem.PyData.keyHash P "_law_put_function"),(.str "_law_put_function" 562),(.ref 253)⟩,⟨(PySem.PyData.keyHash P "_law_bent_pair"),(.str "_law_bent_pair" 573),(.ref 260)⟩,⟨(PySem.PyData.keyHash P "_law_bent_function"),(.str "_law_bent_function" 589),(.ref 267)⟩,⟨(PySem.PyData.keyHash P "_law_leaf_small"),(.str "_law_leaf_small" 596),(.ref 274)⟩,⟨(PySem.PyData.keyHash P "_law_hidden"),(.str "_law_hidden" 602),(.ref 279)⟩,⟨(PySem.PyData.keyHash P "_law_bent_call"),(.str "_law_bent_call" 608),(.ref 284)⟩,⟨(PySem.PyData.keyHash P "_law_bent_set"),(.str "_law_bent_set" 614),(.ref 289)⟩,⟨(PySem.PyData.keyHash P "_law_bent"),(.str "_law_bent" 627),(.ref 296)⟩,⟨(PySem.PyData.keyHash P "law"),(.str "law" 637),(.ref 303)⟩] 64),#[]⟩) ::
 (nat_lit 15,eS #[(.str "num" 189),(.str "name" 190),(.str "op" 191),(.str "pick" 192),(.str "let" 193),(.str "set" 194),(.str "say" 195),(.str "take" 196),(.str "do" 197),(.str "again" 198),(.str "call" 199),(.str "own" 200),(.str "hole" 201)]) ::
 (nat_lit 16,eS #[(.str "+" 203),(.str "-" 204),(.str "*" 205),(.str "/" 206),(.str "<" 207),(.str "=" 208)]) ::
 (nat_lit 17,eT) ::
 (nat_lit 19,eS #[(.str "thing" 225)]) ::
 (nat_lit 20,eT) ::
 (nat_lit 22,eC "is_whole" 222 223 224 10 1 3 17 18 (.ref 19) (.ref 20) 21 226 227) ::
 (nat_lit 23,eF0 "is_whole" 9 22) ::
 (nat_lit 24,eT) ::
 (nat_lit 27,eC "is_name" 229 230 231 12 1 3 24 25 .none .none 26 232 233) ::
 (nat_lit 28,eF0 "is_name" 10 27) ::
 (nat_lit 29,eT) ::
 (nat_lit 31,eS #[(.str "thing" 238)]) ::
 (nat_lit 32,eT) ::
 (nat_lit 34,eC "is_value" 235 236 237 16 1 3 29 30 (.ref 31) (.ref 32) 33 239 240) ::
 (nat_lit 35,eF0 "is_value" 11 34) ::
 (nat_lit 36,eT) ::
 (nat_lit 38,eS #[(.str "thing" 245)]) ::
 (nat_lit 39,eT) ::
 (nat_lit 41,eC "is_sign" 242 243 244 18 1 3 36 37 (.ref 38) (.ref 39) 40 246 247) ::
 (nat_lit 42,eF0 "is_sign" 12 41) ::
 (nat_lit 43,eT) ::
 (nat_lit 45,eS #[(.str "thing" 252)]) ::
 (nat_lit 46,eT) ::
 (nat_lit 48,eC "is_times" 249 250 251 20 1 3 43 44 (.ref 45) (.ref 46) 47 253 254) ::
 (nat_lit 49,eF0 "is_times" 13 48) ::
 (nat_lit 50,⟨(.type "dict"),none,(.dict #[⟨(PySem.PyData.keyHash P "num"),(.str "num" 256),(.ref 51)⟩,⟨(PySem.PyData.keyHash P "name"),(.str "name" 259),(.ref 52)⟩,⟨(PySem.PyData.keyHash P "op"),(.str "op" 262),(.ref 53)⟩,⟨(PySem.PyData.keyHash P "pick"),(.str "pick" 265),(.ref 54)⟩,⟨(PySem.PyData.keyHash P "let"),(.str "let" 268),(.ref 55)⟩,⟨(PySem.PyData.keyHash P "set"),(.str "set" 271),(.ref 56)⟩,⟨(PySem.PyData.keyHash P "say"),(.str "say" 274),(.ref 57)⟩,⟨(PySem.PyData.keyHash P "take"),(.str "take" 277),(.ref 58)⟩,⟨(PySem.PyData.keyHash P "do"),(.str "do" 280),(.ref 59)⟩,⟨(PySem.PyData.keyHash P "again"),(.str "again" 283),(.ref 60)⟩,⟨(PySem.PyData.keyHash P "call"),(.str "call" 286),(.ref 61)⟩] 11),#[]⟩) ::
 (nat_lit 51,⟨(.type "tuple"),none,(.seq #[(.ref 35),(.int 0 257),(.int 0 258)] 0),#[]⟩) ::
 (nat_lit 52,⟨(.type "tuple"),none,(.seq #[(.ref 28),(.int 0 260),(.int 0 261)] 0),#[]⟩) ::
 (nat_lit 53,⟨(.type "tuple"),none,(.seq #[(.ref 42),(.int 2 263),(.int 2 264)] 0),#[]⟩) ::
 (nat_lit 54,⟨(.type "tuple"),none,(.seq #[.none,(.int 3 266),(.int 3 267)] 0),#[]⟩) ::
 (nat_lit 55,⟨(.type "tuple"),none,(.seq #[(.ref 28),(.int 2 269),(.int 2 270)] 0),#[]⟩) ::
 (nat_lit 56,⟨(.type "tuple"),none,(.seq #[(.ref 28),(.int 1 272),(.int 1 273)] 0),#[]⟩) ::
 (nat_lit 57,⟨(.type "tuple"),none,(.seq #[.none,(.int 1 275),(.int 1 276)] 0),#[]⟩) ::
 (nat_lit 58,⟨(.type "tuple"),none,(.seq #[.none,(.int 0 278),(.int 0 279)] 0),#[]⟩) ::
 (nat_lit 59,⟨(.type "tuple"),none,(.seq #[.none,(.int 1 281),(.int 6 282)] 0),#[]⟩) ::
 (nat_lit 60,⟨(.type "tuple"),none,(.seq #[(.ref 49),(.int 1 284),(.int 1 285)] 0),#[]⟩) ::
 (nat_lit 61,⟨(.type "tuple"),none,(.seq #[(.ref 28),(.int 0 287),(.int 6 288)] 0),#[]⟩) ::
 (nat_lit 62,eT) ::
 (nat_lit 64,eS #[(.str "word" 304)]) ::
 (nat_lit 65,eT) ::
 (nat_lit 67,eC "expression_rule" 301 302 303 23 1 3 62 63 (.ref 64) (.ref 65) 66 305 306) ::
 (nat_lit 68,eF0 "expression_rule" 15 67) ::
 (nat_lit 69,eT) ::
 (nat_lit 72,eC "is_node" 308 309 310 25 2 3 69 70 .none .none 71 311 312) ::
 (nat_lit 73,eF0 "is_node" 16 72) ::
 (nat_lit 74,eT) ::
 (nat_lit 76,eS #[(.str "thing" 317),(.str "rule_of" 318),(.str "waiting" 319),(.str "node" 320)]) ::
 (nat_lit 77,eT) ::
 (nat_lit 79,eC "is_tree" 314 315 316 38 2 3 74 75 (.ref 76) (.ref 77) 78 321 322) ::
 (nat_lit 80,eF0 "is_tree" 17 79) ::
 (nat_lit 81,eT) ::
 (nat_lit 83,eS #[(.str "e" 327),(.str "lets" 328),(.str "deed" 329),(.str "node" 330)]) ::
 (nat_lit 84,eT) ::
 (nat_lit 86,eC "sets_bound" 324 325 326 46 1 3 81 82 (.ref 83) (.ref 84) 85 331 332) ::
 (nat_lit 87,eF0 "sets_bound" 18 86) ::
 (nat_lit 88,eT) ::
 (nat_lit 90,eS #[(.str "thing" 337)]) ::
 (nat_lit 91,eT) ::
 (nat_lit 93,eC "is_expression" 334 335 336 56 1 3 88 89 (.ref 90) (.ref 91) 92 338 339) ::
 (nat_lit 94,eF0 "is_expression" 19 93) ::
 (nat_lit 95,eT) ::
 (nat_lit 98,eC "head" 341 342 343 58 1 3 95 96 .none .none 97 344 345) ::
 (nat_lit 99,eF0 "head" 20 98) ::
 (nat_lit 100,eT) ::
 (nat_lit 103,eC "parts" 347 348 349 60 1 3 100 101 .none .none 102 350 351) ::
 (nat_lit 104,eF0 "parts" 21 103) ::
 (nat_lit 105,eT) ::
 (nat_lit 108,eC "steps" 353 354 355 62 1 3 105 106 .none .none 107 356 357) ::
 (nat_lit 109,eF0 "steps" 22 108) ::
 (nat_lit 110,eT) ::
 (nat_lit 113,eC "flat" 359 360 361 74 1 3 110 111 .none .none 112 362 363) ::
 (nat_lit 114,eF0 "flat" 23 113) ::
 (nat_lit 115,eT) ::
 (nat_lit 118,eC "calls_right" 369 370 371 78 2 3 115 116 .none .none 117 372 373) ::
 (nat_lit 119,eF1 "calls_right" 26 118) ::
 (nat_lit 120,eT) ::
 (nat_lit 123,eC "is_params" 375 376 377 81 1 3 120 121 .none .none 122 378 379) ::
 (nat_lit 124,eF1 "is_params" 27 123) ::
 (nat_lit 125,eT) ::
 (nat_lit 128,eC "is_function" 381 382 383 85 2 3 125 126 .none .none 127 384 385) ::
 (nat_lit 129,eF1 "is_function" 28 128) ::
 (nat_lit 130,eT) ::
 (nat_lit 132,eS #[(.str "thing" 390),(.str "functions" 391),(.str "main" 392),(.str "counts" 393),(.str "function" 394)]) ::
 (nat_lit 133,eT) ::
 (nat_lit 135,eC "is_program" 387 388 389 93 1 3 130 131 (.ref 132) (.ref 133) 134 395 396) ::
 (nat_lit 136,eF1 "is_program" 29 135) ::
 (nat_lit 137,eT) ::
 (nat_lit 139,eS #[(.str "_law_script" 403)]) ::
 (nat_lit 140,eT) ::
 (nat_lit 142,eC "_law_feed" 400 401 402 104 1 3 137 138 (.ref 139) (.ref 140) 141 404 405) ::
 (nat_lit 143,eF2 "_law_feed" 31 142) ::
 (nat_lit 144,eT) ::
 (nat_lit 146,eS #[(.str "_law_feed_here" 410),(.str "_law_many" 411),(.str "_law_found" 412),(.str "_law_at" 413),(.str "_law_cell" 414),(.str "_law_number" 415)]) ::
 (nat_lit 147,eT) ::
 (nat_lit 149,eC "_law_draw" 407 408 409 106 2 3 144 145 (.ref 146) (.ref 147) 148 416 417) ::
 (nat_lit 150,eF2 "_law_draw" 32 149) ::
 (nat_lit 151,eT) ::
 (nat_lit 153,eS #[(.str "_law_feed_here" 422),(.str "_law_way" 423)]) ::
 (nat_lit 154,eT) ::
 (nat_lit 156,eC "_law_value" 419 420 421 123 1 3 151 152 (.ref 153) (.ref 154) 155 424 425) ::
 (nat_lit 157,eF2 "_law_value" 33 156) ::
 (nat_lit 158,eT) ::
 (nat_lit 160,eS #[(.str "_law_number" 430),(.str "_law_long" 431),(.str "_law_word" 432),(.str "_law_k" 433)]) ::
 (nat_lit 161,eT) ::
 (nat_lit 163,eC "_law_spelled" 427 428 429 130 2 3 158 159 (.ref 160) (.ref 161) 162 434 435) ::
 (nat_lit 164,eF2 "_law_spelled" 34 163) ::
 (nat_lit 165,eT) ::
 (nat_lit 167,eS #[(.str "_law_feed_here" 440),(.str "_law_taken" 441),(.str "_law_words" 442),(.str "_law_way" 443),(.str "_law_long" 444),(.str "_law_number" 445),(.str "_law_name_here" 446),(.str "_law_word" 447),(.str "_law_at" 448)]) ::
 (nat_lit 168,eT) ::
 (nat_lit 170,eC "_law_name" 437 438 439 136 2 3 165 166 (.ref 167) (.ref 168) 169 449 450) ::
 (nat_lit 171,eF2 "_law_name" 35 170) ::
 (nat_lit 172,eT) ::
 (nat_lit 174,eS #[(.str "_law_feed_here" 455),(.str "_law_many" 456),(.str "_law_names_here" 457),(.str "_law_k" 458)]) ::
 (nat_lit 175,eT) ::
 (nat_lit 177,eC "_law_names" 452 453 454 158 2 3 172 173 (.ref 174) (.ref 175) 176 459 460) ::
 (nat_lit 178,eF2 "_law_names" 36 177) ::
 (nat_lit 179,eT) ::
 (nat_lit 182,eC "_law_parts" 462 463 464 163 1 3 179 180 .none .none 181 465 466) ::
 (nat_lit 183,eF2 "_law_parts" 37 182) ::
 (nat_lit 184,eT) ::
 (nat_lit 187,eC "_law_work" 468 469 470 165 2 3 184 185 .none .none 186 471 472) ::
 (nat_lit 188,eF2 "_law_work" 38 187) ::
 (nat_lit 189,eT) ::
 (nat_lit 191,eS #[(.str "_law_feed_here" 477),(.str "_law_world_here" 478),(.str "_law_bound_here" 479),(.str "_law_way" 480),(.str "_law_some" 481)]) ::
 (nat_lit 192,eT) ::
 (nat_lit 194,eC "_law_leaf" 474 475 476 172 3 3 189 190 (.ref 191) (.ref 192) 193 482 483) ::
 (nat_lit 195,eF2 "_law_leaf" 39 194) ::
 (nat_lit 196,eT) ::
 (nat_lit 199,eC "_law_bound" 485 486 487 180 6 3 196 197 .none .none 198 488 489) ::
 (nat_lit 200,eF2 "_law_bound" 40 199) ::
 (nat_lit 201,eT) ::
 (nat_lit 204,eC "_law_called" 491 492 493 191 5 3 201 202 .none .none 203 494 495) ::
 (nat_lit 205,eF2 "_law_called" 41 204) ::
 (nat_lit 206,eT) ::
 (nat_lit 209,eC "_law_expr" 497 498 499 200 5 3 206 207 .none .none 208 500 501) ::
 (nat_lit 210,eF2 "_law_expr" 42 209) ::
 (nat_lit 211,eT) ::
 (nat_lit 213,eS #[(.str "_law_names_here" 506),(.str "_law_lets" 507),(.str "_law_functions" 508),(.str "_law_works" 509),(.str "_law_room" 510),(.str "_law_toil" 511)]) ::
 (nat_lit 214,eT) ::
 (nat_lit 216,eC "_law_world" 503 504 505 225 6 3 211 212 (.ref 213) (.ref 214) 215 512 513) ::
 (nat_lit 217,eF2 "_law_world" 43 216) ::
 (nat_lit 218,eT) ::
 (nat_lit 221,eC "_law_with" 515 516 517 227 2 3 218 219 .none .none 220 518 519) ::
 (nat_lit 222,eF2 "_law_with" 44 221) ::
 (nat_lit 223,eT) ::
 (nat_lit 226,eC "_law_nodes" 521 522 523 229 1 3 223 224 .none .none 225 524 525) ::
 (nat_lit 227,eF2 "_law_nodes" 45 226) ::
 (nat_lit 228,eT) ::
 (nat_lit 230,eS #[(.str "_law_e" 530),(.str "_law_at" 531),(.str "_law_leaf_here" 532),(.str "_law_inner" 533),(.str "_law_k" 534),(.str "_law_long" 535)]) ::
 (nat_lit 231,eT) ::
 (nat_lit 233,eC "_law_spoilt" 527 528 529 231 3 3 228 229 (.ref 230) (.ref 231) 232 536 537) ::
 (nat_lit 234,eF2 "_law_spoilt" 46 233) ::
 (nat_lit 235,eT) ::
 (nat_lit 238,eC "_law_program" 539 540 541 242 2 3 235 236 .none .none 237 542 543) ::
 (nat_lit 239,eF2 "_law_program" 47 238) ::
 (nat_lit 240,eT) ::
 (nat_lit 242,eS #[(.str "_law_feed_here" 548),(.str "_law_e" 549),(.str "_law_some" 550)]) ::
 (nat_lit 243,eT) ::
 (nat_lit 245,eC "_law_odd" 545 546 547 263 2 3 240 241 (.ref 242) (.ref 243) 244 551 552) ::
 (nat_lit 246,eF2 "_law_odd" 48 245) ::
 (nat_lit 247,eT) ::
 (nat_lit 249,eS #[(.str "_law_program_here" 557),(.str "_law_k" 558),(.str "_law_one" 559)]) ::
 (nat_lit 250,eT) ::
 (nat_lit 252,eC "_law_put_function" 554 555 556 273 3 3 247 248 (.ref 249) (.ref 250) 251 560 561) ::
 (nat_lit 253,eF2 "_law_put_function" 49 252) ::
 (nat_lit 254,eT) ::
 (nat_lit 256,eS #[(.str "_law_feed_here" 566),(.str "_law_program_here" 567),(.str "_law_functions" 568),(.str "_law_main" 569),(.str "_law_some" 570)]) ::
 (nat_lit 257,eT) ::
 (nat_lit 259,eC "_law_bent_pair" 563 564 565 275 2 3 254 255 (.ref 256) (.ref 257) 258 571 572) ::
 (nat_lit 260,eF2 "_law_bent_pair" 50 259) ::
 (nat_lit 261,eT) ::
 (nat_lit 263,eS #[(.str "_law_feed_here" 577),(.str "_law_program_here" 578),(.str "_law_k" 579),(.str "_law_name_here" 580),(.str "_law_params" 581),(.str "_law_body" 582),(.str "_law_way" 583),(.str "_law_pair" 584),(.str "_law_some" 585),(.str "_law_one" 586)]) ::
 (nat_lit 264,eT) ::
 (nat_lit 266,eC "_law_bent_function" 574 575 576 280 3 3 261 262 (.ref 263) (.ref 264) 265 587 588) ::
 (nat_lit 267,eF2 "_law_bent_function" 51 266) ::
 (nat_lit 268,eT) ::
 (nat_lit 270,eS #[(.str "_law_feed_here" 593)]) ::
 (nat_lit 271,eT) ::
 (nat_lit 273,eC "_law_leaf_small" 590 591 592 297 1 3 268 269 (.ref 270) (.ref 271) 272 594 595) ::
 (nat_lit 274,eF2 "_law_leaf_small" 52 273) ::
 (nat_lit 275,eT) ::
 (nat_lit 278,eC "_law_hidden" 597 598 599 299 4 3 275 276 .none .none 277 600 601) ::
 (nat_lit 279,eF2 "_law_hidden" 53 278) ::
 (nat_lit 280,eT) ::
 (nat_lit 283,eC "_law_bent_call" 603 604 605 309 2 3 280 281 .none .none 282 606 607) ::
 (nat_lit 284,eF2 "_law_bent_call" 54 283) ::
 (nat_lit 285,eT) ::
 (nat_lit 288,eC "_law_bent_set" 609 610 611 330 2 3 285 286 .none .none 287 612 613) ::
 (nat_lit 289,eF2 "_law_bent_set" 55 288) ::
 (nat_lit 290,eT) ::
 (nat_lit 292,eS #[(.str "_law_feed_here" 618),(.str "_law_program_here" 619),(.str "_law_functions" 620),(.str "_law_main" 621),(.str "_law_way" 622),(.str "_law_odd_here" 623),(.str "_law_one" 624)]) ::
 (nat_lit 293,eT) ::
 (nat_lit 295,eC "_law_bent" 615 616 617 342 2 3 290 291 (.ref 292) (.ref 293) 294 625 626) ::
 (nat_lit 296,eF2 "_law_bent" 56 295) ::
 (nat_lit 297,eT) ::
 (nat_lit 299,eS #[(.str "_law_script" 631),(.str "_law_feed_here" 632),(.str "_law_program_here" 633),(.str "_law_k" 634)]) ::
 (nat_lit 300,eT) ::
 (nat_lit 302,eC "law" 628 629 630 358 1 3 297 298 (.ref 299) (.ref 300) 301 635 636) ::
 (nat_lit 303,eF2 "law" 57 302) :: []
noncomputable def hdA:List Addr:=[2,3,15,16,17,19,20,22,23,24,27,28,29,31,32,34,35,36,38,39,41,42,43,45,46,48,49,50,51,52,53,54,55,56,57,58,59,60,61,62,64,65,67,68,69,72,73,74,76,77,79,80,81,83,84,86,87,88,90,91,93,94,95,98,99,100,103,104,105,108,109,110,113,114,115,118,119,120,123,124,125,128,129,130,132,133,135,136,137,139,140,142,143,144,146,147,149,150,151,153,154,156,157,158,160,161,163,164,165,167,168,170,171,172,174,175,177,178,179,182,183,184,187,188,189,191,192,194,195,196,199,200,201,204,205,206,209,210,211,213,214,216,217,218,221,222,223,226,227,228,230,231,233,234,235,238,239,240,242,243,245,246,247,249,250,252,253,254,256,257,259,260,261,263,264,266,267,268,270,271,273,274,275,278,279,280,283,284,285,288,289,290,292,293,295,296,297,299,300,302,303]
noncomputable abbrev hdL:List Str:=["RULES"]
noncomputable abbrev hdN:Nat:=3458
noncomputable abbrev hdH:PySem.W.Hook:=PySem.W.kHook hdK hdA (fun _=>by kernel_rfl)
theorem hdS:PySem.Challenge.rw_likepieces_k22_what_is_a_program.wellSaid=true:=by decide+kernel
set_option maxHeartbeats 0 in
open PySem.W.Fast in
theorem hdT:PySem.W.LeftO (PySem.Challenge.rw_likepieces_k22_what_is_a_program).row.toRowW.prog hdQ hdL (fun s=>PySem.W.xlAt hdQ [] s&&PySem.W.recOk (PySem.W.RowW.records (PySem.Challenge.rw_likepieces_k22_what_is_a_program).row.toRowW) s) (PySem.W.Hook.obs hdH) (PySem.W.Hook.val hdH) hdN:=by
 refine PySem.W.LeftO.of_split "special-get-raises" ?_
 intro w
 unfold PySem.W.fencedOpening PySem.W.topFrom
 rw[te10274390034422433532,te1435165496053646825,te14289696077712309145,te14082659384304107361,te4187177175401517315,te14364793385576792824,te8920871248978507458,te5923862056798008813]
 kernel_rfl
end M22
namespace L2
open PySem PySem.Spec PyProof.Rows
abbrev Key:=Sum Int Str
def Zcl:Key->Value->Bool
 | .inl k,v=>Value.isInt k v
 | .inr x,v=>Value.isStrOf x v
def Zwg (w:World):Key->Int
 | .inl k=>hashInt k
 | .inr x=>hashStr w x
theorem Z0i:∀{k:Key} {v:Value},Zcl k v=true->(∃i t,k=Sum.inl i/\v=Value.int i t)∨(∃x t,k=Sum.inr x/\v=Value.str x t)
 | .inl i,v,h=>by
  obtain⟨t,e⟩:=Value.isInt_shape (k:=i) (v:=v) h
  exact .inl ⟨i,t,rfl,e⟩
 | .inr x,v,h=>by
  obtain⟨t,e⟩:=Value.isStrOf_shape (x:=x) (v:=v) h
  exact .inr ⟨x,t,rfl,e⟩
theorem Zdx (i:Int)(t:Tok):Zcl (.inl i) (.int i t)=true:=by simp [Zcl,Value.isInt]
theorem Zdy (x:Str)(t:Tok):Zcl (.inr x) (.str x t)=true:=by simp [Zcl,Value.isStrOf]
theorem Zp2 (a b:Int):decide ((Sum.inl a:Key)=Sum.inl b)=(a==b):=by
 by_cases e:a=b
 ·subst e;simp
 ·have h:¬ (Sum.inl a:Key)=Sum.inl b:=fun q=>e (Sum.inl.inj q)
  rw[decide_eq_false h]
  exact(beq_eq_false_iff_ne.mpr e).symm
theorem Zp3 (a b:Str):decide ((Sum.inr a:Key)=Sum.inr b)=decide (a=b):=by
 by_cases e:a=b
 ·subst e;simp
 ·have h:¬ (Sum.inr a:Key)=Sum.inr b:=fun q=>e (Sum.inr.inj q)
  rw[decide_eq_false h,decide_eq_false e]
theorem Zp4 (a:Int)(b:Str):decide ((Sum.inl a:Key)=Sum.inr b)=false:=decide_eq_false (fun q=>nomatch q)
theorem Zp5 (a:Str)(b:Int):decide ((Sum.inr a:Key)=Sum.inl b)=false:=decide_eq_false (fun q=>nomatch q)
def Z0e (prog:Program)(w:World):PySem.KeyKind prog w Key where
 is:=Zcl
 hash:=Zwg w
 inj:=fun v a b ha hb=>by
  rcases Z0i ha with ⟨i,t,rfl,rfl⟩|⟨x,t,rfl,rfl⟩
  ·rcases Z0i hb with ⟨j,u,rfl,e⟩|⟨y,u,rfl,e⟩
   ·injection e with e1 _;rw[e1]
   ·exact nomatch e
  ·rcases Z0i hb with ⟨j,u,rfl,e⟩|⟨y,u,rfl,e⟩
   ·exact nomatch e
   ·injection e with e1 _;rw[e1]
 byValue:=fun k v h=>by
  rcases Z0i h with ⟨i,t,rfl,rfl⟩|⟨x,t,rfl,rfl⟩ <;> rfl
 pyHash:=fun hv h=>by
  rcases Z0i hv with ⟨i,t,rfl,rfl⟩|⟨x,t,rfl,rfl⟩
  ·exact wpAny_pyHash_int h
  ·exact wpAny_pyHash_str h
 eqBool:=fun hu hv h=>by
  rcases Z0i hu with ⟨i,t,rfl,rfl⟩|⟨x,t,rfl,rfl⟩
  ·rcases Z0i hv with ⟨j,u,rfl,rfl⟩|⟨y,u,rfl,rfl⟩
   ·rw[Zp2] at h;exact wpAny_eqBool_int h
   ·rw[Zp4] at h;exact SeqAt.EqAt.int_str i t y u _ _ _ _ h
  ·rcases Z0i hv with ⟨j,u,rfl,rfl⟩|⟨y,u,rfl,rfl⟩
   ·rw[Zp5] at h;exact SeqAt.EqAt.str_int x t j u _ _ _ _ h
   ·rw[Zp3] at h;exact wpAny_eqBool_str h
 «strs» := fun k x t v h => by
  rcases Z0i h with ⟨i,u,rfl,e⟩|⟨y,u,rfl,e⟩
  ·exact nomatch e
  ·injection e with e1 _
   subst e1
   cases v <;> rfl
theorem Z9y (prog:Program)(w:World)(i:Int)(t:Tok):(Z0e prog w).is (.inl i) (.int i t)=true:=Zdx i t
theorem Z2r (prog:Program)(w:World)(x:Str)(t:Tok):(Z0e prog w).is (.inr x) (.str x t)=true:=Zdy x t
inductive V where
 |non|bl (b:Bool)|int (i:Int)|str (x:Str)|byt (b:Array UInt8)|flt (b:UInt64)|ref (a:Addr)|ty (n:String)
 deriving DecidableEq
def RelV:V->Value->Prop
 | .non,u=>u=Value.none
 | .bl b,u=>u=Value.bool b
 | .int i,u=>∃t,u=Value.int i t
 | .str x,u=>∃t,u=Value.str x t
 | .byt b,u=>∃t,u=Value.bytes b t
 | .flt b,u=>∃t,u=Value.float b t
 | .ref a,u=>u=Value.ref a
 | .ty n,u=>u=Value.type n
abbrev Vals:List V->List Value->Prop:=Paired RelV
theorem Vals.length {xs:List V}{us:List Value}(r:Vals xs us):xs.length=us.length:=Paired.length r
theorem Vals.get:∀{xs:List V} {us:List Value} {i:Nat} {x:V},Vals xs us->xs[i]? = some x->∃u,us[i]? = some u/\RelV x u
 |_,_,_,_,.nil,e=>by simp at e
 |_,_,0,_,.cons r _,e=>by simp at e;subst e;exact⟨_,rfl,r⟩
 |_,_,i+1,x,.cons _ t,e=>by
  obtain⟨u,h1,h2⟩:=Vals.get (i:=i) (x:=x) t (by simpa using e)
  exact⟨u,by simpa using h1,h2⟩
theorem Vals.set {x:V}{u:Value}(r:RelV x u):∀{xs:List V} {us:List Value} (i:Nat),Vals xs us->Vals (xs.set i x) (us.set i u)
 |_,_,_,.nil=>.nil
 |_,_,0,.cons _ t=>.cons r t
 |_,_,i+1,.cons q t=>.cons q (Vals.set r i t)
theorem Vals.append:∀{xs ys:List V} {us ws:List Value},Vals xs us->Vals ys ws->Vals (xs++ys) (us++ws)
 |_,_,_,_,.nil,s=>s
 |_,_,_,_,.cons r t,s=>.cons r (Vals.append t s)
theorem Vals.take:∀{xs:List V} {us:List Value} (n:Nat),Vals xs us->Vals (xs.take n) (us.take n)
 |_,_,0,_=>.nil
 |_,_,_+1,.nil=>.nil
 |_,_,n+1,.cons r t=>.cons r (Vals.take n t)
theorem Vals.drop:∀{xs:List V} {us:List Value} (n:Nat),Vals xs us->Vals (xs.drop n) (us.drop n)
 |_,_,0,r=>r
 |_,_,_+1,.nil=>.nil
 |_,_,n+1,.cons _ t=>Vals.drop n t
def RelO:Option V->Option Value->Prop
 |some v,some u=>RelV v u
 |none,none=>True
 |_,_=>False
def KV {κ : Type}:List (κ × V)->List (κ × Value)->Prop:=Paired fun(p : κ × V) (q : κ × Value)=>p.1=q.1/\RelV p.2 q.2
def kV:Key->V
 | .inl i=>.int i
 | .inr x=>.str x
inductive HO where
 |lst (xs:List V)
 |tup (xs:List V)
 |dK (kvs:List (Key×V))|dT (kvs:List (List Key×V))
 |set (S:Int->Bool) (n:Nat)
 |ins (C dx:Addr) (fs:List (Str×V))
 |own (x:Addr)
 |xd (fs:List (Str×V))
 |met (f x:Addr)
 |rng (lo hi:Int)
 |frz (o:Obj) (u:HO)
 |tbl (ps:Array Value)
 |ext (φ : Heap->Prop)
abbrev Hp:=Addr->Option HO
def upd (H:Hp)(a:Addr)(o:HO):Hp:=fun b=>if b=a then some o else H b
theorem Z08 {H:Hp}{a:Addr}{o:HO}:upd H a o a=some o:=by unfold upd;rw[if_pos rfl]
theorem Z04 {H:Hp}{a b:Addr}{o:HO}(h:b≠a):upd H a o b=H b:=by unfold upd;rw[if_neg h]
theorem Zt3 {H:Hp}{a b:Addr}{o u:HO}(h:H a=some o)(h':H b=some u)(d:o≠u):a≠b:=by
 intro e;subst e;rw[h] at h';exact d (Option.some.inj h')
theorem Z0b {H:Hp}{a b:Addr}{o:HO}(h:H a=some o)(h':H b=none):a≠b:=by
 intro e;subst e;rw[h] at h';cases h'
def IsTupN (h:Heap)(a:Addr)(items:Array Value):Prop:=∃o,h.get? a=some o/\o.cls = .type "tuple"/\∃n,o.data = .seq items n/\o.dict=none
theorem IsTupN.tup {h:Heap}{a:Addr}{items:Array Value}(x:IsTupN h a items):IsTup h a items:=let ⟨o,ho,hc,n,hd,_⟩:=x;⟨o,ho,hc,n,hd⟩
theorem IsTupN.new (h:Heap)(items:Array Value):IsTupN (h.push { cls:=.type "tuple",data:=.seq items }) h.objs.size items:=⟨_,Heap.get?_push_size _ rfl,rfl,_,rfl,rfl⟩
section
variable (P:Program)(w:World)
def ObjOk (H:Hp)(h:Heap)(a:Addr):HO->Prop
 | .lst xs=>xs.length<=sizeLine/\∃(its:List Value) (n:Nat),Vals xs its/\h.get? a=some { cls:=.type "list",data:=.seq its.toArray n }
 | .tup xs=>xs.length<=sizeLine/\∃its:List Value,Vals xs its/\IsTupN h a its.toArray
 | .dK kvs=>kvs.length<=sizeLine/\(a==sysModules)=false/\∃vs,KV kvs vs/\h.DictOf (Z0e P w) a vs
 | .dT kvs=>kvs.length<=sizeLine/\(a==sysModules)=false/\∃xs:List (List Key×Addr×Value),
   Paired (fun(p:List Key×V) (q:List Key×Addr×Value)=>p.1=q.1/\H q.2.1=some (.tup (p.1.map kV))/\RelV p.2 q.2.2) kvs xs ∧
   ∃o es ep,h.get? a=some o/\o.ExactDict/\o.data = .dict es ep/\es.toList=xs.map (entryOfKey (tupleKind (Z0e P w)))/\(xs.map (·.1)).Nodup
 | .set S n=>h.SetOf (intKind P w) a S n
 | .ins C dx fs=>H dx=some (.own a)/\fs.length<=1000/\dx≠a/\h.get? a=some (PySem.W.instObj C dx) ∧
   ∃mA,h.Ns1 dx mA/\(∀f,RelO (fs.lookup f) (mA f))/\PySem.Within mA (fs.map (·.1))
 | .own _=>∃o,h.get? a=some o
 | .xd fs=>∃mA,h.Ns1 a mA/\∀f,RelO (fs.lookup f) (mA f)
 | .rng lo hi=>∃t u v,h.get? a=some { cls:=.type "range",data:=.fields #[.int lo t,.int hi u,.int 1 v] }
 | .frz o u=>h.get? a=some o/\ObjOk H h a u
 | .tbl ps=>h.get? a=some { cls:=.none,data:=.fields ps }
 | .met f x=>h.get? a=some (PySem.W.methodObj (.ref f) (.ref x))
 | .ext φ => φ h/\(∃o,h.get? a=some o)/\∀h1 h2:Heap,φ h1->(∀o,h1.get? a=some o->h2.get? a=some o) -> φ h2
def HOk (H:Hp)(h:Heap):Prop:=∀a o,H a=some o->ObjOk P w H h a o
end
section
variable {P:Program}{w:World}{H H':Hp}{h h':Heap}{a:Addr}{o:HO}
theorem ObjOk.lt (x:ObjOk P w H h a o):a<h.objs.size:=by
 cases o with
 |lst xs=>obtain⟨_,_,_,_,e⟩:=x;exact Heap.lt_size e
 |tup xs=>obtain⟨_,_,_,p⟩:=x;exact p.tup.lt
 |dK kvs=>obtain⟨_,_,_,_,o,_,_,e,_⟩:=x;exact Heap.lt_size e
 |dT kvs=>obtain⟨_,_,_,_,o,_,_,e,_⟩:=x;exact Heap.lt_size e
 |set S n=>obtain⟨o,_,_,_,e,_⟩:=x;exact Heap.lt_size e
 |ins C dx fs=>obtain⟨_,_,_,e,_⟩:=x;exact Heap.lt_size e
 |own y=>obtain⟨_,e⟩:=x;exact Heap.lt_size e
 |xd fs=>obtain⟨_,⟨_,_,_,e,_⟩,_⟩:=x;exact Heap.lt_size e
 |rng lo hi=>obtain⟨_,_,_,e⟩:=x;exact Heap.lt_size e
 |frz ob u=>obtain⟨e,_⟩:=x;exact Heap.lt_size e
 |tbl ps=>exact Heap.lt_size (show h.get? a=some _ from x)
 |met f y=>exact Heap.lt_size (show h.get? a=some _ from x)
 |ext φ => obtain⟨_,⟨_,e⟩,_⟩:=x;exact Heap.lt_size e
theorem Paired.mapP {α β : Type}{F G : α -> β -> Prop}:∀{l₁:List α} {l₂:List β},Paired F l₁ l₂->(∀a b,F a b->G a b)->Paired G l₁ l₂
 |_,_,.nil,_=>.nil
 |_,_,.cons r t,f=>.cons (f _ _ r) (Paired.mapP t f)
theorem ObjOk.stay (x:ObjOk P w H h a o)(k:∀b u,(b=a∨H b=some (.own a))->h.get? b=some u->h'.get? b=some u)
  (ho:∀b,H b=some (.own a)->H' b=some (.own a)) (ht:∀b xs,H b=some (.tup xs)->H' b=some (.tup xs)):ObjOk P w H' h' a o:=by
 induction o with
 |lst xs=>obtain⟨z,its,n,r,e⟩:=x;exact⟨z,its,n,r,k _ _ (.inl rfl) e⟩
 |tup xs=>obtain⟨z,its,r,ob,e,c⟩:=x;exact⟨z,its,r,ob,k _ _ (.inl rfl) e,c⟩
 |dK kvs=>obtain⟨z,y,vs,r,ob,es,ep,e,c⟩:=x;exact⟨z,y,vs,r,ob,es,ep,k _ _ (.inl rfl) e,c⟩
 |dT kvs=>
  obtain⟨z,y,xs,r,ob,es,ep,e,c⟩:=x
  exact⟨z,y,xs,Paired.mapP r fun p q z=>⟨z.1,ht _ _ z.2.1,z.2.2⟩,ob,es,ep,k _ _ (.inl rfl) e,c⟩
 |set S n=>obtain⟨ob,es,ep,t,e,c⟩:=x;exact⟨ob,es,ep,t,k _ _ (.inl rfl) e,c⟩
 |ins C dx fs=>
  obtain⟨d,z,ne,e,mA,⟨od,es,ep,e2,c⟩,r⟩:=x
  exact⟨ho _ d,z,ne,k _ _ (.inl rfl) e,mA,⟨od,es,ep,k _ _ (.inr d) e2,c⟩,r⟩
 |own y=>obtain⟨ob,e⟩:=x;exact⟨ob,k _ _ (.inl rfl) e⟩
 |xd fs=>obtain⟨mA,⟨od,es,ep,e,c⟩,r⟩:=x;exact⟨mA,⟨od,es,ep,k _ _ (.inl rfl) e,c⟩,r⟩
 |rng lo hi=>obtain⟨t,u,v,e⟩:=x;exact⟨t,u,v,k _ _ (.inl rfl) e⟩
 |frz ob u ih=>obtain⟨e,q⟩:=x;exact⟨k _ _ (.inl rfl) e,ih q⟩
 |tbl ps=>
  have e:h.get? a=some { cls:=.none,data:=.fields ps }:=x
  show h'.get? a=some { cls:=.none,data:=.fields ps }
  exact k a _ (.inl rfl) e
 |met f y=>
  have e:h.get? a=some (PySem.W.methodObj (.ref f) (.ref y)):=x
  show h'.get? a=some (PySem.W.methodObj (.ref f) (.ref y))
  exact k a _ (.inl rfl) e
 |ext φ => obtain⟨p,⟨o,e⟩,st⟩:=x;exact⟨st _ _ p fun o q=>k _ _ (.inl rfl) q,⟨o,k _ _ (.inl rfl) e⟩,st⟩
theorem HOk.lt (x:HOk P w H h)(e:H a=some o):a<h.objs.size:=(x a o e).lt
theorem HOk.fresh (x:HOk P w H h)(e:h.objs.size<=a):H a=none:=by
 cases q:H a with
 |none=>rfl
 |some u=>exact absurd (Nat.lt_of_lt_of_le (x.lt q) e) (Nat.lt_irrefl _)
theorem HOk.kept (x:HOk P w H h)(k:∀b u,h.get? b=some u->h'.get? b=some u):HOk P w H h':=fun a o e=>
 (x a o e).stay (fun b u _ q=>k b u q) (fun _ q=>q) fun _ _ q=>q
theorem HOk.laid (x:HOk P w H h)(k:∀b u,h.get? b=some u->h'.get? b=some u)(hp:h.objs.size<=a)(new:ObjOk P w (upd H a o) h' a o):HOk P w (upd H a o) h':=fun b u e=>by
 have hn:=x.fresh hp
 by_cases hb:b=a
 ·subst hb;rw[Z08] at e;cases e;exact new
 ·rw[Z04 hb] at e
  exact(x b u e).stay (fun c v _ q=>k c v q) (fun c q=>by rw[Z04 (Z0b q hn)];exact q) fun c xs q=>by rw[Z04 (Z0b q hn)];exact q
end
def Rd (H:Hp)(a:Addr)(u:HO):Prop:=H a=some u∨∃o,H a=some (.frz o u)
theorem Rd.of {H:Hp}{a:Addr}{u:HO}(h:H a=some u):Rd H a u:=.inl h
theorem Rd.ok {P:Program}{w:World}{H:Hp}{h:Heap}{a:Addr}{u:HO}(r:Rd H a u)(x:HOk P w H h):ObjOk P w H h a u:=by
 rcases r with r|⟨o,r⟩
 ·exact x a u r
 ·obtain⟨_,q⟩:=x a _ r
  exact q
def Mut:Option HO->Prop
 |some (.lst _)=>True
 |some (.dK _)=>True
 |some (.dT _)=>True
 |some (.set _ _)=>True
 |some (.ins _ _ _)=>True
 |some (.ext _)=>True
 |_=>False
section
variable {P:Program}{w:World}{H:Hp}{h h':Heap}{x e:Addr}{o':HO}
theorem HOk.write (ok:HOk P w H h)(mu:Mut (H x))(he:e=x∨H e=some (.own x))(k:∀b u,b≠e->h.get? b=some u->h'.get? b=some u)(heo:∃u,h'.get? e=some u)
  (new:ObjOk P w (upd H x o') h' x o'):HOk P w (upd H x o') h':=fun b u q=>by
 have nown:∀c y,H c=some (.own y)->c≠x:=fun c y r z=>by subst z;rw[r] at mu;exact mu
 have ntup:∀c xs,H c=some (.tup xs)->c≠x:=fun c xs r z=>by subst z;rw[r] at mu;exact mu
 by_cases hb:b=x
 ·subst hb;rw[Z08] at q;cases q;exact new
 ·rw[Z04 hb] at q
  by_cases hbe:b=e
  ·have q':H b=some (.own x):=by
    rcases he with z|z
    ·exact absurd (hbe.trans z) hb
    ·rw[hbe];exact z
   rw[q] at q';cases q'
   obtain⟨v,hv⟩:=heo
   exact⟨v,by rw[hbe];exact hv⟩
  ·refine(ok b u q).stay (fun c v hc r=>k c v ?_ r) (fun c r=>by rw[Z04 (nown c b r)];exact r) fun c xs r=>by rw[Z04 (ntup c xs r)];exact r
   rcases hc with rfl|hc
   ·exact hbe
   ·rintro rfl
    rcases he with z|z
    ·exact nown c b hc z
    ·rw[hc] at z;cases z;exact hb rfl
end
structure Un (fs ex:List Addr)(H H':Hp)(h h':Heap):Prop where
 keep:∀b o,h.get? b=some o->H b=none->b∉fs->b∉ex->h'.get? b=some o
 slot:∀b o,h.get? b=some o->H b=none->b∈fs->b∉ex->∃sl,h'.get? b=some { o with slots:=sl }
 free:∀b o,h.get? b=some o->H b=none->b∉ex->H' b=none
 there:∀b o,h.get? b=some o->b∉ex->∃o',h'.get? b=some o'
 tups:∀b xs,H b=some (.tup xs)->H' b=some (.tup xs)
 frzs:∀b o u,H b=some (.frz o u)->H' b=some (.frz o u)
 tbls:∀b ps,H b=some (.tbl ps)->∃more,H' b=some (.tbl (ps++more))
section
variable {fs fs' ex ex':List Addr}{H H1 H2:Hp}{h h1 h2 h':Heap}{a x e:Addr}{o:HO}
theorem Un.any (u:Un fs ex H H1 h h1){b:Addr}{ob:Obj}(q:h.get? b=some ob)(n:H b=none)(hx:b∉ex):∃sl,h1.get? b=some { ob with slots:=sl }:=by
 by_cases hb:b∈fs
 ·exact u.slot b ob q n hb hx
 ·exact⟨ob.slots,u.keep b ob q n hb hx⟩
theorem Un.kept (k:∀b u,h.get? b=some u->h'.get? b=some u):Un fs ex H H h h':=
 ⟨fun b ob q _ _ _=>k b ob q,fun b ob q _ _ _=>⟨ob.slots,k b ob q⟩,fun _ _ _ n _=>n,fun b ob q _=>⟨ob,k b ob q⟩,fun _ _ q=>q,fun _ _ _ q=>q,fun _ ps q=>⟨#[],by rw[q];simp⟩⟩
theorem Un.refl:Un fs ex H H h h:=Un.kept fun _ _ q=>q
theorem Un.laid (k:∀b u,h.get? b=some u->h'.get? b=some u)(hp:h.objs.size<=a)(hn:H a=none):Un fs ex H (upd H a o) h h' where
 keep:=fun b u q _ _ _=>k b u q
 slot:=fun b u q _ _ _=>⟨u.slots,k b u q⟩
 free:=fun b u q n _=>by rw[Z04 (Nat.ne_of_lt (Nat.lt_of_lt_of_le (Heap.lt_size q) hp))];exact n
 there:=fun b u q _=>⟨u,k b u q⟩
 tups:=fun b xs q=>by rw[Z04 (Z0b q hn)];exact q
 frzs:=fun b u xs q=>by rw[Z04 (Z0b q hn)];exact q
 tbls:=fun b ps q=>⟨#[],by rw[Z04 (Z0b q hn),q];simp⟩
theorem Un.write (mu:Mut (H x))(he:e=x∨H e=some (.own x))(k:∀b u,b≠e->h.get? b=some u->h'.get? b=some u)(heo:∃u,h'.get? e=some u):Un fs ex H (upd H x o) h h':=by
 have hx:∀b,H b=none->b≠x:=fun b n z=>by subst z;rw[n] at mu;exact mu
 have hb:∀b,H b=none->b≠e:=fun b n z=>by
  subst z
  rcases he with r|r
  ·exact hx b n r
  ·rw[n] at r;cases r
 have hm:∀b u,H b=some u->¬Mut (some u)->b≠x:=fun b u q nm z=>by subst z;rw[q] at mu;exact nm mu
 refine⟨fun b u q n _ _=>k b u (hb b n) q,fun b u q n _ _=>⟨u.slots,k b u (hb b n) q⟩,fun b u q n _=>by rw[Z04 (hx b n)];exact n,fun b u q _=>?_,
  fun b xs q=>by rw[Z04 (hm b _ q fun z=>z)];exact q,fun b u xs q=>by rw[Z04 (hm b _ q fun z=>z)];exact q,fun b ps q=>⟨#[],by rw[Z04 (hm b _ q fun z=>z),q];simp⟩⟩
 by_cases hbe:b=e
 ·subst hbe;exact heo
 ·exact⟨u,k b u hbe q⟩
end
def trk (h:Heap)(H:Hp):List Addr:=(List.range h.objs.size).filter fun a=>(H a).isSome
def Zhn (h:Heap)(H:Hp):Heap:=PySem.W.hideAll h (trk h H)
theorem Zdz (h:Heap)(H:Hp):(Zhn h H).objs.size=h.objs.size:=PySem.W.hideAll_size _ _
theorem Zho {h:Heap}{H:Hp}{b:Addr}{o:Obj}(e:h.get? b=some o)(n:H b=none):(Zhn h H).get? b=some o:=
 PySem.W.hideAll_get _ e fun hm=>by
  have q:(H b).isSome=true:=(mem_filter.mp hm).2
  rw[n] at q;simp at q
theorem Zl5 {h:Heap}{H:Hp}{b:Addr}{o:Obj}(e:(Zhn h H).get? b=some o):h.get? b=some o/\H b=none:=by
 have e':h.get? b=some o:=PySem.W.of_hideAll (trk h H) e
 refine⟨e',?_⟩
 cases q:H b with
 |none=>rfl
 |some x=>
  have hm:b∈trk h H:=mem_filter.mpr ⟨mem_range.mpr (Heap.lt_size e'),by simp [q]⟩
  have z:(Zhn h H).get? b=none:=PySem.W.hideAll_none (trk h H) hm
  rw[z] at e;cases e
structure Mod (K:W.Frag)(mg:Str->Option Value)(base:Heap):Prop where
 kin:K.In base
 glob:base.Ns mainGlobals mg
 blt:∃mb,base.Ns builtinsNs mb/\∀x:Str,x≠"__name__"->mb x=bootBuiltins x
 nolimit:base.NoLimit
structure Cx where
 prog:Program
 w:World
 K:W.Frag
 mg:Str->Option Value
 base:Heap
 A:Around
 N:List Str
 s₀:Shared
 H₀:Hp
 env:Env
 outer:List Env
 stack:List Env
 ex:List Addr
 fn:Str->Bool
 calm:Bool
 pn:List (Addr×Obj)
 xe:Value->Shared->Prop
def frs (l:List Env):List Addr:=l.filterMap (·.frame)
abbrev Cx.fs (X:Cx):List Addr:=frs X.outer
def Vis (sc:Scope)(x:Str):Prop:=sc.names.lookup x=some .local∨sc.names.lookup x=some .cell∨sc.names.lookup x=some .free
def Loc (sc:Scope)(x:Str):Prop:=sc.names.lookup x=some .local∨sc.names.lookup x=some .cell
def Zwh (env:Env)(h:Heap)(m:Str->Option Value)(x:Str)(u:Value):Prop:=
 (env.kindOf x=some .local/\m x=some u)∨((env.kindOf x=some .cell∨env.kindOf x=some .free)/\∃c,env.cells.lookup x=some c/\h.IsCell c (some u))
structure Cx.Ok (X:Cx):Prop where
 mod:Mod X.K X.mg X.base
 kind:X.env.scope.kind = .function
 glob:X.env.globals=mainGlobals
 blt:X.env.builtins=builtinsNs
 above:X.s₀.heap.objs.size<=X.env.locals
 inj:∀x y c,X.env.cells.lookup x=some c->X.env.cells.lookup y=some c->x=y
 has:∀x,(X.env.kindOf x=some .cell∨X.env.kindOf x=some .free)->∃c,X.env.cells.lookup x=some c
 cab:∀x c,X.fn x=true->X.env.cells.lookup x=some c->X.s₀.heap.objs.size<=c
 hd:X.calm=true->X.A.handled=none
 frames:X.A.frames=some X.stack
 stk:X.stack=X.outer∨(X.stack=X.env::X.outer/\X.env.frame=some X.env.locals)
 exf:∀b∈X.ex,b≠X.env.locals/\∀x c,X.env.cells.lookup x=some c->c≠b
 bs:∀b o,X.base.get? b=some o->X.s₀.heap.get? b=some o/\X.H₀ b=none
 bsz:X.base.objs.size<=X.s₀.heap.objs.size
 noex:∀b o,X.base.get? b=some o->b∉X.ex
 exfs:∀b∈X.ex,b∉X.fs
 funs:X.s₀.heap.FunFrames X.base X.outer
 frf:∀b∈X.fs,X.H₀ b=none
structure Inv (X:Cx)(pins:List (Addr×Obj))(σ:List (Option V))(H:Hp)(s:Shared):Prop where
 ok:X.Ok
 os:s.os=X.s₀.os
 bare:AllBare s.gens
 base:Un X.fs X.ex X.H₀ H X.s₀.heap s.heap
 loc:∃m,s.heap.Ns X.env.locals m/\∀(i:Nat) (x:Str) (v:V),X.N[i]? = some x->σ[i]? = some (some v)->Vis X.env.scope x->∃u,RelV v u/\Zwh X.env s.heap m x u
 cell:∀x c,X.env.cells.lookup x=some c->∃v,s.heap.IsCell c v
 free:H X.env.locals=none
 freeC:∀x c,X.env.cells.lookup x=some c->H c=none
 pin:∀p∈X.pn++pins,s.heap.get? p.1=some p.2/\H p.1=none/\p.1≠X.env.locals/\p.1∉X.fs/\∀v,p.2.data ≠ .cell v
 hok:HOk X.prog X.w H s.heap
 len:σ.length=X.N.length
section
variable {X:Cx}{pins:List (Addr×Obj)}{σ:List (Option V)}{H H':Hp}{s:Shared}{h':Heap}
theorem Cx.Ok.nofr (ok:X.Ok){b:Addr}{o:Obj}(e:X.base.get? b=some o):b∉X.fs:=fun hb=>by
 have:=(ok.funs.mem hb).1
 rw[e] at this;cases this
theorem Inv.bs (I:Inv X pins σ H s):∀b o,X.base.get? b=some o->s.heap.get? b=some o/\H b=none:=fun b o e=>
 ⟨I.base.keep b o (I.ok.bs b o e).1 (I.ok.bs b o e).2 (I.ok.nofr e) (I.ok.noex b o e),I.base.free b o (I.ok.bs b o e).1 (I.ok.bs b o e).2 (I.ok.noex b o e)⟩
theorem Inv.bk (I:Inv X pins σ H s):∀b o,X.base.get? b=some o->s.heap.get? b=some o:=fun b o e=>(I.bs b o e).1
theorem Inv.mod (I:Inv X pins σ H s):Mod X.K X.mg X.base:=I.ok.mod
theorem Inv.kIn (I:Inv X pins σ H s):X.K.In s.heap:=I.ok.mod.kin.keeps I.bk
theorem Inv.lt (I:Inv X pins σ H s):X.env.locals<s.heap.objs.size:=let ⟨_,hn,_⟩:=I.loc;hn.lt
theorem Inv.sz (I:Inv X pins σ H s):X.s₀.heap.objs.size<=s.heap.objs.size:=Nat.le_trans I.ok.above (Nat.le_of_lt I.lt)
theorem Inv.nofs (I:Inv X pins σ H s){a:Addr}(h:s.heap.objs.size<=a):a∉X.fs:=fun hb=>by
 obtain⟨_,o,ho,_⟩:=I.ok.funs.mem hb
 exact absurd (Nat.lt_of_lt_of_le (Heap.lt_size ho) (Nat.le_trans I.sz h)) (Nat.lt_irrefl _)
theorem Inv.cne (I:Inv X pins σ H s):∀x c,X.env.cells.lookup x=some c->c≠X.env.locals:=fun x c e z=>by
 obtain⟨v,o,ho,hd⟩:=I.cell x c e
 obtain⟨m,⟨o',es,ep,ho',hd',_⟩,_⟩:=I.loc
 rw[z,ho'] at ho;cases ho;rw[hd'] at hd;cases hd
theorem Inv.funs (I:Inv X pins σ H s):s.heap.FunFrames X.base X.outer:=by
 have all:∀(l:List Env),(∀b∈frs l,b∈X.fs)->X.s₀.heap.FunFrames X.base l->s.heap.FunFrames X.base l:=by
  intro l
  induction l with
  |nil=>intro _ _;trivial
  |cons env r ih=>
   intro hs hl
   obtain⟨hk,⟨L,o,hf,hn,ho,hd⟩,hr⟩:=hl
   have hL:L∈X.fs:=hs L (by unfold frs;rw[filterMap_cons,hf];exact mem_cons_self)
   obtain⟨sl,e⟩:=I.base.slot L o ho (I.ok.frf L hL) hL fun z=>I.ok.exfs L z hL
   exact⟨hk,⟨L,_,hf,hn,e,hd⟩,ih (fun b hb=>hs b (by unfold frs;rw[filterMap_cons,hf];exact mem_cons_of_mem _ hb)) hr⟩
 exact all X.outer (fun _ hb=>hb) I.ok.funs
theorem Inv.stack (I:Inv X pins σ H s):s.heap.FunFrames X.base X.stack:=by
 rcases I.ok.stk with e|⟨e,hf⟩
 ·rw[e];exact I.funs
 ·rw[e]
  obtain⟨m,hn,_⟩:=I.loc
  refine .cons (by rw[I.ok.kind];decide) hf hn ?_ I.funs
  exact Heap.get?_none_of_le (Nat.le_trans I.ok.bsz I.ok.above)
theorem Inv.stkSub (I:Inv X pins σ H s):∀b∈frs X.stack,b∈X.env.locals::X.fs:=fun b hb=>by
 rcases I.ok.stk with e|⟨e,hf⟩
 ·rw[e] at hb;exact mem_cons_of_mem _ hb
 ·rw[e] at hb
  unfold frs at hb
  rw[filterMap_cons,hf] at hb
  exact hb
theorem Inv.stkFree (I:Inv X pins σ H s):∀b∈frs X.stack,H b=none:=fun b hb=>by
 rcases mem_cons.mp (I.stkSub b hb) with e|hb
 ·rw[e];exact I.free
 ·obtain⟨_,o,ho,_⟩:=I.ok.funs.mem hb
  exact I.base.free b o ho (I.ok.frf b hb) fun z=>I.ok.exfs b z hb
theorem Inv.step {g':Array GenState}{t':Nat}{d':Drawn}{ch:List Addr}(I:Inv X pins σ H s)
  (hch:∀b∈ch,(b∈X.ex∨X.s₀.heap.objs.size<=b)/\b≠X.env.locals/\(∀x c,X.env.cells.lookup x=some c->c≠b)/\∀p∈X.pn++pins,p.1≠b)
  (keep:∀b o,b≠X.env.locals->b∉X.fs->b∉ch->s.heap.get? b=some o->H b=none->h'.get? b=some o)
  (slot:∀b o,b≠X.env.locals->b∈X.fs->b∉ch->s.heap.get? b=some o->H b=none->∃sl,h'.get? b=some { o with slots:=sl }) (free:∀b o,b∉ch->s.heap.get? b=some o->H b=none->H' b=none)
  (there:∀b o,b∉ch->s.heap.get? b=some o->∃o',h'.get? b=some o')
  (tups:∀b xs,H b=some (.tup xs)->H' b=some (.tup xs)) (frzs:∀b o u,H b=some (.frz o u)->H' b=some (.frz o u)) (tbls:∀b ps,H b=some (.tbl ps)->∃more,H' b=some (.tbl (ps++more)))
  (ns:∀m,s.heap.Ns X.env.locals m->h'.Ns X.env.locals m) (hok:HOk X.prog X.w H' h') (hg:AllBare g'):
  Inv X pins σ H' { s with heap:=h',gens:=g',drawn:=d',toks:=t' }:=by
 have neL:∀b o,X.s₀.heap.get? b=some o->b≠X.env.locals:=fun b o e=>Nat.ne_of_lt (Nat.lt_of_lt_of_le (Heap.lt_size e) I.ok.above)
 have neC:∀b o,X.s₀.heap.get? b=some o->b∉X.ex->b∉ch:=fun b o e hx hb=>by
  rcases(hch b hb).1 with z|z
  ·exact hx z
  ·exact absurd (Nat.lt_of_lt_of_le (Heap.lt_size e) z) (Nat.lt_irrefl _)
 have cellK:∀x c,X.env.cells.lookup x=some c->∀v,s.heap.IsCell c v->h'.IsCell c v:=fun x c e v ⟨o,ho,hd⟩=>by
  have nch:c∉ch:=fun z=>(hch c z).2.2.1 x c e rfl
  by_cases hc:c∈X.fs
  ·obtain⟨sl,q⟩:=slot c o (I.cne x c e) hc nch ho (I.freeC x c e)
   exact⟨_,q,hd⟩
  ·exact⟨o,keep c o (I.cne x c e) hc nch ho (I.freeC x c e),hd⟩
 refine⟨I.ok,I.os,hg,⟨fun b o e n hb hx=>?_,fun b o e n hb hx=>?_,fun b o e n hx=>?_,fun b o e hx=>?_,fun b xs e=>tups b xs (I.base.tups b xs e),fun b o xs e=>frzs b o xs (I.base.frzs b o xs e),fun b ps e=>?_⟩,?_,fun x c e=>?_,?_,fun x c e=>?_,fun p hp=>?_,hok,I.len⟩
 ·exact keep b o (neL b o e) hb (neC b o e hx) (I.base.keep b o e n hb hx) (I.base.free b o e n hx)
 ·obtain⟨sl,e1⟩:=I.base.slot b o e n hb hx
  obtain⟨sl',e2⟩:=slot b _ (neL b o e) hb (neC b o e hx) e1 (I.base.free b o e n hx)
  exact⟨sl',e2⟩
 ·obtain⟨o',e1⟩:=I.base.there b o e hx
  exact free b o' (neC b o e hx) e1 (I.base.free b o e n hx)
 ·obtain⟨o',e1⟩:=I.base.there b o e hx
  exact there b o' (neC b o e hx) e1
 ·obtain⟨m1,e1⟩:=I.base.tbls b ps e
  obtain⟨m2,e2⟩:=tbls b _ e1
  exact⟨m1++m2,by rw[e2,Array.append_assoc]⟩
 ·obtain⟨m,hn,hl⟩:=I.loc
  refine⟨m,ns m hn,fun i x v e1 e2 e3=>?_⟩
  obtain⟨u,r,l⟩:=hl i x v e1 e2 e3
  refine⟨u,r,?_⟩
  rcases l with l|⟨k,c,e,z⟩
  ·exact .inl l
  ·exact .inr ⟨k,c,e,cellK x c e _ z⟩
 ·obtain⟨v,z⟩:=I.cell x c e
  exact⟨v,cellK x c e v z⟩
 ·obtain⟨m,⟨o,_,_,ho,_⟩,_⟩:=I.loc
  exact free _ o (fun z=>(hch _ z).2.1 rfl) ho I.free
 ·obtain⟨v,o,ho,hd⟩:=I.cell x c e
  exact free c o (fun z=>(hch c z).2.2.1 x c e rfl) ho (I.freeC x c e)
 ·obtain⟨e,n,ne,nf,d⟩:=I.pin p hp
  have nch:p.1∉ch:=fun z=>(hch p.1 z).2.2.2 p hp rfl
  exact⟨keep p.1 p.2 ne nf nch e n,free p.1 p.2 nch e n,ne,nf,d⟩
theorem Inv.un {t':Nat}(I:Inv X pins σ H s)(u:Un X.fs [] H H' s.heap h')(hok:HOk X.prog X.w H' h'):Inv X pins σ H' { s with heap:=h',toks:=t' }:=by
 obtain⟨m,⟨o,es,ep,ho,r⟩,_⟩:=id I.loc
 obtain⟨sl,hL⟩:=u.any ho I.free (by simp)
 exact I.step (g':=s.gens) (d':=s.drawn) (ch:=[]) (fun _ z=>nomatch z) (fun b o _ hb _ e n=>u.keep b o e n hb (by simp)) (fun b o _ hb _ e n=>u.slot b o e n hb (by simp)) (fun b o _ e n=>u.free b o e n (by simp)) (fun b o _ e=>u.there b o e (by simp)) u.tups u.frzs u.tbls (fun m' hm=>by
  obtain⟨o',es',ep',ho',r'⟩:=hm
  rw[ho] at ho';cases ho'
  exact⟨_,es',ep',hL,r'⟩) hok I.bare
theorem Inv.call {g':Array GenState}{t':Nat}{d':Drawn}{ch:List Addr}(I:Inv X pins σ H s)(u:Un (frs X.stack) ch H H' s.heap h')(hok:HOk X.prog X.w H' h')(hg:AllBare g')
  (hch:∀b∈ch,(b∈X.ex∨X.s₀.heap.objs.size<=b)/\b≠X.env.locals/\(∀x c,X.env.cells.lookup x=some c->c≠b)/\∀p∈X.pn++pins,p.1≠b):
  Inv X pins σ H' { s with heap:=h',gens:=g',drawn:=d',toks:=t' }:=by
 obtain⟨m,⟨o,es,ep,ho,r⟩,_⟩:=id I.loc
 obtain⟨sl,hL⟩:=u.any ho I.free fun z=>(hch _ z).2.1 rfl
 exact I.step (ch:=ch) hch (fun b o hL hb hc e n=>u.keep b o e n (fun z=>(mem_cons.mp (I.stkSub b z)).elim hL hb) hc) (fun b o _ _ hc e n=>u.any e n hc) (fun b o hc e n=>u.free b o e n hc) (fun b o hc e=>u.there b o e hc) u.tups u.frzs u.tbls (fun m' hm=>by
  obtain⟨o',es',ep',ho',r'⟩:=hm
  rw[ho] at ho';cases ho'
  exact⟨_,es',ep',hL,r'⟩) hok hg
theorem Inv.turned {t':Nat}{it:Addr}(I:Inv X pins σ H s)(k:∀b o,b≠it->s.heap.get? b=some o->h'.get? b=some o)(hn:H it=none)(hL:it≠X.env.locals)
  (h1:it∈X.ex∨X.s₀.heap.objs.size<=it) (h2:∀x c,X.env.cells.lookup x=some c->c≠it) (h3:∀p∈X.pn++pins,p.1≠it):Inv X pins σ H { s with heap:=h',toks:=t' }:=by
 have nit:∀b u,H b=some u->b≠it:=fun b u e z=>by rw[z,hn] at e;cases e
 refine I.step (g':=s.gens) (d':=s.drawn) (ch:=[it]) (fun b hb=>?_) (fun b o _ _ hc e _=>k b o (fun z=>hc (by simp [z])) e) (fun b o _ _ hc e _=>⟨o.slots,k b o (fun z=>hc (by simp [z])) e⟩) (fun _ _ _ _ n=>n)
  (fun b o hc e=>⟨o,k b o (fun z=>hc (by simp [z])) e⟩) (fun _ _ e=>e) (fun _ _ _ e=>e) (fun b ps e=>⟨#[],by rw[e];simp⟩) (fun m hm=>?_) (fun b u e=>?_) I.bare
 ·have e:b=it:=by simpa using hb
  subst e
  exact⟨h1,hL,h2,h3⟩
 ·obtain⟨o,es,ep,ho,r⟩:=hm
  exact⟨o,es,ep,k _ o (Ne.symm hL) ho,r⟩
 ·refine(I.hok b u e).stay (fun c v hc q=>k c v ?_ q) (fun _ q=>q) fun _ _ q=>q
  rcases hc with z|z
  ·rw[z];exact nit b u e
  ·exact nit c _ z
theorem Inv.tok (I:Inv X pins σ H s)(t:Nat):Inv X pins σ H { s with toks:=t }:=I.un (h':=s.heap) (t':=t) Un.refl I.hok
theorem Inv.kept {t':Nat}(I:Inv X pins σ H s)(k:∀b u,s.heap.get? b=some u->h'.get? b=some u):Inv X pins σ H { s with heap:=h',toks:=t' }:=I.un (Un.kept k) (I.hok.kept k)
theorem Inv.laid {a:Addr}{o:HO}{t':Nat}(I:Inv X pins σ H s)(k:∀b u,s.heap.get? b=some u->h'.get? b=some u)(hp:s.heap.objs.size<=a)(new:ObjOk X.prog X.w (upd H a o) h' a o):
  Inv X pins σ (upd H a o) { s with heap:=h',toks:=t' }:=I.un (Un.laid k hp (I.hok.fresh hp)) (I.hok.laid k hp new)
theorem Inv.write {x e:Addr}{o:HO}{t':Nat}(I:Inv X pins σ H s)(mu:Mut (H x))(he:e=x∨H e=some (.own x))(k:∀b u,b≠e->s.heap.get? b=some u->h'.get? b=some u)(heo:∃u,h'.get? e=some u)
  (new:ObjOk X.prog X.w (upd H x o) h' x o):Inv X pins σ (upd H x o) { s with heap:=h',toks:=t' }:=I.un (Un.write mu he k heo) (I.hok.write mu he k heo new)
theorem Inv.pins_of {pins':List (Addr×Obj)}(I:Inv X pins σ H s)(h:∀p∈pins',s.heap.get? p.1=some p.2/\H p.1=none/\p.1≠X.env.locals/\p.1∉X.fs/\∀v,p.2.data ≠ .cell v):Inv X pins' σ H s:=
 ⟨I.ok,I.os,I.bare,I.base,I.loc,I.cell,I.free,I.freeC,fun p hp=>(mem_append.mp hp).elim (fun z=>I.pin p (mem_append_left _ z)) (h p),I.hok,I.len⟩
theorem Zba {N:List Str}(hN:N.Nodup){i j:Nat}{x:Str}(a:N[i]? = some x)(b:N[j]? = some x):i=j:=by
 obtain⟨h1,e1⟩:=List.getElem?_eq_some_iff.mp a
 obtain⟨h2,e2⟩:=List.getElem?_eq_some_iff.mp b
 exact(List.getElem_inj hN).mp (e1.trans e2.symm)
theorem Z8l {M:Model}{A:Around}{E:Value->Shared->Prop}{i:Nat}{x:Str}{v:V}{u:Value}{Q:Unit->Shared->Prop}(I:Inv X pins σ H s)(hN:X.N.Nodup)(hi:X.N[i]? = some x)(hx:Loc X.env.scope x)(r:RelV v u)
  (h:∀s',Inv X pins (σ.set i (some v)) H s'->(∃a,Heap.SameBut a s.heap s'.heap/\(a=X.env.locals∨X.env.cells.lookup x=some a))->Q () s') (hf:X.fn x=true∨X.env.scope.names.lookup x=some .local:=by first|exact .inl rfl|exact .inr rfl|assumption):wpAny M A (storeName X.env x u) Q E s:=by
 obtain⟨m,hn,hl⟩:=id I.loc
 have hcls:(X.env.scope.kind == .class||(X.env.scope.kind == .module&&X.env.locals != X.env.globals))=false:=by rw[I.ok.kind];rfl
 have hiσ:i<σ.length:=by rw[I.len];exact(List.getElem?_eq_some_iff.mp hi).1
 have cne:=I.cne
 have tracked:∀{a:Addr} {h':Heap},(∃o,s.heap.get? a=some o/\H a=none)->Heap.SameBut a s.heap h'->HOk X.prog X.w H h':=fun {a h'} ha hs b ob e=>by
  obtain⟨_,_,hfree⟩:=ha
  refine(I.hok b ob e).stay (fun c w' hc q=>(hs.2 c ?_).trans q) (fun _ q=>q) fun _ _ q=>q
  rintro rfl
  rcases hc with rfl|hc
  ·rw[hfree] at e;cases e
  ·rw[hfree] at hc;cases hc
 rcases hx with hk|hk
 ·refine wpAny_storeName_local hk hn (fun h' hn' hs=>?_) hcls
  obtain⟨oL,_,_,hoL,_⟩:=id hn
  refine h _ ⟨I.ok,I.os,I.bare,⟨fun b o e n hb hx=>?_,fun b o e n hb hx=>?_,I.base.free,fun b o e hx=>?_,I.base.tups,I.base.frzs,I.base.tbls⟩,⟨_,hn',fun j y v' e1 e2 e3=>?_⟩,fun y c e=>?_,I.free,I.freeC,fun p hp=>?_,tracked ⟨oL,hoL,I.free⟩ hs,by simpa using I.len⟩ ⟨_,hs,.inl rfl⟩
  ·exact(hs.2 b (Nat.ne_of_lt (Nat.lt_of_lt_of_le (Heap.lt_size e) I.ok.above))).trans (I.base.keep b o e n hb hx)
  ·obtain⟨sl,e1⟩:=I.base.slot b o e n hb hx
   exact⟨sl,(hs.2 b (Nat.ne_of_lt (Nat.lt_of_lt_of_le (Heap.lt_size e) I.ok.above))).trans e1⟩
  ·obtain⟨o',e1⟩:=I.base.there b o e hx
   exact⟨o',(hs.2 b (Nat.ne_of_lt (Nat.lt_of_lt_of_le (Heap.lt_size e) I.ok.above))).trans e1⟩
  ·by_cases hj:j=i
   ·subst hj
    rw[hi] at e1;cases e1
    rw[List.getElem?_set_self hiσ] at e2
    cases e2
    exact⟨u,r,.inl ⟨hk,by simp⟩⟩
   ·rw[List.getElem?_set_ne (Ne.symm hj)] at e2
    obtain⟨u',r',q⟩:=hl j y v' e1 e2 e3
    refine⟨u',r',?_⟩
    rcases q with ⟨k,e⟩|⟨k,c,e,z⟩
    ·refine .inl ⟨k,?_⟩
     have:y≠x:=fun e=>hj (Zba hN e1 (e▸hi))
     simp [this,e]
    ·exact .inr ⟨k,c,e,z.sameBut hs (cne y c e)⟩
  ·obtain⟨w',z⟩:=I.cell y c e
   exact⟨w',z.sameBut hs (cne y c e)⟩
  ·obtain⟨e,n,ne,nf,d⟩:=I.pin p hp
   exact⟨(hs.2 p.1 ne).trans e,n,ne,nf,d⟩
 ·have hfn:X.fn x=true:=by
   rcases hf with z|z
   ·exact z
   ·rw[z] at hk;cases hk
  obtain⟨c,hc⟩:=I.ok.has x (.inl hk)
  obtain⟨w',z⟩:=I.cell x c hc
  refine wpAny_storeName_cell I.ok.kind hk hc z (fun h' hc' hs=>?_)
  obtain⟨oc,hoc,hocd⟩:=id z
  refine h { s with heap:=h' } ⟨I.ok,I.os,I.bare,⟨fun b o e n hb hx=>?_,fun b o e n hb hx=>?_,I.base.free,fun b o e hx=>?_,I.base.tups,I.base.frzs,I.base.tbls⟩,⟨m,hn.sameBut hs (Ne.symm (cne x c hc)),fun j y v' e1 e2 e3=>?_⟩,fun y c' e=>?_,I.free,I.freeC,fun p hp=>?_,tracked ⟨oc,hoc,I.freeC x c hc⟩ hs,by simpa using I.len⟩ ⟨c,hs,.inr hc⟩
  ·exact(hs.2 b (Nat.ne_of_lt (Nat.lt_of_lt_of_le (Heap.lt_size e) (I.ok.cab x c hfn hc)))).trans (I.base.keep b o e n hb hx)
  ·obtain⟨sl,e1⟩:=I.base.slot b o e n hb hx
   exact⟨sl,(hs.2 b (Nat.ne_of_lt (Nat.lt_of_lt_of_le (Heap.lt_size e) (I.ok.cab x c hfn hc)))).trans e1⟩
  ·obtain⟨o',e1⟩:=I.base.there b o e hx
   exact⟨o',(hs.2 b (Nat.ne_of_lt (Nat.lt_of_lt_of_le (Heap.lt_size e) (I.ok.cab x c hfn hc)))).trans e1⟩
  ·by_cases hj:j=i
   ·subst hj
    rw[hi] at e1;cases e1
    rw[List.getElem?_set_self hiσ] at e2
    cases e2
    exact⟨u,r,.inr ⟨.inl hk,c,hc,hc'⟩⟩
   ·rw[List.getElem?_set_ne (Ne.symm hj)] at e2
    obtain⟨u',r',q⟩:=hl j y v' e1 e2 e3
    refine⟨u',r',?_⟩
    rcases q with q|⟨k,c',e,z'⟩
    ·exact .inl q
    ·refine .inr ⟨k,c',e,z'.sameBut hs ?_⟩
     rintro rfl
     exact hj (Zba hN e1 (I.ok.inj _ _ _ e hc▸hi))
  ·by_cases hcc:c'=c
   ·subst hcc;exact⟨_,hc'⟩
   ·obtain⟨w2,z2⟩:=I.cell y c' e
    exact⟨w2,z2.sameBut hs hcc⟩
  ·obtain⟨e,n,ne,nf,d⟩:=I.pin p hp
   refine⟨(hs.2 p.1 ?_).trans e,n,ne,nf,d⟩
   intro q
   rw[q,hoc] at e
   have q':oc=p.2:=Option.some.inj e
   exact d w' (by rw[<- q'];exact hocd)
theorem Zbb {M:Model}{A:Around}{E:Value->Shared->Prop}{i:Nat}{x:Str}{v:V}{u:Value}{Q:Unit->Shared->Prop}(I:Inv X pins σ H s)(hN:X.N.Nodup)(hi:X.N[i]? = some x)(hx:Loc X.env.scope x)(r:RelV v u)
  (h:∀s',Inv X pins (σ.set i (some v)) H s'->Q () s') (hf:X.fn x=true∨X.env.scope.names.lookup x=some .local:=by first|exact .inl rfl|exact .inr rfl|assumption):wpAny M A (storeName X.env x u) Q E s:=
 Z8l I hN hi hx r (fun s' I' _=>h s' I') hf
theorem Inv.call' {s':Shared}{ch:List Addr}(I:Inv X pins σ H s)(ho:s'.os=s.os)(u:Un (frs X.stack) ch H H' s.heap s'.heap)(hok:HOk X.prog X.w H' s'.heap)(hg:AllBare s'.gens)
  (hch:∀b∈ch,(b∈X.ex∨X.s₀.heap.objs.size<=b)/\b≠X.env.locals/\(∀x c,X.env.cells.lookup x=some c->c≠b)/\∀p∈X.pn++pins,p.1≠b):Inv X pins σ H' s':=by
 obtain⟨h',g',d',t',o'⟩:=s'
 have e:o'=s.os:=ho
 subst e
 exact I.call (g':=g') (t':=t') (d':=d') u hok hg hch
end
abbrev XK:=Value->Option Addr->Hp->Prop
abbrev St:=List (Option V)
abbrev VK:=V->Hp->Prop
abbrev TE:=St->Hp->VK->Prop
abbrev TT:=St->Hp->(Bool->Hp->Prop)->Prop
abbrev TA:=St->Hp->(List V->Hp->Prop)->Prop
structure Ends where
 nx:St->Hp->Prop
 rt:VK
 bk:St->Hp->Prop:=fun _ _=>False
 ct:St->Hp->Prop:=fun _ _=>False
abbrev TS:=Ends->St->Hp->Prop
def EP (X:Cx)(pins:List (Addr×Obj))(σ:St)(Q:VK)(u:Value)(s':Shared):Prop:=∃v H',Inv X pins σ H' s'/\RelV v u/\Q v H'
def TP (X:Cx)(pins:List (Addr×Obj))(σ:St)(Q:Bool->Hp->Prop)(b:Bool)(s':Shared):Prop:=∃H',Inv X pins σ H' s'/\Q b H'
def AP (X:Cx)(pins:List (Addr×Obj))(σ:St)(Q:List V->Hp->Prop)(us:List Value)(s':Shared):Prop:=∃vs H',Inv X pins σ H' s'/\Vals vs us/\Q vs H'
def SP (X:Cx)(pins:List (Addr×Obj))(D:Ends)(f:Flow)(s':Shared):Prop:=
 match f with
 | .next=>∃ σ' H',Inv X pins σ' H' s'/\D.nx σ' H'
 | .brk=>∃ σ' H',Inv X pins σ' H' s'/\D.bk σ' H'
 | .cont=>∃ σ' H',Inv X pins σ' H' s'/\D.ct σ' H'
 | .ret u=>∃v σ' H',Inv X pins σ' H' s'/\RelV v u/\D.rt v H'
def PE (X:Cx)(e:Expr)(t:TE):Prop:=
 ∀(pins:List (Addr×Obj)) (s:Shared) (σ:St) (H:Hp) (Q:VK),Inv X pins σ H s->t σ H Q->wpAny (model X.prog X.w) X.A (eval e X.env) (EP X pins σ Q) X.xe s
def PT (X:Cx)(e:Expr)(t:TT):Prop:=
 ∀(pins:List (Addr×Obj)) (s:Shared) (σ:St) (H:Hp) (Q:Bool->Hp->Prop),Inv X pins σ H s->t σ H Q->wpAny (model X.prog X.w) X.A (isTrue e X.env (eval e X.env)) (TP X pins σ Q) X.xe s
def PW (X:Cx)(e:Expr)(t:TT):Prop:=
 ∀(whole:Sem Value) (pins:List (Addr×Obj)) (s:Shared) (σ:St) (H:Hp) (Q:Bool->Hp->Prop),Inv X pins σ H s->t σ H Q->wpAny (model X.prog X.w) X.A (isTrue e X.env whole) (TP X pins σ Q) X.xe s
theorem PW.pt {X:Cx}{e:Expr}{t:TT}(h:PW X e t):PT X e t:=h _
def PA (X:Cx)(es:List Expr)(t:TA):Prop:=
 ∀(pos:Pos) (pins:List (Addr×Obj)) (s:Shared) (σ:St) (H:Hp) (Q:List V->Hp->Prop),Inv X pins σ H s->t σ H Q->wpAny (model X.prog X.w) X.A (spliced (backTo pos (starEach es X.env))) (AP X pins σ Q) X.xe s
def PS (X:Cx)(st:Stmt)(t:TS):Prop:=
 ∀(pins:List (Addr×Obj)) (s:Shared) (σ:St) (H:Hp) (D:Ends),Inv X pins σ H s->t D σ H->wpAny (model X.prog X.w) X.A (exec st X.env) (SP X pins D) X.xe s
def PSs (X:Cx)(st:List Stmt)(t:TS):Prop:=
 ∀(pins:List (Addr×Obj)) (s:Shared) (σ:St) (H:Hp) (D:Ends),Inv X pins σ H s->t D σ H->wpAny (model X.prog X.w) X.A (execs st X.env) (SP X pins D) X.xe s
theorem thn {α : Type}{t:Sem α}{Q Q' : α -> Shared->Prop}{M:Model}{A:Around}{E:Value->Shared->Prop}{s:Shared}(h:wpAny M A t Q E s)(hQ:∀a s,Q a s->Q' a s):wpAny M A t Q' E s:=wpAny_mono h hQ fun _ _ x=>x
section
variable {X:Cx}
def Zp6 (i:Nat):TE:=fun σ H Q=>∃v,σ[i]? = some (some v)/\Q v H
def tC (v:V):TE:=fun _ H Q=>Q v H
theorem Zk2 {i:Nat}{x:Str}{pos:Pos}(hN:X.N[i]? = some x)(hv:Vis X.env.scope x)(hd:(x==("__debug__":Str))=false:=by decide)(hcd:(x==("__classdict__":Str))=false:=by decide):PE X (.Name x pos) (Zp6 i):=by
 intro pins s σ H Q I h
 obtain⟨v,e,h⟩:=h
 obtain⟨m,hn,hl⟩:=I.loc
 obtain⟨u,r,l⟩:=hl i x v hN e hv
 have fin:EP X pins σ Q u s:=⟨v,H,I,r,h⟩
 rcases l with ⟨hk,hm⟩|⟨hk,c,hc,hcell⟩
 ·exact wpAny_Name (wpAny_loadName_local I.ok.kind hk hn hm fin) hd
 ·rcases hk with hk|hk
  ·exact wpAny_Name (wpAny_loadName_cell I.ok.kind hk hc hcell fin) hd
  ·exact wpAny_Name (wpAny_loadName_free I.ok.kind hk hc hcell fin hcd) hd
theorem Zk3 {i j pos}:PE X (.Constant (.int i) j pos) (tC (.int i)):=fun _ _ _ H _ I h=>wpAny_Constant_int ⟨.int i,H,I.tok _,⟨_,rfl⟩,h⟩
theorem Zt4 {b j pos}:PE X (.Constant (.bool b) j pos) (tC (.bl b)):=fun _ _ _ H _ I h=>Constant_bool ⟨.bl b,H,I,rfl,h⟩
theorem Zp7 {j pos}:PE X (.Constant .none j pos) (tC .non):=fun _ _ _ H _ I h=>Constant_none ⟨.non,H,I,rfl,h⟩
theorem Zp8 {x j pos}:PE X (.Constant (.str x) j pos) (tC (.str x)):=fun _ _ _ H _ I h=>Calls.Constant_str ⟨.str x,H,I.tok _,⟨_,rfl⟩,h⟩
def Gl (X:Cx)(x:Str):Prop:=X.env.kindOf x=some .globalImplicit
theorem Ze0 {E:Value->Shared->Prop}{pins:List (Addr×Obj)}{s:Shared}{σ:St}{H:Hp}{x:Str}{u:Value}{pos:Pos}{Q:Value->Shared->Prop}(I:Inv X pins σ H s)(hg:Gl X x)(hm:X.mg x=some u)(h:Q u s)
  (hd:(x==("__debug__":Str))=false:=by decide):wpAny (model X.prog X.w) X.A (eval (.Name x pos) X.env) Q E s:=
 Calls.Name_function_global I.ok.kind hg (Calls.loadGlobal_global (by rw[I.ok.glob];exact I.mod.glob.keeps I.bk) hm h) hd
theorem Zbc {E:Value->Shared->Prop}{pins:List (Addr×Obj)}{s:Shared}{σ:St}{H:Hp}{x:Str}{u:Value}{pos:Pos}{Q:Value->Shared->Prop}(I:Inv X pins σ H s)(hg:Gl X x)(hm:X.mg x=none)(hv:bootBuiltins x=some u)(h:Q u s)
  (hn:x≠"__name__":=by decide) (hd:(x==("__debug__":Str))=false:=by decide):wpAny (model X.prog X.w) X.A (eval (.Name x pos) X.env) Q E s:=by
 obtain⟨mb,h1,h2⟩:=I.mod.blt
 exact Calls.Name_function_global I.ok.kind hg (Calls.loadGlobal_builtin (by rw[I.ok.glob];exact I.mod.glob.keeps I.bk) hm (by rw[I.ok.blt];exact h1.keeps I.bk) ((h2 x hn).trans hv) h) hd
theorem Ze1 {x:Str}{v:V}{u:Value}{pos:Pos}(hg:Gl X x)(hm:X.mg x=some u)(r:RelV v u)(hd:(x==("__debug__":Str))=false:=by decide):PE X (.Name x pos) (tC v):=
 fun _ _ _ H _ I h=>Ze0 I hg hm ⟨v,H,I,r,h⟩ hd
theorem Zl6 {x:Str}{v:V}{u:Value}{pos:Pos}(hg:Gl X x)(hm:X.mg x=none)(hv:bootBuiltins x=some u)(r:RelV v u)(hn:x≠"__name__":=by decide)(hd:(x==("__debug__":Str))=false:=by decide):PE X (.Name x pos) (tC v):=
 fun _ _ _ H _ I h=>Zbc I hg hm hv ⟨v,H,I,r,h⟩ hn hd
variable {a b:Expr}{ta tb:TE}{pos:Pos}
variable {tA tB':TT}{rest:List Expr}
def Zuw (t u:TT):TT:=fun σ H Q=>t σ H fun c H1=>if c=true then u σ H1 Q else Q false H1
def tOr (t u:TT):TT:=fun σ H Q=>t σ H fun c H1=>if c=true then Q true H1 else u σ H1 Q
def Zux (t:TT):TT:=fun σ H Q=>t σ H fun c H1=>Q (!c) H1
theorem Zl7 (ha:PT X a tA):PW X (.BoolOp .And [a] pos) tA:=by
 intro wh pins s σ H Q I h
 refine isTrue_and (thn (ha pins s σ H Q I h) fun c s1 e=>?_)
 cases c with
 |true=>exact isTrue_and_nil e
 |false=>exact e
theorem Zp9 (ha:PT X a tA):PW X (.BoolOp .Or [a] pos) tA:=by
 intro wh pins s σ H Q I h
 refine isTrue_or (thn (ha pins s σ H Q I h) fun c s1 e=>?_)
 cases c with
 |false=>exact isTrue_or_nil e
 |true=>exact e
theorem Zk4 (ha:PT X a tA)(hb:PW X (.BoolOp .And (b::rest) pos) tB'):PW X (.BoolOp .And (a::b::rest) pos) (Zuw tA tB'):=by
 intro wh pins s σ H Q I h
 refine isTrue_and (thn (ha pins s σ H _ I h) fun c s1 ⟨H1,I1,q1⟩=>?_)
 cases c with
 |true=>exact hb wh pins s1 σ H1 Q I1 q1
 |false=>exact⟨H1,I1,q1⟩
theorem Zpa (ha:PT X a tA)(hb:PW X (.BoolOp .Or (b::rest) pos) tB'):PW X (.BoolOp .Or (a::b::rest) pos) (tOr tA tB'):=by
 intro wh pins s σ H Q I h
 refine isTrue_or (thn (ha pins s σ H _ I h) fun c s1 ⟨H1,I1,q1⟩=>?_)
 cases c with
 |true=>exact⟨H1,I1,q1⟩
 |false=>exact hb wh pins s1 σ H1 Q I1 q1
theorem Zpb (ha:PT X a tA):PT X (.UnaryOp .Not a pos) (Zux tA):=by
 intro pins s σ H Q I h
 exact isTrue_not (ha pins s σ H (fun c H1=>Q (!c) H1) I h)
def Zpc (ta tb:TE):TE:=fun σ H Q=>ta σ H fun x H1=>∃c,x = .bl c/\if c=true then tb σ H1 Q else Q (.bl false) H1
def Zuy (ta tb:TE):TE:=fun σ H Q=>ta σ H fun x H1=>∃c,x = .bl c/\if c=true then Q (.bl true) H1 else tb σ H1 Q
def Zpd (ta:TE):TE:=fun σ H Q=>ta σ H fun x H1=>∃c,x = .bl c/\Q (.bl (!c)) H1
theorem Zk5 {op}{t:TE}(h:PE X a t):PE X (.BoolOp op [a] pos) t:=fun pins s σ H Q I hw=>BoolOp_one (h pins s σ H Q I hw)
theorem Zk6 (ha:PE X a ta)(hb:PE X (.BoolOp .And (b::rest) pos) tb):PE X (.BoolOp .And (a::b::rest) pos) (Zpc ta tb):=by
 intro pins s σ H Q I h
 refine BoolOp_and (thn (ha pins s σ H _ I h) fun v s1 ⟨x,H1,I1,r1,q1⟩=>?_)
 obtain⟨c,rfl,q1⟩:=q1
 cases r1
 refine wpAny_truthy_bool ?_
 cases c with
 |true=>exact hb pins s1 σ H1 Q I1 q1
 |false=>exact⟨.bl false,H1,I1,rfl,q1⟩
theorem Zpe (ha:PE X a ta)(hb:PE X (.BoolOp .Or (b::rest) pos) tb):PE X (.BoolOp .Or (a::b::rest) pos) (Zuy ta tb):=by
 intro pins s σ H Q I h
 refine BoolOp_or (thn (ha pins s σ H _ I h) fun v s1 ⟨x,H1,I1,r1,q1⟩=>?_)
 obtain⟨c,rfl,q1⟩:=q1
 cases r1
 refine wpAny_truthy_bool ?_
 cases c with
 |false=>exact hb pins s1 σ H1 Q I1 q1
 |true=>exact⟨.bl true,H1,I1,rfl,q1⟩
theorem Zpf (ha:PE X a ta):PE X (.UnaryOp .Not a pos) (Zpd ta):=by
 intro pins s σ H Q I h
 refine UnaryOp_ (thn (ha pins s σ H _ I h) fun v s1 ⟨x,H1,I1,r1,q1⟩=>?_)
 obtain⟨c,rfl,q1⟩:=q1
 cases r1
 exact not_of (wpAny_truthy_bool ⟨.bl (!c),H1,I1,rfl,q1⟩)
end
def SqL (K:W.Frag)(H:Hp)(a:Addr)(xs:List V):Prop:=
 Rd H a (.lst xs) ∨
  ∃(o:Obj) (its:Array Value) (n:Nat),K.lookup a=some o/\o.cls = .type "list"/\o.dict=none/\o.data = .seq its n/\its.size<=sizeLine/\Vals xs its.toList
def SqT (K:W.Frag)(H:Hp)(a:Addr)(xs:List V):Prop:=
 Rd H a (.tup xs) ∨
  ∃(o:Obj) (its:Array Value) (n:Nat),K.lookup a=some o/\o.cls = .type "tuple"/\o.data = .seq its n/\its.size<=sizeLine/\Vals xs its.toList
def Zwi:Value->Option V
 | .none=>some .non
 | .bool b=>some (.bl b)
 | .int i _=>some (.int i)
 | .str x _=>some (.str x)
 | .bytes b _=>some (.byt b)
 | .float b _=>some (.flt b)
 | .ref a=>some (.ref a)
 | .type n=>some (.ty n)
 |_=>none
theorem RelV.abs {x:V}{u:Value}(r:RelV x u):Zwi u=some x:=by
 cases x with
 |non=>cases r;rfl
 |bl _=>cases r;rfl
 |int _=>obtain⟨t,rfl⟩:=r;rfl
 |str _=>obtain⟨t,rfl⟩:=r;rfl
 |byt _=>obtain⟨t,rfl⟩:=r;rfl
 |flt _=>obtain⟨t,rfl⟩:=r;rfl
 |ref _=>cases r;rfl
 |ty _=>cases r;rfl
theorem RelV.inj {x y:V}{u:Value}(r:RelV x u)(q:RelV y u):x=y:=Option.some.inj (r.abs.symm.trans q.abs)
theorem Vals.inj:∀{xs ys:List V} {us:List Value},Vals xs us->Vals ys us->xs=ys
 |_,_,_,.nil,.nil=>rfl
 |_,_,_,.cons r t,.cons r' t'=>by rw[r.inj r',Vals.inj t t']
section
variable {X:Cx}{pins:List (Addr×Obj)}{σ:St}{H:Hp}{s:Shared}{a:Addr}{xs ys:List V}
theorem SqL.of {K:W.Frag}(h:H a=some (.lst xs)):SqL K H a xs:=.inl (.inl h)
theorem SqT.of {K:W.Frag}(h:H a=some (.tup xs)):SqT K H a xs:=.inl (.inl h)
theorem Inv.list (I:Inv X pins σ H s)(h:SqL X.K H a xs):∃its:List Value,Vals xs its/\PlainL s.heap a its.toArray/\xs.length<=sizeLine:=by
 rcases h with h|⟨o,its,n,hk,hc,hd,hs,hz,r⟩
 ·obtain⟨z,its,n,r,e⟩:=h.ok I.hok
  exact⟨its,r,⟨_,n,e,rfl,rfl,rfl⟩,z⟩
 ·refine⟨its.toList,r,⟨o,n,I.kIn a o hk,hc,hd,by simpa using hs⟩,?_⟩
  have e:=r.length
  simp only [Array.length_toList] at e
  lia
theorem Inv.tuple (I:Inv X pins σ H s)(h:SqT X.K H a xs):∃its:List Value,Vals xs its/\IsTup s.heap a its.toArray/\xs.length<=sizeLine:=by
 rcases h with h|⟨o,its,n,hk,hc,hs,hz,r⟩
 ·obtain⟨z,its,r,p⟩:=h.ok I.hok
  exact⟨its,r,p.tup,z⟩
 ·refine⟨its.toList,r,⟨o,I.kIn a o hk,hc,n,by simpa using hs⟩,?_⟩
  have e:=r.length
  simp only [Array.length_toList] at e
  lia
theorem Inv.list_inj (I:Inv X pins σ H s)(h:SqL X.K H a xs)(h':SqL X.K H a ys):xs=ys:=by
 obtain⟨its,r,⟨o,n,e,_,_,d⟩,_⟩:=I.list h
 obtain⟨its',r',⟨o',n',e',_,_,d'⟩,_⟩:=I.list h'
 rw[e] at e';cases e'
 rw[d] at d'
 injection d' with d1 _
 have:its=its':=by simpa using congrArg Array.toList d1
 subst this
 exact r.inj r'
theorem Inv.tuple_inj (I:Inv X pins σ H s)(h:SqT X.K H a xs)(h':SqT X.K H a ys):xs=ys:=by
 obtain⟨its,r,⟨o,e,_,n,d⟩,_⟩:=I.tuple h
 obtain⟨its',r',⟨o',e',_,n',d'⟩,_⟩:=I.tuple h'
 rw[e] at e';cases e'
 rw[d] at d'
 injection d' with d1 _
 have:its=its':=by simpa using congrArg Array.toList d1
 subst this
 exact r.inj r'
end
abbrev Cx.wish (X:Cx)(E:Value->Shared->Prop):Cx:={ X with xe:=E }
abbrev Cx.nox (X:Cx):Cx:=X.wish fun _ _=>False
theorem Cx.Ok.wish {X:Cx}(ok:X.Ok)(E:Value->Shared->Prop):(X.wish E).Ok:=
 ⟨ok.mod,ok.kind,ok.glob,ok.blt,ok.above,ok.inj,ok.has,ok.cab,ok.hd,ok.frames,ok.stk,ok.exf,ok.bs,ok.bsz,ok.noex,ok.exfs,ok.funs,ok.frf⟩
theorem Cx.Ok.unwish {X:Cx}{E:Value->Shared->Prop}(ok:(X.wish E).Ok):X.Ok:=
 ⟨ok.mod,ok.kind,ok.glob,ok.blt,ok.above,ok.inj,ok.has,ok.cab,ok.hd,ok.frames,ok.stk,ok.exf,ok.bs,ok.bsz,ok.noex,ok.exfs,ok.funs,ok.frf⟩
section
variable {X:Cx}{pins:List (Addr×Obj)}{σ:St}{H:Hp}{s:Shared}{E:Value->Shared->Prop}
theorem Inv.wish (I:Inv X pins σ H s)(E:Value->Shared->Prop):Inv (X.wish E) pins σ H s:=⟨I.ok.wish E,I.os,I.bare,I.base,I.loc,I.cell,I.free,I.freeC,I.pin,I.hok,I.len⟩
theorem Inv.unwish (I:Inv (X.wish E) pins σ H s):Inv X pins σ H s:=⟨I.ok.unwish,I.os,I.bare,I.base,I.loc,I.cell,I.free,I.freeC,I.pin,I.hok,I.len⟩
theorem SP.unwish {D:Ends}{f:Flow}{s':Shared}(h:SP (X.wish E) pins D f s'):SP X pins D f s':=by
 cases f with
 |next=>obtain⟨σ',H',I,q⟩:=h;exact⟨σ',H',I.unwish,q⟩
 |brk=>obtain⟨σ',H',I,q⟩:=h;exact⟨σ',H',I.unwish,q⟩
 |cont=>obtain⟨σ',H',I,q⟩:=h;exact⟨σ',H',I.unwish,q⟩
 |ret u=>obtain⟨v,σ',H',I,r,q⟩:=h;exact⟨v,σ',H',I.unwish,r,q⟩
theorem PSs.nox {st:List Stmt}{t:TS}(h:PSs X.nox st t):PSs X st t:=fun pins s σ H D I hw=>
 wpAny_mono (h pins s σ H D (I.wish _) hw) (fun _ _ q=>q.unwish) fun _ _ z=>False.elim z
end
section
variable {X:Cx}{st:Stmt}{rest:List Stmt}{t u:TS}{e:Expr}{te:TE}{pos:Pos}
def tNext:TS:=fun D σ H=>D.nx σ H
def Zt5 (t u:TS):TS:=fun D σ H=>t { D with nx:=u D } σ H
theorem pss_nil:PSs X [] tNext:=fun _ _ σ H _ I h=>wpAny_execs_nil ⟨σ,H,I,h⟩
theorem Zbd (h1:PS X st t)(h2:PSs X rest u):PSs X (st::rest) (Zt5 t u):=by
 intro pins s σ H D I h
 refine wpAny_execs_cons (thn (h1 pins s σ H { D with nx:=u D } I h) fun f s1 q=>?_)
 cases f with
 |next=>
  obtain⟨σ',H',I',q⟩:=q
  exact h2 pins s1 σ' H' D I' q
 |ret v=>exact q
 |brk=>exact q
 |cont=>exact q
theorem Z9z (h1:PS X st t):PSs X [st] t:=by
 intro pins s σ H D I h
 refine wpAny_execs_cons (thn (h1 pins s σ H D I h) fun f s1 q=>?_)
 cases f with
 |next=>exact wpAny_execs_nil q
 |ret v=>exact q
 |brk=>exact q
 |cont=>exact q
theorem ps_pass:PS X (.Pass pos) tNext:=fun _ _ σ H _ I h=>wpAny_Pass ⟨σ,H,I,h⟩
theorem Inv.quiet {pins:List (Addr×Obj)}{σ:St}{H:Hp}{s:Shared}(I:Inv X pins σ H s):interactive X.env=false:=by simp [interactive,I.ok.kind]
def Zpg (te:TE):TS:=fun D σ H=>te σ H fun _ H1=>D.nx σ H1
theorem Zl8 (he:PE X e te)(hs:swapsWith e none pos.line X.env=pure false:=by rfl):PS X (.Expr e pos) (Zpg te):=by
 intro pins s σ H D I h
 exact wpAny_Expr_any (thn (he pins s σ H _ I h) fun v s1 ⟨x,H1,I1,r1,q1⟩=>⟨σ,H1,I1,q1⟩) I.quiet hs
def Zuz (te:TE):TS:=fun D σ H=>te σ H D.rt
theorem Zk7 (he:PE X e te):PS X (.Return (some e) pos) (Zuz te):=by
 intro pins s σ H D I h
 exact wpAny_Return_some (thn (he pins s σ H _ I h) fun v s1 ⟨x,H1,I1,r1,q1⟩=>⟨x,σ,H1,I1,r1,q1⟩)
def Zv0 (c:TT)(t u:TS):TS:=fun D σ H=>c σ H fun b H1=>if b=true then t D σ H1 else u D σ H1
theorem Zt6 {c:Expr}{a b:List Stmt}{tc:TT}(hc:PT X c tc)(ha:PSs X a t)(hb:PSs X b u):PS X (.If c a b pos) (Zv0 tc t u):=by
 intro pins s σ H D I h
 refine wpAny_If (thn (hc pins s σ H _ I h) fun d s1 ⟨H1,I1,q1⟩=>?_)
 cases d with
 |true=>exact ha pins s1 σ H1 D I1 q1
 |false=>exact hb pins s1 σ H1 D I1 q1
end
abbrev TG:=V->St->Hp->(St->Hp->Prop)->Prop
abbrev TGs:=List V->St->Hp->(St->Hp->Prop)->Prop
def PG (X:Cx)(target:Expr)(t:TG):Prop:=
 ∀(pins:List (Addr×Obj)) (s:Shared) (σ:St) (H:Hp) (v:V) (u:Value) (Q:St->Hp->Prop),Inv X pins σ H s->RelV v u->t v σ H Q →
  wpAny (model X.prog X.w) X.A (assign target X.env u) (fun _ s'=>∃ σ' H',Inv X pins σ' H' s'/\Q σ' H') X.xe s
def PGs (X:Cx)(ts:List Expr)(t:TGs):Prop:=
 ∀(pins:List (Addr×Obj)) (s:Shared) (σ:St) (H:Hp) (vs:List V) (us:List Value) (Q:St->Hp->Prop),Inv X pins σ H s->Vals vs us->t vs σ H Q →
  wpAny (model X.prog X.w) X.A (assignInOrder ((assignEach ts X.env).map (·.2)) us) (fun _ s'=>∃ σ' H',Inv X pins σ' H' s'/\Q σ' H') X.xe s
abbrev TSet:=V->V->V->Hp->(Hp->Prop)->Prop
def Zv1 (X:Cx)(t:TSet):Prop:=
 ∀(pins:List (Addr×Obj)) (s:Shared) (σ:St) (H:Hp) (o i v:V) (ov iv u:Value) (Q:Hp->Prop),Inv X pins σ H s->RelV o ov->RelV i iv->RelV v u->t o i v H Q →
  wpAny (model X.prog X.w) X.A (setItem ov iv u) (fun _ s'=>∃H',Inv X pins σ H' s'/\Q H') X.xe s
section
variable {X:Cx}{pos:Pos}
def Ze2 (i:Nat):TG:=fun v σ H Q=>Q (σ.set i (some v)) H
theorem Zl9 {i:Nat}{x:Str}(hN:X.N.Nodup)(hi:X.N[i]? = some x)(hx:Loc X.env.scope x)(hf:X.fn x=true∨X.env.scope.names.lookup x=some .local:=by first|exact .inl rfl|exact .inr rfl|assumption):PG X (.Name x pos) (Ze2 i):=by
 intro pins s σ H v u Q I r h
 exact wpAny_assign_Name (Zbb I hN hi hx r (fun s' I'=>⟨_,H,I',h⟩) hf)
def gNil:TGs:=fun vs σ H Q=>vs = []/\Q σ H
def Zph (t:TG)(u:TGs):TGs:=fun vs σ H Q=>∃v r,vs=v::r/\t v σ H fun σ' H'=>u r σ' H' Q
theorem pgs_nil:PGs X [] gNil:=by
 intro pins s σ H vs us Q I r h
 obtain⟨e,h⟩:=h
 subst e
 cases r
 exact assignInOrder_nil ⟨σ,H,I,h⟩
theorem Zhp {e:Expr}{es:List Expr}{t:TG}{u:TGs}(h1:PG X e t)(h2:PGs X es u)
  (hs:(assignEach (e::es) X.env).map (·.2)=assign e X.env::(assignEach es X.env).map (·.2):=by rfl):PGs X (e::es) (Zph t u):=by
 intro pins s σ H vs us Q I r h
 obtain⟨v,vr,e1,h⟩:=h
 subst e1
 cases r with
 |cons r rr=>
  rw[hs]
  refine assignInOrder_cons (thn (h1 pins s σ H _ _ _ I r h) fun _ s1 ⟨σ1,H1,I1,q1⟩=>?_)
  exact h2 pins s1 σ1 H1 _ _ Q I1 rr q1
def Zv2 (K:W.Frag)(n:Nat)(t:TGs):TG:=fun v σ H Q=>∃a xs,v = .ref a/\SqT K H a xs/\xs.length=n/\t xs σ H Q
theorem Zpi {es:List Expr}{k:Nat}{t:TGs}{n:Nat}(hc:X.calm=true)(h:PGs X es t)
  (hn:(assignEach es X.env).length=n:=by rfl) (hst:(assignEach es X.env).findIdx? (·.1)=none:=by rfl):PG X (.Tuple es k pos) (Zv2 X.K n t):=by
 intro pins s σ H v u Q I r hw
 obtain⟨a,xs,e1,hq,hl,hw⟩:=hw
 subst e1
 cases r
 obtain⟨its,rv,ht,hz⟩:=I.tuple hq
 refine assign_Tuple_tuple (I.ok.hd hc) ht (by simp [hn,<- hl,rv.length]) hst fun h' hx=>?_
 have I1:Inv X pins σ H { s with heap:=h' }:=I.kept (t':=s.toks) fun b o e=>hx b o (Nat.ne_of_lt (Heap.lt_size e)) e
 exact h pins _ σ H xs _ Q I1 (by simpa using rv) hw
def Zv3 (to ti:TE)(t:TSet):TG:=fun v σ H Q=>to σ H fun o H1=>ti σ H1 fun i H2=>t o i v H2 fun H3=>Q σ H3
theorem Zpj {o i:Expr}{to ti:TE}{t:TSet}(ho:PE X o to)(hi:PE X i ti)(hs:Zv1 X t)
  (ha:∀v,assign (.Subscript o i pos) X.env v=(do
   let ov ← holding [v] (eval o X.env)
   let iv ← holding [v,ov] (eval i X.env)
   standAt pos
   holding [v,ov,iv] (setItem ov iv v)
   release [v,ov,iv] []):=by intro _;rfl):PG X (.Subscript o i pos) (Zv3 to ti t):=by
 intro pins s σ H v u Q I r h
 rw[ha]
 refine wpAny_bind (wpAny_holding (thn (ho pins s σ H _ I h) fun ov s1 ⟨x,H1,I1,r1,q1⟩=>?_))
 refine wpAny_bind (wpAny_holding (thn (hi pins s1 σ H1 _ I1 q1) fun iv s2 ⟨y,H2,I2,r2,q2⟩=>?_))
 refine wpAny_bind (wpAny_standAt (wpAny_bind (wpAny_holding (thn (hs pins s2 σ H2 x y v ov iv u _ I2 r1 r2 r q2) fun _ s3 ⟨H3,I3,q3⟩=>?_))))
 exact wpAny_release ⟨σ,H3,I3,q3⟩
def Zot (te:TE)(g:TG):TS:=fun D σ H=>te σ H fun x H1=>g x σ H1 D.nx
theorem Zk8 {tg e:Expr}{te:TE}{g:TG}(he:PE X e te)(hg:PG X tg g)(hs:swapsWithSole [tg] e pos.line X.env=pure false:=by rfl)(hw:swappedStores [tg] e X.env=pure none:=by rfl)
  (h1:(assignEach [tg] X.env).map (·.2) = [assign tg X.env]:=by rfl):PS X (.Assign [tg] e pos) (Zot te g):=by
 intro pins s σ H D I h
 refine wpAny_Assign_stores (thn (he pins s σ H _ I h) fun v s1 ⟨x,H1,I1,r1,q1⟩=>?_) hs hw
 rw[h1]
 exact thn (hg pins s1 σ H1 x v _ I1 r1 q1) fun _ s2 q=>q
theorem Zk9 {i:Nat}{x:Str}{e:Expr}{te:TE}{pos':Pos}(hN:X.N.Nodup)(hi:X.N[i]? = some x)(hx:Loc X.env.scope x)(he:PE X e te)(hs:swapsWith e (some (.Name x pos')) pos.line X.env=pure false:=by rfl)(hf:X.fn x=true∨X.env.scope.names.lookup x=some .local:=by first|exact .inl rfl|exact .inr rfl|assumption):
  PS X (.Assign [.Name x pos'] e pos) (Zot te (Ze2 i)):=by
 intro pins s σ H D I h
 refine wpAny_Assign_Name (thn (he pins s σ H _ I h) fun v s1 ⟨y,H1,I1,r1,q1⟩=>?_) hs
 exact Zbb I1 hN hi hx r1 (fun s2 I2=>⟨_,H1,I2,q1⟩) hf
def Zka (c:TT)(tb:TS):TS:=fun D σ H=>∃W:Nat->St->Hp->Prop,(∃m,W m σ H)/\∀m σ H,W m σ H →
 c σ H fun b H1=>if b=true then ∃N:St->Hp->Prop,(∀ σ' H',N σ' H'->∃m',m'<m/\W m' σ' H')/\tb { D with nx:=N,ct:=N,bk:=D.nx } σ H1 else D.nx σ H1
theorem Zhq {c:Expr}{body:List Stmt}{tc:TT}{tb:TS}(hp:PassesOwn (model X.prog X.w) X.A X.env X.xe)(hc:PT X c tc)(hb:PSs X body tb):PS X (.While c body [] pos) (Zka tc tb):=by
 intro pins s σ H D I h
 obtain⟨W,⟨m0,w0⟩,turn⟩:=h
 refine wpAny_While (codeAny_whileLoop (fun n s'=>∃ σ' H',Inv X pins σ' H' s'/\W n σ' H') ?_ m0 ⟨σ,H,I,w0⟩)
 rintro n s1 ⟨σ1,H1,I1,w1⟩
 refine wpAny_passesOwn hp (thn (hc pins s1 σ1 H1 _ I1 (turn n σ1 H1 w1)) fun b s2 ⟨H2,I2,q2⟩=>?_)
 cases b with
 |true=>
  obtain⟨N,hN,q2⟩:=q2
  rw[if_pos rfl]
  refine wpAny_passesOwn hp (thn (hb pins s2 σ1 H2 _ I2 q2) fun f s3 q3=>?_)
  cases f with
  |next=>
   obtain⟨σ3,H3,I3,n3⟩:=q3
   obtain⟨m',hm,w3⟩:=hN σ3 H3 n3
   exact⟨m',hm,σ3,H3,I3,w3⟩
  |cont=>
   obtain⟨σ3,H3,I3,n3⟩:=q3
   obtain⟨m',hm,w3⟩:=hN σ3 H3 n3
   exact⟨m',hm,σ3,H3,I3,w3⟩
  |brk=>exact q3
  |ret v=>exact q3
 |false=>
  rw[if_neg Bool.false_ne_true]
  exact wpAny_execs_nil ⟨σ1,H2,I2,q2⟩
end
structure It where
 go:Nat->Hp->Prop
 yld:Nat->Hp->V->Hp->Prop
 stop:Nat->Hp->Prop
def Z68 (X:Cx)(pins:List (Addr×Obj))(H:Hp)(b:Addr):Prop:=
 H b=none/\b≠X.env.locals/\b∉X.fs/\(b∈X.ex∨X.s₀.heap.objs.size<=b)/\(∀x c,X.env.cells.lookup x=some c->c≠b)/\∀p∈X.pn++pins,p.1≠b
theorem Inv.fpOk {X:Cx}{pins:List (Addr×Obj)}{σ:St}{H H':Hp}{s:Shared}{b:Addr}(I:Inv X pins σ H s)(hb:s.heap.objs.size<=b)(hn:H' b=none):Z68 X pins H' b:=by
 refine⟨hn,Nat.ne_of_gt (Nat.lt_of_lt_of_le I.lt hb),I.nofs hb,.inr (Nat.le_trans I.sz hb),fun x c e z=>?_,fun p hp z=>?_⟩
 ·obtain⟨v,q⟩:=I.cell x c e
  exact absurd (Nat.lt_of_lt_of_le q.lt (by rw[z];exact hb)) (Nat.lt_irrefl _)
 ·exact absurd (Nat.lt_of_lt_of_le (Heap.lt_size (I.pin p hp).1) (by rw[z];exact hb)) (Nat.lt_irrefl _)
structure Turn (P:Program)(w:World)(K:W.Frag)(tg:Expr)(J:It)(fp:List Addr)(it:Addr)(tn:Nat->Heap->Prop):Prop where
 mem:it∈fp
 obj:∀i h,tn i h->∀b∈fp,∃o,h.get? b=some o/\∀v,o.data ≠ .cell v
 keep:∀i h h',tn i h->(∀b∈fp,∀o,h.get? b=some o->h'.get? b=some o)->tn i h'
 item:∀(X:Cx),X.prog=P->X.w=w->X.K=K->X.calm=true->∀(i:Nat) (pins:List (Addr×Obj)) (s:Shared) (σ:St) (H:Hp) (E:Value->Shared->Prop),Inv X pins σ H s->(∀b∈fp,Z68 X pins H b)->tn i s.heap->J.go i H →
  wpAny (model P w) X.A (pyNext (.ref it)) (fun r s1=>∃u,r=some u ∧
   wpAny (model P w) X.A (letOwnedTupleGo tg (.ref it) u) (fun _ s2=>∃x H',Inv X pins σ H' s2/\RelV x u/\J.yld i H x H'/\tn (i+1) s2.heap/\∀b∈fp,H' b=none) E s1) E s
 done:∀(X:Cx),X.prog=P->X.w=w->X.K=K->X.calm=true->∀(i:Nat) (pins:List (Addr×Obj)) (s:Shared) (σ:St) (H:Hp) (E:Value->Shared->Prop),Inv X pins σ H s->(∀b∈fp,Z68 X pins H b)->tn i s.heap->J.stop i H →
  wpAny (model P w) X.A (pyNext (.ref it)) (fun r s1=>r=none/\Inv X pins σ H s1) E s
 self:∀(A:Around) (i:Nat) (s:Shared) (Q:Value->Shared->Prop) (E:Value->Shared->Prop),tn i s.heap->Q (.ref it) s->wpAny (model P w) A (pyIter (.ref it)) Q E s
abbrev TI:=St->Hp->(It->Hp->Prop)->Prop
def PIE (X:Cx)(pins:List (Addr×Obj))(σ:St)(tg:Expr)(R:It->Hp->Prop)(itv:Value)(s2:Shared):Prop:=
 ∃(it:Addr) (fp:List Addr) (tn:Nat->Heap->Prop) (J:It) (H':Hp),itv = .ref it/\Inv X pins σ H' s2/\Turn X.prog X.w X.K tg J fp it tn/\tn 0 s2.heap/\(∀b∈fp,Z68 X pins H' b)/\R J H'
def PI (X:Cx)(tg iter:Expr)(wi:TI):Prop:=
 ∀(pins:List (Addr×Obj)) (s:Shared) (σ:St) (H:Hp) (R:It->Hp->Prop),Inv X pins σ H s->wi σ H R →
  wpAny (model X.prog X.w) X.A (eval iter X.env) (fun v s1=>wpAny (model X.prog X.w) X.A (pyIter v) (PIE X pins σ tg R) X.xe s1) X.xe s
theorem Zhr {M:Model}{A:Around}{E:Value->Shared->Prop}{s:Shared}{tg:Expr}{it:Addr}{u:Value}{o:Obj}{n:String}{vs:Array Value}{Q:Unit->Shared->Prop}(ho:s.heap.get? it=some o)(hc:o.cls = .type n)(hd:o.data = .fields vs)
  (hn : ["enumerate","zip","dict_itemiterator","dict_reverseitemiterator","odict_iterator","itertools.zip_longest","itertools.pairwise"].contains n=false) (hQ:Q () s):wpAny M A (letOwnedTupleGo tg (.ref it) u) Q E s:=by
 unfold letOwnedTupleGo
 cases tg <;> first
  |exact wpAny_pure hQ
  | (cases u <;> first
    |exact wpAny_pure hQ
    | (refine wpAny_bind (wpAny_load ho ?_)
       rw[hc,hd]
       show wpAny M A (if (["enumerate","zip","dict_itemiterator","dict_reverseitemiterator","odict_iterator","itertools.zip_longest","itertools.pairwise"].contains n&&vs[0]? == some (rawInt _))=true then _ else _) Q E s
       rw[if_neg (by intro h;rw[hn,Bool.false_and] at h;cases h)]
       exact wpAny_pure hQ))
def Itl (K:W.Frag)(a:Addr):It:=
 ⟨fun i H=>∃xs x,SqL K H a xs/\xs[i]? = some x,fun i H x H'=>H'=H/\∀xs,SqL K H a xs->xs[i]? = some x,fun i H=>∃xs,SqL K H a xs/\xs.length<=i⟩
def Itt (K:W.Frag)(a:Addr):It:=
 ⟨fun i H=>∃xs x,SqT K H a xs/\xs[i]? = some x,fun i H x H'=>H'=H/\∀xs,SqT K H a xs->xs[i]? = some x,fun i H=>∃xs,SqT K H a xs/\xs.length<=i⟩
def Itr (lo:Int)(n:Nat):It:=⟨fun i _=>i<n,fun i H x H'=>H'=H/\x = .int (lo+i),fun i _=>n<=i⟩
theorem Ze3 {P:Program}{w:World}{K:W.Frag}{tg:Expr}(a it:Addr):Turn P w K tg (Itl K a) [it] it (fun i h=>h.IsListIter it a i) where
 mem:=by simp
 obj:=fun i h st b hb=>by
  have e:b=it:=by simpa using hb
  subst e
  obtain⟨o,e,c,d⟩:=st
  exact⟨o,e,fun v z=>by rw[d] at z;cases z⟩
 keep:=fun i h h' st k=>st.at fun o e=>k it (by simp) o e
 item:=by
  intro X hP hw hK hc i pins s σ H E I hf st hg
  subst hP hw hK
  obtain⟨xs,x,hq,hx⟩:=hg
  obtain⟨its,rv,p,hz⟩:=I.list hq
  obtain⟨u,hu,ru⟩:=rv.get hx
  obtain⟨f0,f1,f2,f3,f4,f5⟩:=hf it (by simp)
  refine wpAny_pyNext_list_item st p.isList (x:=u) (by simpa using hu) fun h' st' sb=>?_
  have I1:Inv X pins σ H { s with heap:=h' }:=I.turned (t':=s.toks) (fun b o hb e=>(sb.2 b hb).trans e) f0 f1 f3 f4 f5
  obtain⟨o,e,c,d⟩:=id st'
  exact⟨u,rfl,Zhr (s:={ s with heap:=h' }) e c d (by decide) ⟨x,H,I1,ru,⟨rfl,fun ys hy=>by rw[I.list_inj hy hq];exact hx⟩,st',fun b hb=>(hf b hb).1⟩⟩
 done:=by
  intro X hP hw hK hc i pins s σ H E I hf st hg
  subst hP hw hK
  obtain⟨xs,hq,hx⟩:=hg
  obtain⟨its,rv,p,hz⟩:=I.list hq
  obtain⟨f0,f1,f2,f3,f4,f5⟩:=hf it (by simp)
  have hl:=rv.length
  exact wpAny_pyNext_list_end (I.ok.hd hc) st p.isList (by simp;lia) fun h' eb=>⟨rfl,I.turned (t':=s.toks) (fun b o hb e=>eb b o hb e) f0 f1 f3 f4 f5⟩
 self:=fun _ _ _ _ _ st h=>wpAny_pyIter_listiter st h
theorem Zcm {P:Program}{w:World}{K:W.Frag}{tg:Expr}(a it:Addr):Turn P w K tg (Itt K a) [it] it (fun i h=>h.IsTupleIter it a i) where
 mem:=by simp
 obj:=fun i h st b hb=>by
  have e:b=it:=by simpa using hb
  subst e
  obtain⟨o,e,c,d⟩:=st
  exact⟨o,e,fun v z=>by rw[d] at z;cases z⟩
 keep:=fun i h h' st k=>st.at fun o e=>k it (by simp) o e
 item:=by
  intro X hP hw hK hc i pins s σ H E I hf st hg
  subst hP hw hK
  obtain⟨xs,x,hq,hx⟩:=hg
  obtain⟨its,rv,p,hz⟩:=I.tuple hq
  obtain⟨u,hu,ru⟩:=rv.get hx
  obtain⟨f0,f1,f2,f3,f4,f5⟩:=hf it (by simp)
  refine wpAny_pyNext_tuple_item st (show s.heap.IsTuple a its.toArray from p) (x:=u) (by simpa using hu) fun h' st' sb=>?_
  have I1:Inv X pins σ H { s with heap:=h' }:=I.turned (t':=s.toks) (fun b o hb e=>(sb.2 b hb).trans e) f0 f1 f3 f4 f5
  obtain⟨o,e,c,d⟩:=id st'
  exact⟨u,rfl,Zhr (s:={ s with heap:=h' }) e c d (by decide) ⟨x,H,I1,ru,⟨rfl,fun ys hy=>by rw[I.tuple_inj hy hq];exact hx⟩,st',fun b hb=>(hf b hb).1⟩⟩
 done:=by
  intro X hP hw hK hc i pins s σ H E I hf st hg
  subst hP hw hK
  obtain⟨xs,hq,hx⟩:=hg
  obtain⟨its,rv,p,hz⟩:=I.tuple hq
  obtain⟨f0,f1,f2,f3,f4,f5⟩:=hf it (by simp)
  have hl:=rv.length
  exact wpAny_pyNext_tuple_end (I.ok.hd hc) st (show s.heap.IsTuple a its.toArray from p) (by simp;lia) fun h' eb=>⟨rfl,I.turned (t':=s.toks) (fun b o hb e=>eb b o hb e) f0 f1 f3 f4 f5⟩
 self:=fun _ _ _ _ _ st h=>wpAny_pyIter_tupleiter st h
theorem Zcn {P:Program}{w:World}{K:W.Frag}{tg:Expr}(it:Addr)(lo:Int)(n:Nat):Turn P w K tg (Itr lo n) [it] it (fun i h=>IsRangeIter h it (lo+(i:Nat)*1) ((n:Int)-(i:Nat)) 1) where
 mem:=by simp
 obj:=fun i h st b hb=>by
  have e:b=it:=by simpa using hb
  subst e
  exact⟨_,st,fun v z=>by
   have z':Data.fields _=Data.cell v:=z
   cases z'⟩
 keep:=fun i h h' st k=>k it (by simp) _ st
 item:=by
  intro X hP hw hK hc i pins s σ H E I hf st hg
  subst hP hw hK
  obtain⟨f0,f1,f2,f3,f4,f5⟩:=hf it (by simp)
  have W:=Walks.range (prog:=X.prog) (w:=X.w) (I.ok.hd hc) it lo 1 n
  refine W.item i s _ _ hg st fun v h' tk hv st' kk=>?_
  obtain⟨t,rfl⟩:=hv
  have I1:Inv X pins σ H { s with heap:=h',toks:=tk }:=I.turned (fun b o hb e=>kk b o (by simpa using hb) e) f0 f1 f3 f4 f5
  refine⟨_,rfl,Zhr (s:={ s with heap:=h',toks:=tk }) (n:="range_iterator") st' rfl rfl (by decide) ⟨.int (lo+i),H,I1,⟨t,?_⟩,⟨rfl,rfl⟩,st',fun b hb=>(hf b hb).1⟩⟩
  rw[Int.mul_one]
 done:=by
  intro X hP hw hK hc i pins s σ H E I hf st hg
  subst hP hw hK
  obtain⟨f0,f1,f2,f3,f4,f5⟩:=hf it (by simp)
  exact wpAny_pyNext_range_end (I.ok.hd hc) st (by have:n<=i:=hg;lia) fun h' eb=>⟨rfl,I.turned (t':=s.toks) (fun b o hb e=>eb b o hb e) f0 f1 f3 f4 f5⟩
 self:=fun _ _ _ _ _ st h=>wpAny_pyIter_rangeiter st h
section
variable {X:Cx}{tg:Expr}
theorem Zhs {pins:List (Addr×Obj)}{σ:St}{H:Hp}{s:Shared}{R:It->Hp->Prop}{E:Value->Shared->Prop}{lo hi:Int}{t u v:Tok}{tk:Nat}(I:Inv X pins σ H s)(h1 : -(2 ^ 62)<=lo)(h2:lo<2 ^ 62)(h3 : -(2 ^ 62)<=hi)(h4:hi<2 ^ 62)
  (q:R (Itr lo (hi-lo).toNat) H):wpAny (model X.prog X.w) X.A (pyIter (.ref s.heap.objs.size)) (PIE X pins σ tg R) E { s with heap:=s.heap.push { cls:=.type "range",data:=.fields #[.int lo t,.int hi u,.int 1 v] },toks:=tk }:=by
 refine wpAny_pyIter_range (IsRange.new ..) (small_one h1 h2 h3 h4) ?_
 have I1:Inv X pins σ H { s with heap:=s.heap.push { cls:=.type "range",data:=.fields #[.int lo t,.int hi u,.int 1 v] },toks:=tk }:=I.kept fun b o e=>Heap.get?_push_of_some _ e
 refine⟨(s.heap.push { cls:=.type "range",data:=.fields #[.int lo t,.int hi u,.int 1 v] }).objs.size,[(s.heap.push { cls:=.type "range",data:=.fields #[.int lo t,.int hi u,.int 1 v] }).objs.size],_,_,H,rfl,
  I1.kept (t':=tk) fun b o e=>Heap.get?_push_of_some _ e,Zcn _ lo (hi-lo).toNat,?_,fun b hb=>?_,q⟩
 ·have e1:lo+((0:Nat):Int)*1=lo:=by simp
  have e2:(((hi-lo).toNat:Nat):Int)-((0:Nat):Int)=Builtin.Range.rangeSize lo hi 1:=by rw[rangeSize_one];split <;> lia
  show IsRangeIter _ _ (lo+((0:Nat):Int)*1) ((((hi-lo).toNat:Nat):Int)-((0:Nat):Int)) 1
  rw[e1,e2]
  exact Heap.get?_push_size _ rfl
 ·have e:b=(s.heap.push { cls:=.type "range",data:=.fields #[.int lo t,.int hi u,.int 1 v] }).objs.size:=by simpa using hb
  subst e
  exact I1.fpOk (Nat.le_refl _) (I1.hok.fresh (Nat.le_refl _))
def Zpk (ta:TA):TI:=fun σ H R=>ta σ H fun vs H1=>∃j:Int,vs = [.int j] /\ -(2 ^ 62)<=j/\j<2 ^ 62/\R (Itr 0 j.toNat) H1
theorem Ze4 {a:Expr}{ta:TA}{p pos:Pos}(hg:Gl X "range")(hm:X.mg "range"=none)(ha:PA X [a] ta)(hs:starEach [a] X.env = [(false,eval a X.env)]:=by rfl):PI X tg (.Call (.Name "range" p) [a] [] pos) (Zpk ta):=by
 intro pins s σ H R I h
 refine Call_ (Zbc I hg hm boot_range (PyProof.Rows.callWith_type1 (thn (ha pos pins s σ H _ I h) fun us s1 ⟨vs,H1,I1,r1,q1⟩=>?_) hs rfl))
 obtain⟨j,e,q1,q2,q⟩:=q1
 subst e
 cases r1 with
 |cons r rr=>
  cases rr
  obtain⟨t,rfl⟩:=r
  exact call_range_1 (Zhs I1 (by lia) (by lia) q1 q2 (by simpa using q))
def Zv4 (wi:TI)(g:TG)(tb:TS):TS:=fun D σ H=>wi σ H fun J H1=>∃W:Nat->Nat->St->Hp->Prop,(∃m,W 0 m σ H1)/\∀i m σ H,W i m σ H →
 (J.stop i H/\D.nx σ H)∨(J.go i H/\∃N:St->Hp->Prop,(∀ σ' H',N σ' H'->∃m',m'<m/\W (i+1) m' σ' H')/\∀x H',J.yld i H x H'->g x σ H' fun σ2 H2=>tb { D with nx:=N,ct:=N,bk:=D.nx } σ2 H2)
def Z8m (fp:List Addr)(h:Heap):List (Addr×Obj):=fp.filterMap fun b=>(h.get? b).map fun o=>(b,o)
theorem Z2f {fp:List Addr}{h:Heap}{b:Addr}{o:Obj}(hb:b∈fp)(e:h.get? b=some o):(b,o)∈Z8m fp h:=mem_filterMap.mpr ⟨b,hb,by rw[e];rfl⟩
theorem Ze5 {fp:List Addr}{h:Heap}{p:Addr×Obj}(hp:p∈Z8m fp h):p.1∈fp/\h.get? p.1=some p.2:=by
 obtain⟨b,hb,e⟩:=mem_filterMap.mp hp
 cases q:h.get? b with
 |none=>rw[q] at e;cases e
 |some o=>
  rw[q] at e
  have e':(b,o)=p:=Option.some.inj e
  subst e'
  exact⟨hb,q⟩
theorem Inv.pinned {pins:List (Addr×Obj)}{σ:St}{H:Hp}{s:Shared}{fp:List Addr}(I:Inv X pins σ H s)(hf:∀b∈fp,Z68 X pins H b)(ho:∀b∈fp,∃o,s.heap.get? b=some o/\∀v,o.data ≠ .cell v):Inv X (pins++Z8m fp s.heap) σ H s:=
 I.pins_of fun p hp=>(mem_append.mp hp).elim (fun z=>I.pin p (mem_append_right _ z)) fun z=>by
  obtain⟨hb,e⟩:=Ze5 z
  obtain⟨f0,f1,f2,_⟩:=hf p.1 hb
  obtain⟨o,e',d⟩:=ho p.1 hb
  rw[e] at e';cases e'
  exact⟨e,f0,f1,f2,d⟩
theorem Inv.unpinned {pins pl:List (Addr×Obj)}{σ:St}{H:Hp}{s:Shared}(I:Inv X (pins++pl) σ H s):Inv X pins σ H s:=I.pins_of fun p hp=>I.pin p (mem_append_right _ (mem_append_left _ hp))
theorem Zpl {iter:Expr}{body:List Stmt}{wi:TI}{g:TG}{tb:TS}{pos:Pos}(hp:PassesOwn (model X.prog X.w) X.A X.env X.xe)(hc:X.calm=true)(hi:PI X tg iter wi)(hg:PG X tg g)(hb:PSs X body tb)
  (hs:∀x,foldedSetIterable iter X.env x=pure x:=by intro _;rfl):PS X (.For tg iter body [] pos) (Zv4 wi g tb):=by
 intro pins s σ H D I h
 refine wpAny_For (thn (hi pins s σ H _ I h) fun v s1 h1=>thn h1 fun itv s2 h2=>?_) hs
 obtain⟨it,fp,tn,J,H2,e,I2,T,st2,f2,W,⟨m0,w0⟩,turn⟩:=h2
 subst e
 have stat:∀{H':Hp},(∀b∈fp,H' b=none)->∀b∈fp,Z68 X pins H' b:=fun hn b hb=>⟨hn b hb,(f2 b hb).2⟩
 refine codeAny_forLoop_any (fun n s'=>∃i σ' H',Inv X pins σ' H' s'/\tn i s'.heap/\(∀b∈fp,H' b=none)/\W i n σ' H') ?_ m0 ⟨0,σ,H2,I2,st2,fun b hb=>(f2 b hb).1,w0⟩
 rintro n s3 ⟨i,σ3,H3,I3,st3,fr3,w3⟩
 rcases turn i n σ3 H3 w3 with ⟨stop,qn⟩|⟨go,N,hN,step⟩
 ·refine wpAny_passesOwn hp (thn (T.done X rfl rfl rfl hc i pins s3 σ3 H3 X.xe I3 (stat fr3) st3 stop) fun r s4 ⟨hr,I4⟩=>?_)
  subst hr
  exact wpAny_execs_nil ⟨σ3,H3,I4,qn⟩
 ·refine wpAny_passesOwn hp (thn (T.item X rfl rfl rfl hc i pins s3 σ3 H3 X.xe I3 (stat fr3) st3 go) fun r s4 ⟨u,hr,h4⟩=>?_)
  subst hr
  refine wpAny_passesOwn hp (thn h4 fun _ s5 ⟨x,H5,I5,r5,y5,st5,fr5⟩=>?_)
  have I5':=I5.pinned (stat fr5) (T.obj _ _ st5)
  refine wpAny_passesOwn hp (thn (hg _ s5 σ3 H5 x u _ I5' r5 (step x H5 y5)) fun _ s6 ⟨σ6,H6,I6,q6⟩=>?_)
  refine wpAny_passesOwn hp (thn (hb _ s6 σ6 H6 _ I6 q6) fun f s7 q7=>?_)
  have again:∀{σ7:St} {H7:Hp},Inv X (pins++Z8m fp s5.heap) σ7 H7 s7->N σ7 H7->∃m,m<n/\∃i σ' H',Inv X pins σ' H' s7/\tn i s7.heap/\(∀b∈fp,H' b=none)/\W i m σ' H':=fun {σ7 H7} I7 n7=>by
   obtain⟨m',hm,w7⟩:=hN σ7 H7 n7
   refine⟨m',hm,i+1,σ7,H7,I7.unpinned,T.keep _ _ _ st5 fun b hb o e=>(I7.pin (b,o) (mem_append_right _ (mem_append_right _ (Z2f hb e)))).1,fun b hb=>?_,w7⟩
   obtain⟨o,e,d⟩:=T.obj _ _ st5 b hb
   exact(I7.pin (b,o) (mem_append_right _ (mem_append_right _ (Z2f hb e)))).2.1
  cases f with
  |next=>obtain⟨σ7,H7,I7,n7⟩:=q7;exact again I7 n7
  |cont=>obtain⟨σ7,H7,I7,n7⟩:=q7;exact again I7 n7
  |brk=>obtain⟨σ7,H7,I7,q7⟩:=q7;exact⟨σ7,H7,I7.unpinned,q7⟩
  |ret v=>obtain⟨x7,σ7,H7,I7,r7,q7⟩:=q7;exact⟨x7,σ7,H7,I7.unpinned,r7,q7⟩
end
abbrev R2:=V->V->Hp->VK->Prop
def OpR (X:Cx)(f:Value->Value->Sem Value)(r:R2):Prop:=
 ∀(pins:List (Addr×Obj)) (s:Shared) (σ:St) (H:Hp) (x y:V) (v u:Value) (Q:VK),Inv X pins σ H s->RelV x v->RelV y u->r x y H Q →
  wpAny (model X.prog X.w) X.A (f v u) (EP X pins σ Q) X.xe s
def UnR (X:Cx)(f:Value->Sem Value)(r:V->Hp->VK->Prop):Prop:=
 ∀(pins:List (Addr×Obj)) (s:Shared) (σ:St) (H:Hp) (x:V) (v:Value) (Q:VK),Inv X pins σ H s->RelV x v->r x H Q →
  wpAny (model X.prog X.w) X.A (f v) (EP X pins σ Q) X.xe s
def Z2l (X:Cx)(f:Value)(r:List V->Hp->VK->Prop):Prop:=
 ∀(pins:List (Addr×Obj)) (s:Shared) (σ:St) (H:Hp) (xs:List V) (us:List Value) (Q:VK),Inv X pins σ H s->Vals xs us->r xs H Q →
  wpAny (model X.prog X.w) X.A (call f us) (EP X pins σ Q) X.xe s
def Zwj (X:Cx)(r:V->Hp->(Bool->Hp->Prop)->Prop):Prop:=
 ∀(pins:List (Addr×Obj)) (s:Shared) (σ:St) (H:Hp) (x:V) (v:Value) (Q:Bool->Hp->Prop),Inv X pins σ H s->RelV x v->r x H Q →
  wpAny (model X.prog X.w) X.A (truthy v) (TP X pins σ Q) X.xe s
def tOp (r:R2)(ta tb:TE):TE:=fun σ H Q=>ta σ H fun x H1=>tb σ H1 fun y H2=>r x y H2 Q
def tUn (r:V->Hp->VK->Prop)(ta:TE):TE:=fun σ H Q=>ta σ H fun x H1=>r x H1 Q
def rI (C:Int->Int->Prop)(g:Int->Int->V):R2:=fun x y H Q=>∃i j,x = .int i/\y = .int j/\C i j/\Q (g i j) H
def rI0 (g:Int->Int->V):R2:=fun x y H Q=>∃i j,x = .int i/\y = .int j/\Q (g i j) H
def rU (g:Int->V):V->Hp->VK->Prop:=fun x H Q=>∃i,x = .int i/\Q (g i) H
section
variable {X:Cx}{a b c:Expr}{ta tb tc:TE}{pos:Pos}
theorem Zt7 (ha:PE X a ta)(hb:PE X b tb){pins:List (Addr×Obj)}{s:Shared}{σ:St}{H:Hp}{R:V->V->Hp->Prop}(I:Inv X pins σ H s)
  (h:ta σ H fun x H1=>tb σ H1 fun y H2=>R x y H2) {Q:Value->Shared->Prop} {f:Value->Value->Sem Value}
  (hf:∀v u s2 x y H2,Inv X pins σ H2 s2->RelV x v->RelV y u->R x y H2->wpAny (model X.prog X.w) X.A (f v u) Q X.xe s2):
  wpAny (model X.prog X.w) X.A (eval a X.env) (fun v s₁=>wpAny (model X.prog X.w) X.A (eval b X.env) (fun u s₂=>wpAny (model X.prog X.w) X.A (f v u) Q X.xe s₂) X.xe s₁) X.xe s:=by
 refine thn (ha pins s σ H _ I h) fun v s1 ⟨x,H1,I1,r1,q1⟩=>?_
 refine thn (hb pins s1 σ H1 _ I1 q1) fun u s2 ⟨y,H2,I2,r2,q2⟩=>?_
 exact hf v u s2 x y H2 I2 r1 r2 q2
theorem Zco {op:Operator}{r:R2}(ho:OpR X (binaryOp op) r)(ha:PE X a ta)(hb:PE X b tb):PE X (.BinOp a op b pos) (tOp r ta tb):=by
 intro pins s σ H Q I h
 exact wpAny_BinOp (Zt7 ha hb I h fun v u s2 x y H2 I2 rx ry q=>ho pins s2 σ H2 x y v u Q I2 rx ry q)
theorem Zpm {op:UnaryOp}{r:V->Hp->VK->Prop}(ho:UnR X (unaryOp op) r)(ha:PE X a ta):PE X (.UnaryOp op a pos) (tUn r ta):=by
 intro pins s σ H Q I h
 exact UnaryOp_ (thn (ha pins s σ H _ I h) fun v s1 ⟨x,H1,I1,r1,q1⟩=>ho pins s1 σ H1 x v Q I1 r1 q1)
theorem opI {f:Value->Value->Sem Value}{C:Int->Int->Prop}{g:Int->Int->Int}
  (rule:∀(i j:Int) (t u:Tok) (s:Shared) (Q:Value->Shared->Prop) (E:Value->Shared->Prop),C i j->Q (.int (g i j) s.toks) { s with toks:=s.toks+1 }->wpAny (model X.prog X.w) X.A (f (.int i t) (.int j u)) Q E s):
  OpR X f (rI C fun i j=>.int (g i j)):=by
 intro pins s σ H x y v u Q I rx ry h
 obtain⟨i,j,rfl,rfl,hc,q⟩:=h
 obtain⟨t,rfl⟩:=rx
 obtain⟨t',rfl⟩:=ry
 exact rule i j t t' s _ _ hc ⟨.int (g i j),H,I.tok _,⟨_,rfl⟩,q⟩
theorem Zv5 {f:Value->Value->Sem Value}{g:Int->Int->Int}
  (rule:∀(i j:Int) (t u:Tok) (s:Shared) (Q:Value->Shared->Prop) (E:Value->Shared->Prop),Q (.int (g i j) s.toks) { s with toks:=s.toks+1 }->wpAny (model X.prog X.w) X.A (f (.int i t) (.int j u)) Q E s):
  OpR X f (rI0 fun i j=>.int (g i j)):=by
 intro pins s σ H x y v u Q I rx ry h
 obtain⟨i,j,rfl,rfl,q⟩:=h
 obtain⟨t,rfl⟩:=rx
 obtain⟨t',rfl⟩:=ry
 exact rule i j t t' s _ _ ⟨.int (g i j),H,I.tok _,⟨_,rfl⟩,q⟩
theorem Zsp {f:Value->Value->Sem Value}{g:Int->Int->Bool}
  (rule:∀(i j:Int) (t u:Tok) (s:Shared) (Q:Value->Shared->Prop) (E:Value->Shared->Prop),Q (.bool (g i j)) s->wpAny (model X.prog X.w) X.A (f (.int i t) (.int j u)) Q E s):
  OpR X f (rI0 fun i j=>.bl (g i j)):=by
 intro pins s σ H x y v u Q I rx ry h
 obtain⟨i,j,rfl,rfl,q⟩:=h
 obtain⟨t,rfl⟩:=rx
 obtain⟨t',rfl⟩:=ry
 exact rule i j t t' s _ _ ⟨.bl (g i j),H,I,rfl,q⟩
def Zv6 (i j:Int):Prop:=0<=j/\j<=1000000/\i.natAbs<2 ^ 64
def CMul (i j:Int):Prop:=(-(2 ^ 64)<i/\i<2 ^ 64)∨(-(2 ^ 64)<j/\j<2 ^ 64)
theorem CMul.ok {i j:Int}(h:CMul i j):IntMulOk i j:=by
 rcases h with ⟨h1,h2⟩|⟨h1,h2⟩
 ·exact .of_left (intBits_le_64 h1 h2)
 ·exact .of_right (intBits_le_64 h1 h2)
theorem op_add:OpR X (binaryOp .Add) (rI0 fun i j=>.int (i+j)):=Zv5 fun _ _ _ _ _ _ _ q=>add_int q
theorem Zpn:OpR X (binaryOp .Sub) (rI0 fun i j=>.int (i-j)):=Zv5 fun _ _ _ _ _ _ _ q=>sub_int q
theorem op_mul:OpR X (binaryOp .Mult) (rI CMul fun i j=>.int (i*j)):=opI fun _ _ _ _ _ _ _ hc q=>mul_int q hc.ok
theorem Zpo:OpR X (binaryOp .Mod) (rI (fun _ j=>0<j) fun i j=>.int (i % j)):=opI fun i j _ _ _ _ _ hc q=>by
 have h1:(0:Int)<j:=hc
 exact mod_int' (by lia) (by rw[Int.fmod_eq_emod_of_nonneg i (by lia)];exact q)
theorem Zpp:OpR X (binaryOp .Pow) (rI Zv6 fun i j=>.int (i ^ j.toNat)):=opI fun _ _ _ _ _ _ _ hc q=>pow_int_small hc.1 hc.2.1 hc.2.2 q
theorem unI {f:Value->Sem Value}{g:Int->Int}
  (rule:∀(i:Int) (t:Tok) (s:Shared) (Q:Value->Shared->Prop) (E:Value->Shared->Prop),Q (.int (g i) s.toks) { s with toks:=s.toks+1 }->wpAny (model X.prog X.w) X.A (f (.int i t)) Q E s):
  UnR X f (rU fun i=>.int (g i)):=by
 intro pins s σ H x v Q I rx h
 obtain⟨i,rfl,q⟩:=h
 obtain⟨t,rfl⟩:=rx
 exact rule i t s _ _ ⟨.int (g i),H,I.tok _,⟨_,rfl⟩,q⟩
theorem Zkb:UnR X (unaryOp .USub) (rU fun i=>.int (-i)):=unI fun _ _ _ _ _ q=>neg_int q
end
def Zt8:V->V->Bool
 | .non,.non=>true | .non,.int _=>true | .int _,.non=>true | .non,.bl _=>true | .bl _,.non=>true | .non,.str _=>true | .str _,.non=>true
 | .int _,.int _=>true | .bl _,.bl _=>true | .str _,.str _=>true | .byt _,.byt _=>true
 | .int _,.str _=>true | .str _,.int _=>true | .bl _,.str _=>true | .str _,.bl _=>true
 |_,_=>false
def rEq:R2:=fun x y H Q=>Zt8 x y=true/\Q (.bl (decide (x=y))) H
def rNe:R2:=fun x y H Q=>Zt8 x y=true/\Q (.bl (!decide (x=y))) H
theorem Ze6 {i j:Int}:decide (V.int i=V.int j)=(i==j):=by
 rw[Bool.eq_iff_iff]
 simp
theorem Zkc {i j:Bool}:decide (V.bl i=V.bl j)=(i==j):=by
 rw[Bool.eq_iff_iff]
 simp
theorem Ze7 {i j:Str}:decide (V.str i=V.str j)=(i==j):=by
 rw[Bool.eq_iff_iff]
 simp
theorem Ze8 {i j:Array UInt8}:decide (V.byt i=V.byt j)=(i.toList==j.toList):=by
 rw[Bool.eq_iff_iff]
 cases i
 cases j
 simp
section
variable {X:Cx}{a b c:Expr}{ta tb tc:TE}{pos:Pos}
theorem Z06 {pins:List (Addr×Obj)}{σ:St}{H:Hp}{s:Shared}{Q:VK}{k k':Bool}(I:Inv X pins σ H s)(q:Q (.bl k) H)(e:k=k'):EP X pins σ Q (.bool k') s:=by
 subst e
 exact⟨.bl k,H,I,rfl,q⟩
theorem Zt9:OpR X (compareOp .Eq) rEq:=by
 intro pins s σ H x y v u Q I rx ry h
 obtain⟨hs,q⟩:=h
 cases x with
 |non=>
  cases rx
  cases y with
  |non=>cases ry;exact PySem.EqNone.eq_none_none (Z06 I q (by simp))
  |bl j=>cases ry;exact PySem.EqNone.eq_none_bool (Z06 I q (by simp))
  |int j=>obtain⟨t',rfl⟩:=ry;exact PySem.EqNone.eq_none_int (Z06 I q (by simp))
  |str j=>obtain⟨t',rfl⟩:=ry;exact PySem.EqNone.eq_none_str (Z06 I q (by simp))
  |_=>exact absurd (show false=true from hs) Bool.false_ne_true
 |bl i=>
  cases rx
  cases y with
  |non=>cases ry;exact PySem.EqNone.eq_bool_none (Z06 I q (by simp))
  |bl j=>cases ry;exact eq_bool (Z06 I q Zkc)
  |str j=>obtain⟨t',rfl⟩:=ry;exact PySem.EqMixed.eq_bool_str (Z06 I q (by simp))
  |_=>exact absurd (show false=true from hs) Bool.false_ne_true
 |int i=>
  obtain⟨t,rfl⟩:=rx
  cases y with
  |non=>cases ry;exact PySem.EqNone.eq_int_none (Z06 I q (by simp))
  |int j=>obtain⟨t',rfl⟩:=ry;exact eq_int (Z06 I q Ze6)
  |str j=>obtain⟨t',rfl⟩:=ry;exact PySem.EqMixed.eq_int_str (Z06 I q (by simp))
  |_=>exact absurd (show false=true from hs) Bool.false_ne_true
 |str i=>
  obtain⟨t,rfl⟩:=rx
  cases y with
  |non=>cases ry;exact PySem.EqNone.eq_str_none (Z06 I q (by simp))
  |bl j=>cases ry;exact PySem.EqMixed.eq_str_bool (Z06 I q (by simp))
  |int j=>obtain⟨t',rfl⟩:=ry;exact PySem.EqMixed.eq_str_int (Z06 I q (by simp))
  |str j=>obtain⟨t',rfl⟩:=ry;exact eq_str (Z06 I q Ze7)
  |_=>exact absurd (show false=true from hs) Bool.false_ne_true
 |byt i=>
  obtain⟨t,rfl⟩:=rx
  cases y with
  |byt j=>obtain⟨t',rfl⟩:=ry;exact PySem.W.eq_bytes (Z06 I q Ze8)
  |_=>exact absurd (show false=true from hs) Bool.false_ne_true
 |_=>cases y <;> exact absurd (show false=true from hs) Bool.false_ne_true
theorem Zta:OpR X (compareOp .NotEq) rNe:=by
 intro pins s σ H x y v u Q I rx ry h
 obtain⟨hs,q⟩:=h
 cases x with
 |non=>
  cases rx
  cases y with
  |non=>cases ry;exact PySem.EqNone.ne_none_none (Z06 I q (by simp))
  |bl j=>cases ry;exact PySem.EqNone.ne_none_bool (Z06 I q (by simp))
  |int j=>obtain⟨t',rfl⟩:=ry;exact PySem.EqNone.ne_none_int (Z06 I q (by simp))
  |str j=>obtain⟨t',rfl⟩:=ry;exact PySem.EqNone.ne_none_str (Z06 I q (by simp))
  |_=>exact absurd (show false=true from hs) Bool.false_ne_true
 |bl i=>
  cases rx
  cases y with
  |non=>cases ry;exact PySem.EqNone.ne_bool_none (Z06 I q (by simp))
  |bl j=>cases ry;exact ne_bool (Z06 I q (congrArg not Zkc))
  |str j=>obtain⟨t',rfl⟩:=ry;exact PySem.EqMixed.ne_bool_str (Z06 I q (by simp))
  |_=>exact absurd (show false=true from hs) Bool.false_ne_true
 |int i=>
  obtain⟨t,rfl⟩:=rx
  cases y with
  |non=>cases ry;exact PySem.EqNone.ne_int_none (Z06 I q (by simp))
  |int j=>obtain⟨t',rfl⟩:=ry;exact ne_int (Z06 I q (congrArg not Ze6))
  |str j=>obtain⟨t',rfl⟩:=ry;exact PySem.EqMixed.ne_int_str (Z06 I q (by simp))
  |_=>exact absurd (show false=true from hs) Bool.false_ne_true
 |str i=>
  obtain⟨t,rfl⟩:=rx
  cases y with
  |non=>cases ry;exact PySem.EqNone.ne_str_none (Z06 I q (by simp))
  |bl j=>cases ry;exact PySem.EqMixed.ne_str_bool (Z06 I q (by simp))
  |int j=>obtain⟨t',rfl⟩:=ry;exact PySem.EqMixed.ne_str_int (Z06 I q (by simp))
  |str j=>obtain⟨t',rfl⟩:=ry;exact ne_str (Z06 I q (congrArg not Ze7))
  |_=>exact absurd (show false=true from hs) Bool.false_ne_true
 |byt i=>
  obtain⟨t,rfl⟩:=rx
  cases y with
  |byt j=>obtain⟨t',rfl⟩:=ry;exact PySem.W.ne_bytes (Z06 I q (congrArg not Ze8))
  |_=>exact absurd (show false=true from hs) Bool.false_ne_true
 |_=>cases y <;> exact absurd (show false=true from hs) Bool.false_ne_true
theorem Ztb:OpR X (compareOp .Lt) (rI0 fun i j=>.bl (decide (i<j))):=Zsp fun _ _ _ _ _ _ _ q=>lt_int q
theorem Ztc:OpR X (compareOp .LtE) (rI0 fun i j=>.bl (decide (i<=j))):=Zsp fun _ _ _ _ _ _ _ q=>le_int q
theorem Ztd:OpR X (compareOp .Gt) (rI0 fun i j=>.bl (decide (j<i))):=Zsp fun _ _ _ _ _ _ _ q=>gt_int q
theorem Zte:OpR X (compareOp .GtE) (rI0 fun i j=>.bl (decide (j<=i))):=Zsp fun _ _ _ _ _ _ _ q=>ge_int q
theorem Zpq:OpR X (compareOp .Is) (fun x y H Q=>y = .non/\Q (.bl (decide (x = .non))) H):=by
 intro pins s σ H x y v u Q I rx ry h
 obtain⟨rfl,q⟩:=h
 cases ry
 refine is_none_gen (Z06 I q ?_)
 cases x <;> first
  | (cases rx;rfl)
  | (obtain⟨t,rfl⟩:=rx;rfl)
theorem Zla:OpR X (compareOp .IsNot) (fun x y H Q=>y = .non/\Q (.bl (!decide (x = .non))) H):=by
 intro pins s σ H x y v u Q I rx ry h
 obtain⟨rfl,q⟩:=h
 cases ry
 refine isnot_none_gen (Z06 I q ?_)
 cases x <;> first
  | (cases rx;rfl)
  | (obtain⟨t,rfl⟩:=rx;rfl)
theorem OpR.or {f:Value->Value->Sem Value}{r r':R2}(h:OpR X f r)(h':OpR X f r'):OpR X f (fun x y H Q=>r x y H Q∨r' x y H Q):=by
 intro pins s σ H x y v u Q I rx ry q
 rcases q with q|q
 ·exact h pins s σ H x y v u Q I rx ry q
 ·exact h' pins s σ H x y v u Q I rx ry q
theorem Zlb {op:CmpOp}{r:R2}(ho:OpR X (compareOp op) r)(ha:PE X a ta)(hb:PE X b tb)(hm:behindInMarks op b=false):PE X (.Compare a [op] [b] pos) (tOp r ta tb):=by
 intro pins s σ H Q I h
 exact wpAny_Compare1 (Zt7 ha hb I h fun v u s2 x y H2 I2 rx ry q=>ho pins s2 σ H2 x y v u Q I2 rx ry q) hm
def Zlc (t:TE):TT:=fun σ H Q=>t σ H fun x H'=>∃k,x = .bl k/\Q k H'
theorem Zld {op:CmpOp}{r:R2}(ho:OpR X (compareOp op) r)(ha:PE X a ta)(hb:PE X b tb)(hm:behindInMarks op b=false):PT X (.Compare a [op] [b] pos) (Zlc (tOp r ta tb)):=by
 intro pins s σ H Q I h
 refine wpAny_isTrue_Compare1 (thn (ha pins s σ H _ I h) fun v s1 ⟨x,H1,I1,r1,q1⟩=>thn (hb pins s1 σ H1 _ I1 q1) fun u s2 ⟨y,H2,I2,r2,q2⟩=>
  thn (ho pins s2 σ H2 x y v u _ I2 r1 r2 q2) fun c s3 ⟨z,H3,I3,r3,k,e,q3⟩=>?_) hm
 subst e
 cases r3
 exact wpAny_truthy_bool ⟨H3,I3,q3⟩
def Ze9 (r r':R2)(ta tb tc:TE):TE:=fun σ H Q=>ta σ H fun x H1=>tb σ H1 fun y H2=>r x y H2 fun z H3=>∃k,z = .bl k ∧
 (if k=true then tc σ H3 fun w' H4=>r' y w' H4 Q else Q (.bl false) H3)
theorem Zht {op op':CmpOp}{r r':R2}(ho:OpR X (compareOp op) r)(ho':OpR X (compareOp op') r')(ha:PE X a ta)(hb:PE X b tb)(hc:PE X c tc)
  (hm:lastMarks [op,op'] [b,c]=false:=by with_unfolding_all rfl):PE X (.Compare a [op,op'] [b,c] pos) (Ze9 r r' ta tb tc):=by
 intro pins s σ H Q I h
 refine Compare_chain (thn (ha pins s σ H _ I h) fun v s1 ⟨x,H1,I1,r1,q1⟩=>chain_link (thn (hb pins s1 σ H1 _ I1 q1) fun u s2 ⟨y,H2,I2,r2,q2⟩=>
  thn (ho pins s2 σ H2 x y v u _ I2 r1 r2 q2) fun d s3 ⟨z,H3,I3,r3,k,e,q3⟩=>?_)) hm
 subst e
 cases r3
 refine wpAny_truthy_bool ?_
 cases k with
 |false=>exact ite_ff ⟨.bl false,H3,I3,rfl,q3⟩
 |true=>exact ite_tt (chain_last (thn (hc pins s3 σ H3 _ I3 q3) fun w' s4 ⟨z',H4,I4,r4,q4⟩=>ho' pins s4 σ H4 y z' u w' Q I4 r2 r4 q4))
theorem Zhu {op op':CmpOp}{r r':R2}(ho:OpR X (compareOp op) r)(ho':OpR X (compareOp op') r')(ha:PE X a ta)(hb:PE X b tb)(hc:PE X c tc)
  (hm:lastMarks [op,op'] [b,c]=false:=by with_unfolding_all rfl):PT X (.Compare a [op,op'] [b,c] pos) (Zlc (Ze9 r r' ta tb tc)):=by
 intro pins s σ H Q I h
 refine isTrue_chain (thn (ha pins s σ H _ I h) fun v s1 ⟨x,H1,I1,r1,q1⟩=>test_link (thn (hb pins s1 σ H1 _ I1 q1) fun u s2 ⟨y,H2,I2,r2,q2⟩=>
  thn (ho pins s2 σ H2 x y v u _ I2 r1 r2 q2) fun d s3 ⟨z,H3,I3,r3,k,e,q3⟩=>?_)) hm
 subst e
 cases r3
 refine wpAny_truthy_bool ?_
 cases k with
 |false=>
  obtain⟨k',e',q'⟩:=q3
  cases e'
  exact ite_ff ⟨H3,I3,q'⟩
 |true=>
  refine ite_tt (test_last (thn (hc pins s3 σ H3 _ I3 q3) fun w' s4 ⟨z',H4,I4,r4,q4⟩=>thn (ho' pins s4 σ H4 y z' u w' _ I4 r2 r4 q4) fun d' s5 ⟨z2,H5,I5,r5,k2,e2,q5⟩=>?_))
  subst e2
  cases r5
  exact wpAny_truthy_bool ⟨H5,I5,q5⟩
def Zsq (K:W.Frag)(x:V)(H:Hp)(k:Bool):Prop:=
 match x with
 | .non=>k=false
 | .bl b=>k=b
 | .int i=>k=(i != 0)
 | .str y=>y.length<=sizeLine/\k=((y.length:Int) != 0)
 | .byt y=>y.size<=sizeLine/\k=((y.size:Int) != 0)
 | .ref p=>(∃xs,SqL K H p xs/\k = !xs.isEmpty)∨(∃xs,SqT K H p xs/\k = !xs.isEmpty)∨∃kvs,H p=some (.dK kvs)/\k = !kvs.isEmpty
 |_=>False
theorem Zcp {κ : Type}{kvs:List (κ × V)}{vs:List (κ × Value)}(r:KV kvs vs):(!vs.isEmpty) = !kvs.isEmpty:=by
 cases r <;> rfl
theorem Z6j {xs:List V}{its:List Value}(r:Vals xs its):(!its.toArray.isEmpty) = !xs.isEmpty:=by
 cases r <;> simp
theorem Z4y:(sizeLine:Nat)<2 ^ 63:=by rw[sizeLine_eq];decide
theorem Zpr:Zwj X (fun x H Q=>∃k,Zsq X.K x H k/\Q k H):=by
 intro pins s σ H x v Q I rx h
 obtain⟨k,e,q⟩:=h
 have hl:=Z4y
 have hs:=sizeLine_eq
 cases x with
 |non=>
  cases rx
  have e':k=false:=e
  subst e'
  exact truthy_none ⟨H,I,q⟩
 |bl b=>
  cases rx
  have e':k=b:=e
  subst e'
  exact wpAny_truthy_bool ⟨H,I,q⟩
 |int i=>
  obtain⟨t,rfl⟩:=rx
  have e':k=(i != 0):=e
  subst e'
  exact PySem.P.truthy_int ⟨H,I,q⟩
 |str y=>
  obtain⟨t,rfl⟩:=rx
  obtain⟨hy,e'⟩:y.length<=sizeLine/\k=((y.length:Int) != 0):=e
  subst e'
  exact PySem.P.truthy_str (by lia) ⟨H,I.tok _,q⟩
 |byt y=>
  obtain⟨t,rfl⟩:=rx
  obtain⟨hy,e'⟩:y.size<=sizeLine/\k=((y.size:Int) != 0):=e
  subst e'
  exact PySem.W.truthy_bytes (by lia) ⟨H,I.tok _,q⟩
 |ref p=>
  cases rx
  have e':(∃xs,SqL X.K H p xs/\k = !xs.isEmpty)∨(∃xs,SqT X.K H p xs/\k = !xs.isEmpty)∨∃kvs,H p=some (.dK kvs)/\k = !kvs.isEmpty:=e
  rcases e' with ⟨xs,hx,e'⟩|⟨xs,hx,e'⟩|⟨kvs,hx,e'⟩
  ·subst e'
   obtain⟨its,r,pl,hz⟩:=I.list hx
   have hlen:=r.length
   exact wpAny_truthy_list pl.isList (by simp only [size_toArray];lia) ⟨H,I.tok _,by rw[Z6j r];exact q⟩
  ·subst e'
   obtain⟨its,r,pl,hz⟩:=I.tuple hx
   have hlen:=r.length
   exact truthy_tuple pl (by simp only [size_toArray];lia) ⟨H,I.tok _,by rw[Z6j r];exact q⟩
  ·subst e'
   obtain⟨hz,hS,vs,r,m⟩:kvs.length<=sizeLine/\(p==sysModules)=false/\∃vs,KV kvs vs/\s.heap.DictOf (Z0e X.prog X.w) p vs:=I.hok p _ hx
   have hlen:kvs.length=vs.length:=Paired.length r
   exact wpAny_truthy_dict hS m (by lia) ⟨H,I.tok _,by rw[Zcp r];exact q⟩
 |_=>exact(show False from e).elim
theorem Zbe (ha:PE X a ta)(he:∀whole,isTrue a X.env whole=(do let v ← whole;standAt a.pos;holding [v] (truthy v))):
  PT X a (fun σ H Q=>ta σ H fun x H'=>∃k,Zsq X.K x H' k/\Q k H'):=by
 intro pins s σ H Q I h
 exact isTrue_plain (thn (ha pins s σ H _ I h) fun v s1 ⟨x,H1,I1,r1,q1⟩=>Zpr pins s1 σ H1 x v Q I1 r1 q1) (he _)
theorem Zcq:OpR X (binaryOp .Add) (fun x y H Q=>∃i j,x = .str i/\y = .str j/\i.length+j.length<=sizeLine/\Q (.str (i++j)) H):=by
 intro pins s σ H x y v u Q I rx ry h
 obtain⟨i,j,rfl,rfl,hz,q⟩:=h
 obtain⟨t,rfl⟩:=rx
 obtain⟨t',rfl⟩:=ry
 exact add_str (fun t' tk=>⟨.str (i++j),H,I.tok _,⟨_,rfl⟩,q⟩) hz
theorem Z3p {x:V}{us:List Value}(r:Vals [x] us):∃u,us = [u]/\RelV x u:=by
 cases r with
 |cons r1 r2=>cases r2;exact⟨_,rfl,r1⟩
theorem Ztf {x y:V}{us:List Value}(r:Vals [x,y] us):∃u w',us = [u,w']/\RelV x u/\RelV y w':=by
 cases r with
 |cons r1 r2=>
  cases r2 with
  |cons r3 r4=>cases r4;exact⟨_,_,rfl,r1,r3⟩
theorem Zea:Z2l X (.type "int") (fun xs H Q=>(∃i,xs = [.int i]/\Q (.int i) H)∨∃k,xs = [.bl k]/\Q (.int (if k then 1 else 0)) H):=by
 intro pins s σ H xs us Q I r h
 rcases h with ⟨i,rfl,q⟩|⟨k,rfl,q⟩
 ·obtain⟨u,rfl,t,rfl⟩:=Z3p r
  exact call_int_int ⟨.int i,H,I,⟨_,rfl⟩,q⟩
 ·obtain⟨u,rfl,r1⟩:=Z3p r
  cases r1
  exact call_int_bool ⟨.int (if k then 1 else 0),H,I.tok _,⟨_,rfl⟩,q⟩
end
structure ObjM (h:Heap)(x dx C:Addr)(mA:Str->Option Value):Prop where
 obj:h.get? x=some (PySem.W.instObj C dx)
 ns:h.Ns1 dx mA
 ne:dx≠x
theorem Zeb {h:Heap}{dx:Addr}{mA:Str->Option Value}(n:h.Ns1 dx mA):∃od,h.get? dx=some od/\∀name,PySem.W.lookIn name od=some (mA name):=by
 obtain⟨o,es,ep,ho,hd,hk,_,hm⟩:=n
 refine⟨o,ho,fun name=>?_⟩
 have e:=hm name
 unfold nsFind findBy at e
 rw[<- Array.find?_toList] at e
 unfold PySem.W.lookIn
 rw[hd]
 dsimp only
 split
 ·rename_i y q
  rw[q] at e
  exact congrArg some e
 ·rename_i q
  rw[q] at e
  have a:es.toList.any (·.refKey)=false:=by
   rw[List.any_eq_false]
   intro y hy
   obtain⟨z,t,hkey⟩:=hk y (Array.mem_toList_iff.mp hy)
   simp [DictEntry.refKey,hkey]
  have a':¬es.toList.any (·.refKey)=true:=by rw[a];exact Bool.false_ne_true
  rw[if_neg a']
  exact congrArg some e
theorem ObjM.look {h:Heap}{x dx C:Addr}{mA:Str->Option Value}(I:ObjM h x dx C mA):∃od,PySem.W.InstAt h x (PySem.W.instObj C dx) C (some od)/\∀name,PySem.W.lookIn name od=some (mA name):=
 let ⟨od,ho,hl⟩:=Zeb I.ns
 ⟨od,⟨I.obj,rfl,rfl,ho⟩,hl⟩
theorem RelO.some_of {v:V}{o:Option Value}(r:RelO (some v) o):∃u,o=some u/\RelV v u:=by
 cases o with
 |none=>exact(show False from r).elim
 |some u=>exact⟨u,rfl,r⟩
section
variable {P:Program}{w:World}{H H':Hp}{h h':Heap}{a C dx:Addr}{fs fs':List (Str×V)}
theorem Zle (hok:HOk P w H h)(e:H a=some (.ins C dx fs)):∃mA,ObjM h a dx C mA/\(∀f,RelO (fs.lookup f) (mA f))/\PySem.Within mA (fs.map (·.1))/\fs.length<=1000/\H dx=some (.own a):=by
 obtain⟨d,z,ne,ob,mA,n,r,q⟩:=(show ObjOk P w H h a (.ins C dx fs) from hok a _ e)
 exact⟨mA,⟨ob,n,ne⟩,r,q,z,d⟩
end
structure Cls (K:W.Frag)(C:Addr):Prop where
 pg:PySem.W.plainGet K C Str.empty=true
 hd:PySem.W.hasDictIn K C=true
 po:PySem.W.plainOver K C=true
 sa:PySem.W.findIn K (.ref C) "__setattr__"=some (some (.builtin "object.__setattr__"))
theorem Cls.get {K:W.Frag}{C:Addr}(c:Cls K C)(f:Str):PySem.W.plainGet K C f=true:=c.pg
def Zv7 (X:Cx)(op:Operator)(rd:V->V->Hp->VK->Prop):Prop:=
 ∀(pins:List (Addr×Obj)) (s:Shared) (σ:St) (H:Hp) (x y:V) (u v:Value) (Q:VK),Inv X pins σ H s->RelV x u->RelV y v->rd x y H Q->wpAny (model X.prog X.w) X.A (inplaceOp op u v) (EP X pins σ Q) X.xe s
section
variable {X:Cx}{o e value:Expr}{f:Str}{pos pos' tpos:Pos}{ta tv:TE}
def rSub:V->V->Hp->VK->Prop:=fun x y H Q=>∃i j,x = .int i/\y = .int j/\Q (.int (i-j)) H
theorem Zps:Zv7 X .Sub rSub:=by
 rintro pins s σ H x y u v Q I rx ry ⟨i,j,rfl,rfl,q⟩
 obtain⟨t,rfl⟩:=(show ∃t,u=Value.int i t from rx)
 obtain⟨t',rfl⟩:=(show ∃t',v=Value.int j t' from ry)
 exact PyProof.Rows.isub_int ⟨.int (i-j),H,I.tok _,⟨_,rfl⟩,q⟩
end
section
variable {X:Cx}{pins:List (Addr×Obj)}{σ:St}{H:Hp}{s:Shared}{A:Around}{E:Value->Shared->Prop}{Q:Value->Shared->Prop}{c:Value}{b:Bool}
inductive TyOf (K:W.Frag)(H:Hp):V->Value->Prop where
 |non:TyOf K H .non (.type "NoneType")
 |bl (x:Bool):TyOf K H (.bl x) (.type "bool")
 |int (i:Int):TyOf K H (.int i) (.type "int")
 |str (x:Str):TyOf K H (.str x) (.type "str")
 |flt (x:UInt64):TyOf K H (.flt x) (.type "float")
 |lst {a:Addr} {xs:List V} (e:H a=some (.lst xs)):TyOf K H (.ref a) (.type "list")
 |frz {a:Addr} {o:Obj} {xs:List V} (e:H a=some (.frz o (.lst xs))):TyOf K H (.ref a) (.type "list")
 |tup {a:Addr} {xs:List V} (e:H a=some (.tup xs)):TyOf K H (.ref a) (.type "tuple")
 |dK {a:Addr} {kvs:List (Key×V)} (e:H a=some (.dK kvs)):TyOf K H (.ref a) (.type "dict")
 |dT {a:Addr} {kvs:List (List Key×V)} (e:H a=some (.dT kvs)):TyOf K H (.ref a) (.type "dict")
 |ins {a C dx:Addr} {fs:List (Str×V)} (e:H a=some (.ins C dx fs)) (cl:Cls K C) (ha:PySem.W.findIn K (.ref C) "__class__"=some (some (.builtin "object.__class__")))
   (hn:PySem.W.specialIn K (.builtin "object.__class__") "__get__"=some (some (.builtin "getset_descriptor.__get__"))) (htk:PySem.W.takesIn K (.builtin "object.__class__")=some true)
   (hm:PySem.W.mroIn K C (.type "object")=some true):TyOf K H (.ref a) (.ref C)
theorem Zec {x:V}{u t:Value}(I:Inv X pins σ H s)(rx:RelV x u)(ty:TyOf X.K H x t)(e:PySem.W.kitOne X.K t c=some b)(h:∀tk,Q (.bool b) { s with toks:=tk }):
  wpAny (model X.prog X.w) A (call (.builtin "isinstance") [u,c]) Q E s:=by
 cases ty with
 |non=>cases (show u=Value.none from rx);exact PySem.W.kia_one PySem.W.kitx_none I.kIn True.intro e (fun z=>nomatch z) h
 |bl y=>cases (show u=Value.bool y from rx);exact PySem.W.kia_one PySem.W.kitx_bool I.kIn True.intro e (fun z=>nomatch z) h
 |int i=>obtain⟨t,q⟩:=(show ∃t,u=Value.int i t from rx);cases q;exact PySem.W.kia_one PySem.W.kitx_int I.kIn True.intro e (fun z=>nomatch z) h
 |str y=>obtain⟨t,q⟩:=(show ∃t,u=Value.str y t from rx);cases q;exact PySem.W.kia_one PySem.W.kitx_str I.kIn True.intro e (fun z=>nomatch z) h
 |flt y=>obtain⟨t,q⟩:=(show ∃t,u=Value.float y t from rx);cases q;exact PySem.W.kia_one PySem.W.kitx_float I.kIn True.intro e (fun z=>nomatch z) h
 | @lst a xs ea=>
  cases (show u=Value.ref a from rx)
  obtain⟨_,_,n,_,h1⟩:=(show ObjOk X.prog X.w H s.heap a (.lst xs) from I.hok a _ ea)
  exact PySem.W.kia_one PySem.W.kitx_list I.kIn ⟨_,h1,rfl⟩ e (fun z=>nomatch z) h
 | @frz a ob xs ea=>
  cases (show u=Value.ref a from rx)
  obtain⟨_,_,_,n,_,h1⟩:=(show ObjOk X.prog X.w H s.heap a (.frz ob (.lst xs)) from I.hok a _ ea)
  exact PySem.W.kia_one PySem.W.kitx_list I.kIn ⟨_,h1,rfl⟩ e (fun z=>nomatch z) h
 | @tup a xs ea=>
  cases (show u=Value.ref a from rx)
  obtain⟨_,_,_,p⟩:=(show ObjOk X.prog X.w H s.heap a (.tup xs) from I.hok a _ ea)
  obtain⟨o,h1,h2,_⟩:=p
  exact PySem.W.kia_one PySem.W.kitx_tuple I.kIn ⟨o,h1,h2⟩ e (fun z=>nomatch z) h
 | @dK a kvs ea=>
  cases (show u=Value.ref a from rx)
  obtain⟨_,_,vs,_,p⟩:=(show ObjOk X.prog X.w H s.heap a (.dK kvs) from I.hok a _ ea)
  obtain⟨o,es,ep,h1,h2,_⟩:=p
  exact PySem.W.kia_one PySem.W.kitx_dict I.kIn ⟨o,h1,h2.1⟩ e (fun z=>nomatch z) h
 | @dT a kvs ea=>
  cases (show u=Value.ref a from rx)
  obtain⟨_,_,xs,_,o,es,ep,h1,h2,_⟩:=(show ObjOk X.prog X.w H s.heap a (.dT kvs) from I.hok a _ ea)
  exact PySem.W.kia_one PySem.W.kitx_dict I.kIn ⟨o,h1,h2.1⟩ e (fun z=>nomatch z) h
 | @ins a C dx fs ea cl ha hn htk hm=>
  cases (show u=Value.ref a from rx)
  obtain⟨mA,O,_⟩:=Zle I.hok ea
  obtain⟨od,J,_⟩:=O.look
  exact PySem.W.kia_one (PySem.W.kitx_own (cl.get _) cl.hd ha hn htk hm) I.kIn J e (fun z=>nomatch z) h
end
structure Room (k:Nat)(A:Around):Prop where
 hd:A.handled=none
 gd:A.guards=some []
 dp:A.depth+3*k+5<recursionLimit
 un:A.units+16*k+200<cLine
theorem Room.mono {j k:Nat}{A:Around}(r:Room k A)(h:j<=k):Room j A:=⟨r.hd,r.gd,by have:=r.dp;lia,by have:=r.un;lia⟩
theorem Room.deeper {k:Nat}{A:Around}(r:Room (k+1) A)(env:Env):Room k (A.deeper env):=
 ⟨r.hd,r.gd,by have:=r.dp;show A.depth+1+3*k+5<_;lia,by have:=r.un;show A.units+3+16*k+200<_;lia⟩
theorem Room.depth {k:Nat}{A:Around}(r:Room k A):A.depth<recursionLimit:=by have:=r.dp;lia
theorem Room.units {k:Nat}{A:Around}(r:Room k A):A.units+64<cLine:=by have:=r.un;lia
def tNil:TA:=fun _ H Q=>Q [] H
def Zcr (ta:TE)(tr:TA):TA:=fun σ H Q=>ta σ H fun x H1=>tr σ H1 fun xs H2=>Q (x::xs) H2
section
variable {X:Cx}{e:Expr}{es:List Expr}{te:TE}{t:TA}{pos:Pos}
theorem pa_nil:PA X [] tNil:=fun _ _ _ _ H Q I h=>Calls.spliced_nil ⟨[],H,I,.nil,h⟩
theorem Z20 (ha:PE X e te)(hr:PA X es t)(hs:starEach (e::es) X.env=(false,eval e X.env)::starEach es X.env:=by rfl):PA X (e::es) (Zcr te t):=by
 intro pos pins s σ H Q I h
 rw[hs]
 show wpAny _ _ (spliced ((false,eval e X.env)::backTo pos (starEach es X.env))) _ _ s
 refine Calls.spliced_cons (thn (ha pins s σ H _ I h) fun u s1 ⟨x,H1,I1,r1,q1⟩=>?_)
 exact thn (hr pos pins s1 σ H1 _ I1 q1) fun us s2 ⟨xs,H2,I2,r2,q2⟩=>⟨x::xs,H2,I2,.cons r1 r2,q2⟩
def Zwk (t:TA):TE:=fun σ H Q=>t σ H fun xs H1=>xs.length<=sizeLine/\∀p,H1 p=none->Q (.ref p) (upd H1 p (.tup xs))
def Zwl (t:TA):TE:=fun σ H Q=>t σ H fun xs H1=>xs.length<=sizeLine/\∀p,H1 p=none->Q (.ref p) (upd H1 p (.lst xs))
theorem Zpt {x1}(h:PA X es t):PE X (.Tuple es x1 pos) (Zwk t):=by
 intro pins s σ H Q I hq
 refine wpAny_Tuple_spliced (thn (h pos pins s σ H _ I hq) fun us s1 ⟨xs,H1,I1,r,z,q⟩=>⟨by rw[<- r.length];exact z,?_⟩)
 have hf:H1 s1.heap.objs.size=none:=I1.hok.fresh (Nat.le_refl _)
 refine⟨.ref s1.heap.objs.size,upd H1 s1.heap.objs.size (.tup xs),I1.laid (t':=s1.toks) (fun b u e=>Heap.get?_push_of_some _ e) (Nat.le_refl _) ?_,rfl,q _ hf⟩
 exact⟨z,us,r,⟨_,Heap.get?_push_size _ rfl,rfl,_,rfl,rfl⟩⟩
theorem Zpu (h:PA X es t):PE X (.List es pos) (Zwl t):=by
 intro pins s σ H Q I hq
 refine wpAny_List_spliced (thn (h pos pins s σ H _ I hq) fun us s1 ⟨xs,H1,I1,r,z,q⟩=>⟨by rw[<- r.length];exact z,?_⟩)
 have hf:H1 s1.heap.objs.size=none:=I1.hok.fresh (Nat.le_refl _)
 refine⟨.ref s1.heap.objs.size,upd H1 s1.heap.objs.size (.lst xs),I1.laid (t':=s1.toks) (fun b u e=>Heap.get?_push_of_some _ e) (Nat.le_refl _) ?_,rfl,q _ hf⟩
 exact⟨z,us,0,r,Heap.get?_push_size _ rfl⟩
end
abbrev Sp:=List V->Hp->VK->XK->Prop
abbrev CXT:=List Env->Hp->Shared->XK->Value->Shared->Prop
structure Env0 (P:Program)(w:World)(K:W.Frag)(mg:Str->Option Value)(base:Heap)(A:Around)(outer:List Env)(s:Shared)(H:Hp):Prop where
 frames:A.frames=some outer
 mod:Mod K mg base
 bs:∀b o,base.get? b=some o->s.heap.get? b=some o/\H b=none
 bsz:base.objs.size<=s.heap.objs.size
 funs:s.heap.FunFrames base outer
 frf:∀b∈frs outer,H b=none
 hok:HOk P w H s.heap
 bare:AllBare s.gens
def CE (outer:List Env)(P:Program)(w:World)(H:Hp)(s:Shared)(Q:VK)(u:Value)(s':Shared):Prop:=
 ∃v H',s'.os=s.os/\AllBare s'.gens/\Un (frs outer) [] H H' s.heap s'.heap/\HOk P w H' s'.heap/\RelV v u/\Q v H'
def CR (CX:CXT)(outer:List Env)(P:Program)(w:World)(H:Hp)(s:Shared)(Q:VK)(E:XK)(r:Result)(s':Shared):Prop:=
 match r with
 | .ok (.ret u)=>CE outer P w H s Q u s'
 | .ok _=>False
 | .error e=>CX outer H s E e s'
structure FnOk (P:Program)(w:World)(K:W.Frag)(mg:Str->Option Value)(base:Heap)(CX:CXT)(k:Nat)(f:Addr)(fd:FuncData)(ps:List Str)(sp:Sp):Prop where
 len:∀vs H Q E,sp vs H Q E->vs.length=ps.length
 run:∀(A:Around) (outer:List Env) (s:Shared) (H:Hp) (args:Args) (us:List Value) (vs:List V) (Q:VK) (E:XK),Room k A->Env0 P w K mg base A outer s H->BindsTo s fd args (ps.zip us)->Vals vs us->sp vs H Q E →
  codeAny (model P w) A (.call (.ref f) args) (CR CX outer P w H s Q E) s
theorem FnOk.mono {P:Program}{w:World}{K:W.Frag}{mg:Str->Option Value}{base:Heap}{CX:CXT}{j k:Nat}{f:Addr}{fd:FuncData}{ps:List Str}{sp:Sp}(F:FnOk P w K mg base CX j f fd ps sp)(h:j<=k):
  FnOk P w K mg base CX k f fd ps sp:=⟨F.len,fun A outer s H args us vs Q E hr=>F.run A outer s H args us vs Q E (hr.mono h)⟩
theorem FnOk.imp {P:Program}{w:World}{K:W.Frag}{mg:Str->Option Value}{base:Heap}{CX:CXT}{k:Nat}{f:Addr}{fd:FuncData}{ps:List Str}{sp sp':Sp}(F:FnOk P w K mg base CX k f fd ps sp)
  (h:∀vs H Q E,sp' vs H Q E->sp vs H Q E):FnOk P w K mg base CX k f fd ps sp':=
 ⟨fun vs H Q E q=>F.len vs H Q E (h _ _ _ _ q),fun A outer s H args us vs Q E hr he hb hv hs=>F.run A outer s H args us vs Q E hr he hb hv (h _ _ _ _ hs)⟩
section
variable {X:Cx}{pins:List (Addr×Obj)}{σ:St}{H:Hp}{s s':Shared}
theorem Inv.env0 (I:Inv X pins σ H s):Env0 X.prog X.w X.K X.mg X.base X.A X.stack s H:=
 ⟨I.ok.frames,I.ok.mod,I.bs,Nat.le_trans I.ok.bsz I.sz,I.stack,I.stkFree,I.hok,I.bare⟩
theorem Inv.after {Q:VK}{u:Value}(I:Inv X pins σ H s)(h:CE X.stack X.prog X.w H s Q u s'):EP X pins σ Q u s':=by
 obtain⟨v,H',os,bare,un,hok,r,q⟩:=h
 obtain⟨hh,g,d,t,os'⟩:=s'
 obtain rfl:os'=s.os:=os
 exact⟨v,H',I.call (h':=hh) (g':=g) (d':=d) (t':=t) (ch:=[]) un hok bare (fun b z=>absurd z (by simp)),r,q⟩
end
def Zlf (sp:Sp)(dvs:List V)(E:XK)(t:TA):TE:=fun σ H Q=>t σ H fun vs H1=>sp (vs++dvs) H1 Q E
def Binds (K:W.Frag)(fd:FuncData)(ps:List Str)(ds:List Value):Prop:=
 ∀(s:Shared) (us:List Value),K.In s.heap->(us++ds).length=ps.length->BindsTo s fd ⟨us,[]⟩ (ps.zip (us++ds))
theorem Binds.all {K:W.Frag}{fd:FuncData}{ps:List Str}(h:∀us:List Value,us.length=ps.length->bindArgs fd ⟨us,[]⟩=pure (ps.zip us)):Binds K fd ps []:=fun s us _ hl=>by
 rw[append_nil] at hl ⊢
 exact .of_eq (h us hl)
def Zbf (CX:CXT)(X:Cx)(E:XK):Prop:=∀(pins:List (Addr×Obj)) (σ:St) (H:Hp) (s:Shared) (e:Value) (s':Shared),Inv X pins σ H s->CX X.stack H s E e s'->X.xe e s'
section
variable {X:Cx}{CX:CXT}{k:Nat}{f C:Addr}{fd:FuncData}{ps:List Str}{sp:Sp}{dvs:List V}{ds:List Value}{E:XK}{x m:Str}{p pos apos:Pos}{e o:Expr}{es:List Expr}{ta:TE}{t:TA}
theorem Zkd {pins:List (Addr×Obj)}{σ:St}{H:Hp}{s:Shared}{Q:VK}{us:List Value}{vs:List V}(F:FnOk X.prog X.w X.K X.mg X.base CX k f fd ps sp)(hr:Room k X.A)(hb:Binds X.K fd ps ds)(hd:Vals dvs ds)(hx:Zbf CX X E)
  (I:Inv X pins σ H s) (r:Vals vs us) (h:sp (vs++dvs) H Q E):wpAny (model X.prog X.w) X.A (call (.ref f) us) (EP X pins σ Q) X.xe s:=by
 have r2:Vals (vs++dvs) (us++ds):=r.append hd
 have hl:(us++ds).length=ps.length:=by rw[<- r2.length];exact F.len _ _ _ _ h
 refine wpAny_call (codeAny_mono (F.run X.A X.stack s H ⟨us,[]⟩ (us++ds) (vs++dvs) Q E hr I.env0 (hb s us I.kIn hl) r2 h) fun r s' hq=>?_)
 cases r with
 |error e=>exact hx pins σ H s e s' I hq
 |ok fl=>
  cases fl with
  |ret u=>exact I.after hq
  |next=>exact False.elim hq
  |brk=>exact False.elim hq
  |cont=>exact False.elim hq
theorem Zlg (F:FnOk X.prog X.w X.K X.mg X.base CX k f fd ps sp)(hr:Room k X.A)(hg:Gl X x)(hm:X.mg x=some (.ref f))(hk:PySem.W.keepIn X.K (.ref f)=true)(hb:Binds X.K fd ps ds)(hd:Vals dvs ds)(hx:Zbf CX X E)
  (ha:PA X (e::es) t) (hdb:(x==("__debug__":Str))=false:=by decide) (he:starEach (e::es) X.env=(false,eval e X.env)::starEach es X.env:=by rfl) (hpl:(backTo pos (starEach es X.env)).any (·.1)=false:=by rfl):
  PE X (.Call (.Name x p) (e::es) [] pos) (Zlf sp dvs E t):=by
 intro pins s σ H Q I h
 refine wpAny_Call_Name_kw (Ze0 I hg hm ?_ hdb)
 refine PySem.W.callWith_K (h₀:=X.base) I.ok.mod.kin hk (thn (ha pos pins s σ H _ I h) fun us s1 ⟨vs,H1,I1,r,q⟩=>⟨I1.kIn,?_⟩) he hpl
 exact Zkd F hr hb hd hx I1 r q
end
structure FnScope (N P:List Str)(sc:Scope):Prop where
 kind:sc.kind = .function
 co:sc.isCoroutine=false
 gen:sc.isGenerator=false
 nd:N.Nodup
 pre:N.take P.length=P
 par:∀x∈P,sc.names.lookup x=some .local∨sc.names.lookup x=some .cell
 nofree:∀y∈sc.names,y.2 ≠ .free
theorem Z8n {kindOf:Str->Option NameKind}{x:Str}:∀{binds:List (Str×Value)} {m:Str->Option Value},(∀v,(x,v)∉binds)->bindL kindOf binds m x=m x
 |[],_,_=>rfl
 | (n,v)::r,m,h=>by
  unfold bindL
  rw[Z8n fun w hw=>h w (mem_cons_of_mem _ hw)]
  split
  ·have:x≠n:=by rintro rfl;exact h v mem_cons_self
   simp [this]
  ·rfl
theorem Z8o {kindOf:Str->Option NameKind}{x:Str}:∀{binds:List (Str×Value)} {m:Str->Option Value},(∀v,(x,v)∉binds)->bindC kindOf binds m x=m x
 |[],_,_=>rfl
 | (n,v)::r,m,h=>by
  unfold bindC
  rw[Z8o fun w hw=>h w (mem_cons_of_mem _ hw)]
  split
  ·rfl
  ·have:x≠n:=by rintro rfl;exact h v mem_cons_self
   simp [this]
theorem Z8p {kindOf:Str->Option NameKind}{x:Str}{v:Value}:∀{P:List Str} {vs:List Value} {i:Nat} {m:Str->Option Value},P.Nodup->P[i]? = some x->vs[i]? = some v->kindOf x=some .local →
  bindL kindOf (P.zip vs) m x=some v
 |[],_,_,_,_,h,_,_=>by simp at h
 |_::_,[],_,_,_,_,h,_=>by simp at h
 |p::P,w::vs,0,m,nd,h1,h2,hk=>by
  simp at h1 h2;subst h1;subst h2
  show bindL kindOf ((p,w)::P.zip vs) m p=_
  unfold bindL
  rw[Z8n fun v hv=>(nodup_cons.mp nd).1 (of_mem_zip hv).1,if_pos hk]
  simp
 |p::P,w::vs,i+1,m,nd,h1,h2,hk=>by
  show bindL kindOf ((p,w)::P.zip vs) m x=_
  unfold bindL
  exact Z8p (i:=i) (nodup_cons.mp nd).2 (by simpa using h1) (by simpa using h2) hk
theorem Z8q {kindOf:Str->Option NameKind}{x:Str}{v:Value}:∀{P:List Str} {vs:List Value} {i:Nat} {m:Str->Option Value},P.Nodup->P[i]? = some x->vs[i]? = some v->kindOf x≠some .local →
  bindC kindOf (P.zip vs) m x=some v
 |[],_,_,_,_,h,_,_=>by simp at h
 |_::_,[],_,_,_,_,h,_=>by simp at h
 |p::P,w::vs,0,m,nd,h1,h2,hk=>by
  simp at h1 h2;subst h1;subst h2
  show bindC kindOf ((p,w)::P.zip vs) m p=_
  unfold bindC
  rw[Z8o fun v hv=>(nodup_cons.mp nd).1 (of_mem_zip hv).1,if_neg hk]
  simp
 |p::P,w::vs,i+1,m,nd,h1,h2,hk=>by
  show bindC kindOf ((p,w)::P.zip vs) m x=_
  unfold bindC
  exact Z8q (i:=i) (nodup_cons.mp nd).2 (by simpa using h1) (by simpa using h2) hk
def Z2m (N:List Str)(vs:List V):St:=vs.map some++List.replicate (N.length-vs.length) none
def Zlh (CX:CXT)(P:Program)(w:World)(K:W.Frag)(mg:Str->Option Value)(base:Heap)(N:List Str)(qual:Str)(scope:Scope)(f:Addr)(cd:Value)(A:Around)(outer:List Env)(s:Shared)(H:Hp)(E:XK):Cx where
 prog:=P
 w:=w
 K:=K
 mg:=mg
 base:=base
 A:=A.deeper (envOfC qual scope s.heap.objs.size f cd)
 N:=N
 s₀:=s
 H₀:=H
 env:=envOfC qual scope s.heap.objs.size f cd
 outer:=outer
 stack:=envOfC qual scope s.heap.objs.size f cd::outer
 ex:=[]
 calm:=true
 fn:=fun _=>true
 pn:=[]
 xe:=fun e s'=>wpAny (model P w) (A.deeper (envOfC qual scope s.heap.objs.size f cd)) (leaving (envOfC qual scope s.heap.objs.size f cd) e) (fun _ s''=>CX outer H s E e s'') (fun e' s''=>CX outer H s E e' s'') s'
theorem Zbg {sc:Scope}{n:Nat}{x:Str}(h:sc.names.lookup x=some .cell):∃c,(cellsFrom n sc.names []).lookup x=some c:=by
 have q:=PySem.W.cellsFrom_some sc.names n [] (.inl h)
 exact Option.isSome_iff_exists.mp q
theorem Zed {CX:CXT}{P:Program}{w:World}{K:W.Frag}{mg:Str->Option Value}{base:Heap}{N ps:List Str}{qual:Str}{scope:Scope}{f:Addr}{cd:Value}{A:Around}{outer:List Env}{s s1:Shared}{H:Hp}{E:XK}{us:List Value}{vs:List V}
  (S:FnScope N ps scope) (hd:A.handled=none) (e0:Env0 P w K mg base A outer s H) (hl:vs.length=ps.length) (r:Vals vs us)
  (x:InCallC s s.heap.objs.size (bindL (envOfC qual scope s.heap.objs.size f cd).kindOf (ps.zip us) fun _=>none) (cellsFrom (s.heap.objs.size+1) scope.names []) (bindC (envOfC qual scope s.heap.objs.size f cd).kindOf (ps.zip us) fun _=>none) s1):
  Inv (Zlh CX P w K mg base N qual scope f cd A outer s H E) [] (Z2m N vs) H s1:=by
 have hpl:ps.length<=N.length:=by have:=congrArg List.length S.pre;rw[length_take] at this;lia
 obtain⟨h1,tk,rfl,hk⟩:=x.done
 have noA:∀b:Addr,b∉(Zlh CX P w K mg base N qual scope f cd A outer s H E).ex:=fun b z=>absurd (show b∈([]:List Addr) from z) (by simp)
 refine⟨⟨e0.mod,S.kind,rfl,rfl,Nat.le_refl _,fun y z c h1 h2=>?_,fun y hy=>?_,fun y c _ h=>?_,fun _=>hd,Around.frames_deeper e0.frames,.inr ⟨rfl,rfl⟩,fun b z=>absurd z (noA b),e0.bs,e0.bsz,fun b _ _=>noA b,fun b z=>absurd z (noA b),e0.funs,e0.frf⟩,
  rfl,e0.bare,Un.kept hk,⟨_,x.toInCall.ns,fun i y v h1 h2 h3=>?_⟩,fun y c h=>⟨_,x.cell y c h⟩,e0.hok.fresh (Nat.le_refl _),fun y c h=>?_,fun p hp=>absurd (show p∈([]:List (Addr×Obj)) from hp) (by simp),e0.hok.kept hk,?_⟩
 ·exact name_of_addr x.apart (PySem.mem_of_lookup h1) (PySem.mem_of_lookup h2)
 ·have hy:scope.names.lookup y=some .cell∨scope.names.lookup y=some .free:=hy
  rcases hy with hy|hy
  ·exact Zbg hy
  ·exact absurd rfl (S.nofree _ (PySem.mem_of_lookup hy))
 ·exact Nat.le_of_lt (x.above y c (PySem.mem_of_lookup h))
 ·have hi:i<vs.length:=by
   unfold Z2m at h2
   by_cases hi:i<vs.length
   ·exact hi
   ·rw[List.getElem?_append_right (by simpa using hi)] at h2
    rw[List.getElem?_replicate] at h2
    split at h2 <;> cases h2
  have ha:vs[i]? = some v:=by
   unfold Z2m at h2
   rw[List.getElem?_append_left (by simpa using hi),List.getElem?_map] at h2
   cases e:vs[i]? with
   |none=>rw[e] at h2;cases h2
   |some a=>rw[e] at h2;cases h2;rfl
  obtain⟨u,hu,rv⟩:=r.get ha
  have hp:ps[i]? = some y:=by
   rw[<- S.pre,List.getElem?_take_of_lt (by lia)];exact h1
  have ndP:ps.Nodup:=by rw[<- S.pre];exact S.nd.sublist (take_sublist _ _)
  refine⟨u,rv,?_⟩
  rcases S.par y (mem_of_getElem? hp) with k|k
  ·exact .inl ⟨k,Z8p ndP hp hu k⟩
  ·obtain⟨c,e⟩:=Zbg (n:=s.heap.objs.size+1) k
   refine .inr ⟨.inl k,c,e,?_⟩
   have q:=x.cell y c e
   rw[Z8q ndP hp hu (by show scope.names.lookup y≠_;rw[k];decide)] at q
   exact q
 ·exact e0.hok.fresh (Nat.le_of_lt (x.above y c (PySem.mem_of_lookup h)))
 ·unfold Z2m
  show _=N.length
  rw[length_append,length_map,length_replicate]
  lia
theorem Ztg {CX:CXT}{P:Program}{w:World}{K:W.Frag}{mg:Str->Option Value}{base:Heap}{k:Nat}{f:Addr}{name qual:Str}{params:Arguments}{body:List Stmt}{scope:Scope}{dV kV doc pm cdv ct oc:Value}{an od:Option Addr}
  {osl:Array (Option Value)} {N ps:List Str} {sp:Sp} (lk:K.lookup f=some ⟨oc,od,.func (PySem.W.fnOf name qual params body scope dV kV doc pm an cdv ct),osl⟩) (hcd:PySem.W.codeIn K cdv qual=true) (S:FnScope N ps scope)
  (len:∀vs H Q E,sp vs H Q E->vs.length=ps.length)
  (hbody:∀(A:Around) (outer:List Env) (s:Shared) (H:Hp) (vs:List V) (Q:VK) (E:XK),Room k (A.deeper (envOfC qual scope s.heap.objs.size f cdv))->sp vs H Q E →
   ∃t,PSs (Zlh CX P w K mg base N qual scope f cdv A outer s H E) body t/\t { nx:=fun _ H'=>Q .non H',rt:=Q } (Z2m N vs) H):
  FnOk P w K mg base CX (k+1) f (PySem.W.fnOf name qual params body scope dV kV doc pm an cdv ct) ps sp:=by
 refine⟨len,fun A outer s H args us vs Q E hr e0 hb r hsp=>?_⟩
 have hl:=len _ _ _ _ hsp
 have KX:K.In s.heap:=e0.mod.kin.keeps fun b o e=>(e0.bs b o e).1
 have lim:s.heap.NoLimit:=e0.mod.nolimit.keeps fun b o e=>(e0.bs b o e).1
 have hkind:∀y∈ps.zip us,scope.names.lookup y.1=some .local∨(scope.names.lookup y.1=some .cell/\((cellsFrom (s.heap.objs.size+1) scope.names []).lookup y.1).isSome=true):=fun⟨n,v⟩ hy=>by
  rcases S.par n (of_mem_zip hy).1 with q|q
  ·exact .inl q
  ·exact .inr ⟨q,PySem.W.cellsFrom_some _ _ _ (.inl q)⟩
 refine codeAny_call_function hr.depth (KX _ _ lk) rfl S.co S.gen rfl (PySem.W.codeRec_of KX hcd) (hb _ _ _ _ ?_)
 refine wpAny_newFunctionEnv_cells S.kind hkind fun env he s1 x=>?_
 subst he
 refine⟨lim.keeps x.toInCall.keep,codeAny_func ?_⟩
 obtain⟨t,ht,hq⟩:=hbody A outer s H vs Q E (hr.deeper _) hsp
 have I:Inv (Zlh CX P w K mg base N qual scope f cdv A outer s H E) [] (Z2m N vs) H s1:=Zed S hr.hd e0 hl r x
 refine wpAny_mono (ht [] s1 (Z2m N vs) H _ I hq) (fun fl s' hs=>?_) fun e s' hs=>hs
 have fin:∀{σ':St} {H':Hp} {v:V} {u:Value},Inv (Zlh CX P w K mg base N qual scope f cdv A outer s H E) [] σ' H' s'->RelV v u->Q v H'->CE outer P w H s Q u s':=
  fun {σ' H' v u} J rv q=>⟨v,H',J.os,J.bare,J.base,J.hok,rv,q⟩
 cases fl with
 |ret u=>
  obtain⟨v,σ',H',J,rv,q⟩:=hs
  exact fin J rv q
 |next=>
  obtain⟨σ',H',J,q⟩:=hs
  exact fin (v:=V.non) (u:=Value.none) J rfl q
 |brk=>
  obtain⟨_,_,_,q⟩:=hs
  exact False.elim q
 |cont=>
  obtain⟨_,_,_,q⟩:=hs
  exact False.elim q
section
variable {X:Cx}{x:Str}{p pos:Pos}{e:Expr}{es:List Expr}{t:TA}{id T:String}{r:List V->Hp->VK->Prop}
def tCB (r:List V->Hp->VK->Prop)(t:TA):TE:=fun σ H Q=>t σ H fun vs H1=>r vs H1 Q
theorem Z2g (hc:Z2l X (.builtin id) r)(hg:Gl X x)(hm:X.mg x=none)(hv:bootBuiltins x=some (.builtin id))(ha:PA X (e::es) t)(hn:x≠"__name__":=by decide)(hdb:(x==("__debug__":Str))=false:=by decide)
  (he:starEach (e::es) X.env=(false,eval e X.env)::starEach es X.env:=by rfl) (hpl:(backTo pos (starEach es X.env)).any (·.1)=false:=by rfl):PE X (.Call (.Name x p) (e::es) [] pos) (tCB r t):=by
 intro pins s σ H Q I h
 refine wpAny_Call_Name_kw (Zbc I hg hm hv ?_ hn hdb)
 exact PyProof.Rows.callWith_builtin1 (thn (ha pos pins s σ H _ I h) fun us s1 ⟨vs,H1,I1,r1,q1⟩=>hc pins s1 σ H1 vs us Q I1 r1 q1) he hpl
theorem Z21 (hc:Z2l X (.type T) r)(hg:Gl X x)(hm:X.mg x=none)(hv:bootBuiltins x=some (.type T))(ha:PA X (e::es) t)(hn:x≠"__name__":=by decide)(hdb:(x==("__debug__":Str))=false:=by decide)
  (he:starEach (e::es) X.env=(false,eval e X.env)::starEach es X.env:=by rfl) (hpl:(backTo pos (starEach es X.env)).any (·.1)=false:=by rfl):PE X (.Call (.Name x p) (e::es) [] pos) (tCB r t):=by
 intro pins s σ H Q I h
 refine wpAny_Call_Name_kw (Zbc I hg hm hv ?_ hn hdb)
 exact PyProof.Rows.callWith_type1 (thn (ha pos pins s σ H _ I h) fun us s1 ⟨vs,H1,I1,r1,q1⟩=>hc pins s1 σ H1 vs us Q I1 r1 q1) he hpl
end
end L2
namespace HT
open PySem PyProof.Rows
section
variable {prog:Program}{w:World}{A:Around}{E:Value->Shared->Prop}{s:Shared}
theorem cat_tup {t b:Addr}{vs ws:List Value}{Q:Value->Shared->Prop}(ht:IsTup s.heap t vs.toArray)(hb:IsTup s.heap b ws.toArray)(hv:vs ≠ [])
  (h1:ws = []->Q (.ref t) s) (h2:ws ≠ []->Q (.ref s.heap.objs.size) { s with heap:=s.heap.push { cls:=.type "tuple",data:=.seq (vs++ws).toArray } })
  (hsz:vs.length+ws.length<=sizeLine):wpAny (model prog w) A (binaryOp .Add (.ref t) (.ref b)) Q E s:=by
 obtain⟨⟨cls,dd,data,sl⟩,ho,hc,n,hd⟩:=id ht
 obtain⟨⟨cls2,dd2,data2,sl2⟩,ho2,hc2,n2,hd2⟩:=id hb
 simp only at hc hd hc2 hd2
 subst hc hd hc2 hd2
 have e:vs.toArray++ws.toArray=(vs++ws).toArray:=by simp
 by_cases hw:ws = []
 ·exact concat_meets ⟨_,ho,rfl⟩ ⟨_,ho2,rfl⟩ noFill_tuple_add seq_tuple_add PySem.F.slot_tuple_add PySem.F.entry_tuple_add (PySem.F.args_tuple_add_2 _ _)
   (tuple_addW1 t b vs.toArray ws.toArray n n2 dd dd2 sl sl2 (by simpa using hv) (by simp [hw])) ⟨ho,ho2,h1 hw⟩
 ·refine concat_meets ⟨_,ho,rfl⟩ ⟨_,ho2,rfl⟩ noFill_tuple_add seq_tuple_add PySem.F.slot_tuple_add PySem.F.entry_tuple_add (PySem.F.args_tuple_add_2 _ _)
   (tuple_addW2 t b vs.toArray ws.toArray n n2 dd dd2 sl sl2 (by simpa using hv) (by simpa using hw) (by rw[size_toArray,size_toArray];exact hsz)) ⟨ho,ho2,?_⟩
  rw[e]
  exact h2 hw
def sIx (n d:Nat):Option Int->Nat
 |none=>d
 |some v=>if v<0 then (v+(n:Int)).toNat else min v.toNat n
theorem sIx_nat (n d k:Nat):sIx n d (some (k:Int))=min k n:=by
 show(if (k:Int)<0 then ((k:Int)+(n:Int)).toNat else min (k:Int).toNat n)=min k n
 rw[if_neg (by lia),Int.toNat_natCast]
theorem Zpv (n d:Nat)(hd:d<=n)(o:Option Int):sIx n d o<=n:=by
 cases o with
 |none=>exact hd
 |some v=>
  show(if v<0 then (v+(n:Int)).toNat else min v.toNat n)<=n
  by_cases hv:v<0
  ·rw[if_pos hv];lia
  ·rw[if_neg hv];exact Nat.min_le_right _ _
theorem Zee (v:Int)(n d:Nat):(if v<0 then max (v+(n:Int)) 0 else min v (n:Int))=((sIx n d (some v):Nat):Int):=by
 show(if v<0 then max (v+(n:Int)) 0 else min v (n:Int))=(((if v<0 then (v+(n:Int)).toNat else min v.toNat n):Nat):Int)
 by_cases hv:v<0
 ·simp only [if_pos hv];lia
 ·simp only [if_neg hv];lia
theorem Zcs (lo hi:Option Int)(n:Nat):Builtin.Slice.sliceAdjust lo hi 1 (n:Int)=(((sIx n 0 lo:Nat):Int),((sIx n n hi:Nat):Int)):=by
 have h1:¬ ((1:Int)<0):=by lia
 unfold Builtin.Slice.sliceAdjust
 simp only [h1,if_false]
 refine Prod.ext ?_ ?_
 ·cases lo with
  |none=>rfl
  |some v=>exact Zee v n 0
 ·cases hi with
  |none=>rfl
  |some v=>exact Zee v n n
theorem Zct (i j:Nat):Builtin.Slice.slicePlaces (i:Int) (j:Int) 1=j-i:=by
 unfold Builtin.Slice.slicePlaces
 have h1:(1:Int)>0:=by lia
 simp only [h1,if_true,Int.ediv_one]
 split <;> lia
theorem Z6k {v:Value}{o:Option Int}{Q:Option Int->Shared->Prop}(p:IsPart v o)(h:Q o s):wpAny (model prog w) A (Builtin.Slice.slicePartIndex v) Q E s:=by
 cases p with
 |none=>exact slicePart_none h
 |int i t=>exact slicePart_int h
theorem Z1y {sl:Addr}{vl vu:Value}{lo hi:Option Int}{n:Nat}{Q:Int×Int×Nat->Shared->Prop}(hs:s.heap.IsSliceOf sl vl vu .none)(pl:IsPart vl lo)(pu:IsPart vu hi)
  (h:Q (((sIx n 0 lo:Nat):Int),1,sIx n n hi-sIx n 0 lo) s):wpAny (model prog w) A (Builtin.Slice.sliceApplied (.ref sl) (pure (n:Int))) Q E s:=by
 obtain⟨os,hos,hcs,hds⟩:=id hs
 unfold Builtin.Slice.sliceApplied Builtin.Slice.sliceFields
 refine wpAny_bind (wpAny_bind (wpAny_field hos hds (x:=vl) rfl (wpAny_bind (wpAny_field hos hds (x:=vu) rfl (wpAny_bind (wpAny_field hos hds (x:=.none) rfl (wpAny_pure ?_)))))))
 refine wpAny_bind (slicePart_none ?_)
 show wpAny _ _ (if ((1:Int)==0)=true then _ else _) _ _ s
 rw[if_neg (by decide)]
 refine wpAny_bind (Z6k pl (wpAny_bind (Z6k pu (wpAny_bind (wpAny_pure ?_)))))
 show wpAny _ _ (match Builtin.Slice.sliceAdjust lo hi 1 (n:Int) with | (lo,hi)=>pure (lo,(1:Int),Builtin.Slice.slicePlaces lo hi 1)) _ _ s
 rw[Zcs lo hi n]
 show wpAny _ _ (pure (((sIx n 0 lo:Nat):Int),(1:Int),Builtin.Slice.slicePlaces ((sIx n 0 lo:Nat):Int) ((sIx n n hi:Nat):Int) 1)) _ _ s
 rw[Zct]
 exact wpAny_pure h
theorem Zhv (xs:Array Value)(i k:Nat):((List.range k).filterMap fun(m:Nat)=>xs[((i:Int)+(m:Int)*1).toNat]?).toArray=((xs.toList.drop i).take k).toArray:=by
 have e:(fun(m:Nat)=>xs[((i:Int)+(m:Int)*1).toNat]?)=fun m=>xs[i+m]? := by
  funext m
  have:((i:Int)+(m:Int)*1).toNat=i+m:=by lia
  rw[this]
 rw[e]
 have:=pick_run xs i k
 rw[List.filterMap_map] at this
 have e2:((fun x=>xs[x]?)∘fun x=>i+x)=fun m=>xs[i+m]? := rfl
 rw[e2] at this
 rw[this]
theorem getItem_tuple_cut {t sl:Addr}{items:Array Value}{vl vu:Value}{lo hi:Option Int}{Q:Value->Shared->Prop}(ht:IsTup s.heap t items)(hs:s.heap.IsSliceOf sl vl vu .none)(pl:IsPart vl lo)(pu:IsPart vu hi)
  (hw:¬ (sIx items.size 0 lo=0/\sIx items.size items.size hi=items.size))
  (h:Q (.ref s.heap.objs.size) { s with heap:=s.heap.push { cls:=.type "tuple",data:=.seq ((items.toList.drop (sIx items.size 0 lo)).take (sIx items.size items.size hi-sIx items.size 0 lo)).toArray } })
  (hsz:items.size<=sizeLine):wpAny (model prog w) A (getItem (.ref t) (.ref sl)) Q E s:=by
 have htake:sizeOk (.seq ((items.toList.drop (sIx items.size 0 lo)).take (sIx items.size items.size hi-sIx items.size 0 lo)).toArray):=by
  show((items.toList.drop (sIx items.size 0 lo)).take (sIx items.size items.size hi-sIx items.size 0 lo)).toArray.size<=sizeLine
  rw[size_toArray,length_take,length_drop,Array.length_toList]
  lia
 have hj:sIx items.size items.size hi<=items.size:=Zpv _ _ (Nat.le_refl _) hi
 obtain⟨os,hos,hcs,hds⟩:=id hs
 have hTs:s.TypeIs (.ref sl) "slice":=⟨os,hos,hcs⟩
 unfold getItem
 try with_reducible refine wpAny_holding ?_
 first|refine wpAny_bind (wpAny_pure ?_)|skip
 refine wpAny_bind (wpAny_sequenceKey ht.typeIs (by decide) ?_)
 refine wpAny_bind (wpAny_callSpecial?_slot (name:=Str.ofString "__getitem__") ht.typeIs PyProof.Rows.slot_tuple_getitem
  (wpAny_call_entry PyProof.Rows.slot_tuple_getitem ht.typeIs entry_tuple_getitem ?_ (args_tuple_getitem _ _)))
 show wpAny _ _ (Builtin.Tuple.tupleItemsOf (.ref t) >>= _) _ _ s
 refine wpAny_bind (tupleItemsOf_ ht ?_)
 refine wpAny_bind (wpAny_typeOf hTs ?_)
 rw[if_pos (by decide)]
 refine wpAny_bind (Z1y hs pl pu ?_)
 have hno:¬ ((((sIx items.size 0 lo:Nat):Int)==0&&(1:Int)==1&&(sIx items.size items.size hi-sIx items.size 0 lo)==items.size)=true):=by
  intro q
  rw[Bool.and_eq_true,Bool.and_eq_true] at q
  have q1:((sIx items.size 0 lo:Nat):Int)=0:=eq_of_beq q.1.1
  have q2:sIx items.size items.size hi-sIx items.size 0 lo=items.size:=eq_of_beq q.2
  exact hw ⟨by lia,by lia⟩
 show wpAny _ _ (if (((sIx items.size 0 lo:Nat):Int)==0&&(1:Int)==1&&(sIx items.size items.size hi-sIx items.size 0 lo)==items.size)=true then _ else _) _ _ s
 rw[if_neg hno,Zhv]
 first
  |exact wpAny_bind (m:=Builtin.Tuple.tupleExact _) (wpAny_newObj_type (wpAny_pure ⟨_,rfl,wpAny_pure h⟩) htake)
  |exact wpAny_bind (m:=Builtin.Tuple.tupleExact _) (wpAny_newObj_type (wpAny_bind (wpAny_pure (wpAny_pure ⟨_,rfl,wpAny_pure h⟩))) htake)
  |exact wpAny_bind (wpAny_bind (m:=Builtin.Tuple.tupleExact _) (wpAny_newObj_type (wpAny_pure (wpAny_pure ⟨_,rfl,wpAny_pure h⟩)) htake))
  |exact wpAny_bind (wpAny_bind (m:=Builtin.Tuple.tupleExact _) (wpAny_newObj_type (wpAny_pure ⟨_,rfl,wpAny_pure h⟩) htake))
end
end HT
namespace L2
open PySem PySem.Spec PyProof.Rows
abbrev TO:=St->Hp->(Option Int->Hp->Prop)->Prop
def PO (X:Cx)(e:Option Expr)(t:TO):Prop:=
 ∀(pins:List (Addr×Obj)) (s:Shared) (σ:St) (H:Hp) (Q:Option Int->Hp->Prop),Inv X pins σ H s->t σ H Q →
  wpAny (model X.prog X.w) X.A (evalPart e X.env) (fun u s'=>∃o H',Inv X pins σ H' s'/\IsPart u o/\Q o H') X.xe s
def tNoPart:TO:=fun _ H Q=>Q none H
def Zth (t:TE):TO:=fun σ H Q=>t σ H fun x H1=>∃i,x = .int i/\Q (some i) H1
theorem Zcu {ns:List Int}:∀{us:List Value},Vals (ns.map V.int) us->IntsAre us ns:=by
 induction ns with
 |nil=>intro us r;rw[map_nil] at r;cases r;exact .nil
 |cons n ns ih=>
  intro us r
  rw[map_cons] at r
  cases r with
  |cons r1 r2=>
   obtain⟨t,e⟩:=r1
   subst e
   exact .cons n t (ih r2)
section
variable {X:Cx}{e:Expr}{te:TE}{lo hi:Option Expr}{tl th:TO}{pos p2:Pos}
theorem po_none:PO X none tNoPart:=by
 intro pins s σ H Q I h
 rw[evalPart_none]
 exact wpAny_pure ⟨none,H,I,.none,h⟩
theorem Zli (h:PE X e te):PO X (some e) (Zth te):=by
 intro pins s σ H Q I hw
 rw[evalPart_some]
 refine thn (h pins s σ H _ I hw) fun u s1 ⟨x,H1,I1,r1,q1⟩=>?_
 obtain⟨i,rfl,q⟩:=q1
 obtain⟨t,rfl⟩:=r1
 exact⟨some i,H1,I1,.int i t,q⟩
def SlR (X:Cx)(r:V->Option Int->Option Int->Hp->VK->Prop):Prop:=
 ∀(pins:List (Addr×Obj)) (s:Shared) (σ:St) (H:Hp) (x:V) (v vl vu:Value) (lo hi:Option Int) (sl:Addr) (Q:VK),Inv X pins σ H s->RelV x v->s.heap.IsSliceOf sl vl vu .none->IsPart vl lo->IsPart vu hi->r x lo hi H Q →
  ∃T id,typeLookup (.type T) "__getitem__"=pure (some (.builtin id))/\s.TypeIs v T/\wpAny (model X.prog X.w) X.A (getItem v (.ref sl)) (EP X pins σ Q) X.xe s
theorem SlR.or {r r':V->Option Int->Option Int->Hp->VK->Prop}(h:SlR X r)(h':SlR X r'):SlR X (fun x lo hi H Q=>r x lo hi H Q∨r' x lo hi H Q):=by
 intro pins s σ H x v vl vu lo hi sl Q I rx hs pl pu q
 rcases q with q|q
 ·exact h pins s σ H x v vl vu lo hi sl Q I rx hs pl pu q
 ·exact h' pins s σ H x v vl vu lo hi sl Q I rx hs pl pu q
def tSl (r:V->Option Int->Option Int->Hp->VK->Prop)(te:TE)(tl th:TO):TE:=fun σ H Q=>te σ H fun x H1=>tl σ H1 fun l H2=>th σ H2 fun u H3=>r x l u H3 Q
theorem Zhw {r:V->Option Int->Option Int->Hp->VK->Prop}(hr:SlR X r)(he:PE X e te)(hl:PO X lo tl)(hu:PO X hi th):PE X (.Subscript e (.Slice lo hi none p2) pos) (tSl r te tl th):=by
 intro pins s σ H Q I h
 refine Subscript_ (thn (he pins s σ H _ I h) fun v s1 ⟨x,H1,I1,r1,q1⟩=>?_)
 refine wpAny_Slice (thn (hl pins s1 σ H1 _ I1 q1) fun vl s2 ⟨l,H2,I2,pl,q2⟩=>thn (hu pins s2 σ H2 _ I2 q2) fun vu s3 ⟨u,H3,I3,pu,q3⟩=>?_)
 rw[evalPart_none]
 refine wpAny_pure ?_
 have I4:Inv X pins σ H3 { s3 with heap:=s3.heap.push { cls:=.type "slice",data:=.fields #[vl,vu,.none] } }:=I3.kept (t':=s3.toks) fun b ob q=>Heap.get?_push_of_some _ q
 obtain⟨T,id,hT,ht,hg⟩:=hr pins { s3 with heap:=s3.heap.push { cls:=.type "slice",data:=.fields #[vl,vu,.none] } } σ H3 x v vl vu l u s3.heap.objs.size Q I4 r1 (Heap.IsSliceOf.new ..) pl pu q3
 show wpAny (model X.prog X.w) X.A (subscriptTail e (.Slice lo hi none p2) v (.ref s3.heap.objs.size)) (EP X pins σ Q) X.xe { s3 with heap:=s3.heap.push { cls:=.type "slice",data:=.fields #[vl,vu,.none] } }
 exact tail_any (ops:=[.ref s3.heap.objs.size,v]) ht hT hg (by with_unfolding_all rfl)
def Zef (xs:List V)(lo hi:Option Int):List V:=(xs.drop (HT.sIx xs.length 0 lo)).take (HT.sIx xs.length xs.length hi-HT.sIx xs.length 0 lo)
theorem Z4z (xs:List V)(lo hi:Option Int):(Zef xs lo hi).length<=xs.length:=by
 unfold Zef
 rw[length_take,length_drop]
 lia
def Zwm (K:W.Frag):V->Option Int->Option Int->Hp->VK->Prop:=fun x lo hi H Q=>∃a xs,x = .ref a/\SqT K H a xs ∧
 ¬ (HT.sIx xs.length 0 lo=0/\HT.sIx xs.length xs.length hi=xs.length)/\∀p,H p=none->Q (.ref p) (upd H p (.tup (Zef xs lo hi)))
theorem Zpw:SlR X (Zwm X.K):=by
 intro pins s σ H x v vl vu lo hi sl Q I rx hs pl pu h
 obtain⟨a,xs,rfl,hx,hw,q⟩:=h
 cases rx
 obtain⟨its,r,ht,hz⟩:=I.tuple hx
 have hlen:its.toArray.size=xs.length:=by rw[size_toArray];exact r.length.symm
 refine⟨"tuple",_,PyProof.Rows.slot_tuple_getitem.lookup,ht.typeIs,?_⟩
 refine HT.getItem_tuple_cut ht hs pl pu (by rw[hlen];exact hw) ?_ (by rw[hlen];exact hz)
 rw[hlen]
 refine⟨.ref s.heap.objs.size,_,I.laid (t':=s.toks) (o:=.tup (Zef xs lo hi)) (fun b ob q=>Heap.get?_push_of_some _ q) (Nat.le_refl _) ?_,rfl,q _ (I.hok.fresh (Nat.le_refl _))⟩
 exact⟨Nat.le_trans (Z4z xs lo hi) hz,_,(r.drop (HT.sIx xs.length 0 lo)).take (HT.sIx xs.length xs.length hi-HT.sIx xs.length 0 lo),IsTupN.new _ _⟩
def Zti (K:W.Frag):R2:=fun x y H Q=>∃a b xs ys,x = .ref a/\y = .ref b/\SqT K H a xs/\SqT K H b ys/\xs ≠ []/\xs.length+ys.length<=sizeLine ∧
 (ys = []->Q (.ref a) H)/\(ys ≠ []->∀p,H p=none->Q (.ref p) (upd H p (.tup (xs++ys))))
theorem Vals.nil_iff {xs:List V}{us:List Value}(r:Vals xs us):us = []↔xs = []:=by
 cases r with
 |nil=>simp
 |cons _ _=>simp
theorem Zlj:OpR X (binaryOp .Add) (Zti X.K):=by
 intro pins s σ H x y v u Q I rx ry h
 obtain⟨a,b,xs,ys,rfl,rfl,ha,hb,hx,hz,q1,q2⟩:=h
 cases rx
 cases ry
 obtain⟨its,r1,p1,_⟩:=I.tuple ha
 obtain⟨its2,r2,p2,_⟩:=I.tuple hb
 refine HT.cat_tup p1 p2 (fun z=>hx (r1.nil_iff.mp z)) (fun z=>⟨.ref a,H,I,rfl,q1 (r2.nil_iff.mp z)⟩) (fun z=>?_) (by rw[<- r1.length,<- r2.length];exact hz)
 refine⟨.ref s.heap.objs.size,_,I.laid (t':=s.toks) (o:=.tup (xs++ys)) (fun b ob q=>Heap.get?_push_of_some _ q) (Nat.le_refl _) ?_,rfl,q2 (fun w=>z (r2.nil_iff.mpr w)) _ (I.hok.fresh (Nat.le_refl _))⟩
 exact⟨by rw[length_append];exact hz,_,r1.append r2,IsTupN.new _ _⟩
end
def ixN (n:Nat)(i:Int):Option Nat:=if 0<=i then (if i<n then some i.toNat else none) else if -(n:Int)<=i then some (i+n).toNat else none
def atI {α : Type}(xs:List α)(i:Int):Option α := (ixN xs.length i).bind fun j=>xs[j]?
theorem Zeg {n:Nat}{i:Int}{j:Nat}(h:ixN n i=some j):seqIndex? i n=some j/\j<n /\ -(n:Int)<=i/\i<n:=by
 unfold ixN at h
 by_cases h0:0<=i
 ·rw[if_pos h0] at h
  by_cases h1:i<n
  ·rw[if_pos h1] at h
   have e:i.toNat=j:=Option.some.inj h
   exact⟨by rw[seqIndex_of h0 h1,e],by lia,by lia,h1⟩
  ·rw[if_neg h1] at h;cases h
 ·rw[if_neg h0] at h
  by_cases h1 : -(n:Int)<=i
  ·rw[if_pos h1] at h
   have e:(i+n).toNat=j:=Option.some.inj h
   exact⟨by rw[seqIndex_neg (by lia) h1,e],by lia,h1,by lia⟩
  ·rw[if_neg h1] at h;cases h
theorem Za0 {α : Type}{xs:List α}{i:Int}{v : α}(h:atI xs i=some v):∃j,seqIndex? i xs.length=some j/\xs[j]? = some v/\j<xs.length /\ -(xs.length:Int)<=i/\i<xs.length:=by
 unfold atI at h
 cases e:ixN xs.length i with
 |none=>rw[e] at h;cases h
 |some j=>
  rw[e] at h
  obtain⟨h1,h2,h3,h4⟩:=Zeg e
  exact⟨j,h1,h,h2,h3,h4⟩
def Zlk (b:Expr):Prop:=∀o i,subscripted b false o i=operate [o,i] (getItem o i)
def IxR (X:Cx)(r:R2):Prop:=
 ∀(value slice:Expr) (pins:List (Addr×Obj)) (s:Shared) (σ:St) (H:Hp) (x y:V) (v u:Value) (Q:VK),Inv X pins σ H s->RelV x v->RelV y u->r x y H Q →
  subscripted slice false v u=operate [v,u] (getItem v u)->wpAny (model X.prog X.w) X.A (subscriptTail value slice v u) (EP X pins σ Q) X.xe s
def MtR (X:Cx)(id:String)(r:V->List V->Hp->VK->Prop):Prop:=
 ∀(pins:List (Addr×Obj)) (s:Shared) (σ:St) (H:Hp) (x:V) (xs:List V) (v:Value) (us:List Value) (Q:VK),Inv X pins σ H s->RelV x v->Vals xs us->r x xs H Q →
  wpAny (model X.prog X.w) X.A (call (.builtin id) (v::us)) (EP X pins σ Q) X.xe s
section
variable {X:Cx}{a b:Expr}{ta tb:TE}{pos:Pos}
theorem IxR.or {r r':R2}(h:IxR X r)(h':IxR X r'):IxR X (fun x y H Q=>r x y H Q∨r' x y H Q):=by
 intro value slice pins s σ H x y v u Q I rx ry q hs
 rcases q with q|q
 ·exact h value slice pins s σ H x y v u Q I rx ry q hs
 ·exact h' value slice pins s σ H x y v u Q I rx ry q hs
theorem Ztj {r:R2}(hr:IxR X r)(ha:PE X a ta)(hb:PE X b tb)(hs:Zlk b):PE X (.Subscript a b pos) (tOp r ta tb):=by
 intro pins s σ H Q I h
 exact Subscript_ (Zt7 ha hb I h fun v u s2 x y H2 I2 rx ry q=>hr a b pins s2 σ H2 x y v u Q I2 rx ry q (hs _ _))
def Zv8 (K:W.Frag):R2:=fun x y H Q=>∃p xs i v,x = .ref p/\y = .int i/\SqL K H p xs/\atI xs i=some v/\Q v H
def Zv9 (K:W.Frag):R2:=fun x y H Q=>∃p xs i v,x = .ref p/\y = .int i/\SqT K H p xs/\atI xs i=some v/\Q v H
def rIxS:R2:=fun x y H Q=>∃z i c,x = .str z/\y = .int i/\z.length<=sizeLine/\atI z.cps.toList i=some c/\Q (.str ⟨#[c]⟩) H
theorem ix_list:IxR X (Zv8 X.K):=by
 intro value slice pins s σ H x y v u Q I rx ry h hs
 obtain⟨p,xs,i,z,rfl,rfl,hq,he,q⟩:=h
 cases rx
 obtain⟨t,rfl⟩:=ry
 obtain⟨its,r,pl,hz⟩:=I.list hq
 obtain⟨j,h1,h2,h3,h4,h5⟩:=Za0 he
 obtain⟨w,ew,rw'⟩:=r.get h2
 have hl:=r.length
 have hn:=Z4y
 have fin:EP X pins σ Q w s:=⟨z,H,I,rw',q⟩
 by_cases h0:0<=i
 ·have hj:i.toNat=j:=by
   rw[seqIndex_of h0 h5] at h1
   exact Option.some.inj h1
  exact item_listR pl.isList h0 (by lia) (by rw[hj];simpa using ew) fin hs
 ·have hj:(i+(its.toArray.size:Int)).toNat=j:=by
   rw[seqIndex_neg (by lia) h4] at h1
   rw[size_toArray,<- hl]
   exact Option.some.inj h1
  exact subscriptTail_builtinR (x:=w) pl.isList.typeIs slot_list_getitem.lookup
   (wpAny_getItem_list_neg (Q:=fun r s'=>r=w/\EP X pins σ Q r s') pl.isList (by lia) (by rw[size_toArray] <;> lia) (by lia) (by rw[hj];simpa using ew) ⟨rfl,fin⟩) hs
theorem ix_tup:IxR X (Zv9 X.K):=by
 intro value slice pins s σ H x y v u Q I rx ry h hs
 obtain⟨p,xs,i,z,rfl,rfl,hq,he,q⟩:=h
 cases rx
 obtain⟨t,rfl⟩:=ry
 obtain⟨its,r,pl,hz⟩:=I.tuple hq
 obtain⟨j,h1,h2,h3,h4,h5⟩:=Za0 he
 obtain⟨w,ew,rw'⟩:=r.get h2
 have hl:=r.length
 have hn:=Z4y
 have fin:EP X pins σ Q w s:=⟨z,H,I,rw',q⟩
 exact subscriptTail_builtinR (x:=w) pl.typeIs slot_tuple_getitem.lookup
  (getItem_tuple (j:=j) (Q:=fun r s'=>r=w/\EP X pins σ Q r s') pl (by lia) (by lia) (by rw[size_toArray,<- hl];exact h1) (by simpa using ew) ⟨rfl,fin⟩) hs
theorem Zpx:IxR X rIxS:=by
 intro value slice pins s σ H x y v u Q I rx ry h hs
 obtain⟨z,i,c,rfl,rfl,hz,he,q⟩:=h
 obtain⟨t,rfl⟩:=rx
 obtain⟨t',rfl⟩:=ry
 obtain⟨j,h1,h2,h3,h4,h5⟩:=Za0 he
 have hl:z.cps.toList.length=z.length:=by simp [Str.length]
 rw[hl] at h1 h4 h5
 have hn:=Z4y
 exact tail_any (typeIs_str s z t) slot_str_getitem.lookup (getItem_str (c:=c) (by
  have e1:decide (i < -(2 ^ 63:Int))=false:=decide_eq_false (by lia)
  have e2:decide (i ≥ 2 ^ 63)=false:=decide_eq_false (by lia)
  rw[e1,e2,Bool.or_false]) (by rw[h1];simpa using h2) ⟨.str ⟨#[c]⟩,H,I.tok _,⟨_,rfl⟩,q⟩) hs
def rIx (K:W.Frag):R2:=fun x y H Q=>Zv8 K x y H Q∨Zv9 K x y H Q∨rIxS x y H Q
theorem Zpy:IxR X (rIx X.K):=ix_list.or (ix_tup.or Zpx)
theorem Zcv (its:List Value)(n j:Nat)(u:Value):Obj.mapSeq (·.setIfInBounds j u) { cls:=.type "list",data:=.seq its.toArray n }={ cls:=.type "list",data:=.seq (its.set j u).toArray n }:=by
 simp [Obj.mapSeq]
theorem Inv.lst {pins:List (Addr×Obj)}{σ:St}{H:Hp}{s:Shared}{p:Addr}{xs:List V}(I:Inv X pins σ H s)(h:H p=some (.lst xs)):
  ∃(its:List Value) (n:Nat),Vals xs its/\s.heap.get? p=some { cls:=.type "list",data:=.seq its.toArray n }/\xs.length<=sizeLine:=by
 obtain⟨z,its,n,r,e⟩:=I.hok p _ h
 exact⟨its,n,r,e,z⟩
theorem Inv.lstUpd {pins:List (Addr×Obj)}{σ:St}{H:Hp}{s:Shared}{p:Addr}{xs ys:List V}{its its':List Value}{n n':Nat}{f:Obj->Obj}(I:Inv X pins σ H s)(h:H p=some (.lst xs))
  (ho:s.heap.get? p=some { cls:=.type "list",data:=.seq its.toArray n }) (hf:f { cls:=.type "list",data:=.seq its.toArray n }={ cls:=.type "list",data:=.seq its'.toArray n' }) (r:Vals ys its') (hz:ys.length<=sizeLine) (t:Nat):
  Inv X pins σ (upd H p (.lst ys)) { s with heap:=s.heap.update p f,toks:=t }:=by
 have e:(s.heap.update p f).get? p=some { cls:=.type "list",data:=.seq its'.toArray n' }:=by
  rw[Heap.get?_update_self f ho (by rw[hf] <;> rfl),hf]
 refine I.write (x:=p) (e:=p) (by rw[h];trivial) (.inl rfl) (fun b u hb q=>(Heap.get?_update_other _ _ (Ne.symm hb)).trans q) ⟨_,e⟩ ?_
 exact⟨hz,its',n',r,e⟩
def rSetL:V->V->V->Hp->(Hp->Prop)->Prop:=fun o i v H Q=>∃p xs k j,o = .ref p/\i = .int k/\H p=some (.lst xs)/\ixN xs.length k=some j/\Q (upd H p (.lst (xs.set j v)))
theorem Zhx:Zv1 X rSetL:=by
 intro pins s σ H o i v ov iv u Q I ro ri rv h
 obtain⟨p,xs,k,j,rfl,rfl,hp,hj,q⟩:=h
 cases ro
 obtain⟨t,rfl⟩:=ri
 obtain⟨its,n,r,ho,hz⟩:=I.lst hp
 obtain⟨h1,h2,h3,h4⟩:=Zeg hj
 have hl:=r.length
 have hn:=Z4y
 have I':Inv X pins σ (upd H p (.lst (xs.set j v))) { s with heap:=s.heap.update p (Obj.mapSeq (·.setIfInBounds j u)) }:=
  I.lstUpd hp ho (Zcv its n j u) (r.set rv j) (by rw[length_set];exact hz) s.toks
 by_cases h0:0<=k
 ·have hk:k.toNat=j:=by
   rw[seqIndex_of h0 h4] at h1
   exact Option.some.inj h1
  exact PySem.W.ki_setAt ho h0 (by lia) (by rw[size_toArray,<- hl];exact h4) (by rw[hk];exact⟨_,I',q⟩)
 ·have hk:(k+(its.toArray.size:Int)).toNat=j:=by
   rw[seqIndex_neg (by lia) h3] at h1
   rw[size_toArray,<- hl]
   exact Option.some.inj h1
  exact PySem.W.ki_setBack ho (by lia) (by rw[size_toArray,<- hl];exact h3) (by lia) (by rw[hk];exact⟨_,I',q⟩)
theorem Z8r (lo hi:Option Int)(n:Nat):(sliceBounds lo hi none n).1=((HT.sIx n 0 lo:Nat):Int)/\(sliceBounds lo hi none n).2.1=((HT.sIx n n hi:Nat):Int)/\(sliceBounds lo hi none n).2.2=1:=by
 refine⟨?_,?_,rfl⟩
 ·cases lo with
  |none=>simp [sliceBounds,HT.sIx]
  |some i=>
   simp only [sliceBounds,HT.sIx,Option.getD_none,show(1:Int)>0 by decide,if_true]
   by_cases h:i<0
   ·simp only [h,if_true] <;> lia
   ·simp only [h,if_false] <;> lia
 ·cases hi with
  |none=>simp [sliceBounds,HT.sIx]
  |some i=>
   simp only [sliceBounds,HT.sIx,Option.getD_none,show(1:Int)>0 by decide,if_true]
   by_cases h:i<0
   ·simp only [h,if_true] <;> lia
   ·simp only [h,if_false] <;> lia
theorem Z78 (its:List Value)(lo hi:Option Int):slicePick its.toArray lo hi none=((its.drop (HT.sIx its.length 0 lo)).take (HT.sIx its.length its.length hi-HT.sIx its.length 0 lo)).toArray:=by
 obtain⟨h1,h2,h3⟩:=Z8r lo hi its.toArray.size
 unfold slicePick
 rw[h1,h2,h3]
 simp only [sliceRange_one,pick_run,size_toArray] <;> rfl
def Zva (K:W.Frag):V->Option Int->Option Int->Hp->VK->Prop:=fun x lo hi H Q=>∃a xs,x = .ref a/\SqL K H a xs/\∀p,H p=none->Q (.ref p) (upd H p (.lst (Zef xs lo hi)))
theorem sl_list:SlR X (Zva X.K):=by
 intro pins s σ H x v vl vu lo hi sl Q I rx hs pl pu h
 obtain⟨a,xs,rfl,hx,q⟩:=h
 cases rx
 obtain⟨its,r,ht,hz⟩:=I.list hx
 have hlen:=r.length
 refine⟨"list",_,slot_list_getitem.lookup,ht.isList.typeIs,?_⟩
 refine wpAny_getItem_list_slice ht.isList hs pl pu .none (by simp) ?_ (by rw[size_toArray] <;> lia)
 rw[Z78,<- hlen]
 refine⟨.ref s.heap.objs.size,_,I.laid (t':=s.toks) (o:=.lst (Zef xs lo hi)) (fun b ob q=>Heap.get?_push_of_some _ q) (Nat.le_refl _) ?_,rfl,q _ (I.hok.fresh (Nat.le_refl _))⟩
 exact⟨Nat.le_trans (Z4z xs lo hi) hz,_,0,(r.drop (HT.sIx xs.length 0 lo)).take (HT.sIx xs.length xs.length hi-HT.sIx xs.length 0 lo),Heap.get?_push_size _ rfl⟩
def Z1k:V->Bool
 | .non=>true
 | .bl _=>true
 | .int _=>true
 | .str _=>true
 |_=>false
def eqV:V->V->Bool
 | .non,.non=>true
 | .bl a,.bl b=>a==b
 | .bl a,.int b=>(if a then 1 else 0)==b
 | .int a,.bl b=>a==(if b then 1 else 0)
 | .int a,.int b=>a==b
 | .str a,.str b=>a==b
 |_,_=>false
theorem Zeh {A:Around}{s:Shared}{y x:V}{u v:Value}(ry:RelV y u)(rx:RelV x v)(fy:Z1k y=true)(fx:Z1k x=true):SeqAt.EqAt A s u v (eqV y x):=by
 cases y with
 |non=>
  cases ry
  cases x with
  |non=>cases rx;exact SeqAt.EqAt.same _
  |bl b=>cases rx;exact SeqAt.EqAt.none_bool b
  |int b=>obtain⟨t,rfl⟩:=rx;exact SeqAt.EqAt.none_int b t
  |str b=>obtain⟨t,rfl⟩:=rx;exact SeqAt.EqAt.none_str b t
  |_=>exact absurd (show false=true from fx) Bool.false_ne_true
 |bl a=>
  cases ry
  cases x with
  |non=>cases rx;exact SeqAt.EqAt.bool_none a
  |bl b=>cases rx;exact SeqAt.EqAt.bool_bool a b
  |int b=>obtain⟨t,rfl⟩:=rx;exact SeqAt.EqAt.bool_int a b t
  |str b=>obtain⟨t,rfl⟩:=rx;exact SeqAt.EqAt.bool_str a b t
  |_=>exact absurd (show false=true from fx) Bool.false_ne_true
 |int a=>
  obtain⟨t',rfl⟩:=ry
  cases x with
  |non=>cases rx;exact SeqAt.EqAt.int_none a t'
  |bl b=>cases rx;exact SeqAt.EqAt.int_bool a t' b
  |int b=>obtain⟨t,rfl⟩:=rx;exact SeqAt.EqAt.int_int a t' b t
  |str b=>obtain⟨t,rfl⟩:=rx;exact SeqAt.EqAt.int_str a t' b t
  |_=>exact absurd (show false=true from fx) Bool.false_ne_true
 |str a=>
  obtain⟨t',rfl⟩:=ry
  cases x with
  |non=>cases rx;exact SeqAt.EqAt.str_none a t'
  |bl b=>cases rx;exact SeqAt.EqAt.str_bool a t' b
  |int b=>obtain⟨t,rfl⟩:=rx;exact SeqAt.EqAt.str_int a t' b t
  |str b=>obtain⟨t,rfl⟩:=rx;exact SeqAt.EqAt.str_str a t' b t
  |_=>exact absurd (show false=true from fx) Bool.false_ne_true
 |_=>exact absurd (show false=true from fy) Bool.false_ne_true
def eqU (x:V)(u:Value):Bool:=match u with
 | .none=>eqV .non x
 | .bool b=>eqV (.bl b) x
 | .int i _=>eqV (.int i) x
 | .str z _=>eqV (.str z) x
 |_=>false
theorem Zke {x y:V}{u:Value}(r:RelV y u)(f:Z1k y=true):eqU x u=eqV y x:=by
 cases y with
 |non=>cases r;rfl
 |bl b=>cases r;rfl
 |int i=>obtain⟨t,rfl⟩:=r;rfl
 |str z=>obtain⟨t,rfl⟩:=r;rfl
 |_=>exact absurd (show false=true from f) Bool.false_ne_true
theorem Z50 {x:V}:∀{xs:List V} {us:List Value},Vals xs us->xs.all Z1k=true->us.any (eqU x)=xs.any fun y=>eqV y x
 |_,_,.nil,_=>rfl
 |y::xs,u::us,.cons r t,f=>by
  rw[all_cons,Bool.and_eq_true] at f
  rw[any_cons,any_cons,Zke r f.1,Z50 t f.2]
theorem Z31 {A:Around}{s:Shared}{x:V}{v:Value}(rx:RelV x v)(fx:Z1k x=true):∀{xs:List V} {us:List Value},Vals xs us->xs.all Z1k=true->∀u∈us,SeqAt.EqAt A s u v (eqU x u)
 |_,_,.nil,_=>fun u hu=>by cases hu
 |y::xs,u::us,.cons r t,f=>fun u' hu=>by
  rw[all_cons,Bool.and_eq_true] at f
  rcases mem_cons.mp hu with rfl|hu
  ·rw[Zke r f.1];exact Zeh r rx f.1 fx
  ·exact Z31 rx fx t f.2 u' hu
def inV (x:V)(xs:List V):Bool:=xs.any fun y=>eqV y x
def rIn (K:W.Frag)(neg:Bool):R2:=fun x y H Q=>∃p xs,y = .ref p/\(SqL K H p xs∨SqT K H p xs)/\Z1k x=true/\xs.all Z1k=true/\Q (.bl (if neg then !inV x xs else inV x xs)) H
theorem Zei:OpR X (compareOp .In) (rIn X.K false):=by
 intro pins s σ H x y v u Q I rx ry h
 obtain⟨p,xs,rfl,hq,fx,fs,q⟩:=h
 cases ry
 rcases hq with hq|hq
 ·obtain⟨its,r,pl,hz⟩:=I.list hq
  refine SeqAt.in_listAt (eqU x) pl.isList (fun w hw=>Z31 rx fx r fs w (by simpa using hw)) ⟨.bl _,H,I,rfl,?_⟩
  rw[show its.toArray.any (eqU x)=its.any (eqU x) by simp,Z50 r fs]
  exact q
 ·obtain⟨its,r,pl,hz⟩:=I.tuple hq
  refine SeqAt.in_tupleAt (eqU x) pl (fun w hw=>Z31 rx fx r fs w (by simpa using hw)) ⟨.bl _,H,I,rfl,?_⟩
  rw[show its.toArray.any (eqU x)=its.any (eqU x) by simp,Z50 r fs]
  exact q
theorem Z8s:OpR X (compareOp .NotIn) (rIn X.K true):=by
 intro pins s σ H x y v u Q I rx ry h
 obtain⟨p,xs,rfl,hq,fx,fs,q⟩:=h
 cases ry
 rcases hq with hq|hq
 ·obtain⟨its,r,pl,hz⟩:=I.list hq
  refine SeqAt.notIn_listAt (eqU x) pl.isList (fun w hw=>Z31 rx fx r fs w (by simpa using hw)) ⟨.bl _,H,I,rfl,?_⟩
  rw[show its.toArray.any (eqU x)=its.any (eqU x) by simp,Z50 r fs]
  exact q
 ·obtain⟨its,r,pl,hz⟩:=I.tuple hq
  refine SeqAt.notIn_tupleAt (eqU x) pl (fun w hw=>Z31 rx fx r fs w (by simpa using hw)) ⟨.bl _,H,I,rfl,?_⟩
  rw[show its.toArray.any (eqU x)=its.any (eqU x) by simp,Z50 r fs]
  exact q
theorem Z8t:Z2l X (.builtin "len") (fun xs H Q=>∃p ys,xs = [.ref p]/\(SqL X.K H p ys∨SqT X.K H p ys)/\Q (.int ys.length) H):=by
 intro pins s σ H xs us Q I r h
 obtain⟨p,ys,rfl,hq,q⟩:=h
 obtain⟨u,rfl,rx⟩:=Z3p r
 cases rx
 have hn:=Z4y
 rcases hq with hq|hq
 ·obtain⟨its,r',pl,hz⟩:=I.list hq
  have hlen:=r'.length
  exact Calls.call_len_list pl.isList (by simp only [size_toArray] <;> lia) ⟨.int ys.length,H,I.tok _,⟨s.toks+1,by rw[size_toArray,hlen]⟩,q⟩
 ·obtain⟨its,r',pl,hz⟩:=I.tuple hq
  have hlen:=r'.length
  exact len_tuple pl (by simp only [size_toArray] <;> lia) ⟨.int ys.length,H,I.tok _,⟨s.toks+1,by rw[size_toArray,hlen]⟩,q⟩
theorem Z8u:Z2l X (.builtin "len") (fun xs H Q=>∃z,xs = [.str z]/\z.length<=sizeLine/\Q (.int z.length) H):=by
 intro pins s σ H xs us Q I r h
 obtain⟨z,rfl,hz,q⟩:=h
 obtain⟨u,rfl,t,rfl⟩:=Z3p r
 have hn:=Z4y
 exact len_str (by lia) ⟨.int z.length,H,I.tok _,⟨_,rfl⟩,q⟩
theorem Z8v:Z2l X (.type "list") (fun xs H Q=>∃p ys,xs = [.ref p]/\(SqL X.K H p ys∨SqT X.K H p ys)/\∀l,H l=none->Q (.ref l) (upd H l (.lst ys))):=by
 intro pins s σ H xs us Q I r h
 obtain⟨p,ys,rfl,hq,q⟩:=h
 obtain⟨u,rfl,rx⟩:=Z3p r
 cases rx
 have fin:∀(its:List Value),Vals ys its->ys.length<=sizeLine->∀(h':Heap) (c':Nat),(∀b o',s.heap.get? b=some o'->h'.get? b=some o') →
   h'.get? s.heap.objs.size=some { cls:=.type "list",dict:=none,data:=.seq its.toArray c',slots:=#[] }->EP X pins σ Q (.ref s.heap.objs.size) { s with heap:=h' }:=fun its r' hz h' c' kp e=>
  ⟨.ref s.heap.objs.size,_,I.laid (t':=s.toks) kp (Nat.le_refl _) (show ObjOk X.prog X.w _ h' _ (.lst ys) from⟨hz,its,c',r',e⟩),rfl,q _ (I.hok.fresh (Nat.le_refl _))⟩
 rcases hq with hq|hq
 ·obtain⟨its,r',pl,hz⟩:=I.list hq
  have hlen:=r'.length
  obtain⟨o,ho,hc,n,hd⟩:=pl.isList
  exact call_list_seq p (.inl rfl) ho hc hd (fun h' c' kp e=>fin its r' hz h' c' kp e) (by simp only [size_toArray] <;> lia)
 ·obtain⟨its,r',pl,hz⟩:=I.tuple hq
  have hlen:=r'.length
  obtain⟨o,ho,hc,n,hd⟩:=pl
  exact call_list_seq p (.inr rfl) ho hc hd (fun h' c' kp e=>fin its r' hz h' c' kp e) (by simp only [size_toArray] <;> lia)
theorem Z79:Z2l X (.type "tuple") (fun xs H Q=>∃p ys,xs = [.ref p]/\((SqL X.K H p ys/\∀l,H l=none->Q (.ref l) (upd H l (.tup ys)))∨(SqT X.K H p ys/\Q (.ref p) H))):=by
 intro pins s σ H xs us Q I r h
 obtain⟨p,ys,rfl,h⟩:=h
 obtain⟨u,rfl,rx⟩:=Z3p r
 cases rx
 rcases h with ⟨hq,q⟩|⟨hq,q⟩
 ·obtain⟨its,r',pl,hz⟩:=I.list hq
  have hlen:=r'.length
  refine call_tuple_list pl.isList (fun h' kp=>?_) (by simp only [size_toArray] <;> lia)
  have I1:Inv X pins σ H { s with heap:=h' }:=I.kept (t':=s.toks) kp
  have I2:Inv X pins σ (upd H h'.objs.size (.tup ys)) { s with heap:=h'.push { cls:=.type "tuple",data:=.seq its.toArray } }:=
   I1.laid (t':=s.toks) (fun b o e=>Heap.get?_push_of_some _ e) (Nat.le_refl _) (show ObjOk X.prog X.w _ _ _ (.tup ys) from⟨hz,its,r',IsTupN.new _ _⟩)
  exact⟨.ref h'.objs.size,_,I2,rfl,q _ (I1.hok.fresh (Nat.le_refl _))⟩
 ·obtain⟨its,r',pl,hz⟩:=I.tuple hq
  exact call_tuple_same pl ⟨.ref p,H,I,rfl,q⟩
def tyV (K:W.Frag)(T:String)(x:V)(H:Hp):Prop:=match x with
 | .str _=>T="str"
 | .int _=>T="int"
 | .ref p=>(T="list"/\∃xs,SqL K H p xs)∨(T="tuple"/\∃o,K.lookup p=some o/\o.cls = .type "tuple"/\o.dict=none) ∨
   (T="dict"/\((∃kvs,H p=some (.dK kvs))∨∃kvs,H p=some (.dT kvs)))∨(T="set"/\∃S n,H p=some (.set S n))
 |_=>False
theorem Zkf {pins:List (Addr×Obj)}{σ:St}{H:Hp}{s:Shared}{T:String}{x:V}{v:Value}(I:Inv X pins σ H s)(r:RelV x v)(ty:tyV X.K T x H):
  s.TypeIs v T/\∀a,v = .ref a->∃ob,s.heap.get? a=some ob/\ob.dict=none:=by
 cases x with
 |str z=>
  obtain⟨t,rfl⟩:=r
  cases (show T="str" from ty)
  exact⟨typeIs_str s z t,fun _ e=>nomatch e⟩
 |int i=>
  obtain⟨t,rfl⟩:=r
  cases (show T="int" from ty)
  exact⟨typeIs_int s i t,fun _ e=>nomatch e⟩
 |ref p=>
  cases r
  rcases ty with ⟨rfl,xs,hq⟩|⟨rfl,o,hk,hc,hd⟩|⟨rfl,hk⟩|⟨rfl,S,n,hk⟩
  ·obtain⟨its,_,pl,_⟩:=I.list hq
   refine⟨pl.isList.typeIs,fun a e=>?_⟩
   cases e
   obtain⟨o,n,e,c,hd,_⟩:=pl
   exact⟨o,e,hd⟩
  ·refine⟨⟨o,I.kIn p o hk,hc⟩,fun a e=>?_⟩
   cases e
   exact⟨o,I.kIn _ o hk,hd⟩
  ·have z:∃o,s.heap.get? p=some o/\o.ExactDict:=by
    rcases hk with ⟨kvs,hk⟩|⟨kvs,hk⟩
    ·obtain⟨_,_,_,_,o,_,_,e,ex,_⟩:=I.hok p _ hk
     exact⟨o,e,ex⟩
    ·obtain⟨_,_,_,_,o,_,_,e,ex,_⟩:=I.hok p _ hk
     exact⟨o,e,ex⟩
   obtain⟨o,e,ex⟩:=z
   refine⟨⟨o,e,ex.1⟩,fun a e2=>?_⟩
   cases e2
   exact⟨o,e,ex.2.1⟩
  ·obtain⟨o,_,_,_,e,ex,_⟩:=I.hok p _ hk
   refine⟨⟨o,e,ex.1⟩,fun a e2=>?_⟩
   cases e2
   exact⟨o,e,ex.2.1⟩
 |_=>exact False.elim ty
def Zwn (K:W.Frag)(T:String)(r:V->List V->Hp->VK->Prop)(to:TE):TE:=fun σ H Q=>to σ H fun x H1=>tyV K T x H1/\r x [] H1 Q
def tBM (K:W.Frag)(T:String)(r:V->List V->Hp->VK->Prop)(to:TE)(t:TA):TE:=fun σ H Q=>to σ H fun x H1=>tyV K T x H1/\t σ H1 fun xs H2=>r x xs H2 Q
variable {o e:Expr}{es:List Expr}{to:TE}{t:TA}{name:Str}{apos cpos:Pos}{T id:String}{r:V->List V->Hp->VK->Prop}
theorem Zpz (pa:PlainAttrs T)(slot:Slot T name id)(hty:typeOf (.builtin id)=pure (.type "method_descriptor"))(hm:MtR X id r)(ho:PE X o to)
  (hbase:attributeBase o name X.env (eval o X.env)=eval o X.env:=by rfl) (hline:(apos.endLine==cpos.line)=true:=by rfl):PE X (.Call (.Attribute o name apos) [] [] cpos) (Zwn X.K T r to):=by
 intro pins s σ H Q I h
 refine wpAny_Call_method0_late hbase hline (thn (ho pins s σ H _ I h) fun v s1 ⟨x,H1,I1,r1,ty,q1⟩=>?_)
 obtain⟨h1,h2⟩:=Zkf I1 r1 ty
 exact⟨T,id,pa,slot,hty,h1,h2,Calls.callWith_builtin rfl (PySem.evalArgs_none (hm pins s1 σ H1 x [] v [] Q I1 r1 .nil q1))⟩
theorem Zq0 (pa:PlainAttrs T)(slot:Slot T name id)(hty:typeOf (.builtin id)=pure (.type "method_descriptor"))(hm:MtR X id r)(ho:PE X o to)(ha:PA X (e::es) t)
  (hbase:attributeBase o name X.env (eval o X.env)=eval o X.env:=by rfl)
  (hfew:((backTo cpos (starEach (e::es) X.env)).all (fun x => !x.1)&&(backToKw cpos (keywordEach [] X.env)).all (fun x=>x.1.isSome)
   && decide ((e::es).length+([]:List Keyword).length+(if ([]:List Keyword).isEmpty then 0 else 1)<30))=true:=by rfl)
  (hline:(apos.endLine==cpos.line)=true:=by rfl) (hs:starEach (e::es) X.env=(false,eval e X.env)::starEach es X.env:=by rfl) (hplain:(backTo cpos (starEach es X.env)).any (·.1)=false:=by rfl):
  PE X (.Call (.Attribute o name apos) (e::es) [] cpos) (tBM X.K T r to t):=by
 intro pins s σ H Q I h
 refine wpAny_Call_method_late hbase hfew hline rfl (thn (ho pins s σ H _ I h) fun v s1 ⟨x,H1,I1,r1,ty,q1⟩=>?_)
 obtain⟨h1,h2⟩:=Zkf I1 r1 ty
 refine⟨T,id,pa,slot,hty,h1,h2,?_⟩
 have hA:=ha cpos pins s1 σ H1 _ I1 q1
 rw[hs] at hA ⊢
 refine Calls.callWith_builtin (by show(false||(backTo cpos (starEach es X.env)).any (·.1))=false;rw[hplain] <;> rfl) (Calls.evalArgs_plain ?_)
 exact thn hA fun us s2 ⟨vs,H2,I2,r2,q2⟩=>hm pins s2 σ H2 x vs v us Q I2 r1 r2 q2
end
def MtM (X:Cx)(id:String)(r:V->List V->Hp->VK->Prop):Prop:=
 ∀(pins:List (Addr×Obj)) (s:Shared) (σ:St) (H:Hp) (x:V) (xs:List V) (v:Value) (us:List Value) (Q:VK),Inv X pins σ H s->RelV x v->Vals xs us->r x xs H Q →
  wpAny (model X.prog X.w) X.A (call (.builtin id) (v::us)) (EP X pins σ Q) X.xe s
theorem Vals.one:∀{x:V} {us:List Value},Vals [x] us->∃u,us = [u]/\RelV x u
 |_,_,.cons r .nil=>⟨_,rfl,r⟩
theorem Vals.zero:∀{us:List Value},Vals [] us->us = []
 |_,.nil=>rfl
theorem Vals.dropLast {xs:List V}{us:List Value}(h:Vals xs us):Vals xs.dropLast us.dropLast:=by
 induction h with
 |nil=>exact .nil
 |cons r t ih=>
  cases t with
  |nil=>exact .nil
  |cons q t'=>exact .cons r ih
theorem Vals.reverse {xs:List V}{us:List Value}(h:Vals xs us):Vals xs.reverse us.reverse:=by
 induction h with
 |nil=>exact .nil
 |cons r t ih=>rw[reverse_cons,reverse_cons];exact Vals.append ih (.cons r .nil)
theorem Vals.rep {xs:List V}{us:List Value}(h:Vals xs us):∀k:Nat,Vals (List.replicate k xs).flatten (List.replicate k us).flatten
 | 0=>.nil
 |k+1=>by
  rw[replicate_succ,replicate_succ,flatten_cons,flatten_cons]
  exact Vals.append h (Vals.rep h k)
theorem Zcw {α : Type}(l:List α):l.eraseIdx (l.length-1)=l.dropLast:=by
 induction l with
 |nil=>rfl
 |cons a r ih=>
  cases r with
  |nil=>rfl
  |cons b r=>
   have e:(a::b::r).length-1=((b::r).length-1)+1:=by
    have h1:(a::b::r).length=r.length+2:=rfl
    have h2:(b::r).length=r.length+1:=rfl
    lia
   rw[e,List.eraseIdx_cons_succ,ih]
   all_goals rfl
theorem Z51 (its:List Value):∀(k:Nat) (acc:List Value),
  List.foldl (fun x1 x2=>x1++x2) acc.toArray (List.replicate k its.toArray)=(acc++(List.replicate k its).flatten).toArray
 | 0,acc=>by simp
 |k+1,acc=>by
  have e:acc.toArray++its.toArray=(acc++its).toArray:=by simp
  have e2:(acc++its)++(List.replicate k its).flatten=acc++(List.replicate (k+1) its).flatten:=by
   rw[replicate_succ,flatten_cons,append_assoc]
  rw[<- e2,<- Z51 its k (acc++its),<- e,replicate_succ,foldl_cons]
section
variable {X:Cx}{pins:List (Addr×Obj)}{σ:St}{H:Hp}{s:Shared}{l b:Addr}{xs ys zs:List V}
theorem Inv.lset {its its':List Value}{n:Nat}{f:Array Value->Array Value}{t':Nat}(I:Inv X pins σ H s)(hH:H l=some (.lst xs))
  (e:s.heap.get? l=some { cls:=.type "list",data:=.seq its.toArray n }) (hf:f its.toArray=its'.toArray) (hv:Vals ys its') (hz:ys.length<=sizeLine):
  Inv X pins σ (upd H l (.lst ys)) { s with heap:=s.heap.update l (Obj.mapSeq f),toks:=t' }:=by
 have q:=PySem.IsL.update e f
 rw[hf] at q
 refine I.write (x:=l) (e:=l) (by rw[hH];exact trivial) (.inl rfl) (fun b' u hb hu=>(Heap.get?_update_other s.heap (Obj.mapSeq f) (Ne.symm hb)).trans hu) ⟨_,q⟩ ?_
 exact⟨hz,its',_,hv,q⟩
theorem Inv.lnew {its:List Value}{t':Nat}(I:Inv X pins σ H s)(hv:Vals ys its)(hz:ys.length<=sizeLine):
  Inv X pins σ (upd H s.heap.objs.size (.lst ys)) { s with heap:=s.heap.push { cls:=.type "list",data:=.seq its.toArray },toks:=t' }:=
 I.laid (fun _ _ q=>Heap.get?_push_of_some _ q) (Nat.le_refl _) ⟨hz,its,0,hv,Heap.get?_push_size _ rfl⟩
theorem Inv.fresh (I:Inv X pins σ H s):H s.heap.objs.size=none:=I.hok.fresh (Nat.le_refl _)
theorem Inv.lstM (I:Inv X pins σ H s)(hH:H l=some (.lst xs)):xs.length<=sizeLine/\∃(its:List Value) (n:Nat),Vals xs its/\xs.length=its.length/\s.heap.get? l=some { cls:=.type "list",data:=.seq its.toArray n }:=by
 obtain⟨z,its,n,r,e⟩:=I.hok l _ hH
 exact⟨z,its,n,r,r.length,e⟩
theorem Z7a {n:Nat}(h:n<=sizeLine):Builtin.List.listTooLong n=false:=by
 unfold Builtin.List.listTooLong
 exact decide_eq_false (by lia)
end
section
variable {X:Cx}
def rAppend:V->List V->Hp->VK->Prop:=fun x vs H Q=>∃l xs y,x = .ref l/\vs = [y]/\H l=some (.lst xs)/\xs.length<sizeLine/\Q .non (upd H l (.lst (xs ++ [y])))
theorem Zej:MtM X "list.append" rAppend:=by
 intro pins s σ H x vs v us Q I rx rv h
 obtain⟨l,xs,y,rfl,rfl,hH,hz,q⟩:=h
 cases rx
 obtain⟨u,rfl,ru⟩:=rv.one
 obtain⟨z,its,n,r,hl,e⟩:=I.lstM hH
 refine call_meets F.slot_list_append ⟨_,e,rfl⟩ F.entry_list_append (F.args_list_append_2 _ _) (PySem.list_append l its.toArray n u (by rw[size_toArray];lia)) ⟨e,?_⟩
 refine⟨.non,_,I.lset (its':=its ++ [u]) hH e (by simp) (r.append (.cons ru .nil)) ?_,rfl,q⟩
 rw[length_append,length_singleton]
 lia
def rExtend:V->List V->Hp->VK->Prop:=fun x vs H Q=>∃l b xs zs,x = .ref l/\vs = [.ref b]/\H l=some (.lst xs)/\H b=some (.lst zs)/\xs.length+zs.length<=sizeLine/\Q .non (upd H l (.lst (xs++zs)))
theorem Zek:MtM X "list.extend" rExtend:=by
 intro pins s σ H x vs v us Q I rx rv h
 obtain⟨l,b,xs,zs,rfl,rfl,hH,hB,hz,q⟩:=h
 cases rx
 obtain⟨u,rfl,ru⟩:=rv.one
 cases ru
 obtain⟨z,its,n,r,hl,e⟩:=I.lstM hH
 obtain⟨z2,its2,n2,r2,hl2,e2⟩:=I.lstM hB
 have hsz:its.toArray.size+its2.toArray.size<=sizeLine:=by rw[size_toArray,size_toArray];lia
 have hlong:¬ (!its.toArray.isEmpty&&Builtin.List.listTooLong (its.toArray.size+its2.toArray.size))=true:=by
  rw[Z7a hsz,Bool.and_false]
  exact Bool.false_ne_true
 refine call_meets F.slot_list_extend ⟨_,e,rfl⟩ F.entry_list_extend (F.args_list_extend_2 _ _)
  (AutoSeq1.list_extend_list_list_0 l its.toArray n b its2.toArray n2 hlong (by rw[size_toArray];lia) (by lia)) ⟨e,e2,?_⟩
 refine⟨.non,_,I.lset (its':=its++its2) hH e (by simp) (r.append r2) ?_,rfl,q⟩
 rw[length_append]
 lia
def rPop:V->List V->Hp->VK->Prop:=fun x vs H Q=>∃l xs y,x = .ref l/\vs = []/\H l=some (.lst xs)/\xs[xs.length-1]? = some y/\Q y (upd H l (.lst xs.dropLast))
theorem Zq1:MtM X "list.pop" rPop:=by
 intro pins s σ H x vs v us Q I rx rv h
 obtain⟨l,xs,y,rfl,rfl,hH,hy,q⟩:=h
 cases rx
 have hus:=rv.zero
 subst hus
 obtain⟨z,its,n,r,hl,e⟩:=I.lstM hH
 obtain⟨u,hu,ru⟩:=r.get hy
 have hy':its.toArray[its.toArray.size-1]? = some u:=by
  show its.toArray[its.length-1]? = some u
  rw[<- Array.getElem?_toList,<- hl]
  exact hu
 refine call_meets F.slot_list_pop ⟨_,e,rfl⟩ F.entry_list_pop (F.args_list_pop_1 _) (MeetsSeq.list_pop_last l its.toArray n u hy' (by rw[size_toArray];lia)) ⟨e,?_⟩
 refine⟨y,_,I.lset (its':=its.dropLast) hH e ?_ r.dropLast ?_,ru,q⟩
 ·show its.toArray.eraseIdxIfInBounds (its.toArray.size-1)=its.dropLast.toArray
  rw[size_toArray,List.eraseIdxIfInBounds_toArray,Zcw]
 ·rw[List.length_dropLast]
  lia
def rCat:R2:=fun x y H Q=>∃l b xs zs,x = .ref l/\y = .ref b/\H l=some (.lst xs)/\H b=some (.lst zs)/\xs.length+zs.length<=sizeLine/\∀p,H p=none->Q (.ref p) (upd H p (.lst (xs++zs)))
theorem op_cat:OpR X (binaryOp .Add) rCat:=by
 intro pins s σ H x y v u Q I rx ry h
 obtain⟨l,b,xs,zs,rfl,rfl,hH,hB,hz,q⟩:=h
 cases rx
 cases ry
 obtain⟨z,its,n,r,hl,e⟩:=I.lstM hH
 obtain⟨z2,its2,n2,r2,hl2,e2⟩:=I.lstM hB
 refine PySem.P.add_list e e2 ?_ (by rw[size_toArray,size_toArray];lia)
 have ea:its.toArray++its2.toArray=(its++its2).toArray:=by simp
 rw[ea]
 exact⟨.ref _,_,I.lnew (t':=s.toks) (r.append r2) (by rw[length_append];lia),rfl,q _ I.fresh⟩
def rRep:R2:=fun x y H Q=>∃l k xs,x = .ref l/\y = .int k/\H l=some (.lst xs) /\ -(2 ^ 63)<=k/\k<2 ^ 63/\xs.length*k.toNat<=sizeLine ∧
 ∀p,H p=none->Q (.ref p) (upd H p (.lst (List.replicate k.toNat xs).flatten))
theorem Z7b {α : Type}(xs:List α)(k:Nat):(List.replicate k xs).flatten.length=k*xs.length:=by
 induction k with
 |zero=>simp
 |succ k ih=>rw[replicate_succ,flatten_cons,length_append,ih,Nat.succ_mul,Nat.add_comm]
theorem op_rep:OpR X (binaryOp .Mult) rRep:=by
 intro pins s σ H x y v u Q I rx ry h
 obtain⟨l,k,xs,rfl,rfl,hH,h1,h2,hz,q⟩:=h
 cases rx
 obtain⟨t,rfl⟩:=ry
 obtain⟨z,its,n,r,hl,e⟩:=I.lstM hH
 have hlen:its.toArray.size*k.toNat<=sizeLine:=by rw[size_toArray,<- hl];exact hz
 have hcap:¬its.toArray.size*k.toNat>(2 ^ 63-1) / 8:=by
  have:(sizeLine:Nat)<=(2 ^ 63-1) / 8:=by decide
  lia
 have hfit:¬ (!Builtin.List.listFitsIndex k)=true:=by
  rw[fitsIndex_both h1 h2]
  exact Bool.false_ne_true
 have hlong:¬Builtin.List.listTooLong (its.toArray.size*k.toNat)=true:=by
  rw[Z7a hlen]
  exact Bool.false_ne_true
 have hnew:List.foldl (fun x1 x2=>x1++x2) #[] (List.replicate (if its.toArray.isEmpty=true then 0 else k.toNat) its.toArray)=(List.replicate k.toNat its).flatten.toArray:=by
  have f0:∀m:Nat,List.foldl (fun x1 x2=>x1++x2) #[] (List.replicate m its.toArray)=(List.replicate m its).flatten.toArray:=fun m=>by
   have:=Z51 its m []
   rw[nil_append] at this
   exact this
  rw[f0]
  cases its with
  |nil=>simp
  |cons a r'=>rw[if_neg (by simp)]
 refine wpAny_binaryOp_repeat_ref (T:="list") (U:="int") (by decide) ⟨_,e,rfl⟩ (fun s'=>typeIs_int s' k t) noFill_list_mul F.fills_int_mul F.slot_int_rmul repeat_list F.slot_int_index.lookup
  (call_meets F.slot_int_rmul (typeIs_int s k t) F.entry_int_rmul (F.args_int_rmul_2 _ _) (int___rmul___int_list k t l its.toArray n)
   ⟨e,rfl,⟨_,e,rfl⟩,call_meets F.slot_list_mul ⟨_,e,rfl⟩ F.entry_list_mul (F.args_list_mul_2 _ _) (AutoListH.list___mul___list_int_3 l its.toArray n k t hfit hcap hlong) ⟨e,?_⟩⟩)
 rw[hnew]
 exact⟨.ref _,_,I.lnew (t':=s.toks) (r.rep k.toNat) (by rw[Z7b,Nat.mul_comm];exact hz),rfl,q _ I.fresh⟩
end
section
variable {κ : Type}[DecidableEq κ]
def Z67 (kvs:List (κ × V))(k : κ):Option V:=(kvs.find? fun kv=>decide (kv.1=k)).map (·.2)
def Z6l (kvs:List (κ × V))(k : κ)(v:V):List (κ × V):=
 if (kvs.any fun kv=>decide (kv.1=k))=true then kvs.map (fun kv=>if kv.1=k then (kv.1,v) else kv) else kvs ++ [(k,v)]
theorem Z7c {p : κ × V}{r:List (κ × V)}{k : κ}(e:p.1=k):Z67 (p::r) k=some p.2:=by simp [Z67,List.find?_cons,e]
theorem Z7d {p : κ × V}{r:List (κ × V)}{k : κ}(e:¬p.1=k):Z67 (p::r) k=Z67 r k:=by simp [Z67,List.find?_cons,e]
theorem Zbh (k : κ):∀kvs:List (κ × V),(kvs.any fun kv=>decide (kv.1=k))=(Z67 kvs k).isSome
 |[]=>rfl
 |p::r=>by
  rw[any_cons]
  by_cases e:p.1=k
  ·simp only [Z7c e,decide_eq_true e,Bool.true_or,Option.isSome_some]
  ·rw[Z7d e,decide_eq_false e,Bool.false_or];exact Zbh k r
theorem Z2s (kvs:List (κ × V))(k : κ)(v:V):(Z6l kvs k v).length<=kvs.length+1:=by
 unfold Z6l
 split
 ·rw[length_map];lia
 ·rw[length_append,length_cons,length_nil];lia
theorem RelO.isSome_eq {o:Option V}{u:Option Value}(r:RelO o u):o.isSome=u.isSome:=by
 cases o with
 |none=>cases u with
  |none=>rfl
  |some _=>exact(show False from r).elim
 |some _=>cases u with
  |none=>exact(show False from r).elim
  |some _=>rfl
theorem RelO.getD {o:Option V}{u:Option Value}{d:V}{d':Value}(r:RelO o u)(rd:RelV d d'):RelV (o.getD d) (u.getD d'):=by
 cases o with
 |none=>cases u with
  |none=>exact rd
  |some _=>exact(show False from r).elim
 |some _=>cases u with
  |none=>exact(show False from r).elim
  |some _=>exact r
theorem KV.val {kvs:List (κ × V)}{vs:List (κ × Value)}(r:KV kvs vs)(k : κ):RelO (Z67 kvs k) (valueAt vs k):=by
 unfold KV at r
 induction r with
 |nil=>exact True.intro
 | @cons p q ps qs h t ih=>
  obtain⟨h1,h2⟩:=h
  by_cases e:p.1=k
  ·have e':q.1=k:=h1.symm.trans e
   have b:valueAt (q::qs) k=some q.2:=by simp [valueAt,List.find?_cons,e']
   rw[Z7c e,b];exact h2
  ·have e':¬q.1=k:=fun z=>e (h1.trans z)
   have b:valueAt (q::qs) k=valueAt qs k:=by simp [valueAt,List.find?_cons,e']
   rw[Z7d e,b];exact ih
theorem KV.any {kvs:List (κ × V)}{vs:List (κ × Value)}(r:KV kvs vs)(k : κ):(kvs.any fun kv=>decide (kv.1=k))=vs.any fun kv=>decide (kv.1=k):=by
 unfold KV at r
 induction r with
 |nil=>rfl
 |cons h t ih=>rw[any_cons,any_cons,ih,h.1]
theorem KV.repl {kvs:List (κ × V)}{vs:List (κ × Value)}(r:KV kvs vs)(k : κ){y:V}{u:Value}(ry:RelV y u):
  KV (kvs.map fun kv=>if kv.1=k then (kv.1,y) else kv) (vs.map fun kv=>if kv.1=k then (kv.1,u) else kv):=by
 unfold KV at r ⊢
 induction r with
 |nil=>exact .nil
 | @cons p q ps qs h t ih=>
  rw[map_cons,map_cons]
  refine .cons ?_ ih
  obtain⟨h1,h2⟩:=h
  by_cases e:p.1=k
  ·rw[if_pos e,if_pos (h1.symm.trans e)];exact⟨h1,ry⟩
  ·rw[if_neg e,if_neg (fun z=>e (h1.trans z))];exact⟨h1,h2⟩
theorem KV.put {kvs:List (κ × V)}{vs:List (κ × Value)}(r:KV kvs vs)(k : κ){y:V}{u:Value}(ry:RelV y u):KV (Z6l kvs k y) (stored vs k u):=by
 unfold Z6l stored
 rw[r.any k]
 by_cases e:(vs.any fun kv=>decide (kv.1=k))=true
 ·rw[if_pos e,if_pos e];exact r.repl k ry
 ·rw[if_neg e,if_neg e];exact Paired.snoc r ⟨rfl,ry⟩
theorem KV.length {kvs:List (κ × V)}{vs:List (κ × Value)}(r:KV kvs vs):kvs.length=vs.length:=Paired.length r
end
theorem Za1 {P:Program}{w:World}{k:Key}{u:Value}(r:RelV (kV k) u):(Z0e P w).is k u=true:=by
 cases k with
 |inl i=>obtain⟨t,e⟩:=(show ∃t,u=Value.int i t from r);subst e;exact Z9y P w i t
 |inr x=>obtain⟨t,e⟩:=(show ∃t,u=Value.str x t from r);subst e;exact Z2r P w x t
theorem Z8w {P:Program}{w:World}:∀{ks:List Key} {us:List Value},Vals (ks.map kV) us->ItemsAre (Z0e P w) ks us
 |[],_,r=>by rw[map_nil] at r;cases r;exact .nil
 |k::ks,_,r=>by
  rw[map_cons] at r
  cases r with
  |cons h t=>exact .cons (Za1 h) (Z8w t)
abbrev KT (H:Hp):List (List Key×V)->List (List Key×Addr×Value)->Prop:=Paired fun p q=>p.1=q.1/\H q.2.1=some (.tup (p.1.map kV))/\RelV p.2 q.2.2
theorem KT.val {H:Hp}{kvs:List (List Key×V)}{xs:List (List Key×Addr×Value)}(r:KT H kvs xs)(k:List Key):RelO (Z67 kvs k) ((atKey xs k).map (·.2)):=by
 induction r with
 |nil=>exact True.intro
 | @cons p q ps qs h t ih=>
  obtain⟨h1,_,h2⟩:=h
  by_cases e:p.1=k
  ·have e':q.1=k:=h1.symm.trans e
   have b:atKey (q::qs) k=some q.2:=by simp [atKey,List.find?_cons,e']
   rw[Z7c e,b];exact h2
  ·have e':¬q.1=k:=fun z=>e (h1.trans z)
   have b:atKey (q::qs) k=atKey qs k:=by simp [atKey,List.find?_cons,e']
   rw[Z7d e,b];exact ih
theorem KT.repl {H:Hp}{kvs:List (List Key×V)}{xs:List (List Key×Addr×Value)}(r:KT H kvs xs)(k:List Key){y:V}{u:Value}(ry:RelV y u):
  KT H (kvs.map fun kv=>if kv.1=k then (kv.1,y) else kv) (xs.map (putAt k u)):=by
 induction r with
 |nil=>exact .nil
 | @cons p q ps qs h t ih=>
  rw[map_cons,map_cons]
  refine .cons ?_ ih
  obtain⟨h1,h2,h3⟩:=h
  unfold putAt
  by_cases e:p.1=k
  ·rw[if_pos e,if_pos (h1.symm.trans e)];exact⟨h1,h2,ry⟩
  ·rw[if_neg e,if_neg (fun z=>e (h1.trans z))];exact⟨h1,h2,h3⟩
theorem KT.put {H:Hp}{kvs:List (List Key×V)}{xs:List (List Key×Addr×Value)}(r:KT H kvs xs)(k:List Key){b:Addr}{y:V}{u:Value}(hb:H b=some (.tup (k.map kV)))(ry:RelV y u):
  KT H (Z6l kvs k y) (storedH xs k b u):=by
 have e:(kvs.any fun kv=>decide (kv.1=k))=(atKey xs k).isSome:=by
  rw[Zbh,(r.val k).isSome_eq,Option.isSome_map]
 unfold Z6l storedH
 rw[e]
 by_cases q:(atKey xs k).isSome=true
 ·rw[if_pos q,if_pos q];exact r.repl k ry
 ·rw[if_neg q,if_neg q];exact Paired.snoc r ⟨rfl,hb,ry⟩
theorem KT.keeps {H H':Hp}{kvs:List (List Key×V)}{xs:List (List Key×Addr×Value)}(r:KT H kvs xs)(ht:∀b ys,H b=some (.tup ys)->H' b=some (.tup ys)):KT H' kvs xs:=
 Paired.mapP r fun _ _ z=>⟨z.1,ht _ _ z.2.1,z.2.2⟩
section
variable {P:Program}{w:World}{H:Hp}{h:Heap}{a:Addr}
theorem Zq2 {u:HO}(ok:HOk P w H h)(e:Rd H a u):ObjOk P w H h a u:=e.ok ok
theorem Z8x {kvs:List (Key×V)}(ok:HOk P w H h)(e:Rd H a (.dK kvs)):kvs.length<=sizeLine/\(a==sysModules)=false/\∃vs,KV kvs vs/\h.DictOf (Z0e P w) a vs:=
 show ObjOk P w H h a (.dK kvs) from Zq2 ok e
theorem Zq3 {kvs:List (Key×V)}(ok:HOk P w H h)(e:H a=some (.dK kvs)):kvs.length<=sizeLine/\(a==sysModules)=false/\∃vs,KV kvs vs/\h.DictOf (Z0e P w) a vs:=Z8x ok (.inl e)
theorem Z8y {ks:List Key}(ok:HOk P w H h)(e:H a=some (.tup (ks.map kV))):(tupleKind (Z0e P w)).is h ks a:=by
 obtain⟨_,its,r,o,h1,h2,n,h3,_⟩:=(show ObjOk P w H h a (.tup (ks.map kV)) from ok a _ e)
 exact⟨o,its.toArray,n,h1,h2,h3,by simpa using Z8w r⟩
theorem Zcx {kvs:List (List Key×V)}(ok:HOk P w H h)(e:Rd H a (.dT kvs)):kvs.length<=sizeLine/\(a==sysModules)=false ∧
  ∃xs,KT H kvs xs/\h.DictOfH (tupleKind (Z0e P w)) a xs:=by
 obtain⟨z,y,xs,r,o,es,ep,h1,h2,h3,h4,h5⟩:=(show ObjOk P w H h a (.dT kvs) from Zq2 ok e)
 refine⟨z,y,xs,r,o,es,ep,h1,h2,h3,h4,fun x hx=>?_,h5⟩
 have all:∀{l:List (List Key×V)} {m:List (List Key×Addr×Value)},KT H l m->∀x∈m,(tupleKind (Z0e P w)).is h x.1 x.2.1:=by
  intro l m q
  induction q with
  |nil=>intro x hx;exact nomatch hx
  | @cons p q ps qs hq t ih=>
   intro x hx
   rcases mem_cons.mp hx with e|hx
   ·subst e
    exact Z8y ok (by rw[<- hq.1];exact hq.2.1)
   ·exact ih x hx
 exact all r x hx
theorem Ztk {kvs:List (List Key×V)}(ok:HOk P w H h)(e:H a=some (.dT kvs)):kvs.length<=sizeLine/\(a==sysModules)=false ∧
  ∃xs,KT H kvs xs/\h.DictOfH (tupleKind (Z0e P w)) a xs:=Zcx ok (.inl e)
end
def DGet (H:Hp)(a:Addr)(y:V)(r:Option V):Prop:=
 (∃kvs k,Rd H a (.dK kvs)/\y=kV k/\r=Z67 kvs k)∨∃kvs k b,Rd H a (.dT kvs)/\y = .ref b/\H b=some (.tup (k.map kV))/\r=Z67 kvs k
def DPut (H:Hp)(a:Addr)(y v:V)(H':Hp):Prop:=
 (∃kvs k,H a=some (.dK kvs)/\y=kV k/\kvs.length<sizeLine/\H'=upd H a (.dK (Z6l kvs k v))) ∨
 ∃kvs k b,H a=some (.dT kvs)/\y = .ref b/\H b=some (.tup (k.map kV))/\kvs.length<sizeLine/\H'=upd H a (.dT (Z6l kvs k v))
theorem DGet.k {H:Hp}{a:Addr}{kvs:List (Key×V)}{k:Key}(e:H a=some (.dK kvs)):DGet H a (kV k) (Z67 kvs k):=.inl ⟨kvs,k,.inl e,rfl,rfl⟩
theorem DPut.k {H:Hp}{a:Addr}{kvs:List (Key×V)}{k:Key}{v:V}(e:H a=some (.dK kvs))(hl:kvs.length<sizeLine):DPut H a (kV k) v (upd H a (.dK (Z6l kvs k v))):=.inl ⟨kvs,k,e,rfl,hl,rfl⟩
section
variable {X:Cx}{pins:List (Addr×Obj)}{σ:St}{H:Hp}{s:Shared}{a:Addr}{y v:V}{u r:Value}{o:Option V}{A:Around}{E:Value->Shared->Prop}
theorem Inv.big (I:Inv X pins σ H s):sysModules<s.heap.objs.size:=by
 have h:mainGlobals<s.heap.objs.size:=(I.mod.glob.keeps I.bk).lt
 exact Nat.lt_trans (by decide) h
theorem Z8z {Q:Value->Shared->Prop}(hu:A.units+1<cLine)(I:Inv X pins σ H s)(g:DGet H a y (some v))(ry:RelV y u)(h:∀w' s',Inv X pins σ H s'->RelV v w'->Q w' s'):
  wpAny (model X.prog X.w) A (getItem (.ref a) u) Q E s:=by
 rcases g with ⟨kvs,k,e,ey,l⟩|⟨kvs,k,b,e,ey,eb,l⟩
 ·subst ey
  obtain⟨z,hd,vs,rel,dd⟩:=Z8x I.hok e
  obtain⟨w',hw,rw'⟩:=RelO.some_of (v:=v) (o:=valueAt vs k) (by rw[l];exact rel.val k)
  exact wpAny_getItem_of (Za1 ry) dd.mapOf hw (h w' _ (I.tok _) rw')
 ·subst ey
  cases (show u=Value.ref b from ry)
  obtain⟨z,hd,xs,rel,dd⟩:=Zcx I.hok e
  obtain⟨w',hw,rw'⟩:=RelO.some_of (v:=v) (o:=(atKey xs k).map (·.2)) (by rw[l];exact rel.val k)
  obtain⟨p,hp,hp2⟩:=Option.map_eq_some_iff.mp hw
  refine wpAny_getItem_heap (tupleKind_room_in1 hu) (Z8y I.hok eb) dd hp ?_
  rw[hp2]
  exact h w' _ (I.tok _) rw'
theorem Zwo {Q:Value->Shared->Prop}(hu:A.units+1<cLine)(I:Inv X pins σ H s)(g:DGet H a y o)(ry:RelV y u)(h:∀s',Inv X pins σ H s'->Q (.bool o.isSome) s'):
  wpAny (model X.prog X.w) A (compareOp .In u (.ref a)) Q E s:=by
 rcases g with ⟨kvs,k,e,ey,l⟩|⟨kvs,k,b,e,ey,eb,l⟩
 ·subst ey
  obtain⟨z,hd,vs,rel,dd⟩:=Z8x I.hok e
  refine wpAny_in_of (Za1 ry) hd dd.mapOf ?_
  rw[<- (rel.val k).isSome_eq,<- l]
  exact h _ (I.tok _)
 ·subst ey
  cases (show u=Value.ref b from ry)
  obtain⟨z,hd,xs,rel,dd⟩:=Zcx I.hok e
  refine wpAny_in_heap (tupleKind_room_in1 hu) (Z8y I.hok eb) hd dd ?_
  have q:=(rel.val k).isSome_eq
  rw[Option.isSome_map] at q
  rw[<- q,<- l]
  exact h _ (I.tok _)
theorem Za2 {h':Heap}{t':Nat}{ob:HO}(I:Inv X pins σ H s)(mu:Mut (H a))(hs:Heap.SameBut a s.heap h')(he:∃q,h'.get? a=some q)(new:ObjOk X.prog X.w (upd H a ob) h' a ob):
  Inv X pins σ (upd H a ob) { s with heap:=h',toks:=t' }:=
 I.write (x:=a) (e:=a) mu (.inl rfl) (fun b q hb z=>(hs.2 b hb).trans z) he new
theorem Zel {P:Program}{w:World}{H':Hp}{h':Heap}{kvs:List (Key×V)}{vs:List (Key×Value)}(z:kvs.length<=sizeLine)(hd:(a==sysModules)=false)(rel:KV kvs vs)(dd:h'.DictOf (Z0e P w) a vs):
  ObjOk P w H' h' a (.dK kvs):=⟨z,hd,vs,rel,dd⟩
theorem Z90 {H':Hp}{Q:Unit->Shared->Prop}(hu:A.units+1<cLine)(I:Inv X pins σ H s)(g:DPut H a y v H')(ry:RelV y u)(rv:RelV v r)(h:∀s',Inv X pins σ H' s'->Q () s'):
  wpAny (model X.prog X.w) A (setItem (.ref a) u r) Q E s:=by
 rcases g with ⟨kvs,k,e,ey,l,eH⟩|⟨kvs,k,b,e,ey,eb,l,eH⟩
 ·subst ey eH
  obtain⟨z,hd,vs,rel,dd⟩:=Zq3 I.hok e
  have hz:vs.length<=sizeLine:=by rw[<- rel.length];exact z
  have hl:(Z6l kvs k v).length<=sizeLine:=by have:=Z2s kvs k v;lia
  refine wpAny_setItem_pairs (hsz:=hz) (Za1 ry) dd fun h' dd' hs=>h _ ?_
  have he:∃q,h'.get? a=some q:=let ⟨q,_,_,hq,_⟩:=dd';⟨q,hq⟩
  exact Za2 I (by rw[e];exact True.intro) hs he (Zel hl hd (rel.put k rv) dd')
 ·subst ey eH
  cases (show u=Value.ref b from ry)
  obtain⟨z,hd,xs,rel,dd⟩:=Ztk I.hok e
  have hz:xs.length<=sizeLine:=by rw[<- Paired.length rel];exact z
  have hl:(Z6l kvs k v).length<=sizeLine:=by have:=Z2s kvs k v;lia
  refine wpAny_setItem_heap (hsz:=hz) (tupleKind_room_in1 hu) (Z8y I.hok eb) dd fun h' dd' hs=>h _ ?_
  obtain⟨q,es,ep,hq,h2,h3,h4,_,h5⟩:=dd'
  refine Za2 I (by rw[e];exact True.intro) hs ⟨q,hq⟩ ⟨hl,hd,_,(rel.put k eb rv).keeps fun c ys ec=>?_,q,es,ep,hq,h2,h3,h4,h5⟩
  rw[Z04 (Zt3 ec e (fun z=>nomatch z))]
  exact ec
end
section
variable {X:Cx}{pins:List (Addr×Obj)}{σ:St}{H:Hp}{s:Shared}{a:Addr}{kvs:List (Key×V)}{k:Key}{u:Value}{A:Around}{E:Value->Shared->Prop}
theorem Ztm {Q:Value->Shared->Prop}(I:Inv X pins σ H s)(e:Rd H a (.dK kvs))(h:∀t s',Inv X pins σ H s'->Q (.int kvs.length t) s'):wpAny (model X.prog X.w) A (call (.builtin "len") [.ref a]) Q E s:=by
 obtain⟨z,hd,vs,rel,dd⟩:=Z8x I.hok e
 refine call_len_dict hd dd (by rw[<- rel.length];rw[sizeLine_eq] at z;lia) ?_
 rw[<- rel.length]
 exact h _ _ (I.tok _)
end
def Zvb (i:Expr):Prop:=∀ov iv,subscripted i false ov iv=operate [ov,iv] (getItem ov iv)
theorem Zll {prog:Program}{w:World}{A:Around}{E:Value->Shared->Prop}{s:Shared}{env:Env}{value slice:Expr}{pos:Pos}{T id:String}{Q:Value->Shared->Prop}
  (hl:typeLookup (.type T) "__getitem__"=pure (some (.builtin id))) (hs:Zvb slice)
  (h:wpAny (model prog w) A (eval value env) (fun o s₁=>wpAny (model prog w) A (eval slice env) (fun i s₂=>s₂.TypeIs o T/\wpAny (model prog w) A (getItem o i) Q E s₂) E s₁) E s):
  wpAny (model prog w) A (eval (.Subscript value slice pos) env) Q E s:=by
 refine Subscript_ (wpAny_mono h (fun o s₁ h₁=>wpAny_mono h₁ (fun i s₂ h₂=>?_) fun _ _ x=>x) fun _ _ x=>x)
 obtain⟨hT,h₂⟩:=h₂
 unfold subscriptTail
 refine wpAny_bind ?_
 rw[getitemInPython_of_ne hT.not_modules]
 refine wpAny_bind (wpAny_specialOf hT hl ?_)
 have fin:wpAny (model prog w) A (subscripted slice false o i) (fun r s₃=>wpAny (model prog w) A (letTemporaryGo value o r >>= fun _=>pure r) Q E s₃) E s₂:=by
  rw[hs o i]
  exact wpAny_operating (wpAny_mono h₂ (fun r s₃ h₃=>wpAny_bind (wpAny_letTemporaryGo (wpAny_pure h₃))) fun _ _ x=>x)
 first
  |exact wpAny_pure (wpAny_bind fin)
  |exact wpAny_bind (wpAny_pure (wpAny_bind fin))
  |exact wpAny_bind fin
theorem Za3 {X:Cx}{pins:List (Addr×Obj)}{σ:St}{H:Hp}{s:Shared}{a:Addr}{y:V}{o:Option V}(I:Inv X pins σ H s)(g:DGet H a y o):s.TypeIs (.ref a) "dict":=by
 rcases g with ⟨kvs,k,e,_,_⟩|⟨kvs,k,b,e,_,_,_⟩
 ·obtain⟨_,_,vs,_,dd⟩:=Z8x I.hok e
  exact dd.typeIs
 ·obtain⟨_,_,xs,_,dd⟩:=Zcx I.hok e
  exact dd.typeIs
def Ztn (td ty:TE):TE:=fun σ H Q=>td σ H fun x H1=>ty σ H1 fun y H2=>∃a v,x = .ref a/\DGet H2 a y (some v)/\Q v H2
def Zq4 (td ty tv:TE):TS:=fun D σ H=>tv σ H fun v H1=>td σ H1 fun x H2=>ty σ H2 fun y H3=>∃a H4,x = .ref a/\DPut H3 a y v H4/\D.nx σ H4
def Zq5 (td ty tv:TE)(rd:V->V->Hp->VK->Prop):TS:=fun D σ H=>td σ H fun x H1=>ty σ H1 fun y H2=>∃a v,x = .ref a/\DGet H2 a y (some v) ∧
 tv σ H2 fun y2 H3=>rd v y2 H3 fun z H4=>∃H5,DPut H4 a y z H5/\D.nx σ H5
section
variable {X:Cx}{o i e value:Expr}{pos pos' tpos:Pos}{td ty tv:TE}
theorem Zlm (hu:X.A.units+1<cLine)(ho:PE X o td)(hi:PE X i ty)(hs:Zvb i):PE X (.Subscript o i pos) (Ztn td ty):=by
 intro pins s σ H Q I h
 refine Zll PySem.F.slot_dict_getitem.lookup hs (thn (ho pins s σ H _ I h) fun u s1 ⟨x,H1,I1,rx,q1⟩=>thn (hi pins s1 σ H1 _ I1 q1) fun iv s2 ⟨y,H2,I2,ry,a,v,ex,g,q2⟩=>?_)
 subst ex
 obtain rfl:u=Value.ref a:=rx
 exact⟨Za3 I2 g,Z8z hu I2 g ry fun w' s3 I3 rw'=>⟨v,H2,I3,rw',q2⟩⟩
theorem Zln (hu:X.A.units+1<cLine)(ho:PE X o td)(hi:PE X i ty)(hv:PE X value tv)(hs:swapsWith value (some (.Subscript o i pos')) pos.line X.env=pure false):
  PS X (.Assign [.Subscript o i pos'] value pos) (Zq4 td ty tv):=by
 intro pins s σ H D I h
 refine wpAny_Assign_Subscript (thn (hv pins s σ H _ I h) fun r s1 ⟨v,H1,I1,rv,q1⟩=>thn (ho pins s1 σ H1 _ I1 q1) fun u s2 ⟨x,H2,I2,rx,q2⟩=>thn (hi pins s2 σ H2 _ I2 q2) fun iv s3 ⟨y,H3,I3,ry,a,H4,ex,g,q3⟩=>?_) hs
 subst ex
 obtain rfl:u=Value.ref a:=rx
 exact Z90 hu I3 g ry rv fun s4 I4=>⟨σ,H4,I4,q3⟩
theorem Zlo {op:Operator}{rd:V->V->Hp->VK->Prop}(hu:X.A.units+1<cLine)(ho:PE X o td)(hi:PE X i ty)(hv:PE X value tv)(hop:Zv7 X op rd)
  (ha:∀ov iv new,augStore i ov iv new=(do holding [new,ov,iv] (setItem ov iv new);release [new,ov,iv] [];pure .next)):PS X (.AugAssign (.Subscript o i tpos) op value pos) (Zq5 td ty tv rd):=by
 intro pins s σ H D I h
 refine wpAny_AugAssign_SubscriptAny (thn (ho pins s σ H _ I h) fun u s1 ⟨x,H1,I1,rx,q1⟩=>thn (hi pins s1 σ H1 _ I1 q1) fun iv s2 ⟨y,H2,I2,ry,a,v,ex,g,q2⟩=>?_) ha
 subst ex
 obtain rfl:u=Value.ref a:=rx
 refine Z8z hu I2 g ry fun w' s3 I3 rw'=>thn (hv pins s3 σ H2 _ I3 q2) fun w2 s4 ⟨y2,H3,I4,ry2,q3⟩=>thn (hop pins s4 σ H3 v y2 w' w2 _ I4 rw' ry2 q3) fun w3 s5 ⟨z,H4,I5,rz,H5,g5,q4⟩=>?_
 exact Z90 hu I5 g5 ry rz fun s6 I6=>⟨σ,H5,I6,q4⟩
end
theorem Zbi {P:Program}{w:World}{H:Hp}(h:Heap)(hb:sysModules<h.objs.size):ObjOk P w H (h.push { cls:=.type "dict",data:=.dict #[] }) h.objs.size (.dK []):=
 ⟨Nat.zero_le _,beq_eq_false_iff_ne.mpr (Ne.symm (Nat.ne_of_lt hb)),[],.nil,Heap.DictOf.new h⟩
def tDNewK:TE:=fun _ H Q=>∀p,H p=none->Q (.ref p) (upd H p (.dK []))
section
variable {X:Cx}{pos:Pos}
theorem pe_dnewK:PE X (.Dict [] [] pos) tDNewK:=fun pins s σ H Q I h=>
 wpAny_Dict_empty ⟨.ref s.heap.objs.size,_,I.laid (a:=s.heap.objs.size) (o:=.dK []) (t':=s.toks) (fun _ _ q=>Heap.get?_push_of_some _ q) (Nat.le_refl _) (Zbi s.heap I.big),rfl,h _ (I.hok.fresh (Nat.le_refl _))⟩
end
def Z4a:List (TE×TE)->St->Hp->(List (V×V)->Hp->Prop)->Prop
 |[],_,H,Q=>Q [] H
 | (tk,tv)::r,σ,H,Q=>tk σ H fun x H1=>tv σ H1 fun y H2=>Z4a r σ H2 fun ps H3=>Q ((x,y)::ps) H3
abbrev VV:List (V×V)->List (Value×Value)->Prop:=Paired fun p q=>RelV p.1 q.1/\RelV p.2 q.2
def PPs (X:Cx)(pos:Pos)(keys:List (Option Expr))(values:List Expr)(trs:List (TE×TE)):Prop:=
 ∀(pins:List (Addr×Obj)) (s:Shared) (σ:St) (H:Hp) (Q:List (V×V)->Hp->Prop),Inv X pins σ H s->Z4a trs σ H Q →
  wpAny (model X.prog X.w) X.A (evalPairs (pairTrees keys values X.env pos)) (fun vs s'=>∃ps H',Inv X pins σ H' s'/\VV ps vs/\Q ps H') X.xe s
theorem Zlp {X:Cx}{pos:Pos}:PPs X pos [] [] []:=fun pins s σ H Q I h=>pairTrees_nil_walk ⟨[],H,I,.nil,h⟩
theorem Zhy {X:Cx}{pos:Pos}{k v:Expr}{ks:List (Option Expr)}{vs:List Expr}{tk tv:TE}{trs:List (TE×TE)}(hk:PE X k tk)(hv:PE X v tv)(hr:PPs X pos ks vs trs):
  PPs X pos (some k::ks) (v::vs) ((tk,tv)::trs):=fun pins s σ H Q I h=>
 pairTrees_cons_walk (thn (hk pins s σ H _ I h) fun u s1 ⟨x,H1,I1,rx,q1⟩=>thn (hv pins s1 σ H1 _ I1 q1) fun w2 s2 ⟨y,H2,I2,ry,q2⟩=>
  thn (hr pins s2 σ H2 _ I2 q2) fun ws s3 ⟨ps,H3,I3,rel,q3⟩=>⟨(x,y)::ps,H3,I3,.cons ⟨rx,ry⟩ rel,q3⟩)
def Z4b (kvs more:List (Key×V)):List (Key×V):=more.foldl (fun acc kv=>Z6l acc kv.1 kv.2) kvs
theorem KV.merge:∀{more:List (Key×V)} {rs:List (Key×Value)} {kvs:List (Key×V)} {vs:List (Key×Value)},KV more rs->KV kvs vs->KV (Z4b kvs more) (merged vs rs):=by
 intro more rs kvs vs r
 unfold KV at r
 induction r generalizing kvs vs with
 |nil=>intro q;exact q
 | @cons p q ps qs h t ih=>
  intro r0
  have e:KV (Z6l kvs p.1 p.2) (stored vs q.1 q.2):=by
   have:=r0.put p.1 h.2
   rw[<- h.1];exact this
  exact ih e
theorem Z32:∀(more kvs:List (Key×V)),(Z4b kvs more).length<=kvs.length+more.length
 |[],kvs=>by show kvs.length<=kvs.length+0;lia
 |p::r,kvs=>by
  have h1:=Z32 r (Z6l kvs p.1 p.2)
  have h2:=Z2s kvs p.1 p.2
  show(Z4b (Z6l kvs p.1 p.2) r).length<=_
  rw[length_cons];lia
theorem Z6m {P:Program}{w:World}:∀{kvs:List (Key×V)} {ws:List (Value×Value)},VV (kvs.map fun kv=>(kV kv.1,kv.2)) ws->∃rs,Carries (Z0e P w) ws rs/\KV kvs rs
 |[],_,r=>by rw[map_nil] at r;cases r;exact⟨[],True.intro,.nil⟩
 |p::kvs,_,r=>by
  rw[map_cons] at r
  cases r with
  | @cons a b as bs h t=>
   obtain⟨rs,c,q⟩:=Z6m (P:=P) (w:=w) t
   obtain⟨b1,b2⟩:=b
   exact⟨(p.1,b2)::rs,⟨Za1 h.1,rfl,c⟩,.cons ⟨rfl,h.2⟩ q⟩
def Zq6 (trs:List (TE×TE)):TE:=fun σ H Q=>∀p,H p=none->Z4a trs σ (upd H p (.dK [])) fun ps H2=>H2 p=some (.dK [])/\∃kvs:List (Key×V),ps=kvs.map (fun kv=>(kV kv.1,kv.2))/\kvs.length<=15/\Q (.ref p) (upd H2 p (.dK (Z4b [] kvs)))
theorem Zlq {X:Cx}{pos:Pos}{keys:List (Option Expr)}{values:List Expr}{trs:List (TE×TE)}(h:PPs X pos keys values trs)(hall:keys.all (·.isSome)=true)(hl:keys.length=values.length)(h0:keys ≠ [])
  (h15:keys.length<=15):PE X (.Dict keys values pos) (Zq6 trs):=by
 intro pins s σ H Q I q
 have hn:=I.hok.fresh (Nat.le_refl s.heap.objs.size)
 have I1:=I.laid (a:=s.heap.objs.size) (o:=.dK []) (h':=s.heap.push { cls:=.type "dict",data:=.dict #[] }) (t':=s.toks) (fun _ _ q=>Heap.get?_push_of_some _ q) (Nat.le_refl _) (Zbi s.heap I.big)
 refine wpAny_Dict_walk (knd:=Z0e X.prog X.w) hall hl h0 h15 (thn (h pins _ σ _ _ I1 (q _ hn)) fun ws s2 ⟨ps,H2,I2,rel,e,kvs,ep,lk,q2⟩=>?_)
 subst ep
 obtain⟨rs,c,rk⟩:=Z6m (P:=X.prog) (w:=X.w) rel
 obtain⟨z,hd,vs0,r0,dd⟩:=Zq3 I2.hok e
 cases r0
 refine⟨rs,c,dd,fun h' dd' hs=>⟨.ref s.heap.objs.size,_,?_,rfl,q2⟩⟩
 have hz:(Z4b [] kvs).length<=sizeLine:=by
  have h1:=Z32 kvs []
  rw[length_nil] at h1
  rw[sizeLine_eq];lia
 have he:∃q,h'.get? s.heap.objs.size=some q:=let ⟨q,_,_,hq,_⟩:=dd';⟨q,hq⟩
 exact Za2 I2 (by rw[e];exact True.intro) hs he (Zel hz hd (rk.merge .nil) dd')
structure M1 (X:Cx)(o:Expr)(m:Str)(apos:Pos)(e:Expr)(cpos:Pos):Prop where
 base:attributeBase o m X.env (eval o X.env)=eval o X.env
 few:((backTo cpos (starEach [e] X.env)).all (fun x => !x.1)&&(backToKw cpos (keywordEach [] X.env)).all (fun x=>x.1.isSome)
  && decide (([e]:List Expr).length+([]:List Keyword).length+(if ([]:List Keyword).isEmpty then 0 else 1)<30))=true
 line:(apos.endLine==cpos.line)=true
 trees:backTo cpos (starEach [e] X.env) = [(false,eval e X.env)]
structure M2 (X:Cx)(o:Expr)(m:Str)(apos:Pos)(e f:Expr)(cpos:Pos):Prop where
 base:attributeBase o m X.env (eval o X.env)=eval o X.env
 few:((backTo cpos (starEach [e,f] X.env)).all (fun x => !x.1)&&(backToKw cpos (keywordEach [] X.env)).all (fun x=>x.1.isSome)
  && decide (([e,f]:List Expr).length+([]:List Keyword).length+(if ([]:List Keyword).isEmpty then 0 else 1)<30))=true
 line:(apos.endLine==cpos.line)=true
 trees:backTo cpos (starEach [e,f] X.env) = [(false,eval e X.env),(false,eval f X.env)]
def IsD (H:Hp)(a:Addr):Prop:=(∃kvs,Rd H a (.dK kvs))∨∃kvs,Rd H a (.dT kvs)
theorem Zq7 {X:Cx}{pins:List (Addr×Obj)}{σ:St}{H:Hp}{s:Shared}{a:Addr}(I:Inv X pins σ H s)(d:IsD H a):
  s.TypeIs (.ref a) "dict"/\(∀b,Value.ref a = .ref b->∃ob,s.heap.get? b=some ob/\ob.dict=none)/\(a==sysModules)=false:=by
 rcases d with ⟨kvs,e⟩|⟨kvs,e⟩
 ·obtain⟨_,hd,vs,_,dd⟩:=Z8x I.hok e
  refine⟨dd.typeIs,fun b q=>?_,hd⟩
  cases q
  obtain⟨ob,_,_,h1,h2,_⟩:=dd
  exact⟨ob,h1,h2.2.1⟩
 ·obtain⟨_,hd,xs,_,dd⟩:=Zcx I.hok e
  refine⟨dd.typeIs,fun b q=>?_,hd⟩
  cases q
  obtain⟨ob,_,_,h1,h2,_⟩:=dd
  exact⟨ob,h1,h2.2.1⟩
section
variable {X:Cx}{pins:List (Addr×Obj)}{σ:St}{H:Hp}{s:Shared}{a:Addr}{y d:V}{u r:Value}{o:Option V}{A:Around}{E:Value->Shared->Prop}
theorem Zq8 {Q:Value->Shared->Prop}(hu:A.units+1<cLine)(I:Inv X pins σ H s)(g:DGet H a y o)(ry:RelV y u)(rd:RelV d r)(h:∀w' s',Inv X pins σ H s'->RelV (o.getD d) w'->Q w' s'):
  wpAny (model X.prog X.w) A (call (.builtin "dict.get") [.ref a,u,r]) Q E s:=by
 rcases g with ⟨kvs,k,e,ey,l⟩|⟨kvs,k,b,e,ey,eb,l⟩
 ·subst ey
  obtain⟨z,hd,vs,rel,dd⟩:=Z8x I.hok e
  refine call_meetsIn PySem.F.slot_dict_get dd.typeIs PySem.F.entry_dict_get (PySem.F.args_dict_get_3 _ _ _) (meets_dict_get_default (Z0e X.prog X.w) a (Za1 ry) hd r) ⟨_,dd.mapOf,h _ _ (I.tok _) ?_⟩
  rw[l]
  exact(rel.val k).getD rd
 ·subst ey
  cases (show u=Value.ref b from ry)
  obtain⟨z,hd,xs,rel,dd⟩:=Zcx I.hok e
  refine call_meetsIn PySem.F.slot_dict_get dd.typeIs PySem.F.entry_dict_get (PySem.F.args_dict_get_3 _ _ _) (meetsH_dict_get_default (tupleKind (Z0e X.prog X.w)) a b hd r) ⟨tupleKind_room_in1 hu,k,xs,Z8y I.hok eb,dd,h _ _ (I.tok _) ?_⟩
  rw[l]
  exact(rel.val k).getD rd
end
def Zkg (td ty tx:TE):TE:=fun σ H Q=>td σ H fun x H1=>∃a,x = .ref a/\IsD H1 a/\ty σ H1 fun y H2=>tx σ H2 fun z H3=>∃o,DGet H3 a y o/\Q (o.getD z) H3
section
variable {X:Cx}{o e f:Expr}{apos cpos:Pos}{td ty tx:TE}
theorem Zhz (hu:X.A.units+1<cLine)(ho:PE X o td)(he:PE X e ty)(hf:PE X f tx)(m:M2 X o "get" apos e f cpos):PE X (.Call (.Attribute o "get" apos) [e,f] [] cpos) (Zkg td ty tx):=by
 intro pins s σ H Q I h
 refine wpAny_Call_method m.base m.few m.line PySem.F.plainAttrs_dict PySem.F.slot_dict_get PySem.F.type_dict_get (thn (ho pins s σ H _ I h) fun u s1 ⟨x,H1,I1,rx,a,ex,d,q1⟩=>?_)
 subst ex
 obtain rfl:u=Value.ref a:=rx
 obtain⟨t1,t2,_⟩:=Zq7 I1 d
 refine⟨t1,t2,?_⟩
 rw[m.trees]
 refine Calls.callWith_builtin rfl (Calls.evalArgs_plain (Calls.spliced_cons (thn (he pins s1 σ H1 _ I1 q1) fun iv s2 ⟨y,H2,I2,ry,q2⟩=>
  Calls.spliced_cons (thn (hf pins s2 σ H2 _ I2 q2) fun fv s3 ⟨z,H3,I3,rz,ov,g,q3⟩=>Calls.spliced_nil ?_))))
 exact Zq8 hu I3 g ry rz fun w' s4 I4 rw'=>⟨_,H3,I4,rw',q3⟩
end
section
variable {X:Cx}{pins:List (Addr×Obj)}{σ:St}{H:Hp}{s:Shared}{a:Addr}{kvs:List (Key×V)}{A:Around}{E:Value->Shared->Prop}
theorem Zi0 {Q:Value->Shared->Prop}(I:Inv X pins σ H s)(e:Rd H a (.dK kvs))(h:∀p s',H p=none->Inv X pins σ (upd H p (.dK kvs)) s'->Q (.ref p) s'):wpAny (model X.prog X.w) A (call (.type "dict") [.ref a]) Q E s:=by
 obtain⟨z,hd,vs,rel,dd⟩:=Z8x I.hok e
 refine kt_call_dict hd dd (by rw[<- rel.length];exact z) fun h' dd' hs=>?_
 refine h _ _ (I.hok.fresh (Nat.le_refl _)) (I.laid (a:=s.heap.objs.size) (o:=.dK kvs) (t':=s.toks) (fun b q hq=>?_) (Nat.le_refl _) (Zel z (beq_eq_false_iff_ne.mpr (Ne.symm (Nat.ne_of_lt I.big))) rel dd'))
 exact(hs.2 b (Nat.ne_of_lt (Heap.lt_size hq))).trans (Heap.get?_push_of_some _ hq)
end
end L2
namespace Att
open PySem PySem.W PySem.Calls PyProof.Rows
theorem Z52 {P:Params}{h:Heap}:∀(ns:List Int) (vs:List Value),WellAll P h vs (ns.map WData.int)->IntsAre vs ns:=by
 intro ns
 induction ns with
 |nil=>
  intro vs w
  rw[map_nil] at w
  cases w
  exact .nil
 |cons n ns ih=>
  intro vs w
  rw[map_cons] at w
  cases w with
  |cons a b=>
   cases a
   exact .cons _ _ (ih _ b)
theorem Zem {l:OpenLaw}{n:Nat}(hn:l.most=some n){P:Params}{h:Heap}{args:List WData}{vals:List Value}
  (hpre:l.row.toRowW.claim.pre args=true) (hwl:WellAll P h vals args):
  ∃a vs ns,vals = [Value.ref a]/\args = [WData.list (ns.map WData.int)]/\h.get? a=some { cls:=.type "list",data:=.seq vs.toArray }/\IntsAre vs ns/\ns.length<=n:=by
 have hsh:WShape.hasAll [] args [.list .int]=true:=(pre_splitW hpre).1
 have hc:l.pre.holds [] { args:=args }=true:=(pre_splitW hpre).2
 obtain⟨d,r,rfl,h1,h2⟩:=hasAllW_cons hsh
 obtain rfl:=hasAllW_nil h2
 obtain⟨xs,rfl,h3⟩:=hasW_list h1
 obtain⟨ns,rfl⟩:=items_int h3
 have hlen:ns.length<=n:=by
  unfold OpenLaw.pre at hc
  have h4:(WTm.not (.lt (.lit (.int (n:Int))) (.len (.arg 0)))).holds [] { args:=[.list (ns.map .int)] }=true:=by
   have h4:=(holds_andW hc).1
   rw[hn] at h4
   exact h4
  have h5:=condW_of h4 (w_not (w_lt w_lit (w_len_list (w_arg rfl))))
  rw[length_map] at h5
  refine Nat.le_of_not_lt fun q=>?_
  have q':(n:Int)<((ns.length:Nat):Int):=by lia
  first
   | (rw[decide_eq_true q'] at h5;exact absurd h5 (by decide))
   | (simp at h5;lia)
 cases hwl with
 |cons w1 w2=>
  cases w2
  cases w1 with
  |list ho hall=>exact⟨_,_,ns,rfl,rfl,ho,Z52 ns _ hall,hlen⟩
theorem Zen (l:OpenLaw)(args:List WData):l.row.toRowW.claim.post args (.bool true) args=true:=
 postW_of (r:=l.row.toRowW) (X:=(true==true))
  (show WShape.has [] (.bool true) .bool=true by first|rfl|decide|simp [WShape.has,WShape.arms,WShape.armsAll])
  (show(WTm.eq .res (.lit (.bool true))).value [] { args:=args,res:=some (.bool true),after:=args }=some (.bool (true==true)) from w_eq_bool (w_res rfl) w_lit) rfl
theorem attach_call {l:OpenLaw}{n:Nat}{q:Program}{loose:List Str}{XP:(Str->Option Value)->Heap->Prop}{YP:World->Heap->Prop}{d:DefRec}
  (hn:l.most=some n) (hdf:d.params.defaults = [])
  (call:∀(w:World) (s₀ s₁:Shared) (mg mb:Str->Option Value) (fa:Addr) (o:Obj) (pm cd doc:Value) (a:Addr) (vs:List Value) (ns:List Int),
   Ground q loose [] XP w s₀ mg mb s₁.heap->YP w s₁.heap →
   s₁.heap.get? fa=some o->o.data = .func (docDef d.name d.params d.body d.scope pm cd doc)->s₁.heap.CodeRec cd d.name->mg d.name=some (.ref fa) →
   s₁.heap.get? a=some { cls:=.type "list",data:=.seq vs.toArray }->IntsAre vs ns->ns.length<=n->s₁.gens = #[] →
   codeAny (model l.prog w) callerA (.call (.ref fa) ⟨[.ref a],[]⟩) (fun r s'=>r = .ok (.ret (.bool true))/\OldK s₁.heap s'.heap/\s'.os=s₁.os/\AllBare s'.gens) s₁):
  WalkO q loose XP YP l.row.toRowW d [] (fun f vs=>PySem.call f vs):=by
 intro w s₀ s₁ mg mb G Y fa o pm cd doc dV kV ho hd hcd hD hmg hg args vals as hpre hlay hrd hwl hlo
 obtain rfl:dV = .none:=Dflts.none hD hdf
 obtain rfl:kV = .none:=Dflts.noKw hD
 obtain⟨a,vs,ns,rfl,rfl,hobj,hints,hlen⟩:=Zem hn hpre hwl
 refine enter_call (codeAny_mono (call w s₀ s₁ mg mb fa o pm cd doc a vs ns G Y ho (fd_plain hd) hcd hmg hobj hints hlen hg) fun r s' hq=>?_)
 obtain⟨rfl,h2,h3,h4⟩:=hq
 exact⟨.inl ⟨.bool true,.bool true,[],rfl,fun _=>rfl,.bool true,Zen l _,fun _=>⟨List.Pairwise.nil,fun _ hm=>(nomatch hm)⟩⟩,h2,h3,h4⟩
end Att
namespace L2
open PySem PySem.Spec PyProof.Rows
theorem Z91:∀{vs:List Value} {ns:List Int},IntsAre vs ns->Vals (ns.map V.int) vs
 |_,_,.nil=>.nil
 |_,_,.cons n t h=>.cons ⟨t,rfl⟩ (Z91 h)
def Zto (H:Hp):Prop:=∀b,H b=none∨∃o xs,H b=some (.frz o (.lst xs))
theorem Zi1 {P:Program}{w:World}{K:W.Frag}{mg mb:Str->Option Value}{CX:CXT}{k:Nat}{fa a:Addr}{fd:FuncData}{x:Str}{sp:Sp}{s₁:Shared}{vs:List Value}{ns:List Int}
  (KX:K.In s₁.heap) (hns:s₁.heap.Ns mainGlobals mg) (hb:s₁.heap.Ns builtinsNs mb) (hbb:∀x:Str,x≠"__name__"->mb x=bootBuiltins x) (hlim:s₁.heap.NoLimit) (hg:s₁.gens = #[])
  (ha:s₁.heap.get? a=some { cls:=.type "list",data:=.seq vs.toArray }) (hi:IntsAre vs ns) (hl:ns.length<=sizeLine) (hr:Room k callerA)
  (F:∀base:Heap,K.In base->base.Ns mainGlobals mg->FnOk P w K mg base CX k fa fd [x] sp) (hbind:∀(s:Shared) (u:Value),BindsTo s fd ⟨[u],[]⟩ [(x,u)])
  (hsp:∀H:Hp,Zto H->SqL K H a (ns.map V.int)->sp [.ref a] H (fun v _=>v = .bl true) fun _ _ _=>False)
  (hCX:∀H e s',CX [] H s₁ (fun _ _ _=>False) e s'->False):
  codeAny (model P w) callerA (.call (.ref fa) ⟨[.ref a],[]⟩) (fun r s'=>r = .ok (.ret (.bool true))/\OldK s₁.heap s'.heap/\s'.os=s₁.os/\AllBare s'.gens) s₁:=by
 have rv:=Z91 hi
 have lenV:=hi.length
 have core:∀H:Hp,Zto H->SqL K H a (ns.map V.int)->HOk P w H s₁.heap->(∀b,H b≠none->b=a)->(H a≠none->K.lookup a=none) →
   codeAny (model P w) callerA (.call (.ref fa) ⟨[.ref a],[]⟩) (fun r s'=>r = .ok (.ret (.bool true))/\OldK s₁.heap s'.heap/\s'.os=s₁.os/\AllBare s'.gens) s₁:=by
  intro H hO hS hok hA hK
  have base_of:∀{b:Addr} {o:Obj},s₁.heap.get? b=some o->H b=none->(Zhn s₁.heap H).get? b=some o:=fun e n=>Zho e n
  have noA:∀{b:Addr} {o:Obj} {es:Array DictEntry} {ep:Nat},s₁.heap.get? b=some o->o.data = .dict es ep->H b=none:=fun {b o es ep} e d=>by
   cases q:H b with
   |none=>rfl
   |some u=>
    have e':b=a:=hA b (by rw[q];simp)
    subst e'
    rw[ha] at e;cases e
    have d':Data.seq vs.toArray _=Data.dict es ep:=d
    cases d'
  have nsK:∀{b:Addr} {m:Str->Option Value},s₁.heap.Ns b m->(Zhn s₁.heap H).Ns b m:=fun {b m} ⟨o,es,ep,e,d,r⟩=>⟨o,es,ep,base_of e (noA e d),d,r⟩
  have hKb:K.In (Zhn s₁.heap H):=fun b o e=>base_of (KX b o e) (by
   cases q:H b with
   |none=>rfl
   |some u=>
    have e':b=a:=hA b (by rw[q];simp)
    subst e'
    rw[hK (by rw[q];simp)] at e;cases e)
  have hM:Mod K mg (Zhn s₁.heap H):=⟨hKb,nsK hns,⟨mb,nsK hb,hbb⟩,let ⟨mc,h1,h2⟩:=hlim;⟨mc,nsK h1,h2⟩⟩
  have e0:Env0 P w K mg (Zhn s₁.heap H) callerA [] s₁ H:=⟨rfl,hM,fun b o e=>Zl5 e,Nat.le_of_eq (Zdz _ _),trivial,fun b hb=>absurd (show b∈([]:List Addr) from hb) (by simp),hok,.of_eq hg⟩
  refine codeAny_mono ((F _ hKb (nsK hns)).run callerA [] s₁ H ⟨[.ref a],[]⟩ [.ref a] [.ref a] _ _ hr e0 (hbind s₁ (.ref a)) (.cons rfl .nil) (hsp H hO hS)) fun r s' h=>?_
  cases r with
  |error e=>exact(hCX H e s' h).elim
  |ok fl=>
   cases fl with
   |next=>exact False.elim h
   |brk=>exact False.elim h
   |cont=>exact False.elim h
   |ret u=>
    obtain⟨v,H',os,bare,un,hok',r',q⟩:=h
    have q':v = .bl true:=q
    subst q'
    obtain rfl:u=Value.bool true:=r'
    refine⟨rfl,OldK.of_keep fun b o e=>?_,os,bare⟩
    cases q:H b with
    |none=>exact un.keep b o e q (by intro z;exact absurd (show b∈([]:List Addr) from z) (by simp)) (by simp)
    |some u=>
     rcases hO b with z|⟨ob,xs,z⟩
     ·rw[q] at z;cases z
     ·have z2:=un.frzs b ob _ z
      obtain⟨e1,_⟩:=hok b _ z
      obtain⟨e2,_⟩:=hok' b _ z2
      rw[e] at e1;cases e1
      exact e2
 cases hk:K.lookup a with
 |some o=>
  have e:=KX a o hk
  rw[ha] at e
  cases e
  refine core (fun _=>none) (fun _=>.inl rfl) (.inr ⟨_,vs.toArray,_,hk,rfl,rfl,rfl,by rw[size_toArray,lenV];exact hl,by simpa using rv⟩) (fun b u z=>by have z':(none:Option HO)=some u:=z;cases z') (fun b z=>absurd rfl z) fun z=>absurd rfl z
 |none=>
  refine core (fun b=>if b=a then some (.frz { cls:=.type "list",data:=.seq vs.toArray } (.lst (ns.map V.int))) else none) (fun b=>?_) (.inl (.inr ⟨{ cls:=.type "list",data:=.seq vs.toArray },if_pos rfl⟩)) (fun b u z=>?_) (fun b z=>?_) fun _=>hk
  ·by_cases hb:b=a
   ·exact .inr ⟨_,_,if_pos hb⟩
   ·exact .inl (if_neg hb)
  ·by_cases hb:b=a
   ·have z':=(if_pos hb).symm.trans z
    cases z'
    subst hb
    exact⟨ha,by rw[length_map];exact hl,vs,_,rv,ha⟩
   ·have z':=(if_neg hb).symm.trans z
    cases z'
  ·by_cases hb:b=a
   ·exact hb
   ·exact absurd (if_neg hb) z
theorem walk_of {l:PySem.W.OpenLaw}{n k:Nat}{q:Program}{loose:List Str}{XP:(Str->Option Value)->Heap->Prop}{YP:World->Heap->Prop}{d:DefRec}{K:Params->W.Frag}{CX:World->CXT}{sp:World->Sp}{x:Str}
  (hn:l.most=some n) (hn2:n<=sizeLine) (hdf:d.params.defaults = []) (hr:Room k callerA)
  (hY:∀(w:World) (h:Heap),YP w h->(K w.params).In h)
  (F:∀(w:World) (mg:Str->Option Value) (fa:Addr) (h:Heap),(K w.params).In h->h.Ns mainGlobals mg->mg d.name=some (.ref fa) →
   ∃fd:FuncData,(∀(s:Shared) (u:Value),BindsTo s fd ⟨[u],[]⟩ [(x,u)]) ∧
    ∀base:Heap,(K w.params).In base->base.Ns mainGlobals mg->FnOk l.prog w (K w.params) mg base (CX w) k fa fd [x] (sp w))
  (hsp:∀(w:World) (H:Hp) (a:Addr) (ns:List Int),ns.length<=n->Zto H->SqL (K w.params) H a (ns.map V.int)->sp w [.ref a] H (fun v _=>v = .bl true) fun _ _ _=>False)
  (hCX:∀(w:World) (H:Hp) (s:Shared) (e:Value) (s':Shared),CX w [] H s (fun _ _ _=>False) e s'->False):
  PySem.W.WalkO q loose XP YP l.row.toRowW d [] (fun f vs=>PySem.call f vs):=by
 refine Att.attach_call hn hdf fun w s₀ s₁ mg mb fa o pm cd doc a vs ns G Y ho hd hcd hmg hobj hints hlen hg=>?_
 have KX:=hY w _ Y
 obtain⟨fd,hb,hF⟩:=F w mg fa _ KX G.T.g hmg
 exact Zi1 KX G.T.g G.T.b G.T.builtins G.T.nolimit hg hobj hints (Nat.le_trans hlen hn2) hr hF hb (fun H hO hS=>hsp w H a ns hlen hO hS) fun H e s'=>hCX w H s₁ e s'
abbrev CX0:CXT:=fun _ _ _ _ _ _=>False
abbrev E0:XK:=fun _ _ _=>False
theorem Zq9 {X:Cx}:Zbf CX0 X E0:=fun _ _ _ _ _ _ _ h=>h.elim
structure Fun (K:W.Frag)(x qual:Str)(st:Stmt)(f:Addr)(fd:FuncData):Prop where
 ex:∃(oc:Value) (od:Option Addr) (kV doc pm:Value) (an:Option Addr) (cdv ct:Value) (osl:Array (Option Value)),
  fd=PySem.W.fnOf x qual (Z1z st) (Z15 st) (Z0c st) .none kV doc pm an cdv ct/\K.lookup f=some ⟨oc,od,.func fd,osl⟩/\PySem.W.codeIn K cdv qual=true
 kp:PySem.W.keepIn K (.ref f)=true
section
variable {P:Program}{w:World}{K:W.Frag}{mg:Str->Option Value}{base:Heap}
theorem Fun.ok {x qual:Str}{st:Stmt}{f:Addr}{fd:FuncData}{N ps:List Str}{k:Nat}{sp:Sp}(F:Fun K x qual st f fd)(S:FnScope N ps (Z0c st))(len:∀vs H Q E,sp vs H Q E->vs.length=ps.length)
  (hbody:∀(cdv:Value) (A:Around) (outer:List Env) (s:Shared) (H:Hp) (vs:List V) (Q:VK) (E:XK),Room k (A.deeper (envOfC qual (Z0c st) s.heap.objs.size f cdv))->sp vs H Q E →
   ∃t,PSs (Zlh CX0 P w K mg base N qual (Z0c st) f cdv A outer s H E).nox (Z15 st) t/\t { nx:=fun _ H'=>Q .non H',rt:=Q } (Z2m N vs) H):FnOk P w K mg base CX0 (k+1) f fd ps sp:=by
 obtain⟨oc,od,kV,doc,pm,an,cdv,ct,osl,rfl,lk,hcd⟩:=F.ex
 refine Ztg lk hcd S len fun A outer s H vs Q E hr hsp=>?_
 obtain⟨t,h,q⟩:=hbody cdv A outer s H vs Q E hr hsp
 exact⟨t,h.nox,q⟩
theorem Fun.binds {x qual:Str}{st:Stmt}{f:Addr}{fd:FuncData}{ps:List Str}(F:Fun K x qual st f fd)
  (h:∀(kV doc pm:Value) (an:Option Addr) (cdv ct:Value) (us:List Value),us.length=ps.length->bindArgs (PySem.W.fnOf x qual (Z1z st) (Z15 st) (Z0c st) .none kV doc pm an cdv ct) ⟨us,[]⟩=pure (ps.zip us)):Binds K fd ps []:=by
 obtain⟨oc,od,kV,doc,pm,an,cdv,ct,osl,rfl,lk,hcd⟩:=F.ex
 exact .all (h kV doc pm an cdv ct)
theorem Zqa {x qual:Str}{st:Stmt}{f:Addr}{oc:Value}{od an:Option Addr}{osl:Array (Option Value)}{kV doc pm cdv ct:Value}(l:K.lookup f=some ⟨oc,od,.func (PySem.W.fnOf x qual (Z1z st) (Z15 st) (Z0c st) .none kV doc pm an cdv ct),osl⟩)
  (c:PySem.W.codeIn K cdv qual=true) (k:PySem.W.keepIn K (.ref f)=true):Fun K x qual st f (PySem.W.fnOf x qual (Z1z st) (Z15 st) (Z0c st) .none kV doc pm an cdv ct):=⟨⟨oc,od,kV,doc,pm,an,cdv,ct,osl,rfl,l,c⟩,k⟩
end
section
variable {X:Cx}
theorem pv (i:Nat){x:Str}{pos:Pos}(hN:X.N[i]? = some x:=by rfl)(hv:Vis X.env.scope x:=by first|exact Or.inl rfl|exact Or.inr (Or.inl rfl)|exact Or.inr (Or.inr rfl))(hd:(x==("__debug__":Str))=false:=by decide)
  (hcd:(x==("__classdict__":Str))=false:=by decide):PE X (.Name x pos) (Zp6 i):=Zk2 hN hv hd hcd
end
theorem Z0k {c A B:Prop}[Decidable c](h1:c->A)(h2:¬c->B):if c then A else B:=by
 by_cases h:c
 ·rw[if_pos h]
  exact h1 h
 ·rw[if_neg h]
  exact h2 h
def Same (H H':Hp):Prop:=∀b o,H b=some o->H' b=some o
theorem Same.refl (H:Hp):Same H H:=fun _ _ h=>h
theorem Same.trans {H H1 H2:Hp}(a:Same H H1)(b:Same H1 H2):Same H H2:=fun c o h=>b c o (a c o h)
theorem Same.free {H H':Hp}(e:Same H H'){l:Addr}(h:H' l=Option.none):H l=Option.none:=by
 cases q:H l with
 |none=>rfl
 |some o=>
  rw[e l o q] at h
  cases h
theorem Same.seq {K:W.Frag}{H H':Hp}{a:Addr}{xs:List V}(e:Same H H')(h:SqL K H a xs):SqL K H' a xs:=by
 rcases h with (h|⟨o,h⟩)|h
 ·exact .inl (.inl (e _ _ h))
 ·exact .inl (.inr ⟨o,e _ _ h⟩)
 ·exact .inr h
section
variable {X:Cx}
theorem Zeo:Z2l X (.builtin "len") (fun xs H Q=>∃a kvs,xs = [V.ref a]/\H a=some (.dK kvs)/\Q (.int kvs.length) H):=by
 intro pins s σ H xs us Q I r h
 obtain⟨a,kvs,rfl,ha,q⟩:=h
 obtain⟨u,rfl,ru⟩:=Z3p r
 cases ru
 exact Ztm I (.inl ha) fun t s' I'=>⟨.int kvs.length,H,I',⟨t,rfl⟩,q⟩
end
section
variable {prog:Program}{w:World}{A:Around}{E:Value->Shared->Prop}{R:Result->Shared->Prop}{s:Shared}
theorem Z92 {elt target iter:Expr}{ifs:List Expr}{scope:Scope}{pos:Pos}{it acc:Value}{env:Env}(I:Nat->Shared->Prop)
  (turn:∀n s,I n s->wpAny (model prog w) A (pyNext it) (fun r s1=>match r with
   |none=>R (.ok .next) s1
   |some v=>wpAny (model prog w) A (letOwnedTupleGo target it v) (fun _ s1'=>wpAny (model prog w) A (assign target env v) (fun _ s2=>
     wpAny (model prog w) A (forIn ifs true fun c r=>if r=true then do let ok ← isTrue c env (eval c env);pure (ForInStep.yield ok) else pure (ForInStep.yield r)) (fun ok s3=>
      if ok=true then wpAny (model prog w) A (eval elt env) (fun x s4=>
       wpAny (model prog w) A (call (.builtin "list.append") [acc,x]) (fun _ s5=>∃m,m<n/\I m s5) (fun _ _=>False) s4) (fun _ _=>False) s3
      else ∃m,m<n/\I m s3) (fun _ _=>False) s2) (fun _ _=>False) s1') (fun _ _=>False) s1) (fun _ _=>False) s)
  (n:Nat) (h:I n s):
  codeAny (model prog w) A (.compLoop (.ListComp elt [⟨target,iter,ifs,0⟩] scope pos) 0 it acc env) R s:=by
 refine codeAny_loop rfl I (fun n s hI=>?_) n h
 show wpAny _ A ((compTurn (.ListComp elt [⟨target,iter,ifs,0⟩] scope pos) 0 it acc env).onRaise (fun x=>do noteFrame x env;theTreesLotGoes x)) _ _ s
 refine wpAny_noted ?_
 rw[compTurn_list]
 refine wpAny_bind (wpAny_standAt (wpAny_bind (wpAny_mono (turn n s hI) (fun r s₁ h₁=>?_) fun _ _ h'=>h'.elim)))
 cases r with
 |none=>exact wpAny_pure h₁
 |some v=>
  refine wpAny_bind (wpAny_mono h₁ (fun _ s1' h1'=>?_) fun _ _ h'=>h'.elim)
  refine wpAny_bind (wpAny_mono h1' (fun _ s₂ h₂=>wpAny_bind (wpAny_mono h₂ (fun ok s₃ h₃=>?_) fun _ _ h'=>h'.elim)) fun _ _ h'=>h'.elim)
  cases ok with
  |false=>exact wpAny_pure ⟨rfl,h₃⟩
  |true=>
   exact wpAny_bind (wpAny_bind (wpAny_mono h₃ (fun x s₄ h₄=>wpAny_bind (wpAny_mono h₄ (fun _ s₅ h₅=>wpAny_pure (wpAny_pure ⟨rfl,h₅⟩)) fun _ _ h'=>h'.elim)) fun _ _ h'=>h'.elim))
end
theorem Z3q {env:Env}:∀(names:List (Str×NameKind)) (cs:List (Str×Addr)),(∀n,(n,NameKind.free)∈names->∃c,env.cells.lookup n=some c) →
  ∃cl,(forIn names cs fun(x:Str×NameKind) (r:List (Str×Addr))=>match x with
   | (name,kind)=>if (kind==NameKind.free)=true then do let c ← cellOf env name;pure (ForInStep.yield ((name,c)::r)) else pure (ForInStep.yield r):Sem (List (Str×Addr)))=pure cl ∧
   (∀p∈cl,p∈cs∨env.cells.lookup p.1=some p.2)/\(∀p∈cs,p∈cl)/\(∀n,(n,NameKind.free)∈names->∃c,(n,c)∈cl)
 |[],cs,_=>⟨cs,by simp,fun p hp=>.inl hp,fun p hp=>hp,fun n hn=>by cases hn⟩
 | (n,k)::r,cs,h=>by
  by_cases hk:(k==NameKind.free)=true
  ·have hk':k=NameKind.free:=eq_of_beq hk
   subst hk'
   obtain⟨c,hc⟩:=h n (mem_cons_self)
   obtain⟨cl,e,h1,h2,h3⟩:=Z3q r ((n,c)::cs) fun m hm=>h m (mem_cons_of_mem _ hm)
   refine⟨cl,?_,fun p hp=>?_,fun p hp=>h2 p (mem_cons_of_mem _ hp),fun m hm=>?_⟩
   ·rw[List.forIn_cons]
    simp only [hk,if_true]
    unfold cellOf
    rw[hc]
    exact e
   ·rcases h1 p hp with q|q
    ·rcases mem_cons.mp q with q|q
     ·subst q;exact .inr hc
     ·exact .inl q
    ·exact .inr q
   ·rcases mem_cons.mp hm with q|q
    ·cases q;exact⟨c,h2 _ mem_cons_self⟩
    ·exact h3 m q
  ·obtain⟨cl,e,h1,h2,h3⟩:=Z3q r cs fun m hm=>h m (mem_cons_of_mem _ hm)
   refine⟨cl,?_,h1,h2,fun m hm=>?_⟩
   ·rw[List.forIn_cons]
    simp only [hk]
    exact e
   ·rcases mem_cons.mp hm with q|q
    ·cases q;exact absurd rfl hk
    ·exact h3 m q
theorem Z6n {κ : Type}[BEq κ][LawfulBEq κ]{β : Type}:∀{l:List (κ × β)} {x : κ} {c : β},l.lookup x=some c->(x,c)∈l
 |[],_,_,h=>by simp at h
 | (n,k)::r,x,c,h=>by
  cases hx:x==n with
  |true=>
   simp only [lookup_cons,hx] at h
   cases h
   have e:=eq_of_beq hx
   subst e
   exact mem_cons_self
  |false=>
   simp only [lookup_cons,hx] at h
   exact mem_cons_of_mem _ (Z6n h)
theorem Z6o {κ : Type}[BEq κ][LawfulBEq κ]{β : Type}:∀{l:List (κ × β)} {x : κ} {c : β},(x,c)∈l->∃c',l.lookup x=some c'
 | (n,k)::r,x,c,h=>by
  cases hx:x==n with
  |true=>exact⟨k,by simp only [lookup_cons,hx]⟩
  |false=>
   rcases mem_cons.mp h with q|q
   ·cases q;simp at hx
   ·obtain⟨c',e⟩:=Z6o q
    exact⟨c',by simp only [lookup_cons,hx];exact e⟩
theorem Z6p {scope:Scope}{env:Env}(h:∀n,(n,NameKind.free)∈scope.names->∃c,env.cells.lookup n=some c):
  ∃cl,closureFor scope env=pure cl/\(∀x c,cl.lookup x=some c->env.cells.lookup x=some c)/\∀n,(n,NameKind.free)∈scope.names->∃c,cl.lookup n=some c:=by
 obtain⟨cl,e,h1,_,h3⟩:=Z3q scope.names [] h
 refine⟨cl,?_,fun x c hx=>?_,fun n hn=>?_⟩
 ·have e2:closureFor scope env=((forIn scope.names ([]:List (Str×Addr)) fun(x:Str×NameKind) (r:List (Str×Addr))=>match x with
     | (name,kind)=>if (kind==NameKind.free)=true then do let c ← cellOf env name;pure (ForInStep.yield ((name,c)::r)) else pure (ForInStep.yield r):Sem (List (Str×Addr))) >>= fun r=>pure r):=rfl
  rw[e2,e]
  rfl
 ·rcases h1 _ (Z6n hx) with q|q
  ·cases q
  ·exact q
 ·obtain⟨c,hc⟩:=h3 n hn
  exact Z6o hc
def Z0q (X:Cx)(N':List Str)(scope:Scope)(cl:List (Str×Addr))(C:Addr)(ex:List Addr)(s0:Shared)(H0:Hp):Cx:=
 { X with N:=N',s₀:=s0,H₀:=H0,env:=compEnvC scope cl C X.env,outer:=X.stack,stack:=X.stack,ex:=ex,fn:=fun _=>false,pn:=[],xe:=fun _ _=>False }
section
variable {X:Cx}{pins:List (Addr×Obj)}{σ:St}{H:Hp}{s:Shared}
theorem Inv.track {a:Addr}{o:HO}(I:Inv X pins σ H s)(f:Z68 X pins H a)(new:ObjOk X.prog X.w (upd H a o) s.heap a o):Inv X pins σ (upd H a o) s:=by
 obtain⟨f0,f1,f2,f3,f4,f5⟩:=f
 have ne:∀b u,H b=some u->b≠a:=fun b u e=>Z0b e f0
 refine⟨I.ok,I.os,I.bare,⟨I.base.keep,I.base.slot,fun b ob e n hx=>?_,I.base.there,fun b xs e=>?_,fun b ob u e=>?_,fun b ps e=>?_⟩,I.loc,I.cell,?_,fun x c e=>?_,fun p hp=>?_,fun b u e=>?_,I.len⟩
 ·have hb:b≠a:=by
   rintro rfl
   rcases f3 with z|z
   ·exact hx z
   ·exact absurd (Nat.lt_of_lt_of_le (Heap.lt_size e) z) (Nat.lt_irrefl _)
  rw[Z04 hb]
  exact I.base.free b ob e n hx
 ·have q:=I.base.tups b xs e
  rw[Z04 (ne _ _ q)];exact q
 ·have q:=I.base.frzs b ob u e
  rw[Z04 (ne _ _ q)];exact q
 ·obtain⟨more,q⟩:=I.base.tbls b ps e
  exact⟨more,by rw[Z04 (ne _ _ q)];exact q⟩
 ·rw[Z04 (Ne.symm f1)];exact I.free
 ·rw[Z04 (f4 x c e)];exact I.freeC x c e
 ·obtain⟨e,n,ne',nf,d⟩:=I.pin p hp
  exact⟨e,by rw[Z04 (f5 p hp)];exact n,ne',nf,d⟩
 ·by_cases hb:b=a
  ·subst hb
   rw[Z08] at e;cases e
   exact new
  ·rw[Z04 hb] at e
   exact(I.hok b u e).stay (fun c v _ q=>q) (fun c q=>by rw[Z04 (ne _ _ q)];exact q) fun c xs q=>by rw[Z04 (ne _ _ q)];exact q
end
def PTs (X:Cx)(ifs:List Expr)(t:TT):Prop:=
 ∀(pins:List (Addr×Obj)) (s:Shared) (σ:St) (H:Hp) (Q:Bool->Hp->Prop),Inv X pins σ H s->t σ H Q →
  wpAny (model X.prog X.w) X.A (forIn ifs true fun c r=>if r=true then do let ok ← isTrue c X.env (eval c X.env);pure (ForInStep.yield ok) else pure (ForInStep.yield r)) (TP X pins σ Q) X.xe s
def tNoTest:TT:=fun _ H Q=>Q true H
theorem Zlr {X:Cx}:PTs X [] tNoTest:=fun _ _ _ H _ I h=>wpAny_tests_nil ⟨H,I,h⟩
theorem Za4 {X:Cx}{c:Expr}{t:TT}(h:PT X c t):PTs X [c] t:=fun pins s σ H Q I q=>wpAny_tests_one (h pins s σ H Q I q)
def Z6q (src:List (Option Nat))(σ:St):St:=src.map fun o=>match o with|some j=>(σ[j]?).getD none|none=>none
def Zi2 (src:List (Option Nat))(wi:TI)(g:TG)(tt:TT)(te:TE):TE:=fun σ H Q=>wi σ H fun J H1=>∃W:Nat->Nat->List V->St->Hp->Prop,(∃m,W 0 m [] (Z6q src σ) H1)/\∀i m ys σc H,W i m ys σc H →
 (J.stop i H/\∀l,H l=none->Q (.ref l) (upd H l (.lst ys))) ∨
 (J.go i H/\ys.length<sizeLine/\∀x H',J.yld i H x H'->g x σc H' fun σ2 H2=>tt σ2 H2 fun b H3=>
  if b=true then te σ2 H3 fun v H4=>∃m',m'<m/\W (i+1) m' (ys ++ [v]) σ2 H4 else ∃m',m'<m/\W (i+1) m' ys σ2 H3)
section
variable {X:Cx}{elt tg iter:Expr}{ifs:List Expr}{scope:Scope}{pos:Pos}{N':List Str}{src:List (Option Nat)}{wi:TI}{g:TG}{tt:TT}{te:TE}
theorem Z22 {env:Env}:∀{names:List (Str×NameKind)} {x:Str} {k:NameKind},(names.map fun(n,k)=>if (k==NameKind.free&&env.scope.kind == .function&&env.kindOf n==some .cell) then (n,NameKind.cell) else (n,k)).lookup x=some k →
  (k = .cell∨k = .free)->(∀y∈names,y.2 ≠ .cell)->(x,NameKind.free)∈names
 |[],_,_,h,_,_=>by simp at h
 | (n,k')::r,x,k,h,hk,hc=>by
  have ih:=@Z22 env r x k
  have h':List.lookup x ((if (k'==NameKind.free&&env.scope.kind == .function&&env.kindOf n==some .cell)=true then (n,NameKind.cell) else (n,k'))::(r.map fun(n,k)=>if (k==NameKind.free&&env.scope.kind == .function&&env.kindOf n==some .cell) then (n,NameKind.cell) else (n,k)))=some k:=h
  by_cases hx:x=n
  ·subst hx
   by_cases hf:k' = .free
   ·subst hf;exact mem_cons_self
   ·have e:(k'==NameKind.free)=false:=by simpa using hf
    rw[e] at h'
    simp only [Bool.false_and,Bool.false_eq_true,if_false,lookup_cons,beq_self_eq_true] at h'
    have e':k'=k:=Option.some.inj h'
    rcases hk with q|q
    ·exact absurd (e'.trans q) (hc (x,k') mem_cons_self)
    ·exact absurd (e'.trans q) hf
  ·have e:(x==n)=false:=by simpa using hx
   have h2:(r.map fun(n,k)=>if (k==NameKind.free&&env.scope.kind == .function&&env.kindOf n==some .cell) then (n,NameKind.cell) else (n,k)).lookup x=some k:=by
    by_cases hc2:(k'==NameKind.free&&env.scope.kind == .function&&env.kindOf n==some .cell)=true
    ·rw[if_pos hc2] at h';simp only [lookup_cons,e] at h';exact h'
    ·rw[if_neg hc2] at h';simp only [lookup_cons,e] at h';exact h'
   exact mem_cons_of_mem _ (ih h2 hk fun y hy=>hc y (mem_cons_of_mem _ hy))
structure CompScope (X:Cx)(scope:Scope)(N':List Str)(src:List (Option Nat)):Prop where
 kind:scope.kind = .function
 cell:∀y∈scope.names,y.2 ≠ .cell
 names:∀x∈scope.names,x.2 = .local->scope.names.lookup x.1=some .local
 fr:∀n,(n,NameKind.free)∈scope.names->X.env.kindOf n=some .cell∨X.env.kindOf n=some .free
 excl:∀n,(n,NameKind.free)∈scope.names->¬scope.names.lookup n=some .local
 len:N'.length=src.length
 src:∀(i j:Nat),src[i]? = some (some j)->∃x:Str,N'[i]? = some x/\X.N[j]? = some x/\(x,NameKind.free)∈scope.names
theorem Z6r {cl:List (Str×Addr)}{C D:Addr}{fp:List Addr}{pins:List (Addr×Obj)}{σ:St}{H:Hp}{s3:Shared}{h1:Heap}{tk:Nat}(S:CompScope X scope N' src)(I3:Inv X pins σ H s3)
  (hcl1:∀x c,cl.lookup x=some c->X.env.cells.lookup x=some c) (hcl2:∀n,(n,NameKind.free)∈scope.names->∃c,cl.lookup n=some c) (hC:C=s3.heap.objs.size)
  (hf:∀b∈D::fp,Z68 X pins H b) (hlt:∀b∈D::fp,b<s3.heap.objs.size) (hns:h1.Ns C (fun _=>none)) (hk:∀b o,s3.heap.get? b=some o->h1.get? b=some o):
  Inv (Z0q X N' scope cl C (D::fp) s3 H) [] (Z6q src σ) H { s3 with heap:=h1,toks:=tk }:=by
 have neC:∀b o,s3.heap.get? b=some o->b≠C:=fun b o e=>by rw[hC];exact Nat.ne_of_lt (Heap.lt_size e)
 have HC:H C=none:=I3.hok.fresh (Nat.le_of_eq hC.symm)
 have ok:(Z0q X N' scope cl C (D::fp) s3 H).Ok:=by
  refine⟨I3.ok.mod,S.kind,I3.ok.glob,I3.ok.blt,Nat.le_of_eq hC.symm,fun x y c e1 e2=>I3.ok.inj x y c (hcl1 x c e1) (hcl1 y c e2),fun x hx=>?_,fun x c z=>absurd z Bool.false_ne_true,I3.ok.hd,I3.ok.frames,.inl rfl,fun b hb=>⟨?_,fun x c e=>?_⟩,I3.bs,Nat.le_trans I3.ok.bsz I3.sz,fun b o e hb=>?_,fun b hb=>?_,I3.stack,I3.stkFree⟩
  ·refine hcl2 x ?_
   rcases hx with z|z
   ·exact Z22 (env:=X.env) (show((scope.names.map _).lookup x)=some .cell from z) (.inl rfl) S.cell
   ·exact Z22 (env:=X.env) (show((scope.names.map _).lookup x)=some .free from z) (.inr rfl) S.cell
  ·show b≠C
   rw[hC];exact Nat.ne_of_lt (hlt b hb)
  ·exact(hf b hb).2.2.2.2.1 x c (hcl1 x c e)
  ·rcases(hf b hb).2.2.2.1 with z|z
   ·exact I3.ok.noex b o e z
   ·exact absurd (Nat.lt_of_lt_of_le (Nat.lt_of_lt_of_le (Heap.lt_size e) I3.ok.bsz) z) (Nat.lt_irrefl _)
  ·intro z
   have z':b∈frs X.stack:=z
   rcases mem_cons.mp (I3.stkSub b z') with q|q
   ·exact(hf b hb).2.1 q
   ·exact(hf b hb).2.2.1 q
 refine⟨ok,rfl,I3.bare,Un.kept hk,⟨_,hns,fun i x v e1 e2 e3=>?_⟩,fun x c e=>?_,HC,fun x c e=>I3.freeC x c (hcl1 x c e),fun p hp=>absurd (show p∈([]:List (Addr×Obj)) from hp) (by simp),I3.hok.kept hk,?_⟩
 ·have e2':(src.map fun o=>match o with|some j=>(σ[j]?).getD none|none=>none)[i]? = some (some v):=e2
  rw[List.getElem?_map] at e2'
  cases q:src[i]? with
  |none=>rw[q] at e2';cases e2'
  |some o=>
   rw[q] at e2'
   cases o with
   |none=>cases e2'
   |some j=>
    obtain⟨x',hx1,hx2,hx3⟩:=S.src i j q
    have ex:x'=x:=Option.some.inj (hx1.symm.trans e1)
    subst ex
    have ev:σ[j]? = some (some v):=by
     cases q2:σ[j]? with
     |none=>simp [q2] at e2'
     |some o=>simp [q2] at e2';rw[e2']
    obtain⟨m,hn,hl⟩:=I3.loc
    have hkind:=S.fr x' hx3
    obtain⟨u,r,l⟩:=hl j x' v hx2 ev (by
     rcases hkind with z|z
     ·exact .inr (.inl z)
     ·exact .inr (.inr z))
    refine⟨u,r,.inr ⟨?_,?_⟩⟩
    ·rcases e3 with z|z|z
     ·exfalso
      have z':(scope.names.map fun(n,k)=>if (k==NameKind.free&&X.env.scope.kind == .function&&X.env.kindOf n==some .cell) then (n,NameKind.cell) else (n,k)).lookup x'=some .local:=z
      rcases l with ⟨k,_⟩|⟨_,c,hc,hcell⟩
      ·rcases hkind with y|y <;> (rw[y] at k;cases k)
      ·exact(show False by
        have:=S.names
        have hm:=hx3
        clear e2 e2'
        have key:∀(names:List (Str×NameKind)),(names.map fun(n,k)=>if (k==NameKind.free&&X.env.scope.kind == .function&&X.env.kindOf n==some .cell) then (n,NameKind.cell) else (n,k)).lookup x'=some .local →
          names.lookup x'=some .local:=by
         intro names
         induction names with
         |nil=>intro h;simp at h
         |cons y r ih=>
          obtain⟨n,k⟩:=y
          intro h
          have h':List.lookup x' ((if (k==NameKind.free&&X.env.scope.kind == .function&&X.env.kindOf n==some .cell)=true then (n,NameKind.cell) else (n,k))::(r.map fun(n,k)=>if (k==NameKind.free&&X.env.scope.kind == .function&&X.env.kindOf n==some .cell) then (n,NameKind.cell) else (n,k)))=some .local:=h
          by_cases hx:(x'==n)=true
          ·by_cases hc2:(k==NameKind.free&&X.env.scope.kind == .function&&X.env.kindOf n==some .cell)=true
           ·rw[if_pos hc2] at h';simp only [lookup_cons,hx] at h';cases h'
           ·rw[if_neg hc2] at h';simp only [lookup_cons,hx] at h' ⊢;exact h'
          ·have hx':(x'==n)=false:=by simpa using hx
           by_cases hc2:(k==NameKind.free&&X.env.scope.kind == .function&&X.env.kindOf n==some .cell)=true
           ·rw[if_pos hc2] at h';simp only [lookup_cons,hx'] at h' ⊢;exact ih h'
           ·rw[if_neg hc2] at h';simp only [lookup_cons,hx'] at h' ⊢;exact ih h'
        have z2:=key _ z'
        obtain⟨c2,hc2⟩:=hcl2 x' hx3
        exact S.excl x' hx3 z2)
     ·exact .inl z
     ·exact .inr z
    ·rcases l with ⟨k,_⟩|⟨_,c,hc,hcell⟩
     ·rcases hkind with y|y <;> (rw[y] at k;cases k)
     ·obtain⟨c2,hc2⟩:=hcl2 x' hx3
      have e:=hcl1 x' c2 hc2
      rw[hc] at e;cases e
      obtain⟨oc,ho,hd⟩:=hcell
      exact⟨c,hc2,oc,hk c oc ho,hd⟩
 ·obtain⟨v,oc,ho,hd⟩:=I3.cell x c (hcl1 x c e)
  exact⟨v,oc,hk c oc ho,hd⟩
 ·show(src.map _).length=N'.length
  rw[length_map,S.len]
theorem Z6s {cl:List (Str×Addr)}{C D:Addr}{fp:List Addr}{pins pinsY:List (Addr×Obj)}{σ σc:St}{H H':Hp}{s3 s4:Shared}{h':Heap}{ys:List V}{us:List Value}(I3:Inv X pins σ H s3)(hC:C=s3.heap.objs.size)
  (hf:∀b∈D::fp,Z68 X pins H b) (hlt:∀b∈D::fp,b<s3.heap.objs.size) (IY:Inv (Z0q X N' scope cl C (D::fp) s3 H) pinsY σc H' s4) (hD:H' D=none) (pl:s4.heap.PlainList D us.toArray) (rv:Vals ys us) (hz:ys.length<=sizeLine)
  (hs:Heap.SameBut C s4.heap h'):Inv X pins σ (upd H' D (.lst ys)) { s4 with heap:=h' }:=by
 have J:Inv X pins σ H' s4:=I3.call' IY.os IY.base IY.hok IY.bare (ch:=D::fp) fun b hb=>⟨(hf b hb).2.2.2.1,(hf b hb).2.1,(hf b hb).2.2.2.2.1,(hf b hb).2.2.2.2.2⟩
 have fC:Z68 X pins H' C:=I3.fpOk (Nat.le_of_eq hC.symm) IY.free
 have J2:Inv X pins σ H' { s4 with heap:=h' }:=J.turned (t':=s4.toks) (fun b o hb e=>(hs.2 b hb).trans e) fC.1 fC.2.1 fC.2.2.2.1 fC.2.2.2.2.1 fC.2.2.2.2.2
 have hDC:D≠C:=by rw[hC];exact Nat.ne_of_lt (hlt D mem_cons_self)
 obtain⟨n,e⟩:=pl
 have fD:=hf D mem_cons_self
 exact J2.track ⟨hD,fD.2⟩ ⟨hz,us,n,rv,(hs.2 D hDC).trans e⟩
theorem Zbj {cl:List (Str×Addr)}{C D it:Addr}{fp:List Addr}{tn:Nat->Heap->Prop}{J:It}{pins:List (Addr×Obj)}{σ σ0:St}{H:Hp}{s3 s4:Shared}{R:Result->Shared->Prop}{W:Nat->Nat->List V->St->Hp->Prop}{m0:Nat}{Q:List V->Hp->Prop}
  (hc:X.calm=true) (T:Turn X.prog X.w X.K tg J fp it tn) (I3:Inv X pins σ H s3) (hC:C=s3.heap.objs.size)
  (hf:∀b∈D::fp,Z68 X pins H b) (hlt:∀b∈D::fp,b<s3.heap.objs.size) (hDf:D∉fp) (IY:Inv (Z0q X N' scope cl C (D::fp) s3 H) [] σ0 H s4) (st:tn 0 s4.heap) (pl:s4.heap.PlainList D #[])
  (hg:PG (Z0q X N' scope cl C (D::fp) s3 H) tg g) (ht:PTs (Z0q X N' scope cl C (D::fp) s3 H) ifs tt) (he:PE (Z0q X N' scope cl C (D::fp) s3 H) elt te) (w0:W 0 m0 [] σ0 H)
  (turn:∀i m ys σc H,W i m ys σc H->(J.stop i H/\Q ys H)∨(J.go i H/\ys.length<sizeLine/\∀x H',J.yld i H x H'->g x σc H' fun σ2 H2=>tt σ2 H2 fun b H3=>
   if b=true then te σ2 H3 fun v H4=>∃m',m'<m/\W (i+1) m' (ys ++ [v]) σ2 H4 else ∃m',m'<m/\W (i+1) m' ys σ2 H3))
  (fin:∀s5 σc H' ys us pinsY,Inv (Z0q X N' scope cl C (D::fp) s3 H) pinsY σc H' s5->H' D=none->s5.heap.PlainList D us.toArray->Vals ys us->ys.length<=sizeLine->Q ys H'->R (.ok .next) s5):
  codeAny (model X.prog X.w) X.A (.compLoop (.ListComp elt [⟨tg,iter,ifs,0⟩] scope pos) 0 (.ref it) (.ref D) (compEnvC scope cl C X.env)) R s4:=by
 have eY:(Z0q X N' scope cl C (D::fp) s3 H).env=compEnvC scope cl C X.env:=rfl
 generalize hY:Z0q X N' scope cl C (D::fp) s3 H=Y at *
 have e1:Y.prog=X.prog:=by rw[<- hY];rfl
 have e2:Y.w=X.w:=by rw[<- hY];rfl
 have e3:Y.K=X.K:=by rw[<- hY];rfl
 have e4:Y.A=X.A:=by rw[<- hY];rfl
 have e5:Y.calm=true:=by rw[<- hY];exact hc
 have e6:Y.xe=fun _ _=>False:=by rw[<- hY];rfl
 have e7:Y.env.locals=C:=by rw[eY];rfl
 have e8:Y.ex=D::fp:=by rw[<- hY];rfl
 have e9:Y.pn = []:=by rw[<- hY];rfl
 have e10:Y.fs=frs X.stack:=by rw[<- hY];rfl
 have e11:∀x c,Y.env.cells.lookup x=some c->∀b∈D::fp,c≠b:=fun x c e b hb=>(IY.ok.exf b (by rw[e8];exact hb)).2 x c e
 have nst:∀b∈D::fp,b∉Y.fs:=fun b hb=>IY.ok.exfs b (by rw[e8];exact hb)
 have fpY:∀(pinsY:List (Addr×Obj)) (H':Hp),(∀p∈pinsY,p.1=D)->∀b∈fp,H' b=none->Z68 Y pinsY H' b:=fun pinsY H' hp b hb hn=>
  ⟨hn,by rw[e7,hC];exact Nat.ne_of_lt (hlt b (mem_cons_of_mem _ hb)),nst b (mem_cons_of_mem _ hb),.inl (by rw[e8];exact mem_cons_of_mem _ hb),fun x c e=>e11 x c e b (mem_cons_of_mem _ hb),fun p hp' z=>by
   rw[e9,nil_append] at hp'
   have q:=hp p hp'
   rw[z] at q
   rw[q] at hb
   exact hDf hb⟩
 have fpD:∀(pinsY:List (Addr×Obj)) (H':Hp),(∀p∈pinsY,p.1≠D)->H' D=none->Z68 Y pinsY H' D:=fun pinsY H' hp hn=>
  ⟨hn,by rw[e7,hC];exact Nat.ne_of_lt (hlt D mem_cons_self),nst D mem_cons_self,.inl (by rw[e8];exact mem_cons_self),fun x c e=>e11 x c e D mem_cons_self,fun p hp'=>by
   rw[e9,nil_append] at hp'
   exact hp p hp'⟩
 have T':Turn Y.prog Y.w Y.K tg J fp it tn:=by rw[e1,e2,e3];exact T
 rw[<- eY,<- e1,<- e2,<- e4]
 refine Z92 (fun n s'=>∃i ys us σc H',Inv Y [] σc H' s'/\tn i s'.heap/\(∀b∈fp,H' b=none)/\H' D=none/\s'.heap.PlainList D (us:List Value).toArray/\Vals ys us/\ys.length<=sizeLine/\W i n ys σc H') ?_ m0
  ⟨0,[],[],σ0,H,IY,st,fun b hb=>(hf b (mem_cons_of_mem _ hb)).1,(hf D mem_cons_self).1,pl,.nil,Nat.zero_le _,w0⟩
 rintro n s5 ⟨i,ys,us,σc,H5,I5,st5,fr5,hD5,pl5,rv5,hz5,w5⟩
 obtain⟨nn,hob⟩:=id pl5
 have I5':Inv Y [(D,{ cls:=.type "list",data:=.seq us.toArray nn })] σc H5 s5:=I5.pins_of fun p hp=>by
  rw[mem_singleton] at hp
  subst hp
  exact⟨hob,hD5,by rw[e7,hC];exact Nat.ne_of_lt (hlt D mem_cons_self),nst D mem_cons_self,fun v z=>by
   have z':Data.seq us.toArray nn=Data.cell v:=z
   cases z'⟩
 have f5:∀b∈fp,Z68 Y [(D,{ cls:=.type "list",data:=.seq us.toArray nn })] H5 b:=fun b hb=>fpY _ _ (fun p hp=>by rw[mem_singleton] at hp;rw[hp]) b hb (fr5 b hb)
 rcases turn i n ys σc H5 w5 with ⟨stop,q⟩|⟨go,hz,step⟩
 ·refine thn (T'.done Y rfl rfl rfl e5 i _ s5 σc H5 (fun _ _=>False) I5' f5 st5 stop) fun r s6 ⟨hr,I6⟩=>?_
  subst hr
  exact fin s6 σc H5 ys us _ I6 hD5 ⟨nn,(I6.pin (D,_) (mem_append_right _ mem_cons_self)).1⟩ rv5 hz5 q
 ·refine thn (T'.item Y rfl rfl rfl e5 i _ s5 σc H5 (fun _ _=>False) I5' f5 st5 go) fun r s6 ⟨u,hr,h6⟩=>?_
  subst hr
  refine thn h6 fun _ s7 ⟨x,H7,I7,r7,y7,st7,fr7⟩=>?_
  have f7:∀b∈fp,Z68 Y [(D,{ cls:=.type "list",data:=.seq us.toArray nn })] H7 b:=fun b hb=>fpY _ _ (fun p hp=>by rw[mem_singleton] at hp;rw[hp]) b hb (fr7 b hb)
  have I7':=I7.pinned f7 (T.obj _ _ st7)
  have hx:=hg _ s7 σc H7 x u _ I7' r7 (step x H7 y7)
  rw[e6] at hx
  refine thn hx fun _ s8 ⟨σ8,H8,I8,q8⟩=>?_
  have hx2:=ht _ s8 σ8 H8 _ I8 q8
  rw[e6] at hx2
  have keepT:∀{σ9:St} {H9:Hp} {s9:Shared},Inv Y ([(D,{ cls:=.type "list",data:=.seq us.toArray nn })]++Z8m fp s7.heap) σ9 H9 s9->tn (i+1) s9.heap/\(∀b∈fp,H9 b=none)/\H9 D=none/\s9.heap.get? D=some { cls:=.type "list",data:=.seq us.toArray nn }:=fun {σ9 H9 s9} I9=>by
   have pD:=I9.pin (D,_) (mem_append_right _ (mem_append_left _ mem_cons_self))
   refine⟨T.keep _ _ _ st7 fun b hb o e=>(I9.pin (b,o) (mem_append_right _ (mem_append_right _ (Z2f hb e)))).1,fun b hb=>?_,pD.2.1,pD.1⟩
   obtain⟨o,e,d⟩:=T.obj _ _ st7 b hb
   exact(I9.pin (b,o) (mem_append_right _ (mem_append_right _ (Z2f hb e)))).2.1
  refine thn hx2 fun ok s9 ⟨H9,I9,q9⟩=>?_
  cases ok with
  |false=>
   rw[if_neg Bool.false_ne_true] at q9
   rw[if_neg Bool.false_ne_true]
   obtain⟨m',hm,w9⟩:=q9
   obtain⟨k1,k2,k3,k4⟩:=keepT I9
   exact⟨m',hm,i+1,ys,us,σ8,H9,I9.pins_of (fun p hp=>nomatch hp),k1,k2,k3,⟨nn,k4⟩,rv5,hz5,w9⟩
  |true=>
   rw[if_pos rfl] at q9
   rw[if_pos rfl]
   have hx3:=he _ s9 σ8 H9 _ I9 q9
   rw[e6] at hx3
   refine thn hx3 fun xv s10 ⟨v,H10,I10,r10,m',hm,w10⟩=>?_
   obtain⟨k1,k2,k3,k4⟩:=keepT I10
   have hl:=rv5.length
   refine wpAny_list_append_plain ⟨nn,k4⟩ (fun h' pl' sb=>?_) (by rw[size_toArray];lia)
   have fD:=fpD [] H10 (fun p hp=>nomatch hp) k3
   have I11:Inv Y [] σ8 H10 { s10 with heap:=h' }:=(I10.pins_of (pins':=[]) fun p hp=>nomatch hp).turned (t':=s10.toks) (fun b o hb e=>(sb.2 b hb).trans e) fD.1 fD.2.1 fD.2.2.2.1 fD.2.2.2.2.1 fD.2.2.2.2.2
   refine⟨m',hm,i+1,ys ++ [v],us ++ [xv],σ8,H10,I11,T.keep _ _ _ k1 (fun b hb o e=>(sb.2 b ?_).trans e),k2,k3,?_,rv5.append (.cons r10 .nil),?_,w10⟩
   ·intro z;rw[z] at hb;exact hDf hb
   ·rw[show(us ++ [xv]).toArray=us.toArray.push xv by simp];exact pl'
   ·rw[length_append,length_singleton];exact hz
theorem Zep (hc:X.calm=true)(S:CompScope X scope N' src)(hi:PI X tg iter wi)
  (hb:∀cl C ex s0 H0,PG (Z0q X N' scope cl C ex s0 H0) tg g/\PTs (Z0q X N' scope cl C ex s0 H0) ifs tt/\PE (Z0q X N' scope cl C ex s0 H0) elt te)
  (hs:∀x,foldedSetIterable iter X.env x=pure x:=by intro _;rfl):PE X (.ListComp elt [⟨tg,iter,ifs,0⟩] scope pos) (Zi2 src wi g tt te):=by
 intro pins s σ H Q I h
 obtain⟨cl,hclos,hcl1,hcl2⟩:=Z6p (scope:=scope) (env:=X.env) fun n hn=>I.ok.has n (S.fr n hn)
 rw[eval_ListComp]
 refine wpAny_comprehension_free (use:=none) rfl hs hclos S.kind S.names ?_
 refine thn (hi pins s σ H _ I h) fun v s1 h1=>thn h1 fun itv s2 h2=>?_
 obtain⟨it,fp,tn,J,H2,e,I2,T,st2,f2,W,⟨m0,w0⟩,turn⟩:=h2
 subst e
 refine wpAny_newObj_type (wpAny_newFunctionEnv S.cell (by intro y hy;simp at hy) (fun h₁ hns₁ hsb₁=>?_) S.kind)
 dsimp only at hns₁ hsb₁ ⊢
 generalize hH3:s2.heap.push { cls:=.type "list",dict:=none,data:=.seq ([]:List Value).toArray }=H3 at hns₁ hsb₁ ⊢
 have hsz:H3.objs.size=s2.heap.objs.size+1:=by rw[<- hH3,Heap.size_push]
 have I3:Inv X pins σ H2 { s2 with heap:=H3 }:=I2.kept (t':=s2.toks) fun b o e=>by rw[<- hH3];exact Heap.get?_push_of_some _ e
 have fD:Z68 X pins H2 s2.heap.objs.size:=I2.fpOk (Nat.le_refl _) (I2.hok.fresh (Nat.le_refl _))
 have hDf:s2.heap.objs.size∉fp:=fun hm=>by
  obtain⟨o,e,_⟩:=T.obj 0 _ st2 _ hm
  exact Nat.lt_irrefl _ (Heap.lt_size e)
 have hf:∀b∈s2.heap.objs.size::fp,Z68 X pins H2 b:=fun b hb=>by
  rcases mem_cons.mp hb with z|z
  ·rw[z];exact fD
  ·exact f2 b z
 have hlt:∀b∈s2.heap.objs.size::fp,b<H3.objs.size:=fun b hb=>by
  rcases mem_cons.mp hb with z|z
  ·rw[z,hsz];exact Nat.lt_succ_self _
  ·obtain⟨o,e,_⟩:=T.obj 0 _ st2 b z
   rw[hsz];exact Nat.lt_succ_of_lt (Heap.lt_size e)
 have kp:∀b o,H3.get? b=some o->h₁.get? b=some o:=fun b o e=>hsb₁.extBut b o (Nat.ne_of_lt (Heap.lt_size e)) (Heap.get?_push_of_some _ e)
 have kp0:∀b o,s2.heap.get? b=some o->h₁.get? b=some o:=fun b o e=>kp b o (by rw[<- hH3];exact Heap.get?_push_of_some _ e)
 have hacc:h₁.PlainList s2.heap.objs.size #[]:=⟨_,kp _ _ (by rw[<- hH3];exact Heap.get?_push_size _ rfl)⟩
 have st1:tn 0 h₁:=T.keep _ _ _ st2 fun b _ o e=>kp0 b o e
 have IY:=Z6r (N':=N') (src:=src) (scope:=scope) (cl:=cl) (C:=H3.objs.size) (D:=s2.heap.objs.size) (fp:=fp) (s3:={ s2 with heap:=H3 }) (h1:=h₁) (tk:=s2.toks) S I3 hcl1 hcl2 rfl hf hlt hns₁ kp
 obtain⟨hg,ht,he⟩:=hb cl H3.objs.size (s2.heap.objs.size::fp) { s2 with heap:=H3 } H2
 have loop:=Zbj (R:=compPost (model X.prog X.w) X.A X.xe none (EP X pins σ Q) (.ref s2.heap.objs.size) H3.objs.size) (elt:=elt) (iter:=iter) (ifs:=ifs) (pos:=pos) (Q:=fun ys H=>∀l,H l=none->Q (.ref l) (upd H l (.lst ys)))
  hc T I3 rfl hf hlt hDf IY st1 hacc hg ht he w0 turn (fun s5 σc H' ys us pinsY IY5 hD pl rv hz q=>by
   obtain⟨m,hn,_⟩:=IY5.loc
   refine⟨m,hn,fun h' hs'=>⟨.ref s2.heap.objs.size,upd H' s2.heap.objs.size (.lst ys),?_,rfl,q _ hD⟩⟩
   exact Z6s I3 rfl hf hlt IY5 hD pl rv hz hs')
 exact codeAny_compStart_list loop (T.self _ 0 _ _ _ st1 loop)
end
def Its (x:Str):It:=⟨fun i _=>i<x.cps.size,fun i H v H'=>H'=H/\∃c,x.cps[i]? = some c/\v = .str ⟨#[c]⟩,fun i _=>i=x.cps.size⟩
theorem Zbk {P:Program}{w:World}{K:W.Frag}{tg:Expr}{it:Addr}{x:Str}{t:Tok}{ty:String}(hty : ["enumerate","zip","dict_itemiterator","dict_reverseitemiterator","odict_iterator","itertools.zip_longest","itertools.pairwise"].contains ty=false)
  (W:∀A:Around,A.handled=none->Walks P w A it [it] [it] x.cps.size (SignAt x) (fun i h=>h.IsStrIter it ty x t i))
  (self:∀(A:Around) (i:Nat) (s:Shared) (Q:Value->Shared->Prop) (E:Value->Shared->Prop),s.heap.IsStrIter it ty x t i->Q (.ref it) s->wpAny (model P w) A (pyIter (.ref it)) Q E s):
  Turn P w K tg (Its x) [it] it (fun i h=>h.IsStrIter it ty x t i) where
 mem:=by simp
 obj:=fun i h st b hb=>by
  have e:b=it:=by simpa using hb
  subst e
  obtain⟨o,e,c,d⟩:=st
  exact⟨o,e,fun v z=>by rw[d] at z;cases z⟩
 keep:=fun i h h' st k=>by
  obtain⟨o,e,r⟩:=st
  exact⟨o,k it (by simp) o e,r⟩
 item:=by
  intro X hP hw hK hc i pins s σ H E I hf st hg
  subst hP hw hK
  obtain⟨f0,f1,f2,f3,f4,f5⟩:=hf it (by simp)
  refine(W X.A (I.ok.hd hc)).item i s _ _ hg st fun v h' tk hv st' kk=>?_
  obtain⟨c,u,hcx,rfl⟩:=hv
  have I1:Inv X pins σ H { s with heap:=h',toks:=tk }:=I.turned (fun b o hb e=>kk b o (by simpa using hb) e) f0 f1 f3 f4 f5
  obtain⟨o,e,hcl,hd⟩:=id st'
  exact⟨_,rfl,Zhr (s:={ s with heap:=h',toks:=tk }) e hcl hd hty ⟨.str ⟨#[c]⟩,H,I1,⟨u,rfl⟩,⟨rfl,c,hcx,rfl⟩,st',fun b hb=>(hf b hb).1⟩⟩
 done:=by
  intro X hP hw hK hc i pins s σ H E I hf st hg
  subst hP hw hK
  obtain⟨f0,f1,f2,f3,f4,f5⟩:=hf it (by simp)
  have hi:i=x.cps.size:=hg
  subst hi
  exact(W X.A (I.ok.hd hc)).done s _ _ st fun h' tk kk=>⟨rfl,I.turned (fun b o hb e=>kk b o (by simpa using hb) e) f0 f1 f3 f4 f5⟩
 self:=self
section
variable {X:Cx}{tg:Expr}
def Zvc (tl:TE):TI:=fun σ H R=>tl σ H fun x H1=>∃z,x = .str z/\R (Its z) H1
theorem Zqb {l:Expr}{tl:TE}(hl:PE X l tl):PI X tg l (Zvc tl):=by
 intro pins s σ H R I h
 refine thn (hl pins s σ H _ I h) fun v s1 ⟨x,H1,I1,r1,q1⟩=>?_
 obtain⟨z,e,q⟩:=q1
 subst e
 obtain⟨t,rfl⟩:=r1
 cases ha:z.cps.all (· < 128) with
 |false=>
  refine wpAny_pyIter_wide ha ?_
  refine⟨s1.heap.objs.size,[s1.heap.objs.size],_,_,H1,rfl,I1.kept (t':=s1.toks) fun b o e=>Heap.get?_push_of_some _ e,Zbk (ty:="str_iterator") (t:=t) (by decide) (fun A hA=>Walks.strWide hA _ z t) (fun A i s Q E st h=>wpAny_pyIter_striter_wide st h),⟨_,Heap.get?_push_size _ rfl,rfl,rfl⟩,fun b hb=>?_,q⟩
  have e:b=s1.heap.objs.size:=by simpa using hb
  subst e
  exact I1.fpOk (Nat.le_refl _) (I1.hok.fresh (Nat.le_refl _))
 |true=>
  refine wpAny_pyIter_ascii ha ?_
  refine⟨s1.heap.objs.size,[s1.heap.objs.size],_,_,H1,rfl,I1.kept (t':=s1.toks) fun b o e=>Heap.get?_push_of_some _ e,Zbk (ty:="str_ascii_iterator") (t:=t) (by decide) (fun A hA=>Walks.strAscii hA _ z t) (fun A i s Q E st h=>wpAny_pyIter_striter_ascii st h),⟨_,Heap.get?_push_size _ rfl,rfl,rfl⟩,fun b hb=>?_,q⟩
  have e:b=s1.heap.objs.size:=by simpa using hb
  subst e
  exact I1.fpOk (Nat.le_refl _) (I1.hok.fresh (Nat.le_refl _))
theorem Zeq:OpR X (compareOp .LtE) (fun x y H Q=>∃i j,x = .str i/\y = .str j/\Q (.bl (!decide (j.cps.toList<i.cps.toList))) H):=by
 intro pins s σ H x y v u Q I rx ry h
 obtain⟨i,j,rfl,rfl,q⟩:=h
 obtain⟨t,rfl⟩:=rx
 obtain⟨t',rfl⟩:=ry
 exact PySem.P.le_str ⟨.bl _,H,I,rfl,q⟩
theorem Zer:OpR X (compareOp .Gt) (fun x y H Q=>∃i j,x = .str i/\y = .str j/\Q (.bl (decide (j.cps.toList<i.cps.toList))) H):=by
 intro pins s σ H x y v u Q I rx ry h
 obtain⟨i,j,rfl,rfl,q⟩:=h
 obtain⟨t,rfl⟩:=rx
 obtain⟨t',rfl⟩:=ry
 exact PySem.P.gt_str ⟨.bl _,H,I,rfl,q⟩
def rSlS:V->Option Int->Option Int->Hp->VK->Prop:=fun x lo hi H Q=>∃z,x = .str z/\z.length<=sizeLine/\Q (.str (Txt.slice z lo hi)) H
theorem Zqc:SlR X rSlS:=by
 intro pins s σ H x v vl vu lo hi sl Q I rx hs pl pu h
 obtain⟨z,rfl,hz,q⟩:=h
 obtain⟨t,rfl⟩:=rx
 refine⟨"str",_,F.slot_str_getitem.lookup,typeIs_str _ _ _,?_⟩
 obtain⟨os,hos,hcs,hds⟩:=id hs
 have fin:∀t' k,EP X pins σ Q (.str (Txt.slice z lo hi) t') { s with toks:=k }:=fun t' k=>⟨.str _,H,I.tok _,⟨_,rfl⟩,q⟩
 cases pl with
 |none=>
  cases pu with
  |none=>exact wpAny_getItem_str_slice (l:=none) (u:=none) (st:=none) ⟨os,hos,hcs,hds⟩ rfl (post_val_or_str ⟨Nat.le_trans (Txt.slice_le z _ _) hz,fin⟩)
  |int j uj=>exact wpAny_getItem_str_slice (l:=none) (u:=some (j,uj)) (st:=none) ⟨os,hos,hcs,hds⟩ rfl (post_val_or_str ⟨Nat.le_trans (Txt.slice_le z _ _) hz,fin⟩)
 |int i ui=>
  cases pu with
  |none=>exact wpAny_getItem_str_slice (l:=some (i,ui)) (u:=none) (st:=none) ⟨os,hos,hcs,hds⟩ rfl (post_val_or_str ⟨Nat.le_trans (Txt.slice_le z _ _) hz,fin⟩)
  |int j uj=>exact wpAny_getItem_str_slice (l:=some (i,ui)) (u:=some (j,uj)) (st:=none) ⟨os,hos,hcs,hds⟩ rfl (post_val_or_str ⟨Nat.le_trans (Txt.slice_le z _ _) hz,fin⟩)
theorem Za5:Z2l X (.builtin "isinstance") (fun xs H Q=>∃x T ty b,xs = [x,.ty T]/\TyOf X.K H x ty/\PySem.W.kitOne X.K ty (.type T)=some b/\Q (.bl b) H):=by
 intro pins s σ H xs us Q I r h
 obtain⟨x,T,ty,b,rfl,h1,h2,q⟩:=h
 obtain⟨u,w',rfl,rx,rT⟩:=Ztf r
 cases (show w'=Value.type T from rT)
 exact Zec I rx h1 h2 fun tk=>⟨.bl b,H,I.tok _,rfl,q⟩
theorem Z7e:∀{bs:List Bool} {us:List Value},Vals (bs.map V.bl) us->us=bs.map Value.bool
 |[],us,r=>by cases r;rfl
 |b::bs,us,r=>by
  cases r with
  |cons r1 r2=>cases r1;rw[Z7e r2];rfl
theorem Zcy (bs:List Bool):((List.range bs.length).all fun i=>(bs[i]?).getD true)=bs.all id:=by
 rw[Bool.eq_iff_iff,all_eq_true,all_eq_true]
 constructor
 ·intro h b hb
  obtain⟨i,hi,rfl⟩:=List.getElem_of_mem hb
  have:=h i (mem_range.mpr hi)
  simpa [List.getElem?_eq_getElem hi] using this
 ·intro h i hi
  have hi':=mem_range.mp hi
  rw[List.getElem?_eq_getElem hi']
  exact h _ (getElem_mem hi')
theorem Zcz (bs:List Bool):((List.range bs.length).any fun i=>(bs[i]?).getD false)=bs.any id:=by
 rw[Bool.eq_iff_iff,any_eq_true,any_eq_true]
 constructor
 ·rintro⟨i,hi,h⟩
  have hi':=mem_range.mp hi
  rw[List.getElem?_eq_getElem hi'] at h
  exact⟨_,getElem_mem hi',h⟩
 ·rintro⟨b,hb,h⟩
  obtain⟨i,hi,rfl⟩:=List.getElem_of_mem hb
  exact⟨i,mem_range.mpr hi,by rw[List.getElem?_eq_getElem hi];exact h⟩
theorem Za6 (hc:X.calm=true):Z2l X (.builtin "all") (fun xs H Q=>∃(p:Addr) (bs:List Bool),xs = [.ref p]/\SqL X.K H p (bs.map V.bl)/\Q (.bl (bs.all id)) H):=by
 intro pins s σ H xs us Q I r h
 obtain⟨p,bs,rfl,hq,q⟩:=h
 obtain⟨u,rfl,rx⟩:=Z3p r
 cases rx
 obtain⟨its,r',pl,hz⟩:=I.list hq
 have e:=Z7e r'
 subst e
 have hlt:p<s.heap.objs.size:=by obtain⟨_,e,_⟩:=pl.isList;exact Heap.lt_size e
 refine call_all_walk (wpAny_pyIter_list pl.isList ?_)
 refine⟨s.heap.objs.size,[s.heap.objs.size,p],[s.heap.objs.size],(bs.map Value.bool).toArray.size,_,_,fun i=>(bs[i]?).getD true,rfl,Walks.list (A:=X.A.in1) (I.ok.hd hc) _ p (Nat.ne_of_lt hlt) (bs.map Value.bool).toArray,
  ⟨⟨_,Heap.get?_push_size _ rfl,rfl,rfl⟩,pl.isList.push _⟩,fun i v s' Q' E' hP hQ=>?_,fun h' tk hk=>?_⟩
 ·have hP':(bs.map Value.bool)[i]? = some v:=by simpa using hP
  rw[List.getElem?_map] at hP'
  cases e:bs[i]? with
  |none=>rw[e] at hP';cases hP'
  |some b=>
   rw[e] at hP'
   cases hP'
   simp only [e,Option.getD_some] at hQ
   exact wpAny_truthy_bool hQ
 ·have e:((List.range (bs.map Value.bool).toArray.size).all fun i=>(bs[i]?).getD true)=bs.all id:=by
   rw[size_toArray,length_map];exact Zcy bs
  rw[e]
  refine⟨.bl _,H,I.kept fun b o eb=>hk b o ?_ (Heap.get?_push_of_some _ eb),rfl,q⟩
  intro z
  rw[mem_singleton.mp z] at eb
  exact Nat.lt_irrefl _ (Heap.lt_size eb)
theorem Za7 (hc:X.calm=true):Z2l X (.builtin "any") (fun xs H Q=>∃(p:Addr) (bs:List Bool),xs = [.ref p]/\SqL X.K H p (bs.map V.bl)/\Q (.bl (bs.any id)) H):=by
 intro pins s σ H xs us Q I r h
 obtain⟨p,bs,rfl,hq,q⟩:=h
 obtain⟨u,rfl,rx⟩:=Z3p r
 cases rx
 obtain⟨its,r',pl,hz⟩:=I.list hq
 have e:=Z7e r'
 subst e
 have hlt:p<s.heap.objs.size:=by obtain⟨_,e,_⟩:=pl.isList;exact Heap.lt_size e
 refine call_any_walk (wpAny_pyIter_list pl.isList ?_)
 refine⟨s.heap.objs.size,[s.heap.objs.size,p],[s.heap.objs.size],(bs.map Value.bool).toArray.size,_,_,fun i=>(bs[i]?).getD false,rfl,Walks.list (A:=X.A.in1) (I.ok.hd hc) _ p (Nat.ne_of_lt hlt) (bs.map Value.bool).toArray,
  ⟨⟨_,Heap.get?_push_size _ rfl,rfl,rfl⟩,pl.isList.push _⟩,fun i v s' Q' E' hP hQ=>?_,fun h' tk hk=>?_⟩
 ·have hP':(bs.map Value.bool)[i]? = some v:=by simpa using hP
  rw[List.getElem?_map] at hP'
  cases e:bs[i]? with
  |none=>rw[e] at hP';cases hP'
  |some b=>
   rw[e] at hP'
   cases hP'
   simp only [e,Option.getD_some] at hQ
   exact wpAny_truthy_bool hQ
 ·have e:((List.range (bs.map Value.bool).toArray.size).any fun i=>(bs[i]?).getD false)=bs.any id:=by
   rw[size_toArray,length_map];exact Zcz bs
  rw[e]
  refine⟨.bl _,H,I.kept fun b o eb=>hk b o ?_ (Heap.get?_push_of_some _ eb),rfl,q⟩
  intro z
  rw[mem_singleton.mp z] at eb
  exact Nat.lt_irrefl _ (Heap.lt_size eb)
def Zkh (xs ys:List V):Bool:=xs.length==ys.length&&(List.range xs.length).all fun j=>eqV (xs.getD j .non) (ys.getD j .non)
theorem Zd0 (hu:X.A.units<cLine):OpR X (compareOp .Eq) (fun x y H Q=>∃a b xs ys,x = .ref a/\y = .ref b/\SqL X.K H a xs/\SqL X.K H b ys/\xs.all Z1k=true/\ys.all Z1k=true/\Q (.bl (Zkh xs ys)) H):=by
 intro pins s σ H x y v u Q I rx ry h
 obtain⟨a,b,xs,ys,rfl,rfl,hx,hy,fx,fy,q⟩:=h
 cases rx
 cases ry
 obtain⟨its,r,pl,hz⟩:=I.list hx
 obtain⟨its2,r2,pl2,hz2⟩:=I.list hy
 have hl:=r.length
 have hl2:=r2.length
 by_cases hs:xs.length=ys.length
 ·refine SeqAt.eq_listAt (e:=fun j=>eqV (xs.getD j .non) (ys.getD j .non)) pl.isList pl2.isList (by simp only [size_toArray];lia) hu (fun j h1 h2=>?_) ?_
  ·simp only [size_toArray] at h1 h2
   have g1:xs[j]? = some xs[j]:=List.getElem?_eq_getElem (by lia)
   have g2:ys[j]? = some ys[j]:=List.getElem?_eq_getElem (by lia)
   obtain⟨u1,e1,ru1⟩:=r.get g1
   obtain⟨u2,e2,ru2⟩:=r2.get g2
   have k1:its.toArray[j]=u1:=by
    have:its[j]? = some its[j]:=List.getElem?_eq_getElem h1
    rw[e1] at this
    simpa using (Option.some.inj this).symm
   have k2:its2.toArray[j]=u2:=by
    have:its2[j]? = some its2[j]:=List.getElem?_eq_getElem h2
    rw[e2] at this
    simpa using (Option.some.inj this).symm
   rw[k1,k2,show xs.getD j .non=xs[j] by simp [List.getD,g1],show ys.getD j .non=ys[j] by simp [List.getD,g2]]
   exact Zeh ru1 ru2 (all_eq_true.mp fx _ (getElem_mem _)) (all_eq_true.mp fy _ (getElem_mem _))
  ·refine Z06 I q ?_
   unfold Zkh
   rw[size_toArray,<- hl,hs]
   simp
 ·refine SeqAt.eq_list_lengthsAt pl.isList pl2.isList (by simp only [size_toArray,bne_iff_ne];lia) hu ?_
  refine Z06 I q ?_
  unfold Zkh
  rw[beq_eq_false_iff_ne.mpr hs]
  rfl
end
section
variable {X:Cx}{elt tg iter:Expr}{ifs:List Expr}{scope:Scope}{pos:Pos}{N':List Str}{src:List (Option Nat)}{wi:TI}{g:TG}{tt:TT}{te:TE}
theorem Z6t {i:Nat}{x:Str}{pos' spos:Pos}(hc:X.calm=true)(hN:X.N.Nodup)(hix:X.N[i]? = some x)(hx:Loc X.env.scope x)(S:CompScope X scope N' src)(hi:PI X tg iter wi)
  (hb:∀cl C ex s0 H0,PG (Z0q X N' scope cl C ex s0 H0) tg g/\PTs (Z0q X N' scope cl C ex s0 H0) ifs tt/\PE (Z0q X N' scope cl C ex s0 H0) elt te)
  (hsw:swapsWith (.ListComp elt [⟨tg,iter,ifs,0⟩] scope pos) (some (.Name x pos')) spos.line X.env=pure true:=by rfl)
  (hs:∀x,foldedSetIterable iter X.env x=pure x:=by intro _;rfl)
  (hfn:X.fn x=true∨X.env.scope.names.lookup x=some .local:=by first|exact .inl rfl|exact .inr rfl|assumption):
  PS X (.Assign [.Name x pos'] (.ListComp elt [⟨tg,iter,ifs,0⟩] scope pos) spos) (Zot (Zi2 src wi g tt te) (Ze2 i)):=by
 intro pins s σ H D I h
 obtain⟨cl,hclos,hcl1,hcl2⟩:=Z6p (scope:=scope) (env:=X.env) fun n hn=>I.ok.has n (S.fr n hn)
 rw[exec_Assign_Name_used _ _ _ _ hsw]
 refine wpAny_bind (wpAny_standAt (wpAny_bind ?_))
 show wpAny _ _ (do let _ ← comprehension (.ListComp elt [⟨tg,iter,ifs,0⟩] scope pos) scope X.env _ (newList []) false (eval iter X.env) (some (assign (.Name x pos') X.env))) _ _ s
 refine wpAny_bind (wpAny_mono (wpAny_comprehension_free (use:=some (assign (.Name x pos') X.env)) (Q:=fun _ s'=>SP X pins D .next s') rfl hs hclos S.kind S.names ?_) (fun _ s' hq=>wpAny_pure (wpAny_pure hq)) fun _ _ e=>e)
 refine thn (hi pins s σ H _ I h) fun v s1 h1=>thn h1 fun itv s2 h2=>?_
 obtain⟨it,fp,tn,J,H2,e,I2,T,st2,f2,W,⟨m0,w0⟩,turn⟩:=h2
 subst e
 refine wpAny_newObj_type (wpAny_newFunctionEnv S.cell (by intro y hy;simp at hy) (fun h₁ hns₁ hsb₁=>?_) S.kind)
 dsimp only at hns₁ hsb₁ ⊢
 generalize hH3:s2.heap.push { cls:=.type "list",dict:=none,data:=.seq ([]:List Value).toArray }=H3 at hns₁ hsb₁ ⊢
 have hsz:H3.objs.size=s2.heap.objs.size+1:=by rw[<- hH3,Heap.size_push]
 have I3:Inv X pins σ H2 { s2 with heap:=H3 }:=I2.kept (t':=s2.toks) fun b o e=>by rw[<- hH3];exact Heap.get?_push_of_some _ e
 have fD:Z68 X pins H2 s2.heap.objs.size:=I2.fpOk (Nat.le_refl _) (I2.hok.fresh (Nat.le_refl _))
 have hDf:s2.heap.objs.size∉fp:=fun hm=>by
  obtain⟨o,e,_⟩:=T.obj 0 _ st2 _ hm
  exact Nat.lt_irrefl _ (Heap.lt_size e)
 have hf:∀b∈s2.heap.objs.size::fp,Z68 X pins H2 b:=fun b hb=>by
  rcases mem_cons.mp hb with z|z
  ·rw[z];exact fD
  ·exact f2 b z
 have hlt:∀b∈s2.heap.objs.size::fp,b<H3.objs.size:=fun b hb=>by
  rcases mem_cons.mp hb with z|z
  ·rw[z,hsz];exact Nat.lt_succ_self _
  ·obtain⟨o,e,_⟩:=T.obj 0 _ st2 b z
   rw[hsz];exact Nat.lt_succ_of_lt (Heap.lt_size e)
 have kp:∀b o,H3.get? b=some o->h₁.get? b=some o:=fun b o e=>hsb₁.extBut b o (Nat.ne_of_lt (Heap.lt_size e)) (Heap.get?_push_of_some _ e)
 have kp0:∀b o,s2.heap.get? b=some o->h₁.get? b=some o:=fun b o e=>kp b o (by rw[<- hH3];exact Heap.get?_push_of_some _ e)
 have hacc:h₁.PlainList s2.heap.objs.size #[]:=⟨_,kp _ _ (by rw[<- hH3];exact Heap.get?_push_size _ rfl)⟩
 have st1:tn 0 h₁:=T.keep _ _ _ st2 fun b _ o e=>kp0 b o e
 have IY:=Z6r (N':=N') (src:=src) (scope:=scope) (cl:=cl) (C:=H3.objs.size) (D:=s2.heap.objs.size) (fp:=fp) (s3:={ s2 with heap:=H3 }) (h1:=h₁) (tk:=s2.toks) S I3 hcl1 hcl2 rfl hf hlt hns₁ kp
 obtain⟨hg,ht,he⟩:=hb cl H3.objs.size (s2.heap.objs.size::fp) { s2 with heap:=H3 } H2
 have loop:=Zbj (R:=compPost (model X.prog X.w) X.A X.xe (some (assign (.Name x pos') X.env)) (fun _ s'=>SP X pins D .next s') (.ref s2.heap.objs.size) H3.objs.size) (elt:=elt) (iter:=iter) (ifs:=ifs) (pos:=pos) (Q:=fun ys H=>∀l,H l=none->D.nx (σ.set i (some (.ref l))) (upd H l (.lst ys)))
  hc T I3 rfl hf hlt hDf IY st1 hacc hg ht he w0 turn (fun s5 σc H' ys us pinsY IY5 hD pl rv hz q=>by
   have IX:Inv X pins σ (upd H' s2.heap.objs.size (.lst ys)) s5:=Z6s (h':=s5.heap) I3 rfl hf hlt IY5 hD pl rv hz (.refl ..)
   show wpAny _ _ (assign (.Name x pos') X.env (.ref s2.heap.objs.size)) _ _ s5
   refine wpAny_assign_Name (Z8l (v:=.ref s2.heap.objs.size) IX hN hix hx rfl (fun s6 I6 ⟨a,sb,ha⟩=>?_) hfn)
   obtain⟨m,hn,_⟩:=IY5.loc
   have fC:Z68 X pins (upd H' s2.heap.objs.size (.lst ys)) H3.objs.size:=I3.fpOk (Nat.le_refl _) (by
    rw[Z04 (by rw[hsz];exact Nat.ne_of_gt (Nat.lt_succ_self _))]
    exact IY5.free)
   have hCa:H3.objs.size≠a:=by
    rcases ha with z|z
    ·rw[z];exact fC.2.1
    ·exact fun q=>fC.2.2.2.2.1 x a z q.symm
   refine⟨m,hn.sameBut sb hCa,fun h' hs'=>⟨_,_,I6.turned (t':=s6.toks) (fun b o hb e=>(hs'.2 b hb).trans e) fC.1 fC.2.1 fC.2.2.2.1 fC.2.2.2.2.1 fC.2.2.2.2.2,q _ hD⟩⟩)
 exact codeAny_compStart_list loop (T.self _ 0 _ _ _ st1 loop)
end
section
variable {X:Cx}
def Zls (_ j:Int):Prop:=0<j/\j<18446744073709551616
theorem Zi3:OpR X (binaryOp .FloorDiv) (rI Zls fun i j=>.int (i / j)):=opI fun i j _ _ _ _ _ hc q=>by
 have h1:(0:Int)<j:=hc.1
 have h2:j<18446744073709551616:=hc.2
 refine floordiv_int (by lia) (by rw[Int.fdiv_eq_ediv_of_nonneg i (by lia)];exact q) (.inl (PyProof.noPylong_of_log2 ?_))
 have h64:j.natAbs.log2<64:=(Nat.log2_lt (by lia)).mpr (by lia)
 lia
theorem Zd1 (hu:X.A.units<cLine):OpR X (compareOp .NotEq) (fun x y H Q=>∃a b xs ys,x = .ref a/\y = .ref b/\SqL X.K H a xs/\SqL X.K H b ys/\xs.all Z1k=true/\ys.all Z1k=true/\Q (.bl (!Zkh xs ys)) H):=by
 intro pins s σ H x y v u Q I rx ry h
 obtain⟨a,b,xs,ys,rfl,rfl,hx,hy,fx,fy,q⟩:=h
 cases rx
 cases ry
 obtain⟨its,r,pl,hz⟩:=I.list hx
 obtain⟨its2,r2,pl2,hz2⟩:=I.list hy
 have hl:=r.length
 have hl2:=r2.length
 by_cases hs:xs.length=ys.length
 ·refine SeqAt.RcNeAt.lists (e:=fun j=>eqV (xs.getD j .non) (ys.getD j .non)) pl.isList pl2.isList (by simp only [size_toArray];lia) hu (fun j h1 h2=>?_) X.prog X.w _ _ ?_
  ·simp only [size_toArray] at h1 h2
   have g1:xs[j]? = some xs[j]:=List.getElem?_eq_getElem (by lia)
   have g2:ys[j]? = some ys[j]:=List.getElem?_eq_getElem (by lia)
   obtain⟨u1,e1,ru1⟩:=r.get g1
   obtain⟨u2,e2,ru2⟩:=r2.get g2
   have k1:its.toArray[j]=u1:=by
    have:its[j]? = some its[j]:=List.getElem?_eq_getElem h1
    rw[e1] at this
    simpa using (Option.some.inj this).symm
   have k2:its2.toArray[j]=u2:=by
    have:its2[j]? = some its2[j]:=List.getElem?_eq_getElem h2
    rw[e2] at this
    simpa using (Option.some.inj this).symm
   rw[k1,k2,show xs.getD j .non=xs[j] by simp [List.getD,g1],show ys.getD j .non=ys[j] by simp [List.getD,g2]]
   exact Zeh ru1 ru2 (all_eq_true.mp fx _ (getElem_mem _)) (all_eq_true.mp fy _ (getElem_mem _))
  ·refine Z06 I q ?_
   unfold Zkh
   rw[size_toArray,<- hl,hs]
   simp
 ·refine SeqAt.RcNeAt.lists_lengths pl.isList pl2.isList (by simp only [size_toArray,bne_iff_ne];lia) hu X.prog X.w _ _ ?_
  refine Z06 I q ?_
  unfold Zkh
  rw[beq_eq_false_iff_ne.mpr hs]
  rfl
end
def Z1b (kindOf:Str->Option NameKind)(XN:List Str)(scope:Scope)(N':List Str)(src:List (Option Nat)):Bool:=
 (scope.kind == .function)&&(scope.names.all fun y=>(y.2 != .cell)&&(y.2 != .local||scope.names.lookup y.1==some .local)&&(y.2 != .free||((kindOf y.1==some .cell||kindOf y.1==some .free)&&scope.names.lookup y.1 != some .local))) &&
 (N'.length==src.length)&&((List.range src.length).all fun i=>match src[i]? with
  |some (some j)=>(match N'[i]?,XN[j]? with|some x,some y=>x==y&&scope.names.contains (x,NameKind.free)|_,_=>false)
  |_=>true)
theorem Z93 {X:Cx}{scope:Scope}{N':List Str}{src:List (Option Nat)}(sc:Scope)(hsc:X.env.scope=sc)(N:List Str)(hN:X.N=N)(h:Z1b (fun x=>sc.names.lookup x) N scope N' src=true):CompScope X scope N' src:=by
 subst hsc hN
 unfold Z1b at h
 simp only [Bool.and_eq_true,all_eq_true,beq_iff_eq,bne_iff_ne,ne_eq,Bool.or_eq_true] at h
 obtain⟨⟨⟨h1,h2⟩,h3⟩,h4⟩:=h
 refine⟨h1,fun y hy=>(h2 y hy).1.1,fun y hy hl=>?_,fun n hn=>?_,fun n hn=>?_,h3,fun i j e=>?_⟩
 ·rcases(h2 y hy).1.2 with z|z
  ·exact absurd hl z
  ·exact z
 ·rcases(h2 _ hn).2 with z|z
  ·exact absurd rfl z
  ·exact z.1
 ·rcases(h2 _ hn).2 with z|z
  ·exact absurd rfl z
  ·exact z.2
 ·have hi:i<src.length:=(List.getElem?_eq_some_iff.mp e).1
  have q:=h4 i (mem_range.mpr hi)
  rw[e] at q
  dsimp only at q
  cases e1:N'[i]? with
  |none=>rw[e1] at q;cases q
  |some x=>
   cases e2:X.N[j]? with
   |none=>rw[e1,e2] at q;cases q
   |some y=>
    rw[e1,e2] at q
    simp only [Bool.and_eq_true,beq_iff_eq] at q
    obtain⟨rfl,q⟩:=q
    exact⟨x,rfl,rfl,by simpa using q⟩
theorem Z33 {H:Hp}{a:Addr}{o:HO}(h:H a=none):Same H (upd H a o):=fun b u e=>by rw[Z04 (Z0b e h)];exact e
def Z4c:Expr->Option V
 | .Constant (.int i) _ _=>some (.int i)
 | .Constant (.str x) _ _=>some (.str x)
 | .Constant (.bool b) _ _=>some (.bl b)
 | .Constant .none _ _=>some .non
 |_=>none
theorem Zqd {X:Cx}{e st:Expr}{te ts:TE}{pos p2:Pos}(he:PE X e te)(hst:PE X st ts):PE X (.Subscript e (.Slice none none (some st) p2) pos)
  (fun σ H Q=>te σ H fun x H1=>ts σ H1 fun y H2=>y = .int (-1)/\∃a xs,x = .ref a/\SqL X.K H2 a xs/\∀p,H2 p=none->Q (.ref p) (upd H2 p (.lst xs.reverse))):=by
 intro pins s σ H Q I h
 refine Subscript_ (thn (he pins s σ H _ I h) fun v s1 ⟨x,H1,I1,r1,q1⟩=>?_)
 refine wpAny_Slice ?_
 rw[evalPart_none]
 refine wpAny_pure (wpAny_pure ?_)
 rw[evalPart_some]
 refine thn (hst pins s1 σ H1 _ I1 q1) fun vs s3 ⟨y,H3,I3,ry,ey,a,xs,ex,hx,q⟩=>?_
 subst ey ex
 cases r1
 obtain⟨t,rfl⟩:=ry
 have I4:Inv X pins σ H3 { s3 with heap:=s3.heap.push { cls:=.type "slice",data:=.fields #[.none,.none,.int (-1) t] } }:=I3.kept (t':=s3.toks) fun b ob q=>Heap.get?_push_of_some _ q
 obtain⟨its,r,ht,hz⟩:=I4.list hx
 have hlen:=r.length
 refine tail_any (ops:=[.ref a,.ref s3.heap.objs.size]) ht.isList.typeIs slot_list_getitem.lookup (wpAny_getItem_list_slice ht.isList (Heap.IsSliceOf.new ..) .none .none (.int (-1) t) (by simp) ?_ (by rw[size_toArray] <;> lia)) (by with_unfolding_all rfl)
 rw[PySem.W.krv_pick]
 refine⟨.ref _,_,I4.laid (t':=s3.toks) (o:=.lst xs.reverse) (fun b ob q=>Heap.get?_push_of_some _ q) (Nat.le_refl _) ?_,rfl,q _ (I4.hok.fresh (Nat.le_refl _))⟩
 exact⟨by rw[length_reverse];exact hz,its.reverse,0,r.reverse,by
  rw[show(its.toArray.toList.reverse).toArray=its.reverse.toArray by simp]
  exact Heap.get?_push_size _ rfl⟩
theorem Same.tup {K:W.Frag}{H H':Hp}{a:Addr}{xs:List V}(e:Same H H')(h:SqT K H a xs):SqT K H' a xs:=by
 rcases h with (h|⟨o,h⟩)|h
 ·exact .inl (.inl (e _ _ h))
 ·exact .inl (.inr ⟨o,e _ _ h⟩)
 ·exact .inr h
theorem Zes:∀{ts:List Str} {us:List Value},Vals (ts.map V.str) us->StrsAre us ts
 |[],_,.nil=>.nil
 |t::ts,_,.cons r rs=>by obtain⟨k,rfl⟩:=r;exact .cons t k (Zes rs)
end L2
namespace L2
open PySem PySem.Spec PyProof.Rows PySem.Builtin PySem.Builtin.Str
theorem Zlt {n:Nat}{j:Int}(h:(n:Int)<=j):(strSliceIndices none (some j) 1 n).length=n:=by
 unfold strSliceIndices sliceRange
 simp only [show(1:Int)>0 by decide,if_true,length_map,length_range]
 split <;> (try split) <;> (try split) <;> (try simp only [Int.ediv_one]) <;> lia
theorem Zlu {x:Str}{j:Int}(hx:0<x.length)(hj:1<=j):0<(Txt.slice x none (some j)).length:=by
 have hl:x.cps.toList.length=x.length:=by simp [Str.length]
 by_cases h:j<=x.length
 ·have e:=beq_iff_eq.mp (slice_closes_to (x:=x) (j:=j) ⟨by lia,by rw[hl];exact h⟩)
  rw[e]
  show 0<(List.toArray _).size
  rw[size_toArray,length_take,length_drop,hl]
  lia
 ·have e:Txt.slice x none (some j)=x:=by
   unfold Txt.slice
   rw[Zlt (show((x.length:Nat):Int)<=j by lia)]
   simp
  rw[e];exact hx
theorem Zki {x:Str}{j:Int}(hj:0<=j):((Txt.slice x none (some j)).length:Int)<=j:=by
 have hl:x.cps.toList.length=x.length:=by simp [Str.length]
 by_cases h:j<=x.length
 ·have e:=beq_iff_eq.mp (slice_closes_to (x:=x) (j:=j) ⟨hj,by rw[hl];exact h⟩)
  rw[e]
  show(((List.toArray _).size:Nat):Int)<=j
  rw[size_toArray,length_take,length_drop,hl]
  lia
 ·have:=Txt.slice_le x none (some j)
  lia
theorem Zi4 {x:Str}{i:Int}(h0:0<=i)(h:i<=x.length):((Txt.slice x (some i) none).length:Int)=x.length-i:=by
 have hl:x.cps.toList.length=x.length:=by simp [Str.length]
 rw[slice_from_eq h0 h rfl]
 show(((List.toArray _).size:Nat):Int)=_
 rw[size_toArray,length_take,length_drop,hl]
 lia
end L2
namespace L2
open PySem PySem.Spec PyProof.Rows
section
variable {X:Cx}{CX:CXT}{k:Nat}{E:XK}{x:Str}{p pos:Pos}{e:Expr}{es:List Expr}{tf:TE}{t:TA}{Pf:Addr->Prop}{sp:Addr->Sp}
def Zkj (Pf:Addr->Prop)(sp:Addr->Sp)(E:XK)(tf:TE)(t:TA):TE:=fun σ H Q=>tf σ H fun fv H1=>∃f,fv = .ref f/\Pf f/\t σ H1 fun vs H2=>sp f vs H2 Q E
theorem Zi5 (hF:∀f,Pf f->∃fd ps,FnOk X.prog X.w X.K X.mg X.base CX k f fd ps (sp f)/\PySem.W.keepIn X.K (.ref f)=true/\Binds X.K fd ps [])(hr:Room k X.A)(hx:Zbf CX X E)(hfn:PE X (.Name x p) tf)
  (ha:PA X (e::es) t) (he:starEach (e::es) X.env=(false,eval e X.env)::starEach es X.env:=by rfl) (hpl:(backTo pos (starEach es X.env)).any (·.1)=false:=by rfl):
  PE X (.Call (.Name x p) (e::es) [] pos) (Zkj Pf sp E tf t):=by
 intro pins s σ H Q I h
 refine wpAny_Call_Name_kw (thn (hfn pins s σ H _ I h) fun u s1 ⟨v,H1,I1,r1,f,ev,hp,q1⟩=>?_)
 subst ev
 cases r1
 obtain⟨fd,ps,F,hk,hb⟩:=hF f hp
 refine PySem.W.callWith_K (h₀:=X.base) I.ok.mod.kin hk (thn (ha pos pins s1 σ H1 _ I1 q1) fun us s2 ⟨vs,H2,I2,r,q⟩=>⟨I2.kIn,?_⟩) he hpl
 exact Zkd (dvs:=[]) F hr hb .nil hx I2 r (by rw[append_nil];exact q)
end
inductive KEnt (w:World):List DictEntry->List (Str×V)->Prop where
 |nil:KEnt w [] []
 |cons {x:Str} {tk:Tok} {u:Value} {v:V} {es:List DictEntry} {kvs:List (Str×V)} (r:RelV v u) (q:KEnt w es kvs):KEnt w (⟨PyData.keyHash w.params x,.str x tk,u⟩::es) ((x,v)::kvs)
structure KDict (K:W.Frag)(w:World)(a:Addr)(kvs:List (Str×V)):Prop where
 ex:∃(o:Obj) (es:Array DictEntry) (ep:Nat),K.lookup a=some o/\o.cls = .type "dict"/\o.dict=none/\o.slots = #[]/\o.data = .dict es ep/\KEnt w es.toList kvs
 nd:(kvs.map (·.1)).Nodup
 sm:(a==sysModules)=false
def Zet (kvs:List (Str×V)):List (Key×V):=kvs.map fun p=>(Sum.inr p.1,p.2)
def getT (kvs:List (Str×V))(t:Str):Option V:=Z67 (Zet kvs) (Sum.inr t)
theorem KEnt.pairs {P:Program}{w:World}:∀(es:List DictEntry) {kvs:List (Str×V)},KEnt w es kvs →
  ∃vs:List (Key×Value),KV (Zet kvs) vs/\Pairs (Z0e P w) es vs/\(∀e∈es,∃k,(Z0e P w).is k e.key=true/\e.hash=(Z0e P w).hash k)/\vs.map (·.1)=kvs.map fun p=>(Sum.inr p.1:Key):=by
 intro es
 induction es with
 |nil=>
  intro kvs h
  cases h
  exact⟨[],.nil,.nil,(fun e he=>absurd he not_mem_nil),rfl⟩
 |cons e es ih=>
  intro kvs h
  cases h with
  | @cons x tk u v _ kvs' r q=>
   obtain⟨vs,h1,h2,h3,h4⟩:=ih q
   refine⟨(Sum.inr x,u)::vs,.cons ⟨rfl,r⟩ h1,.cons (Z2r P w x tk) rfl h2,fun e he=>?_,by rw[map_cons,map_cons,h4]⟩
   rcases mem_cons.mp he with z|z
   ·subst z
    exact⟨Sum.inr x,Z2r P w x tk,rfl⟩
   ·exact h3 e z
theorem Zeu {kvs:List (Str×V)}(h:(kvs.map (·.1)).Nodup):(kvs.map fun p=>(Sum.inr p.1:Key)).Nodup:=by
 have e:(kvs.map fun p=>(Sum.inr p.1:Key))=(kvs.map (·.1)).map Sum.inr:=by rw[map_map];rfl
 rw[e]
 exact List.Pairwise.map _ (fun a b hab z=>hab (by injection z)) h
theorem KDict.of {X:Cx}{pins:List (Addr×Obj)}{σ:St}{H:Hp}{s:Shared}{a:Addr}{kvs:List (Str×V)}(I:Inv X pins σ H s)(d:KDict X.K X.w a kvs):
  ∃vs,KV (Zet kvs) vs/\s.heap.DictOf (Z0e X.prog X.w) a vs:=by
 obtain⟨⟨o,es,ep,h1,h2,h3,h4,h5,h6⟩,nd,_⟩:=d
 obtain⟨vs,q1,q2,q3,q4⟩:=h6.pairs (P:=X.prog)
 refine⟨vs,q1,o,es,ep,I.kIn a o h1,⟨h2,h3,h4⟩,h5,fun e he=>q3 e (by simpa using he),q2,?_⟩
 rw[q4]
 exact Zeu nd
section
variable {X:Cx}{o e f:Expr}{apos cpos:Pos}{td ty tx:TE}
def Zqe (K:W.Frag)(w:World)(td ty:TE):TE:=fun σ H Q=>td σ H fun x H1=>∃a kvs,x = .ref a/\KDict K w a kvs/\ty σ H1 fun y H2=>∃t,y = .str t/\Q ((getT kvs t).getD .non) H2
theorem Ztp {pins:List (Addr×Obj)}{σ:St}{H:Hp}{s:Shared}{a:Addr}{kvs:List (Str×V)}(I:Inv X pins σ H s)(d:KDict X.K X.w a kvs):
  s.TypeIs (.ref a) "dict"/\∀b,Value.ref a = .ref b->∃ob,s.heap.get? b=some ob/\ob.dict=none:=by
 obtain⟨vs,_,dd⟩:=d.of I
 refine⟨dd.typeIs,fun b q=>?_⟩
 cases q
 obtain⟨ob,_,_,h1,h2,_⟩:=dd
 exact⟨ob,h1,h2.2.1⟩
theorem Zi6 (ho:PE X o td)(he:PE X e ty)(m:M1 X o "get" apos e cpos):PE X (.Call (.Attribute o "get" apos) [e] [] cpos) (Zqe X.K X.w td ty):=by
 intro pins s σ H Q I h
 refine wpAny_Call_method m.base m.few m.line PySem.F.plainAttrs_dict PySem.F.slot_dict_get PySem.F.type_dict_get (thn (ho pins s σ H _ I h) fun u s1 ⟨x,H1,I1,rx,a,kvs,ex,d,q1⟩=>?_)
 subst ex
 obtain rfl:u=Value.ref a:=rx
 obtain⟨t1,t2⟩:=Ztp I1 d
 refine⟨t1,t2,?_⟩
 rw[m.trees]
 refine Calls.callWith_builtin rfl (Calls.evalArgs_plain (Calls.spliced_cons (thn (he pins s1 σ H1 _ I1 q1) fun iv s2 ⟨y,H2,I2,ry,t,ey,q2⟩=>Calls.spliced_nil ?_)))
 subst ey
 obtain⟨vs,rel,dd⟩:=d.of I2
 refine call_meetsIn PySem.F.slot_dict_get dd.typeIs PySem.F.entry_dict_get (PySem.F.args_dict_get_2 _ _) (meets_dict_get (Z0e X.prog X.w) a (Za1 (k:=Sum.inr t) ry) d.sm) ⟨_,dd.mapOf,⟨(getT kvs t).getD .non,H2,I2.tok _,?_,q2⟩⟩
 exact(rel.val (Sum.inr t)).getD rfl
end
section
variable {X:Cx}
def rExtendT:V->List V->Hp->VK->Prop:=fun x vs H Q=>∃l b xs zs,x = .ref l/\vs = [.ref b]/\H l=some (.lst xs)/\H b=some (.tup zs)/\xs.length+zs.length<=sizeLine/\Q .non (upd H l (.lst (xs++zs)))
theorem Z4i (l:Addr)(items:Array Value)(n:Nat)(b:Addr)(items2:Array Value)(n2:Nat)(dd2:Option Addr)(sl2:Array (Option Value))(hs0:¬(!items.isEmpty&&Builtin.List.listTooLong (items.size+items2.size))=true)(hs1:items.size<=sizeLine)(hs2:items.size+items2.size<=sizeLine+1):
  Meets (Builtin.«list.extend» ⟨[.ref l, .ref b], []⟩) (fun _ R s => s.heap.get? l = some { cls := .type "list", dict := none, data := .seq items n, slots := #[] } /\ s.heap.get? b = some { cls := .type "tuple", dict := dd2, data := .seq items2 n2, slots := sl2 } /\ R (.ok (.ret Value.none)) { s with heap := s.heap.update l (Obj.mapSeq (· ++ items2)), toks := s.toks }) := by
 refine .of_wp fun prog w A R s h=>?_
 obtain⟨hp,g,d,tk,os⟩:=s
 obtain⟨e1,e2,k⟩:=h
 have g1:=AutoSeq1.idx_int
 have g2:=AutoSeq1.sub_tuple_tuple
 have g3:=AutoSeq1.sub_list_list
 have g4:=AutoSeq1.sub_tuple_list
 have g5:=AutoSeq1.sub_list_tuple
 have fits:(items++items2).size<=sizeLine+1:=by
  rw[Array.size_append]
  exact hs2
 wp_walk using (wpAny_updateSeq e1 rfl (hz:=hs1) (_hz':=fits)),AutoSeq1.wpAny_loadPart' e1,AutoSeq1.wpAny_loadPart' e2
 exact⟨_,rfl,k⟩
theorem Zd2:MtM X "list.extend" rExtendT:=by
 intro pins s σ H x vs v us Q I rx rv h
 obtain⟨l,b,xs,zs,rfl,rfl,hH,hB,hz,q⟩:=h
 cases rx
 obtain⟨u,rfl,ru⟩:=rv.one
 cases ru
 obtain⟨z,its,n,r,hl,e⟩:=I.lstM hH
 obtain⟨its2,r2,p2,hz2⟩:=I.tuple (SqT.of (K:=X.K) hB)
 have hl2:=r2.length
 obtain⟨⟨c2,dd2,data2,sl2⟩,ho2,hc2,n2,hd2⟩:=id p2
 simp only at hc2 hd2
 subst hc2 hd2
 have hsz:its.toArray.size+its2.toArray.size<=sizeLine:=by rw[size_toArray,size_toArray];lia
 have hlong:¬ (!its.toArray.isEmpty&&Builtin.List.listTooLong (its.toArray.size+its2.toArray.size))=true:=by
  rw[Z7a hsz,Bool.and_false]
  exact Bool.false_ne_true
 refine call_meets F.slot_list_extend ⟨_,e,rfl⟩ F.entry_list_extend (F.args_list_extend_2 _ _)
  (Z4i l its.toArray n b its2.toArray n2 dd2 sl2 hlong (by rw[size_toArray];lia) (by lia)) ⟨e,ho2,?_⟩
 refine⟨.non,_,I.lset (its':=its++its2) hH e (by simp) (r.append r2) ?_,rfl,q⟩
 rw[length_append]
 lia
end
end L2
namespace L2
open PySem PySem.Spec PyProof.Rows
section
variable {X:Cx}
theorem Zev (hu:X.A.units<cLine):OpR X (compareOp .Eq) (fun x y H Q=>∃a b xs,x = .ref a/\y = .ref b/\SqL X.K H a xs/\SqL X.K H b []/\Q (.bl xs.isEmpty) H):=by
 intro pins s σ H x y v u Q I rx ry h
 obtain⟨a,b,xs,rfl,rfl,hx,hy,q⟩:=h
 cases rx
 cases ry
 obtain⟨its,r,pl,hz⟩:=I.list hx
 obtain⟨its2,r2,pl2,hz2⟩:=I.list hy
 cases r2
 cases r with
 |nil=>
  refine SeqAt.eq_listAt (e:=fun _=>true) pl.isList pl2.isList rfl hu (fun j h1 h2=>absurd h2 (by simp)) ?_
  exact Z06 I q (by simp)
 |cons r1 r'=>
  refine SeqAt.eq_list_lengthsAt pl.isList pl2.isList (by simp) hu ?_
  exact Z06 I q rfl
end
end L2
namespace HT
open PySem PySem.Spec PyProof.Rows
section
variable {prog:Program}{w:World}{A:Around}{E:Value->Shared->Prop}{s:Shared}
theorem getItem_tuple_all {t sl:Addr}{items:Array Value}{vl vu:Value}{lo hi:Option Int}{Q:Value->Shared->Prop}(ht:IsTup s.heap t items)(hs:s.heap.IsSliceOf sl vl vu .none)(pl:IsPart vl lo)(pu:IsPart vu hi)
  (hw:sIx items.size 0 lo=0/\sIx items.size items.size hi=items.size) (h:Q (.ref t) s):wpAny (model prog w) A (getItem (.ref t) (.ref sl)) Q E s:=by
 obtain⟨os,hos,hcs,hds⟩:=id hs
 have hTs:s.TypeIs (.ref sl) "slice":=⟨os,hos,hcs⟩
 unfold getItem
 try with_reducible refine wpAny_holding ?_
 first|refine wpAny_bind (wpAny_pure ?_)|skip
 refine wpAny_bind (wpAny_sequenceKey ht.typeIs (by decide) ?_)
 refine wpAny_bind (wpAny_callSpecial?_slot (name:=Str.ofString "__getitem__") ht.typeIs PyProof.Rows.slot_tuple_getitem
  (wpAny_call_entry PyProof.Rows.slot_tuple_getitem ht.typeIs entry_tuple_getitem ?_ (args_tuple_getitem _ _)))
 show wpAny _ _ (Builtin.Tuple.tupleItemsOf (.ref t) >>= _) _ _ s
 refine wpAny_bind (tupleItemsOf_ ht ?_)
 refine wpAny_bind (wpAny_typeOf hTs ?_)
 rw[if_pos (by decide)]
 refine wpAny_bind (Z1y hs pl pu ?_)
 have hno:((((sIx items.size 0 lo:Nat):Int)==0&&(1:Int)==1&&(sIx items.size items.size hi-sIx items.size 0 lo)==items.size)=true):=by
  rw[hw.1,hw.2];simp
 show wpAny _ _ (if (((sIx items.size 0 lo:Nat):Int)==0&&(1:Int)==1&&(sIx items.size items.size hi-sIx items.size 0 lo)==items.size)=true then _ else _) _ _ s
 rw[if_pos hno]
 refine wpAny_bind (m:=Builtin.Tuple.tupleIsExact _) (wpAny_bind (wpAny_typeOf ht.typeIs (wpAny_pure ?_)))
 rw[if_pos (by decide)]
 refine wpAny_bind (wpAny_rule ?_)
 exact wpAny_pure ⟨_,rfl,wpAny_pure h⟩
end
end HT
namespace L2
open PySem PySem.Spec PyProof.Rows
section
variable {X:Cx}
theorem Zi7 {xs:List V}{lo hi:Option Int}(h:HT.sIx xs.length 0 lo=0/\HT.sIx xs.length xs.length hi=xs.length):Zef xs lo hi=xs:=by
 unfold Zef
 rw[h.1,h.2,drop_zero,Nat.sub_zero,take_of_length_le (Nat.le_refl _)]
def Zqf (K:W.Frag):R2:=fun x y H Q=>∃a n xs,x = .ref a/\y = .int n/\SqT K H a xs/\xs ≠ []/\2<=n/\n<=1000/\xs.length<=1000/\∀p,H p=none->Q (.ref p) (upd H p (.tup (List.replicate n.toNat xs).flatten))
theorem Z4j:fillsNumberSlot (.type "tuple") "mul"=pure false:=
 PySem.fillsNumberSlot_seq (id:="tuple.__mul__") (r:=some (.builtin "tuple.__rmul__")) F.slot_tuple_mul.lookup (by decide+kernel) F.slot_tuple_rmul.lookup (by decide+kernel)
theorem Z94:seqRepeat? (.type "tuple")=pure (some (.builtin "tuple.__mul__")):=by
 unfold seqRepeat?
 rw[PySem.seqSlot_of (T:="tuple") (name:="__mul__") (id:="tuple.__mul__") F.slot_tuple_mul.lookup (by decide+kernel),PySem.seqSlot_of (T:="tuple") (name:="__rmul__") (id:="tuple.__rmul__") F.slot_tuple_rmul.lookup (by decide+kernel)]
 rfl
theorem Z95 (a:Int)(t:Tok)(l:Addr)(o:Obj)(items:Array Value)(n:Nat)(hc:o.cls = .type "tuple")(hd:o.data = .seq items n):
  Meets (Builtin.«int.__rmul__» ⟨[.int a t, .ref l], []⟩) (fun _ R s => s.heap.get? l = some o /\ R (.ok (.ret Value.notImplemented)) s) :=
 .of_wp fun prog w A R s h=>by obtain⟨hp,g,d,tk,os⟩:=s;obtain⟨hl,h⟩:=h;cases o;cases hc;cases hd;wp_walk;exact⟨_,rfl,h⟩
theorem Zlv:OpR X (binaryOp .Mult) (Zqf X.K):=by
 intro pins s σ H x y v u Q I rx ry h
 obtain⟨a,k,xs,rfl,rfl,hx,hne,h2,h3,hl,q⟩:=h
 cases rx
 obtain⟨t,rfl⟩:=ry
 obtain⟨its,r,ht,hz⟩:=I.tuple hx
 obtain⟨o,e1,e2,n,e3⟩:=id ht
 have hlen:its.toArray.size=xs.length:=by rw[size_toArray];exact r.length.symm
 have hpos:0<xs.length:=length_pos_iff.mpr hne
 refine wpAny_binaryOp_repeat_ref (T:="tuple") (U:="int") (by decide) ht.typeIs (fun s'=>typeIs_int s' k t) Z4j F.fills_int_mul F.slot_int_rmul Z94 F.slot_int_index.lookup
  (call_meets F.slot_int_rmul (typeIs_int s k t) F.entry_int_rmul (F.args_int_rmul_2 _ _) (Z95 k t a o _ n e2 e3)
   ⟨e1,rfl,ht.typeIs,?_⟩)
 refine wpAny_call_entry F.slot_tuple_mul ht.typeIs F.entry_tuple_mul ?_ (F.args_tuple_mul_2 _ _)
 show wpAny _ _ (asIndex (.int k t) >>= _) _ _ s
 refine wpAny_bind (wpAny_of_eq (show asIndex (.int k t)=pure k from rfl) ?_)
 have c1:¬ (decide (k < -2 ^ 63)||decide (k ≥ 2 ^ 63))=true:=by
  rw[Bool.or_eq_true,decide_eq_true_iff,decide_eq_true_iff];lia
 have hie:its.toArray.isEmpty=false:=by
  cases its with
  |nil=>rw[size_toArray] at hlen;simp at hlen;lia
  |cons _ _=>simp
 have c2:¬ (its.toArray.isEmpty||k==1)=true:=by
  rw[hie,Bool.false_or,beq_iff_eq];lia
 have c3:¬ (decide (k<=0)||its.toArray.isEmpty)=true:=by
  rw[hie,Bool.or_false,decide_eq_true_iff];lia
 have hm:(its.toArray.size:Int)*k<=1000*1000:=Int.mul_le_mul (by lia) h3 (by lia) (by decide)
 have c4:¬ (its.toArray.size:Int)*k>(2 ^ 63-1) / 8:=by lia
 have c5:¬Builtin.Tuple.tupleTooMany ((its.toArray.size:Int)*k)=true:=by
  unfold Builtin.Tuple.tupleTooMany
  rw[decide_eq_true_iff]
  have:sizeLine=16777216:=sizeLine_eq
  lia
 rw[if_neg c1]
 refine wpAny_bind (tupleItemsOf_ ht ?_)
 rw[if_neg c2,if_neg c3,if_neg c4,if_neg c5]
 have hnew:List.foldl (fun x1 x2=>x1++x2) #[] (List.replicate k.toNat its.toArray)=(List.replicate k.toNat its).flatten.toArray:=by
  have:=Z51 its k.toNat []
  rw[nil_append] at this
  exact this
 rw[hnew]
 have hzz:(List.replicate k.toNat its).flatten.length<=sizeLine:=by
  rw[Z7b]
  have:sizeLine=16777216:=sizeLine_eq
  have h4:k.toNat*its.length<=1000*1000:=Nat.mul_le_mul (by lia) (by rw[size_toArray] at hlen;lia)
  lia
 refine wpAny_bind (m:=Builtin.Tuple.tupleExact _) (wpAny_newObj_type ?_ (by show _<=sizeLine;rw[size_toArray];exact hzz))
 refine wpAny_pure ⟨_,rfl,?_⟩
 refine⟨.ref s.heap.objs.size,_,I.laid (t':=s.toks) (o:=.tup (List.replicate k.toNat xs).flatten) (fun b ob q=>Heap.get?_push_of_some _ q) (Nat.le_refl _) ?_,rfl,q _ (I.hok.fresh (Nat.le_refl _))⟩
 exact⟨by rw[Z7b];rw[Z7b] at hzz;rw[r.length];exact hzz,_,r.rep k.toNat,IsTupN.new _ _⟩
theorem Zi8 (hc:X.calm=true):Z2l X (.builtin "sum") (fun xs H Q=>∃(a:Addr) (ns:List Int),xs = [.ref a]/\SqL X.K H a (ns.map V.int)/\Q (.int ns.sum) H):=by
 intro pins s σ H xs us Q I r h
 obtain⟨a,ns,rfl,ha,q⟩:=h
 obtain⟨u,rfl,ru⟩:=Z3p r
 cases ru
 obtain⟨its,r1,pl,hz⟩:=I.list ha
 have hi:=Zcu r1
 obtain⟨ys,hys⟩:=hi.allInts.items
 have e1:(intItems ys).toList=its:=by rw[<- hys]
 have e2:preSum (numAt ys) ys.size=ns.sum:=by
  rw[preSum_eq,take_of_length_le (by simp),<- nums_intItems,e1,hi.numsOf]
 refine sum_intListG (I.ok.hd hc) (hys▸pl.isList) fun h' tk t' hk=>?_
 rw[e2]
 exact⟨.int ns.sum,H,I.kept hk,⟨_,rfl⟩,q⟩
def rSlP:V->Option Int->Option Int->Hp->VK->Prop:=fun x lo hi H Q=>∃a xs,x = .ref a/\H a=some (.tup xs)/\∀p H',Same H H'->H' p=some (.tup (Zef xs lo hi))->Q (.ref p) H'
theorem sl_tupP:SlR X rSlP:=by
 intro pins s σ H x v vl vu lo hi sl Q I rx hs pl pu h
 obtain⟨a,xs,rfl,hx,q⟩:=h
 by_cases hw:HT.sIx xs.length 0 lo=0/\HT.sIx xs.length xs.length hi=xs.length
 ·cases rx
  obtain⟨its,r,ht,hz⟩:=I.tuple (SqT.of hx)
  have hlen:its.toArray.size=xs.length:=by rw[size_toArray];exact r.length.symm
  refine⟨"tuple",_,PyProof.Rows.slot_tuple_getitem.lookup,ht.typeIs,?_⟩
  refine HT.getItem_tuple_all ht hs pl pu (by rw[hlen];exact hw) ?_
  exact⟨.ref a,H,I,rfl,q a H (Same.refl H) (by rw[Zi7 hw];exact hx)⟩
 ·exact Zpw pins s σ H (.ref a) v vl vu lo hi sl Q I rx hs pl pu ⟨a,xs,rfl,SqT.of hx,hw,fun p hp=>q p _ (Z33 hp) Z08⟩
def rCatP:R2:=fun x y H Q=>∃a b xs ys,x = .ref a/\y = .ref b/\H a=some (.tup xs)/\H b=some (.tup ys)/\xs.length+ys.length<=sizeLine ∧
 ∀p H',Same H H'->H' p=some (.tup (xs++ys))->Q (.ref p) H'
theorem Zlw:OpR X (binaryOp .Add) rCatP:=by
 intro pins s σ H x y v u Q I rx ry h
 obtain⟨a,b,xs,ys,rfl,rfl,ha,hb,hz,q⟩:=h
 by_cases hx:xs = []
 ·subst hx
  cases rx
  cases ry
  obtain⟨its,r1,p1,_⟩:=I.tuple (SqT.of ha)
  obtain⟨its2,r2,p2,_⟩:=I.tuple (SqT.of hb)
  cases r1
  obtain⟨⟨cls,dd,data,sl⟩,ho,hc,n,hd⟩:=id p1
  obtain⟨⟨cls2,dd2,data2,sl2⟩,ho2,hc2,n2,hd2⟩:=id p2
  simp only at hc hd hc2 hd2
  subst hc hd hc2 hd2
  exact concat_meets ⟨_,ho,rfl⟩ ⟨_,ho2,rfl⟩ noFill_tuple_add seq_tuple_add PySem.F.slot_tuple_add PySem.F.entry_tuple_add (PySem.F.args_tuple_add_2 _ _)
   (tuple_addW0 a b _ _ n n2 dd dd2 sl sl2 (by simp)) ⟨ho,ho2,⟨.ref b,H,I,rfl,q b H (Same.refl H) hb⟩⟩
 ·refine Zlj pins s σ H (.ref a) (.ref b) v u Q I rx ry ⟨a,b,xs,ys,rfl,rfl,SqT.of ha,SqT.of hb,hx,hz,fun hy=>?_,fun hy p hp=>?_⟩
  ·subst hy
   exact q a H (Same.refl H) (by rw[append_nil];exact ha)
  ·exact q p _ (Z33 hp) Z08
theorem Z7f {e:Expr}{v:V}(h:Z4c e=some v):PE X e (tC v):=by
 cases e with
 |Constant c j p=>
  cases c with
  |int i=>cases h;exact Zk3
  |str x=>cases h;exact Zp8
  |bool b=>cases h;exact Zt4
  |none=>cases h;exact Zp7
  |_=>cases h
 |_=>cases h
theorem Za8:OpR X (compareOp .IsNot) (fun x y H Q=>∃b c,x = .bl b/\y = .bl c/\Q (.bl (!decide (b=c))) H):=by
 intro pins s σ H x y v u Q I rx ry h
 obtain⟨b,c,rfl,rfl,q⟩:=h
 cases rx
 cases ry
 cases b <;> cases c <;> exact wpAny_pure (Z06 I q rfl)
end
end L2
namespace Srt
open PySem PyProof.Rows
def Rs (p:Array Nat):Prop:=p.toList.Pairwise (· < ·)
theorem Rs.lt {p:Array Nat}(h:Rs p){i j:Nat}(hij:i<j)(hj:j<p.size):p[i]'(by lia)<p[j]:=by
 have q:=List.pairwise_iff_getElem.mp h i j (by simpa using Nat.lt_trans hij hj) (by simpa using hj) hij
 simpa using q
theorem Rs.le {p:Array Nat}(h:Rs p){i j:Nat}(hij:i<=j)(hj:j<p.size):p[i]'(by lia)<=p[j]:=by
 rcases Nat.lt_or_eq_of_le hij with z|z
 ·exact Nat.le_of_lt (h.lt z hj)
 ·subst z
  exact Nat.le_refl _
theorem Z7g {p:Array Nat}(h:Rs p)(x:Nat):∀(f lo hi:Nat),hi<=p.size->hi-lo<=f->lo<=hi->(∀i (q:i<p.size),i<lo->p[i]<x)->(∀i (q:i<p.size),hi<=i->x<=p[i]) →
  SetTable.below.go p x f lo hi<=p.size/\(∀i (q:i<p.size),i<SetTable.below.go p x f lo hi->p[i]<x)/\∀i (q:i<p.size),SetTable.below.go p x f lo hi<=i->x<=p[i]
 | 0,lo,hi,a,b,c,d,e=>by
  obtain rfl:lo=hi:=by lia
  exact⟨a,d,e⟩
 |f+1,lo,hi,a,b,c,d,e=>by
  unfold SetTable.below.go
  by_cases z:lo<hi
  ·rw[if_pos z]
   have hm:(lo+hi) / 2<p.size:=by lia
   have g:p.getD ((lo+hi) / 2) x=p[(lo+hi) / 2]:=by rw[Array.getD_eq_getD_getElem?,getElem?_pos p _ hm];rfl
   dsimp only
   rw[g]
   by_cases y:p[(lo+hi) / 2]<x
   ·rw[if_pos y]
    exact Z7g h x f _ hi a (by lia) (by lia) (fun i q r=>Nat.lt_of_le_of_lt (h.le (by lia) hm) y) e
   ·rw[if_neg y]
    exact Z7g h x f lo _ (by lia) (by lia) (by lia) d fun i q r=>Nat.le_trans (Nat.le_of_not_lt y) (h.le r q)
  ·rw[if_neg z]
   obtain rfl:lo=hi:=by lia
   exact⟨a,d,e⟩
theorem Zi9 {p:Array Nat}(h:Rs p)(x:Nat):SetTable.below p x<=p.size/\(∀i (q:i<p.size),i<SetTable.below p x->p[i]<x)/\∀i (q:i<p.size),SetTable.below p x<=i->x<=p[i]:=
 Z7g h x p.size 0 p.size (Nat.le_refl _) (by lia) (Nat.zero_le _) (fun i q r=>absurd r (by lia)) fun i q r=>absurd r (by lia)
theorem Rs.put {p:Array Nat}(h:Rs p){x:Nat}(hx:p[SetTable.below p x]? ≠ some x):Rs (SetTable.insertAt p (SetTable.below p x) x):=by
 obtain⟨a,b,c⟩:=Zi9 h x
 unfold Rs
 rw[SetTable.toList_insertAt]
 refine List.pairwise_append.mpr ⟨h.sublist (take_sublist _ _),List.pairwise_cons.mpr ⟨fun y hy=>?_,h.sublist (List.drop_sublist _ _)⟩,fun u hu y hy=>?_⟩
 ·obtain⟨i,hi⟩:=mem_iff_getElem?.mp hy
  rw[List.getElem?_drop,Array.getElem?_toList] at hi
  obtain⟨q,rfl⟩:=Array.getElem?_eq_some_iff.mp hi
  have z:=c _ q (by lia)
  rcases Nat.lt_or_eq_of_le z with z|z
  ·exact z
  ·exfalso
   rcases Nat.eq_zero_or_pos i with e|e
   ·subst e
    refine hx ?_
    rw[Array.getElem?_eq_some_iff]
    exact⟨q,z.symm⟩
   ·have w:=c (SetTable.below p x) (by lia) (Nat.le_refl _)
    have v:=h.lt (i:=SetTable.below p x) (j:=SetTable.below p x+i) (by lia) q
    lia
 ·obtain⟨i,hi⟩:=mem_iff_getElem?.mp hu
  rw[List.getElem?_take] at hi
  have ux:u<x:=by
   by_cases l:i<SetTable.below p x
   ·rw[if_pos l,Array.getElem?_toList] at hi
    obtain⟨q,rfl⟩:=Array.getElem?_eq_some_iff.mp hi
    exact b i q l
   ·rw[if_neg l] at hi
    cases hi
  rcases mem_cons.mp hy with rfl|hy
  ·exact ux
  ·obtain⟨k,hk⟩:=mem_iff_getElem?.mp hy
   rw[List.getElem?_drop,Array.getElem?_toList] at hk
   obtain⟨q,rfl⟩:=Array.getElem?_eq_some_iff.mp hk
   exact Nat.lt_of_lt_of_le ux (c _ q (by lia))
def Zqg (t:SetTable)(j:Nat):Prop:=t.place[SetTable.below t.place j]? ≠ some j
theorem Z96 {t:SetTable}{j:Nat}(h:∀i,t.slot j ≠ .live i):Zqg t j:=by
 intro e
 refine h (SetTable.below t.place j) ?_
 unfold SetTable.slot
 dsimp only
 rw[if_pos (by rw[e];exact beq_self_eq_true _)]
theorem Z34 (t:SetTable)(p:SetTable.Probe):(t.advance p).dummy=p.dummy:=by
 unfold SetTable.advance
 split <;> rfl
theorem Z3r {t:SetTable}{ha:Nat->Int}{h:Int}{j:Nat}{d:Option Nat}:∀(f:Nat) (p:SetTable.Probe),(∀x,p.dummy=some x->Zqg t x)->SetTable.probe.go t ha h f p=some (.empty j d)->Zqg t j/\∀x,d=some x->Zqg t x
 | 0,p,_,e=>by
  unfold SetTable.probe.go at e
  cases e
 |f+1,p,hp,e=>by
  unfold SetTable.probe.go at e
  cases hs:t.slot p.j with
  |empty=>
   rw[hs] at e
   dsimp only at e
   cases e
   exact⟨Z96 fun i z=>(by rw[hs] at z;cases z),hp⟩
  |dummy=>
   rw[hs] at e
   dsimp only at e
   refine Z3r f _ (fun x hx=>?_) e
   rw[Z34] at hx
   cases hx
   exact Z96 fun i z=>by rw[hs] at z;cases z
  |live i=>
   rw[hs] at e
   dsimp only at e
   split at e
   ·cases e
   ·exact Z3r f _ (fun x hx=>hp x (by rw[Z34] at hx;exact hx)) e
theorem Zew {t:SetTable}{h:Int}{j:Nat}{b:Bool}(e:t.freeSlot h=some (j,b)):Zqg t j:=by
 unfold SetTable.freeSlot at e
 split at e
 ·next k d q=>
  obtain⟨a,c⟩:=Z3r _ _ (fun x z=>by cases z) q
  cases d with
  |none=>
   cases e
   exact a
  |some x=>
   cases e
   exact c _ rfl
 ·cases e
theorem Z2h (t:SetTable)(n:Nat):Rs (t.standIn n).place:=by
 show(Array.range n).toList.Pairwise (· < ·)
 rw[Array.toList_range]
 exact List.pairwise_lt_range
theorem Zex {t:SetTable}(hr:Rs t.place)(es:Array (Int×Value))(h:Int)(x:Value):Rs (layNew t es h x).2.1.place/\(layNew t es h x).2.1.led=t.led:=by
 unfold layNew
 split
 ·next j b e=>
  show Rs ((t.put j).1.orStandIn _).place/\((t.put j).1.orStandIn _).led=t.led
  unfold SetTable.orStandIn
  split
  ·exact⟨hr.put (Zew e),rfl⟩
  ·exact⟨Z2h _ _,rfl⟩
 ·exact⟨Z2h _ _,rfl⟩
theorem Zlx (f:Nat->Option (Nat×Nat))(hf:∀j p,f j=some p->p.1=j)(n:Nat):(((List.range n).filterMap f).map (·.1)).Pairwise (· < ·):=by
 rw[List.pairwise_map,List.pairwise_filterMap]
 refine List.Pairwise.imp ?_ (List.pairwise_lt_range (n:=n))
 intro a b hab p hp q hq
 rw[hf a p hp,hf b q hq]
 exact hab
theorem Z53 {t:SetTable}(es:Array (Int×Value))(n:Nat):Rs (relayAll t es n).2.1.place/\(relayAll t es n).2.1.led=t.led:=by
 unfold relayAll
 split
 ·next t' order e=>
  dsimp only
  split
  ·unfold SetTable.relaid SetTable.laid at e
   cases q:SetTable.layClean (SetTable.sizeAbove n-1) (es.map (·.1)) with
   |none=>
    rw[q] at e
    cases e
   |some owner=>
    rw[q] at e
    cases e
    refine⟨?_,rfl⟩
    refine Zlx (fun j=>(owner.getD j none).map fun x=>(j,x)) (fun j p hp=>?_) _
    cases z:owner.getD j none with
    |none=>
     rw[z] at hp
     cases hp
    |some y=>
     rw[z] at hp
     cases hp
     rfl
  ·exact⟨Z2h _ _,rfl⟩
 ·exact⟨Z2h _ _,rfl⟩
def byT (w:World):Bool:=w.params.followText "set-order"
section
variable {P:Program}{w:World}{A:Around}{E:Value->Shared->Prop}{s:Shared}
theorem Zey (b:Bool){s₁:Shared}{Q':Unit->Shared->Prop}(q:Q' () s₁):wpAny (model P w) A (match b with|true=>rule "set.scan.the-table-gave-way" | false=>pure ()) Q' E s₁:=by
 cases b
 ·exact wpAny_pure q
 ·exact wpAny_rule q
end
end Srt
namespace Srt
open PySem PyProof.Rows PySem.Spec
abbrev Zhm (w:World):Obj:={ cls:=.type "set",dict:=none,data:=.set #[] 0 (.fresh 0 0 (!byT w)) }
section
variable {P:Program}{w:World}{A:Around}{E:Value->Shared->Prop}{s:Shared}
theorem Zwp (a:Value){Q₁:Value->Shared->Prop}(h:Q₁ (.ref s.heap.objs.size) { s with heap:=s.heap.push (Zhm w) }):codeAny (model P w) A (.call (.builtin "set.__new__") ⟨[.type "set",a],[]⟩) (wants Q₁ E) s:=by
 refine codeAny_of_tree ?_
 show wpAny _ A.in1 (checkBuiltinCall "set.__new__" ⟨[.type "set",a],[]⟩ >>= fun _=>again (.builtin "set.__new__" ⟨[.type "set",a],[]⟩)) _ _ s
 refine wpAny_bind (wpAny_of_eq (F.newCall_set_1 a) (wpAny_pure ⟨plainId_quiet F.plain_set_new _,codeAny_builtin F.entry_set_new ?k⟩))
 case k=>
  rw[Around.under_plainId F.plain_set_new _]
  have hsub:=sub_set_self
  obtain⟨hp,g,d,tk,os⟩:=s
  unfold Builtin.«set.__new__» Builtin.Frozenset.newClass
  dsimp only
  wp_walk
  refine wpAny_askSetting (wpAny_pure ?j)
  case j=>
   simp only [newObj]
   exact wpAny_bind (wpAny_alloc (wpAny_pure (wpAny_pure h)))
end
end Srt
namespace L2
open PySem PySem.Spec PyProof.Rows
inductive Tv where
 |at (v:V)
 |tup (l:List Tv)
 |lst (l:List Tv)
 |dic (l:List (Key×Tv))
 |scr (l:List Tv)
 |ktp (l:List Tv)
 |fnv (a:Addr)
def okA:V->Bool
 | .str x=>decide (x.length<=16777216)
 | .byt _=>false
 | .flt _=>false
 |_=>true
mutual
inductive IsT (K:W.Frag)(G:Hp):V->Tv->Prop where
 |at {v:V} (f:okA v=true):IsT K G v (.at v)
 |tup {a:Addr} {vs:List V} {ts:List Tv} (h:G a=some (.tup vs)) (r:IsTs K G vs ts):IsT K G (.ref a) (.tup ts)
 |ktp {a:Addr} {vs:List V} {ts:List Tv} (h:SqT K G a vs) (r:IsTs K G vs ts):IsT K G (.ref a) (.ktp ts)
 |lst {a:Addr} {vs:List V} {ts:List Tv} (h:G a=some (.lst vs)) (r:IsTs K G vs ts):IsT K G (.ref a) (.lst ts)
 |scr {a:Addr} {vs:List V} {ts:List Tv} (h:SqL K G a vs) (r:IsTs K G vs ts):IsT K G (.ref a) (.scr ts)
 |dic {a:Addr} {kvs:List (Key×V)} {kts:List (Key×Tv)} (h:G a=some (.dK kvs)) (r:IsKs K G kvs kts):IsT K G (.ref a) (.dic kts)
 |fnv {a:Addr}:IsT K G (.ref a) (.fnv a)
inductive IsTs (K:W.Frag)(G:Hp):List V->List Tv->Prop where
 |nil:IsTs K G [] []
 |cons {v:V} {vs:List V} {t:Tv} {ts:List Tv} (h:IsT K G v t) (r:IsTs K G vs ts):IsTs K G (v::vs) (t::ts)
inductive IsKs (K:W.Frag)(G:Hp):List (Key×V)->List (Key×Tv)->Prop where
 |nil:IsKs K G [] []
 |cons {k:Key} {v:V} {vs:List (Key×V)} {t:Tv} {ts:List (Key×Tv)} (h:IsT K G v t) (r:IsKs K G vs ts):IsKs K G ((k,v)::vs) ((k,t)::ts)
end
mutual
theorem IsT.mono {K:W.Frag}{G G':Hp}(s:Same G G'):∀{v:V} {t:Tv},IsT K G v t->IsT K G' v t
 |_,_,.at f=>.at f
 |_,_,.tup h r=>.tup (s _ _ h) (IsTs.mono s r)
 |_,_,.ktp h r=>.ktp (s.tup h) (IsTs.mono s r)
 |_,_,.lst h r=>.lst (s _ _ h) (IsTs.mono s r)
 |_,_,.scr h r=>.scr (s.seq h) (IsTs.mono s r)
 |_,_,.dic h r=>.dic (s _ _ h) (IsKs.mono s r)
 |_,_,.fnv=>.fnv
theorem IsTs.mono {K:W.Frag}{G G':Hp}(s:Same G G'):∀{vs:List V} {ts:List Tv},IsTs K G vs ts->IsTs K G' vs ts
 |_,_,.nil=>.nil
 |_,_,.cons h r=>.cons (IsT.mono s h) (IsTs.mono s r)
theorem IsKs.mono {K:W.Frag}{G G':Hp}(s:Same G G'):∀{vs:List (Key×V)} {ts:List (Key×Tv)},IsKs K G vs ts->IsKs K G' vs ts
 |_,_,.nil=>.nil
 |_,_,.cons h r=>.cons (IsT.mono s h) (IsKs.mono s r)
end
section
variable {K:W.Frag}{G:Hp}
theorem IsTs.len {vs:List V}:∀{ts:List Tv},IsTs K G vs ts->vs.length=ts.length:=by
 induction vs with
 |nil=>intro ts h;cases h;rfl
 |cons v vs ih=>intro ts h;cases h with|cons _ r=>simp [ih r]
theorem IsTs.get {vs:List V}:∀{ts:List Tv} {i:Nat} {t:Tv},IsTs K G vs ts->ts[i]? = some t->∃v,vs[i]? = some v/\IsT K G v t:=by
 induction vs with
 |nil=>intro ts i t h e;cases h;simp at e
 |cons v vs ih=>
  intro ts i t h e
  cases h with
  |cons a r=>
   cases i with
   |zero=>simp at e;subst e;exact⟨v,rfl,a⟩
   |succ i=>simp at e;obtain⟨v',h1,h2⟩:=ih r e;exact⟨v',by simpa using h1,h2⟩
theorem IsTs.app {vs:List V}:∀{ws:List V} {ts us:List Tv},IsTs K G vs ts->IsTs K G ws us->IsTs K G (vs++ws) (ts++us):=by
 induction vs with
 |nil=>intro ws ts us h r;cases h;exact r
 |cons v vs ih=>intro ws ts us h r;cases h with|cons a b=>exact .cons a (ih b r)
theorem IsTs.take {vs:List V}:∀{ts:List Tv} (n:Nat),IsTs K G vs ts->IsTs K G (vs.take n) (ts.take n):=by
 induction vs with
 |nil=>intro ts n h;cases h;simp;exact .nil
 |cons v vs ih=>
  intro ts n h
  cases h with
  |cons a b=>
   cases n with
   |zero=>exact .nil
   |succ n=>exact .cons a (ih n b)
theorem IsTs.drop {vs:List V}:∀{ts:List Tv} (n:Nat),IsTs K G vs ts->IsTs K G (vs.drop n) (ts.drop n):=by
 induction vs with
 |nil=>intro ts n h;cases h;simp;exact .nil
 |cons v vs ih=>
  intro ts n h
  cases h with
  |cons a b=>
   cases n with
   |zero=>exact .cons a b
   |succ n=>exact ih n b
theorem IsTs.set {vs:List V}:∀{ts:List Tv} {v:V} {t:Tv} (n:Nat),IsTs K G vs ts->IsT K G v t->IsTs K G (vs.set n v) (ts.set n t):=by
 induction vs with
 |nil=>intro ts v t n h _;cases h;exact .nil
 |cons x vs ih=>
  intro ts v t n h q
  cases h with
  |cons a b=>
   cases n with
   |zero=>exact .cons q b
   |succ n=>exact .cons a (ih n b q)
theorem IsTs.rev {vs:List V}:∀{ts:List Tv},IsTs K G vs ts->IsTs K G vs.reverse ts.reverse:=by
 induction vs with
 |nil=>intro ts h;cases h;exact .nil
 |cons v vs ih=>intro ts h;cases h with|cons a b=>rw[reverse_cons,reverse_cons];exact(ih b).app (.cons a .nil)
end
inductive Ob where
 |lst (l:List Tv)
 |dic (l:List (Key×Tv))
def Ob.tv:Ob->Tv
 | .lst l=>.lst l
 | .dic l=>.dic l
inductive Sl where
 |fz (t:Tv)
 |own (o:Ob)
 |out (k:Nat)
structure Ms where
 env:List (Option Sl)
 out:List Sl
 tmp:List Ob
inductive Ev where
 |fz (t:Tv)|loc (i:Nat)|out (k:Nat)|tmp (j:Nat)
inductive Rf where
 |loc (i:Nat)|out (k:Nat)|tmp (j:Nat)
 deriving DecidableEq
def ObOk (K:W.Frag)(G H:Hp)(a:Addr):Ob->Prop
 | .lst ts=>∃vs,H a=some (.lst vs)/\IsTs K G vs ts
 | .dic kts=>∃kvs,H a=some (.dK kvs)/\IsKs K G kvs kts
def Zou:HO->Prop
 | .tup _=>True
 | .frz _ (.tup _)=>True
 |_=>False
structure Fr where
 H0:Hp
 G0:Hp
 ao:List Addr
def slO:Sl->Option Ob
 | .own o=>some o
 |_=>none
def Z01 (M:Ms):Rf->Option Ob
 | .loc i=>(M.env[i]?).bind fun s=>s.bind slO
 | .out k=>(M.out[k]?).bind slO
 | .tmp j=>M.tmp[j]?
def Zia:V->Option Addr
 | .ref a=>some a
 |_=>none
def adr (F:Fr)(ta:List Addr)(σ:St):Rf->Option Addr
 | .loc i=>(σ[i]?).bind fun s=>s.bind Zia
 | .out k=>F.ao[k]?
 | .tmp j=>ta[j]?
structure Rel (K:W.Frag)(F:Fr)(G:Hp)(ta:List Addr)(M:Ms)(σ:St)(H:Hp):Prop where
 sub:Same G H
 g0:Same F.G0 G
 fra:∀a o,F.H0 a=some o->a∉F.ao->H a=some o
 gd:∀a o,G a=some o->F.G0 a=some o∨F.H0 a=none∨a∈F.ao∨Zou o
 pr:∀a,a∈F.ao->∃o,H a=some o
 ls:M.env.length=σ.length
 lo:M.out.length=F.ao.length
 lt:M.tmp.length=ta.length
 fz:∀(i:Nat) (t:Tv),M.env[i]? = some (some (Sl.fz t))->∃v,σ[i]? = some (some v)/\IsT K G v t
 al:∀(i k:Nat),M.env[i]? = some (some (Sl.out k))->∃a,F.ao[k]? = some a/\σ[i]? = some (some (V.ref a))
 fo:∀(k:Nat) (t:Tv),M.out[k]? = some (.fz t)->∃a,F.ao[k]? = some a/\IsT K G (.ref a) t
 ob:∀r o,Z01 M r=some o->∃a,adr F ta σ r=some a/\ObOk K G H a o/\G a=none
 ij:∀r r' o o' a,Z01 M r=some o->Z01 M r'=some o'->adr F ta σ r=some a->adr F ta σ r'=some a->r=r'
 nw:∀r o a,Z01 M r=some o->adr F ta σ r=some a->(∃k,r = .out k)∨F.H0 a=none
section
variable {K:W.Frag}{F:Fr}{G G' H H':Hp}{ta ta':List Addr}{M M':Ms}{σ σ':St}
theorem ObOk.mono {a:Addr}(s:Same G G')(h:H' a=H a):∀{o:Ob},ObOk K G H a o->ObOk K G' H' a o
 | .lst _,⟨vs,e,r⟩=>⟨vs,h.trans e,r.mono s⟩
 | .dic _,⟨vs,e,r⟩=>⟨vs,h.trans e,r.mono s⟩
theorem ObOk.some {a:Addr}:∀{o:Ob},ObOk K G H a o->∃u,H a=some u
 | .lst _,⟨_,e,_⟩=>⟨_,e⟩
 | .dic _,⟨_,e,_⟩=>⟨_,e⟩
theorem ObOk.notup {a:Addr}{u:HO}:∀{o:Ob},ObOk K G H a o->H a=Option.some u->¬Zou u
 | .lst _,⟨_,e,_⟩,h,t=>by rw[e] at h;cases h;exact t
 | .dic _,⟨_,e,_⟩,h,t=>by rw[e] at h;cases h;exact t
theorem Rel.new (R:Rel K F G ta M σ H){p:Addr}(h:H p=none):F.H0 p=none/\p∉F.ao/\G p=none:=by
 have h1:p∉F.ao:=fun z=>by obtain⟨o,e⟩:=R.pr p z;rw[h] at e;cases e
 refine⟨?_,h1,R.sub.free h⟩
 cases e:F.H0 p with
 |none=>rfl
 |some o=>rw[R.fra p o e h1] at h;cases h
def EvOk (K:W.Frag)(F:Fr)(G:Hp)(ta:List Addr)(σ:St):Ev->V->Prop
 | .fz t,v=>IsT K G v t
 | .loc i,v=>σ[i]? = some (some v)/\∃a,v = .ref a
 | .out k,v=>∃a,F.ao[k]? = some a/\v = .ref a
 | .tmp j,v=>∃a,ta[j]? = some a/\v = .ref a
structure Stp (G:Hp)(ta:List Addr)(G':Hp)(ta':List Addr):Prop where
 g:Same G G'
 t:∃l,ta'=ta++l
theorem Stp.refl:Stp G ta G ta:=⟨Same.refl _,[],by simp⟩
theorem Stp.trans {G1 G2:Hp}{t1 t2:List Addr}(a:Stp G ta G1 t1)(b:Stp G1 t1 G2 t2):Stp G ta G2 t2:=by
 obtain⟨l,rfl⟩:=a.t
 obtain⟨m,rfl⟩:=b.t
 exact⟨a.g.trans b.g,l++m,by simp⟩
theorem EvOk.stp (s:Stp G ta G' ta'):∀{ev:Ev} {v:V},EvOk K F G ta σ ev v->EvOk K F G' ta' σ ev v
 | .fz _,_,h=>IsT.mono s.g h
 | .loc _,_,h=>h
 | .out _,_,h=>h
 | .tmp j,_,⟨a,e,h⟩=>by
  obtain⟨l,rfl⟩:=s.t
  refine⟨a,?_,h⟩
  rw[List.getElem?_append_left (List.getElem?_eq_some_iff.mp e).1];exact e
def slT:Sl->Option Tv
 | .fz t=>some t
 | .own o=>some o.tv
 | .out _=>none
def rd (M:Ms):Ev->Option Tv
 | .fz t=>some t
 | .loc i=>(M.env[i]?).bind fun s=>s.bind slT
 | .out k=>(M.out[k]?).bind slT
 | .tmp j=>(M.tmp[j]?).map Ob.tv
def IsR (K:W.Frag)(G H:Hp)(v:V)(t:Tv):Prop:=IsT K G v t∨∃a o,v = .ref a/\t=Ob.tv o/\ObOk K G H a o
theorem IsR.up (s:Same G H){v:V}{t:Tv}(h:IsR K G H v t):IsT K H v t:=by
 rcases h with h|⟨a,o,rfl,rfl,h⟩
 ·exact h.mono s
 ·cases o with
  |lst l=>obtain⟨vs,e,r⟩:=h;exact .lst e (r.mono s)
  |dic l=>obtain⟨vs,e,r⟩:=h;exact .dic e (r.mono s)
theorem Rel.rd (R:Rel K F G ta M σ H){ev:Ev}{v:V}{t:Tv}(h:EvOk K F G ta σ ev v)(e:rd M ev=some t):IsR K G H v t:=by
 have own:∀r o a,Z01 M r=some o->adr F ta σ r=some a->IsR K G H (.ref a) o.tv:=fun r o a h1 h2=>by
  obtain⟨b,h3,h4,_⟩:=R.ob r o h1
  rw[h2] at h3;cases h3
  exact .inr ⟨a,o,rfl,rfl,h4⟩
 cases ev with
 |fz u=>cases e;exact .inl h
 |loc i=>
  obtain⟨h1,a,rfl⟩:=h
  cases q:M.env[i]? with
  |none=>simp [L2.rd,q] at e
  |some s=>
   cases s with
   |none=>simp [L2.rd,q] at e
   |some s=>
    cases s with
    |fz u=>
     simp [L2.rd,q,slT] at e;subst e
     obtain⟨v,h2,h3⟩:=R.fz i u q
     rw[h1] at h2;cases h2;exact .inl h3
    |own o=>
     simp [L2.rd,q,slT] at e;subst e
     exact own (.loc i) o a (by simp [Z01,q,slO]) (by simp [adr,h1,Zia])
    |out k=>simp [L2.rd,q,slT] at e
 |out k=>
  obtain⟨a,h1,rfl⟩:=h
  cases q:M.out[k]? with
  |none=>simp [L2.rd,q] at e
  |some s=>
   cases s with
   |fz u=>
    simp [L2.rd,q,slT] at e;subst e
    obtain⟨b,h2,h3⟩:=R.fo k u q
    rw[h1] at h2;cases h2;exact .inl h3
   |own o=>
    simp [L2.rd,q,slT] at e;subst e
    exact own (.out k) o a (by simp [Z01,q,slO]) h1
   |out k=>simp [L2.rd,q,slT] at e
 |tmp j=>
  obtain⟨a,h1,rfl⟩:=h
  cases q:M.tmp[j]? with
  |none=>simp [L2.rd,q] at e
  |some o=>
   simp [L2.rd,q] at e;subst e
   exact own (.tmp j) o a q h1
theorem Rel.more (R:Rel K F G ta M σ H)(s:Same G G')(sH:Same G' H')(hH:Same H H')(hf:∀a o,G' a=some o->G a=some o∨H a=none∨Zou o):Rel K F G' ta M σ H' where
 sub:=sH
 g0:=R.g0.trans s
 fra:=fun a o h1 h2=>hH _ _ (R.fra a o h1 h2)
 gd:=fun a o h=>by
  rcases hf a o h with h|h|h
  ·exact R.gd a o h
  ·exact .inr (.inl (R.new h).1)
  ·exact .inr (.inr (.inr h))
 pr:=fun a h=>by obtain⟨o,e⟩:=R.pr a h;exact⟨o,hH _ _ e⟩
 ls:=R.ls
 lo:=R.lo
 lt:=R.lt
 fz:=fun i t h=>by obtain⟨v,h1,h2⟩:=R.fz i t h;exact⟨v,h1,h2.mono s⟩
 al:=R.al
 fo:=fun k t h=>by obtain⟨a,h1,h2⟩:=R.fo k t h;exact⟨a,h1,h2.mono s⟩
 ob:=fun r o h=>by
  obtain⟨a,h1,h2,h3⟩:=R.ob r o h
  obtain⟨u,hu⟩:=h2.some
  refine⟨a,h1,h2.mono s ((hH _ _ hu).trans hu.symm),?_⟩
  cases e:G' a with
  |none=>rfl
  |some x=>
   rcases hf a x e with z|z|z
   ·rw[h3] at z;cases z
   ·rw[hu] at z;cases z
   ·have q:=sH a x e
    rw[hH a u hu] at q;cases q
    exact absurd z (h2.notup hu)
 ij:=R.ij
 nw:=R.nw
theorem Rel.cut (R:Rel K F G ta M σ H)(n:Nat):Rel K F G (ta.take n) { M with tmp:=M.tmp.take n } σ H:=by
 have up:∀r o,Z01 { M with tmp:=M.tmp.take n } r=some o->Z01 M r=some o/\adr F (ta.take n) σ r=adr F ta σ r:=fun r o h=>by
  cases r with
  |loc i=>exact⟨h,rfl⟩
  |out k=>exact⟨h,rfl⟩
  |tmp j=>
   have h':(M.tmp.take n)[j]? = some o:=h
   rw[List.getElem?_take] at h'
   split at h'
   ·next hj=>exact⟨h',by show(ta.take n)[j]? = ta[j]?;rw[List.getElem?_take,if_pos hj]⟩
   ·cases h'
 refine⟨R.sub,R.g0,R.fra,R.gd,R.pr,R.ls,R.lo,by show(M.tmp.take n).length=_;rw[length_take,length_take,R.lt],R.fz,R.al,R.fo,fun r o h=>?_,fun r r' o o' a h h' e e'=>?_,fun r o a h e=>?_⟩
 ·obtain⟨h1,h2⟩:=up r o h;rw[h2];exact R.ob r o h1
 ·obtain⟨h1,h2⟩:=up r o h;obtain⟨h3,h4⟩:=up r' o' h'
  rw[h2] at e;rw[h4] at e';exact R.ij r r' o o' a h1 h3 e e'
 ·obtain⟨h1,h2⟩:=up r o h;rw[h2] at e;exact R.nw r o a h1 e
theorem Rel.push (R:Rel K F G ta M σ H){p:Addr}{o:Ob}(hp:H p=none)(hH:Same H H')(h:ObOk K G H' p o):Rel K F G (ta ++ [p]) { M with tmp:=M.tmp ++ [o] } σ H':=by
 obtain⟨n1,n2,n3⟩:=R.new hp
 have R':Rel K F G ta M σ H':=R.more (Same.refl _) (R.sub.trans hH) hH fun a o h=>.inl h
 have up:∀r u,Z01 { M with tmp:=M.tmp ++ [o] } r=some u->(Z01 M r=some u/\adr F (ta ++ [p]) σ r=adr F ta σ r)∨(r = .tmp ta.length/\u=o/\adr F (ta ++ [p]) σ r=some p):=fun r u h=>by
  cases r with
  |loc i=>exact .inl ⟨h,rfl⟩
  |out k=>exact .inl ⟨h,rfl⟩
  |tmp j=>
   have h':(M.tmp ++ [o])[j]? = some u:=h
   rcases Nat.lt_or_ge j M.tmp.length with hj|hj
   ·rw[List.getElem?_append_left hj] at h'
    exact .inl ⟨h',by show(ta ++ [p])[j]? = _;rw[List.getElem?_append_left (by rw[<- R.lt];exact hj)];rfl⟩
   ·rw[List.getElem?_append_right hj] at h'
    have hj0:j-M.tmp.length=0:=by
     have:=(List.getElem?_eq_some_iff.mp h').1
     simp at this;lia
    rw[hj0] at h'
    simp at h'
    have hjt:j=ta.length:=by rw[<- R.lt];lia
    exact .inr ⟨by rw[hjt],h'.symm,by show(ta ++ [p])[j]? = _;rw[hjt,List.getElem?_append_right (Nat.le_refl _)];simp⟩
 have old:∀r u a,Z01 M r=some u->adr F ta σ r=some a->a≠p:=fun r u a h1 h2 z=>by
  obtain⟨b,e,k,_⟩:=R.ob r u h1
  rw[h2] at e;cases e
  obtain⟨x,hx⟩:=k.some
  rw[z,hp] at hx;cases hx
 refine⟨R'.sub,R'.g0,R'.fra,R'.gd,R'.pr,R'.ls,R'.lo,by show(M.tmp ++ [o]).length=_;rw[length_append,length_append,R.lt];rfl,R'.fz,R'.al,R'.fo,fun r u h=>?_,fun r r' u u' a h h' e e'=>?_,fun r u a h e=>?_⟩
 ·rcases up r u h with ⟨h1,h2⟩|⟨rfl,rfl,h2⟩
  ·rw[h2];exact R'.ob r u h1
  ·rw[h2];exact⟨p,rfl,‹_›,n3⟩
 ·rcases up r u h with ⟨h1,h2⟩|⟨rfl,rfl,h2⟩
  ·rcases up r' u' h' with ⟨h3,h4⟩|⟨rfl,rfl,h4⟩
   ·rw[h2] at e;rw[h4] at e';exact R.ij r r' u u' a h1 h3 e e'
   ·rw[h2] at e;rw[h4] at e';cases e'
    exact absurd rfl (old r u p h1 e)
  ·rcases up r' u' h' with ⟨h3,h4⟩|⟨rfl,_,h4⟩
   ·rw[h2] at e;rw[h4] at e';cases e
    exact absurd rfl (old r' u' p h3 e')
   ·rfl
 ·rcases up r u h with ⟨h1,h2⟩|⟨rfl,rfl,h2⟩
  ·rw[h2] at e;exact R.nw r u a h1 e
  ·rw[h2] at e;cases e;exact .inr n1
abbrev TW:=Ms->(Ev->Ms->Prop)->Prop
abbrev TWs:=Ms->(List Ev->Ms->Prop)->Prop
inductive EvsOk (K:W.Frag)(F:Fr)(G:Hp)(ta:List Addr)(σ:St):List Ev->List V->Prop where
 |nil:EvsOk K F G ta σ [] []
 |cons {e:Ev} {es:List Ev} {v:V} {vs:List V} (h:EvOk K F G ta σ e v) (r:EvsOk K F G ta σ es vs):EvsOk K F G ta σ (e::es) (v::vs)
inductive LE (K:W.Frag)(F:Fr)(w:TW)(σ:St)(H:Hp)(Q:VK):Prop
 |mk (G ta M K0:_) (_:Rel K F G ta M σ H) (_:w M K0) (_:∀ev M' G' ta' v H',K0 ev M'->Rel K F G' ta' M' σ H'->Stp G ta G' ta'->EvOk K F G' ta' σ ev v->Q v H'):LE K F w σ H Q
inductive LA (K:W.Frag)(F:Fr)(w:TWs)(σ:St)(H:Hp)(Q:(List V->Hp->Prop)):Prop
 |mk (G ta M K0:_) (_:Rel K F G ta M σ H) (_:w M K0) (_:∀evs M' G' ta' vs H',K0 evs M'->Rel K F G' ta' M' σ H'->Stp G ta G' ta'->EvsOk K F G' ta' σ evs vs->Q vs H'):LA K F w σ H Q
theorem PE.imp {X:Cx}{e:Expr}{t t':TE}(h:PE X e t)(i:∀ σ H Q,t' σ H Q->t σ H Q):PE X e t':=fun pins s σ H Q I q=>h pins s σ H Q I (i σ H Q q)
theorem PT.imp {X:Cx}{e:Expr}{t t':TT}(h:PT X e t)(i:∀ σ H Q,t' σ H Q->t σ H Q):PT X e t':=fun pins s σ H Q I q=>h pins s σ H Q I (i σ H Q q)
theorem PA.imp {X:Cx}{e:List Expr}{t t':TA}(h:PA X e t)(i:∀ σ H Q,t' σ H Q->t σ H Q):PA X e t':=fun pos pins s σ H Q I q=>h pos pins s σ H Q I (i σ H Q q)
def bnd {α : Type}(o:Option α)(f : α -> Prop):Prop:=match o with|some a=>f a|none=>False
theorem Z00 {α : Type}{o:Option α}{f : α -> Prop}(h:bnd o f):∃a,o=some a/\f a:=by
 cases o with
 |none=>exact h.elim
 |some a=>exact⟨a,rfl,h⟩
def Zez {α β : Type}(o:Option (α × β))(f : α -> β -> Prop):Prop:=match o with|some (a,b)=>f a b|none=>False
theorem Z0n {α β : Type}{o:Option (α × β)}{f : α -> β -> Prop}(h:Zez o f):∃a b,o=some (a,b)/\f a b:=by
 cases o with
 |none=>exact h.elim
 |some p=>exact⟨p.1,p.2,rfl,h⟩
def wC (t:Tv):TW:=fun M k=>k (.fz t) M
def Z7h (M:Ms)(i:Nat):Option Ev:=match M.env[i]? with
 |some (some (.fz t))=>some (.fz t)
 |some (some (.own _))=>some (.loc i)
 |some (some (.out k))=>some (.out k)
 |_=>none
def Zov (i:Nat):TW:=fun M k=>bnd (Z7h M i) fun ev=>k ev M
theorem Zqh {X:Cx}{e:Expr}{v:V}(h:PE X e (tC v))(ok:okA v=true):PE X e (LE X.K F (wC (.at v))):=h.imp fun σ H Q ⟨G,ta,M,K0,R,k,q⟩=>q _ _ G ta v H k R .refl (.at ok)
theorem Rel.var (R:Rel K F G ta M σ H){i:Nat}{ev:Ev}(h:Z7h M i=some ev):∃v,σ[i]? = some (some v)/\EvOk K F G ta σ ev v:=by
 unfold Z7h at h
 split at h
 ·next t e=>cases h;exact R.fz i t e
 ·next o e=>
  cases h
  obtain⟨a,e1,_⟩:=R.ob (.loc i) o (by simp [Z01,e,slO])
  have e2:σ[i]? = some (some (V.ref a)):=by
   simp only [adr] at e1
   cases q:σ[i]? with
   |none=>simp [q] at e1
   |some s=>
    cases s with
    |none=>simp [q] at e1
    |some v=>cases v <;> simp [q,Zia] at e1;subst e1;rfl
  exact⟨.ref a,e2,e2,a,rfl⟩
 ·next k e=>
  cases h
  obtain⟨a,e1,e2⟩:=R.al i k e
  exact⟨.ref a,e2,a,e1,rfl⟩
 ·cases h
theorem Zbl {X:Cx}{e:Expr}{i:Nat}(h:PE X e (Zp6 i)):PE X e (LE X.K F (Zov i)):=h.imp fun σ H Q ⟨G,ta,M,K0,R,k,q⟩=>by
 obtain⟨ev,e1,k⟩:=Z00 k
 obtain⟨v,e2,e3⟩:=R.var e1
 exact⟨v,e2,q _ _ G ta v H k R .refl e3⟩
inductive Rs where
 |v (t:Tv)
 |n (o:Ob)
def Z97 (K:W.Frag)(G H:Hp)(Q:VK):Rs->Prop
 | .v t=>∀v G' H',Same G G'->Same H H'->Same G' H'->(∀a o,G' a=some o->G a=some o∨H a=none∨Zou o)->IsT K G' v t->Q v H'
 | .n o=>∀p H',H p=none->Same H H'->ObOk K G H' p o->Q (.ref p) H'
def Za9 (n:Nat)(M:Ms)(k:Ev->Ms->Prop):Rs->Prop
 | .v t=>k (.fz t) { M with tmp:=M.tmp.take n }
 | .n o=>k (.tmp n) { M with tmp:=M.tmp.take n ++ [o] }
theorem Z7i {l m:List Addr}:(l++m).take l.length=l:=by simp
theorem Rel.done {G0:Hp}{t0:List Addr}{M0:Ms}{Q:VK}{K0:Ev->Ms->Prop}(l0:M0.tmp.length=t0.length)(R:Rel K F G ta M σ H)(s:Stp G0 t0 G ta){r:Rs}(k:Za9 M0.tmp.length M K0 r)
  (q:∀ev M' G' ta' v H',K0 ev M'->Rel K F G' ta' M' σ H'->Stp G0 t0 G' ta'->EvOk K F G' ta' σ ev v->Q v H'):Z97 K G H Q r:=by
 obtain⟨l,rfl⟩:=s.t
 have R1:=R.cut M0.tmp.length
 rw[l0,Z7i] at R1
 cases r with
 |v t=>
  intro v G' H' h1 h2 h3 h4 h5
  have R2:=R1.more h1 h3 h2 h4
  exact q _ _ G' t0 v H' k (by rw[l0];exact R2) ⟨s.g.trans h1,[],by simp⟩ h5
 |n o=>
  intro p H' hp h2 h3
  have R2:=R1.push hp h2 h3
  refine q _ _ G (t0 ++ [p]) (.ref p) H' k (by rw[l0];exact R2) ⟨s.g,[p],rfl⟩ ⟨p,?_,rfl⟩
  rw[l0,List.getElem?_append_right (Nat.le_refl _)];simp
inductive Rz where
 |ok (r:Rs)
 |cd (c:Prop) (r:Rs)
 |ex (p:Rs->Prop)
 |no
inductive ZH:Rz->Rs->Prop where
 |ok {r:Rs}:ZH (.ok r) r
 |cd {c:Prop} {r:Rs} (h:c):ZH (.cd c r) r
 |ex {p:Rs->Prop} {r:Rs} (h:p r):ZH (.ex p) r
def bz (z:Rz)(f:Rs->Prop):Prop:=match z with
 | .ok r=>f r
 | .cd c r=>c/\f r
 | .ex p=>∃r,p r/\f r
 | .no=>False
theorem Z1l {z:Rz}{f:Rs->Prop}(h:bz z f):∃s,ZH z s/\f s:=by
 cases z with
 |ok r=>exact⟨r,.ok,h⟩
 |cd c r=>exact⟨r,.cd h.1,h.2⟩
 |ex p=>obtain⟨r,h1,h2⟩:=h;exact⟨r,.ex h1,h2⟩
 |no=>exact h.elim
def Zkk (f:Tv->Tv->Rz)(wa wb:TW):TW:=fun M k=>wa M fun x M1=>wb M1 fun y M2=>bnd (rd M2 x) fun t=>bnd (rd M2 y) fun u=>bz (f t u) (Za9 M.tmp.length M2 k)
def Z0t (K:W.Frag)(f:Tv->Tv->Rz)(r:R2):Prop:=∀G H x y t u s Q,Same G H->IsR K G H x t->IsR K G H y u->ZH (f t u) s->Z97 K G H Q s->r x y H Q
theorem Z35 {X:Cx}{e:Expr}{f:Tv->Tv->Rz}{r:R2}{wa wb:TW}(h:PE X e (tOp r (LE X.K F wa) (LE X.K F wb)))(o:Z0t X.K f r):PE X e (LE X.K F (Zkk f wa wb)):=h.imp fun σ H Q ⟨G,ta,M,K0,R,k,q⟩=>by
 refine⟨G,ta,M,_,R,k,fun x M1 G1 t1 v1 H1 k1 R1 s1 e1=>⟨G1,t1,M1,_,R1,k1,fun y M2 G2 t2 v2 H2 k2 R2 s2 e2=>?_⟩⟩
 obtain⟨t,ht,k2⟩:=Z00 k2
 obtain⟨u,hu,k2⟩:=Z00 k2
 obtain⟨s,hs,k2⟩:=Z1l k2
 exact o G2 H2 v1 v2 t u s Q R2.sub (R2.rd (e1.stp s2) ht) (R2.rd e2 hu) hs (R2.done R.lt (s1.trans s2) k2 q)
def wUn (f:Tv->Rz)(wa:TW):TW:=fun M k=>wa M fun x M1=>bnd (rd M1 x) fun t=>bz (f t) (Za9 M.tmp.length M1 k)
def Z4k (K:W.Frag)(f:Tv->Rz)(r:V->Hp->VK->Prop):Prop:=∀G H x t s Q,Same G H->IsR K G H x t->ZH (f t) s->Z97 K G H Q s->r x H Q
theorem Z69 {X:Cx}{e:Expr}{f:Tv->Rz}{r:V->Hp->VK->Prop}{wa:TW}(h:PE X e (tUn r (LE X.K F wa)))(o:Z4k X.K f r):PE X e (LE X.K F (wUn f wa)):=h.imp fun σ H Q ⟨G,ta,M,K0,R,k,q⟩=>by
 refine⟨G,ta,M,_,R,k,fun x M1 G1 t1 v1 H1 k1 R1 s1 e1=>?_⟩
 obtain⟨t,ht,k1⟩:=Z00 k1
 obtain⟨s,hs,k1⟩:=Z1l k1
 exact o G1 H1 v1 t s Q R1.sub (R1.rd e1 ht) hs (R1.done R.lt s1 k1 q)
def Zvd:TWs:=fun M k=>k [] M
def Zib (wa:TW)(wr:TWs):TWs:=fun M k=>wa M fun x M1=>wr M1 fun xs M2=>k (x::xs) M2
theorem Zqi {X:Cx}:PA X [] (LA X.K F Zvd):=pa_nil.imp fun σ H Q ⟨G,ta,M,K0,R,k,q⟩=>q _ _ G ta [] H k R .refl .nil
theorem Zly {X:Cx}{e:Expr}{es:List Expr}{wa:TW}{wr:TWs}(h:PA X (e::es) (Zcr (LE X.K F wa) (LA X.K F wr))):PA X (e::es) (LA X.K F (Zib wa wr)):=h.imp fun σ H Q ⟨G,ta,M,K0,R,k,q⟩=>by
 refine⟨G,ta,M,_,R,k,fun x M1 G1 t1 v1 H1 k1 R1 s1 e1=>⟨G1,t1,M1,_,R1,k1,fun xs M2 G2 t2 vs H2 k2 R2 s2 e2=>?_⟩⟩
 exact q _ _ G2 t2 _ H2 k2 R2 (s1.trans s2) (.cons (e1.stp s2) e2)
theorem Z0g {α : Type}{l:List α}{i j:Nat}{x y : α}(h:(l.set i x)[j]? = some y):(i=j/\y=x)∨(i≠j/\l[j]? = some y):=by
 rw[List.getElem?_set] at h
 split at h
 ·next e=>
  subst e
  split at h
  ·cases h;exact .inl ⟨rfl,rfl⟩
  ·cases h
 ·next e=>exact .inr ⟨e,h⟩
theorem Z2i {α : Type}{l:List α}{i j:Nat}{x : α}(h:i≠j):(l.set i x)[j]? = l[j]? := by rw[List.getElem?_set,if_neg h]
theorem Z7j {i:Nat}{s:Option V}{r:Rf}(h:r ≠ .loc i):adr F ta (σ.set i s) r=adr F ta σ r:=by
 cases r with
 |loc j=>
  have:i≠j:=fun z=>h (by rw[z])
  simp only [adr];rw[Z2i this]
 |out k=>rfl
 |tmp j=>rfl
theorem Rel.drop (R:Rel K F G ta M σ H)(i:Nat)(s:Option V):Rel K F G ta { M with env:=M.env.set i none } (σ.set i s) H:=by
 have up:∀r o,Z01 { M with env:=M.env.set i none } r=some o->Z01 M r=some o/\r ≠ .loc i:=fun r o h=>by
  cases r with
  |loc j=>
   simp only [Z01] at h
   cases q:(M.env.set i none)[j]? with
   |none=>simp [q] at h
   |some x=>
    rcases Z0g q with ⟨_,rfl⟩|⟨z,q'⟩
    ·simp [q] at h
    ·rw[q] at h
     exact⟨by simp only [Z01];rw[q'];exact h,fun e=>by cases e;exact z rfl⟩
  |out k=>exact⟨h,fun z=>by cases z⟩
  |tmp j=>exact⟨h,fun z=>by cases z⟩
 refine⟨R.sub,R.g0,R.fra,R.gd,R.pr,by simp [R.ls],R.lo,R.lt,fun j t h=>?_,fun j k h=>?_,R.fo,fun r o h=>?_,fun r r' o o' a h h' e e'=>?_,fun r o a h e=>?_⟩
 ·rcases Z0g h with ⟨_,z⟩|⟨z,h⟩
  ·cases z
  ·rw[Z2i z];exact R.fz j t h
 ·rcases Z0g h with ⟨_,z⟩|⟨z,h⟩
  ·cases z
  ·rw[Z2i z];exact R.al j k h
 ·obtain⟨h1,h2⟩:=up r o h;rw[Z7j h2];exact R.ob r o h1
 ·obtain⟨h1,h2⟩:=up r o h;obtain⟨h3,h4⟩:=up r' o' h'
  rw[Z7j h2] at e;rw[Z7j h4] at e';exact R.ij r r' o o' a h1 h3 e e'
 ·obtain⟨h1,h2⟩:=up r o h;rw[Z7j h2] at e;exact R.nw r o a h1 e
def Zve (K:W.Frag)(F:Fr)(G H:Hp)(ta:List Addr)(M:Ms)(σ:St)(v:V):Sl->Prop
 | .fz t=>IsT K G v t
 | .own o=>∃a,v = .ref a/\ObOk K G H a o/\G a=none/\F.H0 a=none/\∀r u,Z01 M r=some u->adr F ta σ r≠some a
 | .out k=>∃a,F.ao[k]? = some a/\v = .ref a
theorem Rel.fill (R:Rel K F G ta M σ H){i:Nat}(hn:M.env[i]? = some none){v:V}{s:Sl}(hv:σ[i]? = some (some v))(ok:Zve K F G H ta M σ v s):Rel K F G ta { M with env:=M.env.set i (some s) } σ H:=by
 have up:∀r o,Z01 { M with env:=M.env.set i (some s) } r=some o->(Z01 M r=some o/\r ≠ .loc i)∨(r = .loc i/\s = .own o):=fun r o h=>by
  cases r with
  |loc j=>
   simp only [Z01] at h
   cases q:(M.env.set i (some s))[j]? with
   |none=>simp [q] at h
   |some x=>
    rcases Z0g q with ⟨rfl,rfl⟩|⟨z,q'⟩
    ·rw[q] at h
     cases s with
     |own u=>simp [slO] at h;subst h;exact .inr ⟨rfl,rfl⟩
     |fz t=>simp [slO] at h
     |out k=>simp [slO] at h
    ·rw[q] at h
     exact .inl ⟨by simp only [Z01];rw[q'];exact h,fun e=>by cases e;exact z rfl⟩
  |out k=>exact .inl ⟨h,fun z=>by cases z⟩
  |tmp j=>exact .inl ⟨h,fun z=>by cases z⟩
 have ai:∀a,v = .ref a->adr F ta σ (.loc i)=some a:=fun a e=>by simp [adr,hv,e,Zia]
 refine⟨R.sub,R.g0,R.fra,R.gd,R.pr,by simp [R.ls],R.lo,R.lt,fun j t h=>?_,fun j k h=>?_,R.fo,fun r o h=>?_,fun r r' o o' a h h' e e'=>?_,fun r o a h e=>?_⟩
 ·rcases Z0g h with ⟨rfl,z⟩|⟨z,h⟩
  ·cases z;exact⟨v,hv,ok⟩
  ·exact R.fz j t h
 ·rcases Z0g h with ⟨rfl,z⟩|⟨z,h⟩
  ·cases z;obtain⟨a,h1,rfl⟩:=ok;exact⟨a,h1,hv⟩
  ·exact R.al j k h
 ·rcases up r o h with ⟨h1,_⟩|⟨rfl,rfl⟩
  ·exact R.ob r o h1
  ·obtain⟨a,rfl,h2,h3,_⟩:=ok
   exact⟨a,ai a rfl,h2,h3⟩
 ·rcases up r o h with ⟨h1,_⟩|⟨rfl,rfl⟩
  ·rcases up r' o' h' with ⟨h3,_⟩|⟨rfl,rfl⟩
   ·exact R.ij r r' o o' a h1 h3 e e'
   ·obtain⟨b,rfl,_,_,_,h5⟩:=ok
    rw[ai b rfl] at e';cases e'
    exact absurd e (h5 r o h1)
  ·rcases up r' o' h' with ⟨h3,_⟩|⟨rfl,_⟩
   ·obtain⟨b,rfl,_,_,_,h5⟩:=ok
    rw[ai b rfl] at e;cases e
    exact absurd e' (h5 r' o' h3)
   ·rfl
 ·rcases up r o h with ⟨h1,_⟩|⟨rfl,rfl⟩
  ·exact R.nw r o a h1 e
  ·obtain⟨b,rfl,_,_,h4,_⟩:=ok
   rw[ai b rfl] at e;cases e;exact .inr h4
theorem Rel.dropO (R:Rel K F G ta M σ H)(k:Nat):Rel K F G ta { M with out:=M.out.set k (.out 0) } σ H:=by
 have up:∀r o,Z01 { M with out:=M.out.set k (.out 0) } r=some o->Z01 M r=some o:=fun r o h=>by
  cases r with
  |out j=>
   simp only [Z01] at h ⊢
   cases q:(M.out.set k (.out 0))[j]? with
   |none=>simp [q] at h
   |some x=>
    rw[q] at h
    rcases Z0g q with ⟨_,rfl⟩|⟨z,q'⟩
    ·simp [slO] at h
    ·rw[q'];exact h
  |loc i=>exact h
  |tmp j=>exact h
 refine⟨R.sub,R.g0,R.fra,R.gd,R.pr,R.ls,by simp [R.lo],R.lt,R.fz,R.al,fun j t h=>?_,fun r o h=>R.ob r o (up r o h),fun r r' o o' a h h'=>R.ij r r' o o' a (up r o h) (up r' o' h'),fun r o a h=>R.nw r o a (up r o h)⟩
 rcases Z0g h with ⟨_,z⟩|⟨_,h⟩
 ·cases z
 ·exact R.fo j t h
theorem Rel.fillO (R:Rel K F G ta M σ H){k:Nat}{a:Addr}(hn:M.out[k]? = some (.out 0))(hk:F.ao[k]? = some a){s:Sl}
  (ok:match s with | .fz t=>IsT K G (.ref a) t | .own o=>ObOk K G H a o/\G a=none/\(∀r u,Z01 M r=some u->adr F ta σ r≠some a) | .out _=>True):Rel K F G ta { M with out:=M.out.set k s } σ H:=by
 have up:∀r o,Z01 { M with out:=M.out.set k s } r=some o->Z01 M r=some o∨(r = .out k/\s = .own o):=fun r o h=>by
  cases r with
  |out j=>
   simp only [Z01] at h ⊢
   cases q:(M.out.set k s)[j]? with
   |none=>simp [q] at h
   |some x=>
    rw[q] at h
    rcases Z0g q with ⟨rfl,rfl⟩|⟨z,q'⟩
    ·cases x with
     |own u=>simp [slO] at h;subst h;exact .inr ⟨rfl,rfl⟩
     |fz t=>simp [slO] at h
     |out k=>simp [slO] at h
    ·rw[q'];exact .inl h
  |loc i=>exact .inl h
  |tmp j=>exact .inl h
 refine⟨R.sub,R.g0,R.fra,R.gd,R.pr,R.ls,by simp [R.lo],R.lt,R.fz,R.al,fun j t h=>?_,fun r o h=>?_,fun r r' o o' b h h' e e'=>?_,fun r o b h e=>?_⟩
 ·rcases Z0g h with ⟨rfl,z⟩|⟨_,h⟩
  ·subst z;exact⟨a,hk,ok⟩
  ·exact R.fo j t h
 ·rcases up r o h with h|⟨rfl,rfl⟩
  ·exact R.ob r o h
  ·exact⟨a,hk,ok.1,ok.2.1⟩
 ·rcases up r o h with h1|⟨rfl,rfl⟩
  ·rcases up r' o' h' with h3|⟨rfl,rfl⟩
   ·exact R.ij r r' o o' b h1 h3 e e'
   ·have e2:F.ao[k]? = some b:=e'
    rw[hk] at e2;cases e2
    exact absurd e (ok.2.2 r o h1)
  ·rcases up r' o' h' with h3|⟨rfl,_⟩
   ·have e2:F.ao[k]? = some b:=e
    rw[hk] at e2;cases e2
    exact absurd e' (ok.2.2 r' o' h3)
   ·rfl
 ·rcases up r o h with h1|⟨rfl,rfl⟩
  ·exact R.nw r o b h1 e
  ·exact .inl ⟨k,rfl⟩
theorem Rel.fr (R:Rel K F G ta M σ H){a:Addr}{o:Ob}(ho:ObOk K G H a o)(hG:G a=none)(hin:F.H0 a=none∨a∈F.ao)(hno:∀r u,Z01 M r=some u->adr F ta σ r≠some a):
  ∃G',Rel K F G' ta M σ H/\Same G G'/\IsT K G' (.ref a) o.tv:=by
 have s:Same G (fun b=>if b=a then H a else G b):=fun b x e=>by
  show(if b=a then H a else G b)=_
  rw[if_neg (fun z=>by rw[z,hG] at e;cases e)];exact e
 have at':(fun b=>if b=a then H a else G b) a=H a:=by show(if a=a then _ else _)=_;rw[if_pos rfl]
 refine⟨_,⟨fun b x e=>?_,R.g0.trans s,R.fra,fun b x e=>?_,R.pr,R.ls,R.lo,R.lt,fun i t h=>?_,R.al,fun k t h=>?_,fun r u h=>?_,R.ij,R.nw⟩,s,?_⟩
 ·have e':(if b=a then H a else G b)=some x:=e
  split at e'
  ·next z=>rw[z];exact e'
  ·exact R.sub _ _ e'
 ·have e':(if b=a then H a else G b)=some x:=e
  split at e'
  ·next z=>rw[z];exact .inr (hin.elim .inl fun q=>.inr (.inl q))
  ·exact R.gd b x e'
 ·obtain⟨v,h1,h2⟩:=R.fz i t h;exact⟨v,h1,h2.mono s⟩
 ·obtain⟨v,h1,h2⟩:=R.fo k t h;exact⟨v,h1,h2.mono s⟩
 ·obtain⟨b,h1,h2,h3⟩:=R.ob r u h
  refine⟨b,h1,h2.mono s rfl,?_⟩
  show(if b=a then H a else G b)=none
  rw[if_neg (fun z=>hno r u h (by rw[h1,z]))];exact h3
 ·cases o with
  |lst l=>obtain⟨vs,e,r⟩:=ho;exact .lst (at'.trans e) (r.mono s)
  |dic l=>obtain⟨vs,e,r⟩:=ho;exact .dic (at'.trans e) (r.mono s)
def Z6u (n:Nat)(M:Ms):Ev->Option (Tv×Ms)
 | .fz t=>some (t,{ M with tmp:=M.tmp.take n })
 | .loc i=>match M.env[i]? with
  |some (some (.own o))=>some (o.tv,{ M with env:=M.env.set i (some (.fz o.tv)),tmp:=M.tmp.take n })
  |some (some (.fz t))=>some (t,{ M with tmp:=M.tmp.take n })
  |_=>none
 | .out k=>match M.out[k]? with
  |some (.own o)=>some (o.tv,{ M with out:=M.out.set k (.fz o.tv),tmp:=M.tmp.take n })
  |some (.fz t)=>some (t,{ M with tmp:=M.tmp.take n })
  |_=>none
 | .tmp j=>if n<=j then (M.tmp[j]?).map fun o=>(o.tv,{ M with tmp:=M.tmp.take n }) else none
theorem Z4n {α : Type}{l:List α}{i:Nat}{x : α}(h:i<l.length):(l.set i x)[i]? = some x:=by rw[List.getElem?_set,if_pos rfl,if_pos h]
theorem Rel.frz {G0:Hp}{t0:List Addr}{M0:Ms}(l0:M0.tmp.length=t0.length)(R:Rel K F G ta M σ H)(s:Stp G0 t0 G ta){ev:Ev}{v:V}{t:Tv}(h:EvOk K F G ta σ ev v)(e:Z6u M0.tmp.length M ev=some (t,M')):
  ∃G',Rel K F G' t0 M' σ H/\Stp G0 t0 G' t0/\Same G G'/\IsT K G' v t:=by
 obtain⟨l,rfl⟩:=s.t
 have R1:=R.cut M0.tmp.length
 rw[l0,Z7i] at R1
 rw[l0] at e
 have fin:∀{t':Tv},IsT K G v t'->t'=t->{ M with tmp:=M.tmp.take t0.length }=M'->∃G',Rel K F G' t0 M' σ H/\Stp G0 t0 G' t0/\Same G G'/\IsT K G' v t:=fun h1 h2 h3=>by
  subst h2;subst h3
  exact⟨G,R1,⟨s.g,[],by simp⟩,Same.refl _,h1⟩
 cases ev with
 |fz u=>simp only [Z6u,Option.some.injEq,Prod.mk.injEq] at e;exact fin h e.1 e.2
 |loc i=>
  obtain⟨hi,a,rfl⟩:=h
  simp only [Z6u] at e
  split at e
  ·next o q=>
   simp only [Option.some.injEq,Prod.mk.injEq] at e
   obtain⟨rfl,rfl⟩:=e
   obtain⟨b,h1,h2,h3⟩:=R1.ob (.loc i) o (by simp [Z01,q,slO])
   have hb:b=a:=by simp [adr,hi,Zia] at h1;exact h1.symm
   subst hb
   have hn:=R1.nw (.loc i) o b (by simp [Z01,q,slO]) h1
   have hn':F.H0 b=none:=by
    rcases hn with ⟨k,z⟩|z
    ·cases z
    ·exact z
   have hil:i<σ.length:=(List.getElem?_eq_some_iff.mp hi).1
   have D:=R1.drop i (some (.ref b))
   have eσ:σ.set i (some (V.ref b))=σ:=List.ext_getElem? fun j=>by
    rw[List.getElem?_set]
    split
    ·next z=>subst z;rw[hi]
    ·rfl
   rw[eσ] at D
   have hno:∀r u,Z01 { M with env:=M.env.set i none,tmp:=M.tmp.take t0.length } r=some u->adr F t0 σ r≠some b:=fun r u hr z=>by
    have:Z01 { M with tmp:=M.tmp.take t0.length } r=some u/\r ≠ .loc i:=by
     cases r with
     |loc j=>
      simp only [Z01] at hr ⊢
      cases q2:(M.env.set i none)[j]? with
      |none=>simp [q2] at hr
      |some x=>
       rw[q2] at hr
       rcases Z0g q2 with ⟨_,rfl⟩|⟨z2,q3⟩
       ·simp at hr
       ·rw[q3];exact⟨hr,fun e=>by cases e;exact z2 rfl⟩
     |out k=>exact⟨hr,fun z=>by cases z⟩
     |tmp j=>exact⟨hr,fun z=>by cases z⟩
    exact this.2 (R1.ij r (.loc i) u o b this.1 (by simp [Z01,q,slO]) z h1)
   obtain⟨G',R2,s2,t2⟩:=D.fr h2 h3 (.inl hn') hno
   have R3:=R2.fill (i:=i) (v:=.ref b) (s:=.fz o.tv) (by show(M.env.set i none)[i]? = _;exact Z4n (by rw[R.ls];exact hil)) hi t2
   refine⟨G',?_,⟨s.g.trans s2,[],by simp⟩,s2,t2⟩
   have:(M.env.set i none).set i (some (.fz o.tv))=M.env.set i (some (Sl.fz o.tv)):=set_set ..
   simpa [this] using R3
  ·next u q=>
   simp only [Option.some.injEq,Prod.mk.injEq] at e
   obtain⟨v',h1,h2⟩:=R.fz i u q
   rw[hi] at h1;cases h1
   exact fin h2 e.1 e.2
  ·cases e
 |out k=>
  obtain⟨a,hk,rfl⟩:=h
  simp only [Z6u] at e
  split at e
  ·next o q=>
   simp only [Option.some.injEq,Prod.mk.injEq] at e
   obtain⟨rfl,rfl⟩:=e
   obtain⟨b,h1,h2,h3⟩:=R1.ob (.out k) o (by simp [Z01,q,slO])
   have hb:a=b:=by have h1':F.ao[k]? = some b:=h1;rw[hk] at h1';exact Option.some.inj h1'
   subst hb
   have D:=R1.dropO k
   have hno:∀r u,Z01 { M with out:=M.out.set k (.out 0),tmp:=M.tmp.take t0.length } r=some u->adr F t0 σ r≠some a:=fun r u hr z=>by
    have:Z01 { M with tmp:=M.tmp.take t0.length } r=some u/\r ≠ .out k:=by
     cases r with
     |out j=>
      simp only [Z01] at hr ⊢
      cases q2:(M.out.set k (.out 0))[j]? with
      |none=>simp [q2] at hr
      |some x=>
       rw[q2] at hr
       rcases Z0g q2 with ⟨_,rfl⟩|⟨z2,q3⟩
       ·simp [slO] at hr
       ·rw[q3];exact⟨hr,fun e=>by cases e;exact z2 rfl⟩
     |loc i=>exact⟨hr,fun z=>by cases z⟩
     |tmp j=>exact⟨hr,fun z=>by cases z⟩
    exact this.2 (R1.ij r (.out k) u o a this.1 (by simp [Z01,q,slO]) z h1)
   obtain⟨G',R2,s2,t2⟩:=D.fr h2 h3 (.inr (mem_of_getElem? hk)) hno
   have R3:=R2.fillO (k:=k) (a:=a) (s:=.fz o.tv) (by show(M.out.set k (.out 0))[k]? = _;exact Z4n (List.getElem?_eq_some_iff.mp q).1) hk t2
   refine⟨G',?_,⟨s.g.trans s2,[],by simp⟩,s2,t2⟩
   have:(M.out.set k (.out 0)).set k (.fz o.tv)=M.out.set k (Sl.fz o.tv):=set_set ..
   simpa [this] using R3
  ·next u q=>
   simp only [Option.some.injEq,Prod.mk.injEq] at e
   obtain⟨v',h1,h2⟩:=R.fo k u q
   rw[hk] at h1;cases h1
   exact fin h2 e.1 e.2
  ·cases e
 |tmp j=>
  obtain⟨a,hk,rfl⟩:=h
  simp only [Z6u] at e
  split at e
  ·next hj=>
   cases q:M.tmp[j]? with
   |none=>rw[q] at e;cases e
   |some o=>
    rw[q] at e
    simp only [Option.map_some,Option.some.injEq,Prod.mk.injEq] at e
    obtain⟨rfl,rfl⟩:=e
    obtain⟨b,h1,h2,h3⟩:=R.ob (.tmp j) o q
    have hb:a=b:=by have h1':(t0++l)[j]? = some b:=h1;rw[hk] at h1';exact Option.some.inj h1'
    subst hb
    have hn:F.H0 a=none:=by
     rcases R.nw (.tmp j) o a q h1 with ⟨k,z⟩|z
     ·cases z
     ·exact z
    have hno:∀r u,Z01 { M with tmp:=M.tmp.take t0.length } r=some u->adr F t0 σ r≠some a:=fun r u hr z=>by
     have:(Z01 M r=some u/\adr F (t0++l) σ r=some a)/\r ≠ .tmp j:=by
      cases r with
      |loc i=>exact⟨⟨hr,z⟩,fun z=>by cases z⟩
      |out k=>exact⟨⟨hr,z⟩,fun z=>by cases z⟩
      |tmp i=>
       have hr':(M.tmp.take t0.length)[i]? = some u:=hr
       rw[List.getElem?_take] at hr'
       split at hr'
       ·next hi=>
        refine⟨⟨hr',?_⟩,fun z=>by cases z;lia⟩
        show(t0++l)[i]? = _
        rw[List.getElem?_append_left hi];exact z
       ·cases hr'
     exact this.2 (R.ij r (.tmp j) u o a this.1.1 q this.1.2 h1)
    obtain⟨G',R2,s2,t2⟩:=R1.fr h2 h3 (.inl hn) hno
    exact⟨G',R2,⟨s.g.trans s2,[],by simp⟩,s2,t2⟩
  ·cases e
end
section
variable {X:Cx}{F:Fr}
abbrev TWT:=Ms->(Bool->Ms->Prop)->Prop
def Ms.cut (M:Ms)(n:Nat):Ms:={ M with tmp:=M.tmp.take n }
def evB:Ev->Option Bool
 | .fz (.at (.bl b))=>some b
 |_=>none
inductive LB (K:W.Frag)(F:Fr)(w:TWT)(σ:St)(H:Hp)(Q:(Bool->Hp->Prop)):Prop
 |mk (G ta M K0:_) (_:Rel K F G ta M σ H) (_:w M K0) (_:∀b M' G' H',K0 b M'->Rel K F G' ta M' σ H'->Same G G'->Q b H'):LB K F w σ H Q
theorem Rel.cutTo {K:W.Frag}{G0 G H:Hp}{t0 ta:List Addr}{M M0:Ms}{σ:St}(l0:M0.tmp.length=t0.length)(R:Rel K F G ta M σ H)(s:Stp G0 t0 G ta):Rel K F G t0 (M.cut M0.tmp.length) σ H:=by
 obtain⟨l,rfl⟩:=s.t
 have R1:=R.cut M0.tmp.length
 rw[l0,Z7i] at R1
 rw[l0];exact R1
def Zsr (wa:TW):TWT:=fun M k=>wa M fun x M1=>bnd (evB x) fun b=>k b (M1.cut M.tmp.length)
theorem Zkl {e:Expr}{wa:TW}(h:PT X e (Zlc (LE X.K F wa))):PT X e (LB X.K F (Zsr wa)):=h.imp fun σ H Q ⟨G,ta,M,K0,R,k,q⟩=>by
 refine⟨G,ta,M,_,R,k,fun x M1 G1 t1 v1 H1 k1 R1 s1 e1=>?_⟩
 obtain⟨b,hb,k1⟩:=Z00 k1
 have hx:x = .fz (.at (.bl b)):=by
  cases x with
  |fz t=>cases t with
   | «at» v => cases v <;> simp [evB] at hb; subst hb; rfl
   |_=>simp [evB] at hb
  |_=>simp [evB] at hb
 subst hx
 have e1':IsT X.K G1 v1 (.at (.bl b)):=e1
 cases e1'
 exact⟨b,rfl,q _ _ G1 H1 k1 (R1.cutTo R.lt s1) s1.g⟩
def Zvf:Tv->Option Bool
 | .at .non=>some false
 | .at (.bl b)=>some b
 | .at (.int i)=>some (i != 0)
 | .at (.str x)=>some ((x.length:Int) != 0)
 | .tup l=>some !l.isEmpty
 | .lst l=>some !l.isEmpty
 | .dic l=>some !l.isEmpty
 |_=>none
theorem IsTs.emp {K:W.Frag}{G:Hp}{vs:List V}{ts:List Tv}(h:IsTs K G vs ts):vs.isEmpty=ts.isEmpty:=by cases h <;> rfl
theorem IsKs.emp {K:W.Frag}{G:Hp}{vs:List (Key×V)}{ts:List (Key×Tv)}(h:IsKs K G vs ts):vs.isEmpty=ts.isEmpty:=by cases h <;> rfl
theorem Zlz {K:W.Frag}{H:Hp}{v:V}{t:Tv}{b:Bool}(h:IsT K H v t)(e:Zvf t=some b):Zsq K v H b:=by
 have hz:=sizeLine_eq
 cases h with
 | «at» f =>
  cases v with
  |non=>cases e;rfl
  |bl c=>cases e;rfl
  |int i=>cases e;rfl
  |str x=>cases e;exact⟨by rw[hz];exact of_decide_eq_true f,rfl⟩
  |_=>cases e
 |tup h r=>cases e;exact .inr (.inl ⟨_,.of h,by rw[r.emp]⟩)
 |ktp h r=>cases e
 |fnv=>cases e
 |lst h r=>cases e;exact .inl ⟨_,.of h,by rw[r.emp]⟩
 |scr h r=>cases e
 |dic h r=>cases e;exact .inr (.inr ⟨_,h,by rw[r.emp]⟩)
def Zvg (wa:TW):TWT:=fun M k=>wa M fun x M1=>bnd (rd M1 x) fun t=>bnd (Zvf t) fun b=>k b (M1.cut M.tmp.length)
theorem Zkm {e:Expr}{wa:TW}(h:PT X e (fun σ H Q=>LE X.K F wa σ H fun x H'=>∃k,Zsq X.K x H' k/\Q k H')):PT X e (LB X.K F (Zvg wa)):=h.imp fun σ H Q ⟨G,ta,M,K0,R,k,q⟩=>by
 refine⟨G,ta,M,_,R,k,fun x M1 G1 t1 v1 H1 k1 R1 s1 e1=>?_⟩
 obtain⟨t,ht,k1⟩:=Z00 k1
 obtain⟨b,hb,k1⟩:=Z00 k1
 exact⟨b,Zlz ((R1.rd e1 ht).up R1.sub) hb,q _ _ G1 H1 k1 (R1.cutTo R.lt s1) s1.g⟩
def Zvh (a b:TWT):TWT:=fun M k=>a M fun c M1=>if c=true then b M1 k else k false M1
def wOr (a b:TWT):TWT:=fun M k=>a M fun c M1=>if c=true then k true M1 else b M1 k
def Zvi (a:TWT):TWT:=fun M k=>a M fun c M1=>k (!c) M1
theorem LB.and {a b:TWT}{σ:St}{H:Hp}{Q:Bool->Hp->Prop}:LB X.K F (Zvh a b) σ H Q->Zuw (LB X.K F a) (LB X.K F b) σ H Q:=fun⟨G,ta,M,K0,R,k,q⟩=>by
 refine⟨G,ta,M,_,R,k,fun c M1 G1 H1 k1 R1 s1=>?_⟩
 cases c with
 |true=>exact⟨G1,ta,M1,K0,R1,k1,fun b M' G' H' k' R' s'=>q b M' G' H' k' R' (s1.trans s')⟩
 |false=>exact q _ _ G1 H1 k1 R1 s1
theorem LB.or {a b:TWT}{σ:St}{H:Hp}{Q:Bool->Hp->Prop}:LB X.K F (wOr a b) σ H Q->tOr (LB X.K F a) (LB X.K F b) σ H Q:=fun⟨G,ta,M,K0,R,k,q⟩=>by
 refine⟨G,ta,M,_,R,k,fun c M1 G1 H1 k1 R1 s1=>?_⟩
 cases c with
 |false=>exact⟨G1,ta,M1,K0,R1,k1,fun b M' G' H' k' R' s'=>q b M' G' H' k' R' (s1.trans s')⟩
 |true=>exact q _ _ G1 H1 k1 R1 s1
theorem LB.not {a:TWT}{σ:St}{H:Hp}{Q:Bool->Hp->Prop}:LB X.K F (Zvi a) σ H Q->Zux (LB X.K F a) σ H Q:=fun⟨G,ta,M,K0,R,k,q⟩=>⟨G,ta,M,_,R,k,fun c M1 G1 H1 k1 R1 s1=>q _ _ G1 H1 k1 R1 s1⟩
abbrev TWF:=Ms->(List Tv->Ms->Prop)->Prop
inductive LF (K:W.Frag)(F:Fr)(n:Nat)(w:TWF)(σ:St)(H:Hp)(Q:(List V->Hp->Prop)):Prop
 |mk (G ta M K0:_) (_:Rel K F G ta M σ H) (_:w M K0) (_:∀ts M' G' vs H',K0 ts M'->Rel K F G' ta M' σ H'->Same G G'->IsTs K G' vs ts->ts.length=n->Q vs H'):LF K F n w σ H Q
def Zm0:TWF:=fun M k=>k [] M
def Z98 (wa:TW)(wr:TWF):TWF:=fun M k=>wa M fun x M1=>Zez (Z6u M.tmp.length M1 x) fun t M2=>wr M2 fun ts M3=>k (t::ts) M3
theorem Zqj:PA X [] (LF X.K F 0 Zm0):=pa_nil.imp fun σ H Q ⟨G,ta,M,K0,R,k,q⟩=>q _ _ G [] H k R (Same.refl _) .nil rfl
theorem LF.cons {n:Nat}{wa:TW}{wr:TWF}{σ:St}{H:Hp}{Q:List V->Hp->Prop}:LF X.K F (n+1) (Z98 wa wr) σ H Q->Zcr (LE X.K F wa) (LF X.K F n wr) σ H Q:=fun⟨G,ta,M,K0,R,k,q⟩=>by
 refine⟨G,ta,M,_,R,k,fun x M1 G1 t1 v1 H1 k1 R1 s1 e1=>?_⟩
 obtain⟨t,M2,ht,k1⟩:=Z0n k1
 obtain⟨G2,R2,s2,s2',t2⟩:=R1.frz R.lt s1 e1 ht
 exact⟨G2,ta,M2,_,R2,k1,fun ts M' G' vs H' k' R' s' e' l'=>q _ _ G' _ H' k' R' (s2.g.trans s') (.cons (t2.mono s') e') (by rw[length_cons,l'])⟩
def Zvj (ts:List Tv):Option Rs:=some (.v (.tup ts))
def Zvk (ts:List Tv):Option Rs:=some (.n (.lst ts))
def Zf0 (f:List Tv->Option Rs)(wr:TWF):TW:=fun M k=>wr M fun ts M1=>bnd (f ts) fun r=>Za9 M.tmp.length M1 k r
theorem Zaa {K:W.Frag}{G H:Hp}{Q:VK}{vs:List V}{ts:List Tv}(s:Same G H)(h:IsTs K G vs ts)(q:Z97 K G H Q (.v (.tup ts))):∀p,H p=none->Q (.ref p) (upd H p (.tup vs)):=fun p hp=>by
 have s1:Same G (upd G p (.tup vs)):=fun b x e=>by rw[Z04 (Z0b e (s.free hp))];exact e
 refine q (.ref p) (upd G p (.tup vs)) _ s1 (fun b x e=>by rw[Z04 (Z0b e hp)];exact e) (fun b x e=>?_) (fun b x e=>?_) (.tup Z08 (h.mono s1))
 ·by_cases z:b=p
  ·subst z;rw[Z08] at e ⊢;exact e
  ·rw[Z04 z] at e ⊢;exact s _ _ e
 ·by_cases z:b=p
  ·subst z;exact .inr (.inl hp)
  ·rw[Z04 z] at e;exact .inl e
theorem Z4o {K:W.Frag}{G H H':Hp}{Q:VK}{vs:List V}{ts:List Tv}{p:Addr}(s:Same G H)(sH:Same H H')(e:H' p=some (.tup vs))(h:IsTs K G vs ts)(q:Z97 K G H Q (.v (.tup ts))):Q (.ref p) H':=by
 have s1:Same G (fun b=>if b=p then H' p else G b):=fun b x hb=>by
  show(if b=p then H' p else G b)=_
  split
  ·next z=>subst z;exact sH _ _ (s _ _ hb)
  ·exact hb
 refine q (.ref p) _ H' s1 sH (fun b x hb=>?_) (fun b x hb=>?_) (.tup (by show(if p=p then H' p else G p)=_;rw[if_pos rfl];exact e) (h.mono s1))
 ·have hb':(if b=p then H' p else G b)=some x:=hb
  split at hb'
  ·next z=>subst z;exact hb'
  ·exact sH _ _ (s _ _ hb')
 ·have hb':(if b=p then H' p else G b)=some x:=hb
  split at hb'
  ·next z=>subst z;rw[e] at hb';cases hb';exact .inr (.inr trivial)
  ·exact .inl hb'
theorem Z23 {K:W.Frag}{G H:Hp}{Q:VK}{vs:List V}{ts:List Tv}(h:IsTs K G vs ts)(q:Z97 K G H Q (.n (.lst ts))):∀p,H p=none->Q (.ref p) (upd H p (.lst vs)):=fun p hp=>
 q p _ hp (fun b x e=>by rw[Z04 (Z0b e hp)];exact e) ⟨vs,Z08,h⟩
theorem Z0l {K:W.Frag}{G H:Hp}{Q:VK}{v:V}{t:Tv}(s:Same G H)(h:IsT K G v t)(q:Z97 K G H Q (.v t)):Q v H:=q v G H (Same.refl _) (Same.refl _) s (fun _ _ e=>.inl e) h
theorem LE.disp {n:Nat}{f:List Tv->Option Rs}{wr:TWF}{σ:St}{H:Hp}{Q:VK}:LE X.K F (Zf0 f wr) σ H Q->LF X.K F n wr σ H fun vs H1=>∃G ts s,Same G H1/\IsTs X.K G vs ts/\f ts=some s/\Z97 X.K G H1 Q s/\ts.length=n:=fun⟨G,ta,M,K0,R,k,q⟩=>by
 refine⟨G,ta,M,_,R,k,fun ts M1 G1 vs H1 k1 R1 s1 e1 l1=>?_⟩
 obtain⟨s,hs,k1⟩:=Z00 k1
 exact⟨G1,ts,s,R1.sub,e1,hs,R1.done R.lt ⟨s1,[],by simp⟩ k1 q,l1⟩
theorem Zqk {n:Nat}{es:List Expr}{x1:Nat}{pos:Pos}{wr:TWF}(hn:n<=1000)(h:PA X es (LF X.K F n wr)):PE X (.Tuple es x1 pos) (LE X.K F (Zf0 Zvj wr)):=(Zpt h).imp fun σ H Q k=>by
 obtain⟨G,ta,M,K0,R,k,q⟩:=LE.disp (n:=n) k
 refine⟨G,ta,M,K0,R,k,fun ts M1 G1 vs H1 k1 R1 s1 e1 l1=>?_⟩
 obtain⟨G2,ts2,s,h1,h2,h3,h4,l2⟩:=q ts M1 G1 vs H1 k1 R1 s1 e1 l1
 cases h3
 exact⟨by rw[h2.len,sizeLine_eq];lia,Zaa h1 h2 h4⟩
theorem Zql {n:Nat}{es:List Expr}{pos:Pos}{wr:TWF}(hn:n<=1000)(h:PA X es (LF X.K F n wr)):PE X (.List es pos) (LE X.K F (Zf0 Zvk wr)):=(Zpu h).imp fun σ H Q k=>by
 obtain⟨G,ta,M,K0,R,k,q⟩:=LE.disp (n:=n) k
 refine⟨G,ta,M,K0,R,k,fun ts M1 G1 vs H1 k1 R1 s1 e1 l1=>?_⟩
 obtain⟨G2,ts2,s,h1,h2,h3,h4,l2⟩:=q ts M1 G1 vs H1 k1 R1 s1 e1 l1
 cases h3
 exact⟨by rw[h2.len,sizeLine_eq];lia,Z23 h2 h4⟩
structure PD where
 nx:Ms->Prop
 rt:Ev->Ms->Prop
 bk:Ms->Prop:=fun _=>False
 ct:Ms->Prop:=fun _=>False
abbrev TWS:=PD->Ms->Prop
structure PDOk (K:W.Frag)(F:Fr)(G:Hp)(P:PD)(D:Ends):Prop where
 nx:∀M' G' σ' H',P.nx M'->Rel K F G' [] M' σ' H'->Same G G'->D.nx σ' H'
 rt:∀ev M' G' ta' σ' v H',P.rt ev M'->Rel K F G' ta' M' σ' H'->Same G G'->EvOk K F G' ta' σ' ev v->D.rt v H'
 bk:∀M' G' σ' H',P.bk M'->Rel K F G' [] M' σ' H'->Same G G'->D.bk σ' H'
 ct:∀M' G' σ' H',P.ct M'->Rel K F G' [] M' σ' H'->Same G G'->D.ct σ' H'
theorem PDOk.up {K:W.Frag}{G G':Hp}{P:PD}{D:Ends}(h:PDOk K F G P D)(s:Same G G'):PDOk K F G' P D:=
 ⟨fun M1 G1 σ1 H1 p R s1=>h.nx M1 G1 σ1 H1 p R (s.trans s1),fun ev M1 G1 t1 σ1 v H1 p R s1=>h.rt ev M1 G1 t1 σ1 v H1 p R (s.trans s1),fun M1 G1 σ1 H1 p R s1=>h.bk M1 G1 σ1 H1 p R (s.trans s1),fun M1 G1 σ1 H1 p R s1=>h.ct M1 G1 σ1 H1 p R (s.trans s1)⟩
inductive LS (K:W.Frag)(F:Fr)(w:TWS)(D:Ends)(σ:St)(H:Hp):Prop
 |mk (G M P:_) (_:Rel K F G [] M σ H) (_:w P M) (_:PDOk K F G P D):LS K F w D σ H
theorem PS.imp {st:Stmt}{t t':TS}(h:PS X st t)(i:∀D σ H,t' D σ H->t D σ H):PS X st t':=fun pins s σ H D I q=>h pins s σ H D I (i D σ H q)
theorem PSs.imp {st:List Stmt}{t t':TS}(h:PSs X st t)(i:∀D σ H,t' D σ H->t D σ H):PSs X st t':=fun pins s σ H D I q=>h pins s σ H D I (i D σ H q)
def Zqm:TWS:=fun P M=>P.nx M
def Zvl (a b:TWS):TWS:=fun P M=>a { P with nx:=fun M1=>b P M1 } M
theorem LS.seq {a b:TWS}{D:Ends}{σ:St}{H:Hp}:LS X.K F (Zvl a b) D σ H->Zt5 (LS X.K F a) (LS X.K F b) D σ H:=fun⟨G,M,P,R,k,ok⟩=>
 ⟨G,M,_,R,k,fun M1 G1 σ1 H1 p R1 s1=>⟨G1,M1,P,R1,p,ok.up s1⟩,ok.rt,ok.bk,ok.ct⟩
def Zvm (wa:TW):TWS:=fun P M=>wa M P.rt
theorem LS.ret {wa:TW}{D:Ends}{σ:St}{H:Hp}:LS X.K F (Zvm wa) D σ H->Zuz (LE X.K F wa) D σ H:=fun⟨G,M,P,R,k,ok⟩=>
 ⟨G,[],M,_,R,k,fun ev M1 G1 t1 v H1 p R1 s1 e1=>ok.rt ev M1 G1 t1 σ v H1 p R1 s1.g e1⟩
def wIf (c:TWT)(a b:TWS):TWS:=fun P M=>c M fun x M1=>if x=true then a P M1 else b P M1
theorem LS.ite {c:TWT}{a b:TWS}{D:Ends}{σ:St}{H:Hp}:LS X.K F (wIf c a b) D σ H->Zv0 (LB X.K F c) (LS X.K F a) (LS X.K F b) D σ H:=fun⟨G,M,P,R,k,ok⟩=>by
 refine⟨G,[],M,_,R,k,fun x M1 G1 H1 p R1 s1=>?_⟩
 cases x with
 |true=>exact⟨G1,M1,P,R1,p,ok.up s1⟩
 |false=>exact⟨G1,M1,P,R1,p,ok.up s1⟩
def Zvn (wa:TW):TWS:=fun P M=>wa M fun _ M1=>P.nx (M1.cut 0)
theorem LS.exp {wa:TW}{D:Ends}{σ:St}{H:Hp}:LS X.K F (Zvn wa) D σ H->Zpg (LE X.K F wa) D σ H:=fun⟨G,M,P,R,k,ok⟩=>
 ⟨G,[],M,_,R,k,fun ev M1 G1 t1 v H1 p R1 s1 e1=>ok.nx _ G1 σ H1 p (by have:=R1.cut 0;exact this) s1.g⟩
def asg (i:Nat)(M:Ms):Ev->Option Ms
 | .fz t=>some ⟨M.env.set i (some (.fz t)),M.out,[]⟩
 | .tmp j=>(M.tmp[j]?).map fun o=>⟨M.env.set i (some (.own o)),M.out,[]⟩
 | .out k=>some ⟨M.env.set i (some (.out k)),M.out,[]⟩
 | .loc j=>(Z6u 0 M (.loc j)).map fun p=>⟨p.2.env.set i (some (.fz p.1)),p.2.out,[]⟩
theorem Rel.putS {K:W.Frag}{G H:Hp}{ta:List Addr}{M:Ms}{σ:St}(R:Rel K F G ta M σ H)(i:Nat){v:V}{s:Sl}(ok:Zve K F G H ta { M with env:=M.env.set i none } (σ.set i (some v)) v s):
  Rel K F G ta { M with env:=M.env.set i (some s) } (σ.set i (some v)) H:=by
 have D:=R.drop i (some v)
 by_cases hi:i<σ.length
 ·have:=D.fill (i:=i) (v:=v) (s:=s) (by show(M.env.set i none)[i]? = _;exact Z4n (by rw[R.ls];exact hi)) (Z4n hi) ok
  have e:(M.env.set i none).set i (some s)=M.env.set i (some s):=set_set ..
  simpa [e] using this
 ·have e1:M.env.set i none=M.env:=List.set_eq_of_length_le (by rw[R.ls];lia)
  have e2:M.env.set i (some s)=M.env:=List.set_eq_of_length_le (by rw[R.ls];lia)
  rw[e1] at D
  rw[e2];exact D
theorem Rel.asg {K:W.Frag}{G0 G H:Hp}{ta:List Addr}{M M':Ms}{σ:St}(R:Rel K F G ta M σ H){ev:Ev}{v:V}{i:Nat}(s:Same G0 G)(h:EvOk K F G ta σ ev v)(e:asg i M ev=some M'):∃G',Rel K F G' [] M' (σ.set i (some v)) H/\Same G0 G':=by
 have R0:Rel K F G [] { M with tmp:=[] } σ H:=by have:=R.cut 0;simpa using this
 cases ev with
 |fz t=>
  simp only [L2.asg,Option.some.injEq] at e
  subst e
  exact⟨G,R0.putS i (s:=.fz t) h,s⟩
 |out k=>
  simp only [L2.asg,Option.some.injEq] at e
  subst e
  exact⟨G,R0.putS i (s:=.out k) h,s⟩
 |tmp j=>
  obtain⟨a,h1,rfl⟩:=h
  simp only [L2.asg] at e
  cases q:M.tmp[j]? with
  |none=>rw[q] at e;cases e
  |some o=>
   rw[q] at e
   simp only [Option.map_some,Option.some.injEq] at e
   subst e
   obtain⟨b,h2,h3,h4⟩:=R.ob (.tmp j) o q
   have hb:a=b:=by have h2':ta[j]? = some b:=h2;rw[h1] at h2';exact Option.some.inj h2'
   subst hb
   have hn:F.H0 a=none:=by
    rcases R.nw (.tmp j) o a q h1 with ⟨k,z⟩|z
    ·cases z
    ·exact z
   refine⟨G,R0.putS i (s:=.own o) ⟨a,rfl,h3,h4,hn,fun r u hr z=>?_⟩,s⟩
   have:Z01 M r=some u/\adr F ta σ r=some a/\r ≠ .tmp j:=by
    cases r with
    |loc m=>
     simp only [Z01] at hr ⊢
     cases q2:(M.env.set i none)[m]? with
     |none=>simp [q2] at hr
     |some x=>
      rw[q2] at hr
      rcases Z0g q2 with ⟨_,rfl⟩|⟨z2,q3⟩
      ·simp at hr
      ·rw[q3]
       refine⟨hr,?_,fun z=>by cases z⟩
       simp only [adr] at z ⊢
       rw[Z2i z2] at z;exact z
    |out k=>exact⟨hr,z,fun z=>by cases z⟩
    |tmp m=>exact absurd (show([]:List Ob)[m]? = some u from hr) (by simp)
   exact this.2.2 (R.ij r (.tmp j) u o a this.1 q this.2.1 h1)
 |loc j=>
  simp only [L2.asg] at e
  cases q:Z6u 0 M (.loc j) with
  |none=>rw[q] at e;cases e
  |some p=>
   obtain⟨t,M1⟩:=p
   rw[q] at e
   simp only [Option.map_some,Option.some.injEq] at e
   subst e
   obtain⟨G',R1,s1,s1',t1⟩:=R.frz (G0:=G) (t0:=[]) (M0:=⟨[],[],[]⟩) rfl ⟨Same.refl _,ta,rfl⟩ h q
   have hM:M1.tmp = []:=List.eq_nil_of_length_eq_zero R1.lt
   have R2:=R1.putS i (s:=.fz t) (v:=v) t1
   obtain⟨e1,e2,e3⟩:=M1
   simp only at hM
   subst hM
   exact⟨G',R2,s.trans s1'⟩
def Ztq (i:Nat)(wa:TW):TWS:=fun P M=>wa M fun ev M1=>bnd (asg i M1 ev) P.nx
theorem LS.set {i:Nat}{wa:TW}{D:Ends}{σ:St}{H:Hp}:LS X.K F (Ztq i wa) D σ H->Zot (LE X.K F wa) (Ze2 i) D σ H:=fun⟨G,M,P,R,k,ok⟩=>by
 refine⟨G,[],M,_,R,k,fun ev M1 G1 t1 v H1 p R1 s1 e1=>?_⟩
 obtain⟨M2,h2,p⟩:=Z00 p
 obtain⟨G2,R2,s2⟩:=R1.asg s1.g e1 h2
 exact ok.nx M2 G2 _ H1 p R2 s2
def Zvo (c:TWT)(b:TWS):TWS:=fun P M=>∃W:Nat->Ms->Prop,(∃m,W m M)/\∀m M,W m M->c M fun x M1=>if x=true then b { nx:=fun M2=>∃m',m'<m/\W m' M2,ct:=fun M2=>∃m',m'<m/\W m' M2,bk:=P.nx,rt:=P.rt } M1 else P.nx M1
theorem LS.whl {c:TWT}{b:TWS}{D:Ends}{σ:St}{H:Hp}:LS X.K F (Zvo c b) D σ H->Zka (LB X.K F c) (LS X.K F b) D σ H:=fun⟨G,M,P,R,⟨W,⟨m,w0⟩,turn⟩,ok⟩=>by
 refine⟨fun n σ H=>∃G' M,Rel X.K F G' [] M σ H/\Same G G'/\W n M,⟨m,G,M,R,Same.refl _,w0⟩,?_⟩
 rintro n σ1 H1 ⟨G1,M1,R1,s1,w1⟩
 refine⟨G1,[],M1,_,R1,turn n M1 w1,fun x M2 G2 H2 p R2 s2=>?_⟩
 cases x with
 |true=>
  refine⟨fun σ H=>∃m',m'<n/\∃G' M,Rel X.K F G' [] M σ H/\Same G G'/\W m' M,fun σ' H' h=>h,G2,M2,_,R2,p,fun M3 G3 σ3 H3 ⟨m',hm,w3⟩ R3 s3=>⟨m',hm,G3,M3,R3,s1.trans (s2.trans s3),w3⟩,fun ev M3 G3 t3 σ3 v H3 p3 R3 s3 e3=>ok.rt ev M3 G3 t3 σ3 v H3 p3 R3 (s1.trans (s2.trans s3)) e3,fun M3 G3 σ3 H3 p3 R3 s3=>ok.nx M3 G3 σ3 H3 p3 R3 (s1.trans (s2.trans s3)),fun M3 G3 σ3 H3 ⟨m',hm,w3⟩ R3 s3=>⟨m',hm,G3,M3,R3,s1.trans (s2.trans s3),w3⟩⟩
 |false=>exact ok.nx M2 G2 σ1 H2 p R2 (s1.trans s2)
end
abbrev PSp:=List Sl->(Sl->List Sl->Prop)->Prop
inductive AOk (K:W.Frag)(G H:Hp):List Sl->List V->List Addr->Prop where
 |nil:AOk K G H [] [] []
 |fz {t:Tv} {ss:List Sl} {v:V} {vs:List V} {as:List Addr} (h:IsT K G v t) (r:AOk K G H ss vs as):AOk K G H (.fz t::ss) (v::vs) as
 |own {o:Ob} {a:Addr} {ss:List Sl} {vs:List V} {as:List Addr} (h:ObOk K G H a o) (hg:G a=none) (r:AOk K G H ss vs as):AOk K G H (.own o::ss) (.ref a::vs) (a::as)
inductive APs (K:W.Frag)(G H:Hp):List Sl->List V->List Sl->Prop where
 |nil:APs K G H [] [] []
 |fz {t:Tv} {s:Sl} {ss ss':List Sl} {v:V} {vs:List V} (r:APs K G H ss vs ss'):APs K G H (.fz t::ss) (v::vs) (s::ss')
 |own {o o':Ob} {a:Addr} {ss ss':List Sl} {vs:List V} (h:ObOk K G H a o') (hg:G a=none) (r:APs K G H ss vs ss'):APs K G H (.own o::ss) (.ref a::vs) (.own o'::ss')
 |gone {o:Ob} {t:Tv} {a:Addr} {ss ss':List Sl} {vs:List V} (h:IsT K G (.ref a) t) (r:APs K G H ss vs ss'):APs K G H (.own o::ss) (.ref a::vs) (.fz t::ss')
def ROk (K:W.Frag)(H G' H':Hp)(v:V):Sl->Prop
 | .fz t=>IsT K G' v t
 | .own o=>∃p,v = .ref p/\H p=none/\ObOk K G' H' p o/\G' p=none
 | .out _=>False
structure Post (K:W.Frag)(G H:Hp)(as:List Addr)(G' H':Hp):Prop where
 g:Same G G'
 s:Same G' H'
 k:∀a o,H a=some o->a∉as->H' a=some o
 d:∀a o,G' a=some o->G a=some o∨H a=none∨a∈as∨Zou o
 t:∀a o,H a=some o->∃o',H' a=some o'
def spW (K:W.Frag)(psp:PSp):Sp:=fun vs H Q _=>∃G args as K0,Same G H/\AOk K G H args vs as/\as.Nodup/\psp args K0/\∀r ss v G' H',K0 r ss->Post K G H as G' H'->APs K G' H' args vs ss->ROk K H G' H' v r->Q v H'
def Zic (n:Nat)(M:Ms):Ev->Option (Sl×Option Rf)
 | .fz t=>some (.fz t,none)
 | .loc i=>match M.env[i]? with
  |some (some (.own o))=>some (.own o,some (.loc i))
  |some (some (.fz t))=>some (.fz t,none)
  |_=>none
 | .out k=>match M.out[k]? with
  |some (.own o)=>some (.own o,some (.out k))
  |some (.fz t)=>some (.fz t,none)
  |_=>none
 | .tmp j=>if n<=j then (M.tmp[j]?).map fun o=>(.own o,some (.tmp j)) else none
def Z6v (n:Nat)(M:Ms):List Ev->Option (List (Sl×Option Rf))
 |[]=>some []
 |e::es=>match Zic n M e,Z6v n M es with
  |some a,some r=>some (a::r)
  |_,_=>none
def Zab (r:Rf):List (Sl×Option Rf)->Bool
 |[]=>true
 | (_,some r')::l => !(r==r')&&Zab r l
 | (_,none)::l=>Zab r l
def Zkn:List (Sl×Option Rf)->Bool
 |[]=>true
 | (_,some r)::l=>Zab r l&&Zkn l
 | (_,none)::l=>Zkn l
def wb1 (M:Ms):Option Rf->Sl->Ms
 |some (.loc i),s=>{ M with env:=M.env.set i (some s) }
 |some (.out k),s=>{ M with out:=M.out.set k s }
 |_,_=>M
def wb (M:Ms):List (Sl×Option Rf)->List Sl->Ms
 | (_,r)::rs,s::ss=>wb (wb1 M r s) rs ss
 |_,_=>M
def Zqn (n:Nat)(M:Ms)(k:Ev->Ms->Prop):Sl->Prop
 | .fz t=>k (.fz t) { M with tmp:=M.tmp.take n }
 | .own o=>k (.tmp n) { M with tmp:=M.tmp.take n ++ [o] }
 | .out _=>False
def Zid (psp:PSp)(wr:TWs):TW:=fun M k=>wr M fun evs M1=>bnd (Z6v M.tmp.length M1 evs) fun as=>Zkn as=true/\psp (as.map (·.1)) fun r ss=>Zqn M.tmp.length (wb M1 as ss) k r
section
variable {K:W.Frag}{F:Fr}{G G' H H':Hp}{ta ta':List Addr}{M M':Ms}{σ σ':St}
theorem Zac {M:Ms}{r:Option Rf}{s:Sl}:(wb1 M r s).env.length=M.env.length/\(wb1 M r s).out.length=M.out.length/\(wb1 M r s).tmp=M.tmp:=by
 match r with
 |none|some (.tmp _)=>exact⟨rfl,rfl,rfl⟩
 |some (.loc _)=>exact⟨length_set,rfl,rfl⟩
 |some (.out _)=>exact⟨rfl,length_set,rfl⟩
theorem Z99:∀{rs:List (Sl×Option Rf)} {ss:List Sl} {M:Ms},(wb M rs ss).tmp=M.tmp
 |[],_,_=>rfl
 |_::_,[],_=>rfl
 | (_,r)::rs,s::ss,M=>(@Z99 rs ss (wb1 M r s)).trans Zac.2.2
theorem Z54:∀{rs:List (Sl×Option Rf)} {ss:List Sl} {M:Ms},(wb M rs ss).env.length=M.env.length/\(wb M rs ss).out.length=M.out.length
 |[],_,_=>⟨rfl,rfl⟩
 |_::_,[],_=>⟨rfl,rfl⟩
 | (_,r)::rs,s::ss,M=>have h:=@Z54 rs ss (wb1 M r s);⟨h.1.trans Zac.1,h.2.trans Zac.2.1⟩
inductive Wr:List (Sl×Option Rf)->List Sl->Rf->Sl->Prop where
 |hd {x:Sl} {r:Rf} {rs:List (Sl×Option Rf)} {s:Sl} {ss:List Sl}:Wr ((x,some r)::rs) (s::ss) r s
 |tl {x:Sl×Option Rf} {r:Rf} {rs:List (Sl×Option Rf)} {s s':Sl} {ss:List Sl} (h:Wr rs ss r s'):Wr (x::rs) (s::ss) r s'
theorem Zbm:∀{rs:List (Sl×Option Rf)} {ss:List Sl} {M:Ms} {i:Nat} {x:Option Sl},rs.length=ss.length->(wb M rs ss).env[i]? = some x->(∃s,x=some s/\Wr rs ss (.loc i) s)∨(M.env[i]? = some x/\∀y,(y,some (.loc i))∉rs)
 |[],_,M,i,x,_,h=>.inr ⟨h,fun _ z=>by cases z⟩
 |p::rs,[],M,i,x,hl,h=>by simp at hl
 | (z,r)::rs,s::ss,M,i,x,hl,h=>by
  rcases Zbm (M:=wb1 M r s) (by simpa using hl) h with ⟨s',e,w⟩|⟨e,n⟩
  ·exact .inl ⟨s',e,.tl w⟩
  ·have c:(r=some (.loc i)/\x=some s)∨(M.env[i]? = some x/\r≠some (.loc i)):=by
    match r,e with
    |none,e|some (.tmp _),e|some (.out _),e=>exact .inr ⟨e,fun z=>by cases z⟩
    |some (.loc m),e=>
     rcases Z0g e with ⟨rfl,rfl⟩|⟨hne,e⟩
     ·exact .inl ⟨rfl,rfl⟩
     ·exact .inr ⟨e,fun z=>by cases z;exact hne rfl⟩
   rcases c with ⟨rfl,rfl⟩|⟨e,c⟩
   ·exact .inl ⟨s,rfl,.hd⟩
   ·exact .inr ⟨e,fun y hy=>(mem_cons.mp hy).elim (fun q=>c (by cases q;rfl)) (n y)⟩
theorem Zf1:∀{rs:List (Sl×Option Rf)} {ss:List Sl} {M:Ms} {i:Nat} {x:Sl},rs.length=ss.length->(wb M rs ss).out[i]? = some x->Wr rs ss (.out i) x∨(M.out[i]? = some x/\∀y,(y,some (.out i))∉rs)
 |[],_,M,i,x,_,h=>.inr ⟨h,fun _ z=>by cases z⟩
 |p::rs,[],M,i,x,hl,h=>by simp at hl
 | (z,r)::rs,s::ss,M,i,x,hl,h=>by
  rcases Zf1 (M:=wb1 M r s) (by simpa using hl) h with w|⟨e,n⟩
  ·exact .inl (.tl w)
  ·have c:(r=some (.out i)/\x=s)∨(M.out[i]? = some x/\r≠some (.out i)):=by
    match r,e with
    |none,e|some (.tmp _),e|some (.loc _),e=>exact .inr ⟨e,fun z=>by cases z⟩
    |some (.out m),e=>
     rcases Z0g e with ⟨rfl,rfl⟩|⟨hne,e⟩
     ·exact .inl ⟨rfl,rfl⟩
     ·exact .inr ⟨e,fun z=>by cases z;exact hne rfl⟩
   rcases c with ⟨rfl,rfl⟩|⟨e,c⟩
   ·exact .inl .hd
   ·exact .inr ⟨e,fun y hy=>(mem_cons.mp hy).elim (fun q=>c (by cases q;rfl)) (n y)⟩
inductive RAs (F:Fr)(ta:List Addr)(σ:St)(M:Ms):List (Sl×Option Rf)->List V->List Addr->Prop where
 |nil:RAs F ta σ M [] [] []
 |fz {t:Tv} {rs:List (Sl×Option Rf)} {v:V} {vs:List V} {as:List Addr} (r:RAs F ta σ M rs vs as):RAs F ta σ M ((.fz t,none)::rs) (v::vs) as
 |own {o:Ob} {x:Rf} {a:Addr} {rs:List (Sl×Option Rf)} {vs:List V} {as:List Addr} (ho:Z01 M x=some o) (ha:adr F ta σ x=some a) (r:RAs F ta σ M rs vs as):RAs F ta σ M ((.own o,some x)::rs) (.ref a::vs) (a::as)
theorem RAs.mem {rs:List (Sl×Option Rf)}{vs:List V}{as:List Addr}(h:RAs F ta σ M rs vs as):∀a∈as,∃y x o,(y,some x)∈rs/\Z01 M x=some o/\adr F ta σ x=some a:=by
 induction h with
 |nil=>intro a h;cases h
 |fz r ih=>intro a h;obtain⟨y,x,o,h1,h2⟩:=ih a h;exact⟨y,x,o,mem_cons_of_mem _ h1,h2⟩
 | @own o x a' rs vs as ho ha r ih=>
  intro a h
  rcases mem_cons.mp h with rfl|h
  ·exact⟨_,x,o,mem_cons_self,ho,ha⟩
  ·obtain⟨y,x,o,h1,h2⟩:=ih a h;exact⟨y,x,o,mem_cons_of_mem _ h1,h2⟩
theorem RAs.wr {rs:List (Sl×Option Rf)}{vs:List V}{as:List Addr}(h:RAs F ta σ M rs vs as):∀{ss:List Sl},APs K G H (rs.map (·.1)) vs ss->∀{x:Rf} {s:Sl},Wr rs ss x s →
  ∃o a,Z01 M x=some o/\adr F ta σ x=some a/\((∃o',s = .own o'/\ObOk K G H a o'/\G a=none)∨∃t,s = .fz t/\IsT K G (.ref a) t):=by
 induction h with
 |nil=>intro ss hp x s w;cases w
 | @fz t rs v vs as r ih=>
  intro ss hp x s w
  cases hp with
  |fz hp=>
   cases w with
   |tl w=>exact ih hp w
 | @own o y a rs vs as ho ha r ih=>
  intro ss hp x s w
  cases hp with
  |own h1 h2 hp=>
   cases w with
   |hd=>exact⟨o,a,ho,ha,.inl ⟨_,rfl,h1,h2⟩⟩
   |tl w=>exact ih hp w
  |gone h1 hp=>
   cases w with
   |hd=>exact⟨o,a,ho,ha,.inr ⟨_,rfl,h1⟩⟩
   |tl w=>exact ih hp w
theorem RAs.len {rs:List (Sl×Option Rf)}{vs:List V}{as:List Addr}(h:RAs F ta σ M rs vs as):∀{ss:List Sl},APs K G H (rs.map (·.1)) vs ss->rs.length=ss.length:=by
 induction h with
 |nil=>intro ss hp;cases hp;rfl
 |fz r ih=>intro ss hp;cases hp with|fz hp=>simp [ih hp]
 |own ho ha r ih=>intro ss hp;cases hp with
  |own _ _ hp=>simp [ih hp]
  |gone _ hp=>simp [ih hp]
theorem Rel.back {t0 l:List Addr}(R:Rel K F G (t0++l) M σ H){rs:List (Sl×Option Rf)}{vs:List V}{as:List Addr}{ss:List Sl}(ra:RAs F (t0++l) σ M rs vs as)(hp:APs K G' H' (rs.map (·.1)) vs ss)(p:Post K G H as G' H')(tm:∀y j,(y,some (Rf.tmp j))∈rs->t0.length<=j):
  Rel K F G' t0 { wb M rs ss with tmp:=M.tmp.take t0.length } σ H'/\∀r o a,Z01 { wb M rs ss with tmp:=M.tmp.take t0.length } r=some o->adr F t0 σ r=some a->∃x,H a=some x:=by
 have hl:=ra.len hp
 have inA:∀a∈as,(a∈F.ao∨F.H0 a=none)/\∃o,H a=some o:=fun a ha=>by
  obtain⟨y,x,o,_,h2,h3⟩:=ra.mem a ha
  obtain⟨b,e1,e2,e3⟩:=R.ob x o h2
  rw[h3] at e1;cases e1
  refine⟨?_,e2.some⟩
  rcases R.nw x o a h2 h3 with ⟨k,rfl⟩|z
  ·exact .inl (mem_of_getElem? (show F.ao[k]? = some a from h3))
  ·exact .inr z
 have up:∀r o,Z01 { wb M rs ss with tmp:=M.tmp.take t0.length } r=some o->(adr F t0 σ r=adr F (t0++l) σ r)/\((∃s,Wr rs ss r s/\s = .own o)∨(Z01 M r=some o/\∀y,(y,some r)∉rs∨∃j,r = .tmp j/\j<t0.length)):=fun r o h=>by
  cases r with
  |loc i=>
   refine⟨rfl,?_⟩
   simp only [Z01] at h ⊢
   cases q:(wb M rs ss).env[i]? with
   |none=>simp [q] at h
   |some x=>
    rw[q] at h
    rcases Zbm hl q with ⟨s,rfl,w⟩|⟨e,n⟩
    ·cases s with
     |own u=>simp [slO] at h;subst h;exact .inl ⟨_,w,rfl⟩
     |fz t=>simp [slO] at h
     |out k=>simp [slO] at h
    ·exact .inr ⟨by rw[e];exact h,fun y=>.inl (n y)⟩
  |out k=>
   refine⟨rfl,?_⟩
   simp only [Z01] at h ⊢
   cases q:(wb M rs ss).out[k]? with
   |none=>simp [q] at h
   |some x=>
    rw[q] at h
    rcases Zf1 hl q with w|⟨e,n⟩
    ·cases x with
     |own u=>simp [slO] at h;subst h;exact .inl ⟨_,w,rfl⟩
     |fz t=>simp [slO] at h
     |out k=>simp [slO] at h
    ·exact .inr ⟨by rw[e];exact h,fun y=>.inl (n y)⟩
  |tmp j=>
   have h':(M.tmp.take t0.length)[j]? = some o:=h
   rw[List.getElem?_take] at h'
   split at h'
   ·next hj=>exact⟨by show t0[j]? = (t0++l)[j]?;rw[List.getElem?_append_left hj],.inr ⟨h',fun y=>.inr ⟨j,rfl,hj⟩⟩⟩
   ·cases h'
 have orig:∀r o,Z01 { wb M rs ss with tmp:=M.tmp.take t0.length } r=some o->∃o0,Z01 M r=some o0:=fun r o h=>by
  rcases(up r o h).2 with ⟨s,w,_⟩|⟨h1,_⟩
  ·obtain⟨o0,_,h1,_⟩:=ra.wr hp w;exact⟨o0,h1⟩
  ·exact⟨o,h1⟩
 have tmpA:∀y j,(y,some (Rf.tmp j))∈rs->t0.length<=j:=tm
 have inNot:∀r o a,Z01 M r=some o->adr F (t0++l) σ r=some a->(∀y,(y,some r)∉rs∨∃j,r = .tmp j/\j<t0.length)->a∉as:=fun r o a h1 h2 h3 ha=>by
  obtain⟨y,x,o',e1,e2,e3⟩:=ra.mem a ha
  have:=R.ij r x o o' a h1 e2 h2 e3
  subst this
  rcases h3 y with z|⟨j,rfl,hj⟩
  ·exact z e1
  ·have:=tmpA y j e1;lia
 refine⟨?_,fun r o a h e=>by
  obtain⟨o0,h0⟩:=orig r o h
  rw[(up r o h).1] at e
  obtain⟨b,e1,e2,_⟩:=R.ob r o0 h0
  rw[e] at e1;cases e1
  exact e2.some⟩
 refine⟨p.s,R.g0.trans p.g,fun a o h1 h2=>?_,fun a o h=>?_,fun a h=>?_,by show(wb M rs ss).env.length=_;rw[Z54.1];exact R.ls,by show(wb M rs ss).out.length=_;rw[Z54.2];exact R.lo,?_,fun i t h=>?_,fun i k h=>?_,fun k t h=>?_,fun r o h=>?_,fun r r' o o' a h h' e e'=>?_,fun r o a h e=>?_⟩
 ·refine p.k a o (R.fra a o h1 h2) fun z=>?_
  rcases(inA a z).1 with q|q
  ·exact h2 q
  ·rw[h1] at q;cases q
 ·rcases p.d a o h with z|z|z|z
  ·exact R.gd a o z
  ·exact .inr (.inl (R.new z).1)
  ·rcases(inA a z).1 with q|q
   ·exact .inr (.inr (.inl q))
   ·exact .inr (.inl q)
  ·exact .inr (.inr (.inr z))
 ·obtain⟨o,e⟩:=R.pr a h;exact p.t a o e
 ·show(M.tmp.take t0.length).length=_
  rw[length_take,R.lt,length_append];lia
 ·rcases Zbm hl h with ⟨s,e,w⟩|⟨e,_⟩
  ·cases e
   obtain⟨o0,a,h1,h2,h3|⟨t',h3,h4⟩⟩:=ra.wr hp w
   ·obtain⟨_,z,_⟩:=h3;cases z
   ·cases h3
    refine⟨.ref a,?_,h4⟩
    simp only [adr] at h2
    cases q:σ[i]? with
    |none=>simp [q] at h2
    |some x=>
     cases x with
     |none=>simp [q] at h2
     |some v=>cases v <;> simp [q,Zia] at h2;subst h2;rfl
  ·obtain⟨v,h1,h2⟩:=R.fz i t e;exact⟨v,h1,h2.mono p.g⟩
 ·rcases Zbm hl h with ⟨s,e,w⟩|⟨e,_⟩
  ·cases e
   obtain⟨o0,a,h1,h2,⟨_,z,_⟩|⟨t',z,h4⟩⟩:=ra.wr hp w
   ·cases z
   ·cases z
  ·exact R.al i k e
 ·rcases Zf1 hl h with w|⟨e,_⟩
  ·obtain⟨o0,a,h1,h2,⟨_,z,_⟩|⟨t',z,h4⟩⟩:=ra.wr hp w
   ·cases z
   ·cases z;exact⟨a,h2,h4⟩
  ·obtain⟨a,h1,h2⟩:=R.fo k t e;exact⟨a,h1,h2.mono p.g⟩
 ·obtain⟨u1,u2⟩:=up r o h
  rw[u1]
  rcases u2 with ⟨s,w,rfl⟩|⟨h1,h2⟩
  ·obtain⟨o0,a,h1,h2,⟨o',z,h3,h4⟩|⟨t',z,h4⟩⟩:=ra.wr hp w
   ·cases z;exact⟨a,h2,h3,h4⟩
   ·cases z
  ·obtain⟨a,e1,e2,e3⟩:=R.ob r o h1
   have na:=inNot r o a h1 e1 h2
   obtain⟨x,hx⟩:=e2.some
   refine⟨a,e1,e2.mono p.g ((p.k a x hx na).trans hx.symm),?_⟩
   cases q:G' a with
   |none=>rfl
   |some y=>
    rcases p.d a y q with z|z|z|z
    ·rw[e3] at z;cases z
    ·rw[hx] at z;cases z
    ·exact absurd z na
    ·have q2:=p.s a y q
     rw[p.k a x hx na] at q2;cases q2
     exact absurd z (e2.notup hx)
 ·obtain⟨o0,h0⟩:=orig r o h;obtain⟨o1,h1⟩:=orig r' o' h'
  rw[(up r o h).1] at e;rw[(up r' o' h').1] at e'
  exact R.ij r r' o0 o1 a h0 h1 e e'
 ·obtain⟨o0,h0⟩:=orig r o h
  rw[(up r o h).1] at e
  exact R.nw r o0 a h0 e
theorem Rel.pushAt (R:Rel K F G ta M σ H){p:Addr}{o:Ob}(h:ObOk K G H p o)(n3:G p=none)(n1:F.H0 p=none)(old:∀r u a,Z01 M r=some u->adr F ta σ r=some a->a≠p):Rel K F G (ta ++ [p]) { M with tmp:=M.tmp ++ [o] } σ H:=by
 have up:∀r u,Z01 { M with tmp:=M.tmp ++ [o] } r=some u->(Z01 M r=some u/\adr F (ta ++ [p]) σ r=adr F ta σ r)∨(r = .tmp ta.length/\u=o/\adr F (ta ++ [p]) σ r=some p):=fun r u h=>by
  cases r with
  |loc i=>exact .inl ⟨h,rfl⟩
  |out k=>exact .inl ⟨h,rfl⟩
  |tmp j=>
   have h':(M.tmp ++ [o])[j]? = some u:=h
   rcases Nat.lt_or_ge j M.tmp.length with hj|hj
   ·rw[List.getElem?_append_left hj] at h'
    exact .inl ⟨h',by show(ta ++ [p])[j]? = _;rw[List.getElem?_append_left (by rw[<- R.lt];exact hj)];rfl⟩
   ·rw[List.getElem?_append_right hj] at h'
    have hj0:j-M.tmp.length=0:=by
     have:=(List.getElem?_eq_some_iff.mp h').1
     simp at this;lia
    rw[hj0] at h'
    simp at h'
    have hjt:j=ta.length:=by rw[<- R.lt];lia
    exact .inr ⟨by rw[hjt],h'.symm,by show(ta ++ [p])[j]? = _;rw[hjt,List.getElem?_append_right (Nat.le_refl _)];simp⟩
 refine⟨R.sub,R.g0,R.fra,R.gd,R.pr,R.ls,R.lo,by show(M.tmp ++ [o]).length=_;rw[length_append,length_append,R.lt];rfl,R.fz,R.al,R.fo,fun r u h=>?_,fun r r' u u' a h h' e e'=>?_,fun r u a h e=>?_⟩
 ·rcases up r u h with ⟨h1,h2⟩|⟨rfl,rfl,h2⟩
  ·rw[h2];exact R.ob r u h1
  ·rw[h2];exact⟨p,rfl,‹_›,n3⟩
 ·rcases up r u h with ⟨h1,h2⟩|⟨rfl,rfl,h2⟩
  ·rcases up r' u' h' with ⟨h3,h4⟩|⟨rfl,rfl,h4⟩
   ·rw[h2] at e;rw[h4] at e';exact R.ij r r' u u' a h1 h3 e e'
   ·rw[h2] at e;rw[h4] at e';cases e'
    exact absurd rfl (old r u p h1 e)
  ·rcases up r' u' h' with ⟨h3,h4⟩|⟨rfl,_,h4⟩
   ·rw[h2] at e;rw[h4] at e';cases e
    exact absurd rfl (old r' u' p h3 e')
   ·rfl
 ·rcases up r u h with ⟨h1,h2⟩|⟨rfl,rfl,h2⟩
  ·rw[h2] at e;exact R.nw r u a h1 e
  ·rw[h2] at e;cases e;exact .inr n1
theorem Z36 {r:Rf}:∀{l:List (Sl×Option Rf)},Zab r l=true->∀y,(y,some r)∉l
 |[],_,_,h=>by cases h
 | (x,none)::l,hn,y,h=>by
  simp only [Zab] at hn
  rcases mem_cons.mp h with q|q
  ·cases q
  ·exact Z36 hn y q
 | (x,some r')::l,hn,y,h=>by
  simp only [Zab,Bool.and_eq_true,Bool.not_eq_true',beq_eq_false_iff_ne] at hn
  rcases mem_cons.mp h with q|q
  ·cases q;exact hn.1 rfl
  ·exact Z36 hn.2 y q
theorem Rel.args {n:Nat}(R:Rel K F G ta M σ H):∀{evs:List Ev} {vs:List V} {rs:List (Sl×Option Rf)},EvsOk K F G ta σ evs vs->Z6v n M evs=some rs->Zkn rs=true →
  ∃as,RAs F ta σ M rs vs as/\AOk K G H (rs.map (·.1)) vs as/\as.Nodup/\∀y j,(y,some (Rf.tmp j))∈rs->n<=j:=by
 intro evs
 induction evs with
 |nil=>intro vs rs h e _;cases h;cases e;exact⟨[],.nil,.nil,.nil,fun _ _ z=>by cases z⟩
 |cons ev evs ih=>
  intro vs rs h e ok
  cases h with
  | @cons _ _ v vs h1 h2=>
  simp only [Z6v] at e
  split at e
  ·next a r ea er=>
   cases e
   have lift:∀(ok':Zkn r=true),_:=fun ok'=>ih h2 er ok'
   have fzc:∀t,a=(.fz t,none)->IsT K G v t->∃as,RAs F ta σ M (a::r) (v::vs) as/\AOk K G H ((a::r).map (·.1)) (v::vs) as/\as.Nodup/\∀y j,(y,some (Rf.tmp j))∈a::r->n<=j:=fun t q ht=>by
    subst q
    obtain⟨as,g1,g2,g3,g4⟩:=lift ok
    exact⟨as,.fz g1,.fz ht g2,g3,fun y j z=>(mem_cons.mp z).elim (fun q=>by cases q) (g4 y j)⟩
   have owc:∀o x b,a=(.own o,some x)->v = .ref b->Z01 M x=some o->adr F ta σ x=some b->(∀j,x = .tmp j->n<=j)->∃as,RAs F ta σ M (a::r) (v::vs) as/\AOk K G H ((a::r).map (·.1)) (v::vs) as/\as.Nodup/\∀y j,(y,some (Rf.tmp j))∈a::r->n<=j:=fun o x b q hv ho hb hj=>by
    subst q;subst hv
    simp only [Zkn,Bool.and_eq_true] at ok
    obtain⟨as,g1,g2,g3,g4⟩:=lift ok.2
    obtain⟨c,k1,k2,k3⟩:=R.ob x o ho
    rw[hb] at k1;cases k1
    refine⟨b::as,.own ho hb g1,.own k2 k3 g2,nodup_cons.mpr ⟨fun z=>?_,g3⟩,fun y j z=>(mem_cons.mp z).elim (fun q=>by cases q;exact hj j rfl) (g4 y j)⟩
    obtain⟨y,x',o',m1,m2,m3⟩:=g1.mem b z
    have:=R.ij x x' o o' b ho m2 hb m3
    subst this
    exact Z36 ok.1 y m1
   cases ev with
   |fz t=>cases ea;exact fzc t rfl h1
   |loc i=>
    obtain⟨q1,b,rfl⟩:=h1
    simp only [Zic] at ea
    split at ea
    ·next o q=>cases ea;exact owc o _ b rfl rfl (by simp [Z01,q,slO]) (by simp [adr,q1,Zia]) fun j z=>by cases z
    ·next t q=>
     cases ea
     obtain⟨v',z1,z2⟩:=R.fz i t q
     rw[q1] at z1;cases z1
     exact fzc t rfl z2
    ·cases ea
   |out k=>
    obtain⟨b,q1,rfl⟩:=h1
    simp only [Zic] at ea
    split at ea
    ·next o q=>cases ea;exact owc o _ b rfl rfl (by simp [Z01,q,slO]) q1 fun j z=>by cases z
    ·next t q=>
     cases ea
     obtain⟨b',z1,z2⟩:=R.fo k t q
     rw[q1] at z1;cases z1
     exact fzc t rfl z2
    ·cases ea
   |tmp j=>
    obtain⟨b,q1,rfl⟩:=h1
    simp only [Zic] at ea
    split at ea
    ·next hj=>
     cases q:M.tmp[j]? with
     |none=>rw[q] at ea;cases ea
     |some o=>rw[q] at ea;cases ea;exact owc o _ b rfl rfl q q1 fun j' z=>by cases z;exact hj
    ·cases ea
  ·cases e
theorem LE.call {X:Cx}{psp:PSp}{wr:TWs}{σ:St}{H:Hp}{Q:VK}{E:XK}:LE X.K F (Zid psp wr) σ H Q->Zlf (spW X.K psp) [] E (LA X.K F wr) σ H Q:=fun⟨G,ta,M,K0,R,k,q⟩=>by
 refine⟨G,ta,M,_,R,k,fun evs M1 G1 t1 vs H1 k1 R1 s1 e1=>?_⟩
 obtain⟨rs,h1,ok,k1⟩:=Z00 k1
 obtain⟨as,g1,g2,g3,g4⟩:=R1.args e1 h1 ok
 rw[append_nil]
 refine⟨G1,_,as,_,R1.sub,g2,g3,k1,fun r ss v G' H' k2 p hp hr=>?_⟩
 obtain⟨l,rfl⟩:=s1.t
 have lt0:=R.lt
 rw[lt0] at g4 k2
 have B:=R1.back g1 hp p g4
 cases r with
 |fz t=>
  exact q _ _ G' ta v H' k2 (by rw[Z99];exact B.1) ⟨s1.g.trans p.g,[],by simp⟩ hr
 |own o=>
  obtain⟨a,rfl,ha,h2,h3⟩:=hr
  have n1:=R1.new ha
  have B2:Rel X.K F G' (ta ++ [a]) { wb M1 rs ss with tmp:=M1.tmp.take ta.length ++ [o] } σ H':=B.1.pushAt h2 h3 n1.1 fun r u a' e1 e2 z=>by
   obtain⟨x,hx⟩:=B.2 r u a' e1 e2
   rw[z,ha] at hx;cases hx
  refine q _ _ G' (ta ++ [a]) _ H' k2 (by rw[Z99];exact B2) ⟨s1.g.trans p.g,[a],rfl⟩ ⟨a,?_,rfl⟩
  rw[List.getElem?_append_right (Nat.le_refl _)];simp
 |out j=>exact k2.elim
end
def Zbn:Nat->List Sl->List (Option Sl)
 |_,[]=>[]
 |k,.own _::r=>some (.out k)::Zbn (k+1) r
 |k,s::r=>some s::Zbn k r
def Zf2:List Sl->List Sl
 |[]=>[]
 | .own o::r=>.own o::Zf2 r
 |_::r=>Zf2 r
def Z09 (n:Nat)(args:List Sl):Ms:=⟨Zbn 0 args++List.replicate (n-args.length) none,Zf2 args,[]⟩
def Z0z:List Sl->List Sl->Option (List Sl)
 |[],_=>some []
 | .own _::r,.own o::os=>(Z0z r os).map (.own o :: ·)
 | .own _::r,.fz t::os=>(Z0z r os).map (.fz t :: ·)
 | .own _::_,_=>none
 | .fz t::r,os=>(Z0z r os).map (.fz t :: ·)
 | .out _::_,_=>none
def slR (M:Ms)(i:Nat):Option Sl:=match M.env[i]? with
 |some (some (.own o))=>some (.own o)
 |some (some (.fz t))=>some (.fz t)
 |_=>none
def Zie (M:Ms):Ev->Option Sl
 | .fz t=>some (.fz t)
 | .tmp j=>(M.tmp[j]?).map .own
 | .loc i=>slR M i
 | .out _=>none
def Z02 (args:List Sl)(k:Sl->List Sl->Prop):PD where
 nx:=fun M=>bnd (Z0z args M.out) fun ss=>k (.fz (.at .non)) ss
 rt:=fun ev M=>bnd (Z0z args M.out) fun ss=>bnd (Zie M ev) fun r=>k r ss
section
variable {K:W.Frag}{F:Fr}{G G' H H':Hp}{ta ta':List Addr}{M M':Ms}{σ σ':St}
theorem AOk.len {args:List Sl}{vs:List V}{as:List Addr}(h:AOk K G H args vs as):vs.length=args.length:=by
 induction h with
 |nil=>rfl
 |fz _ _ ih=>simp [ih]
 |own _ _ _ ih=>simp [ih]
theorem Z4p:∀{k:Nat} {args:List Sl},(Zbn k args).length=args.length
 |_,[]=>rfl
 |k,.own _::r=>by simp [Zbn,@Z4p (k+1) r]
 |k,.fz _::r=>by simp [Zbn,@Z4p k r]
 |k,.out _::r=>by simp [Zbn,@Z4p k r]
theorem AOk.ent {args:List Sl}{vs:List V}{as:List Addr}(h:AOk K G H args vs as):∀(k i:Nat) (s:Sl),(Zbn k args)[i]? = some (some s)->∃v,vs[i]? = some v/\((∃t,s = .fz t/\IsT K G v t)∨∃j a,s = .out (k+j)/\as[j]? = some a/\v = .ref a):=by
 induction h with
 |nil=>intro k i s h;simp [Zbn] at h
 | @fz t ss v vs as ht r ih=>
  intro k i s h
  cases i with
  |zero=>simp [Zbn] at h;subst h;exact⟨v,rfl,.inl ⟨t,rfl,ht⟩⟩
  |succ i=>simp [Zbn] at h;simpa using ih k i s h
 | @own o a ss vs as h1 h2 r ih=>
  intro k i s h
  cases i with
  |zero=>simp [Zbn] at h;subst h;exact⟨_,rfl,.inr ⟨0,a,rfl,rfl,rfl⟩⟩
  |succ i=>
   simp [Zbn] at h
   obtain⟨v,e,z⟩:=ih (k+1) i s h
   refine⟨v,by simpa using e,?_⟩
   rcases z with z|⟨j,a',rfl,e2,e3⟩
   ·exact .inl z
   ·exact .inr ⟨j+1,a',by congr 1;lia,by simpa using e2,e3⟩
theorem AOk.outs {args:List Sl}{vs:List V}{as:List Addr}(h:AOk K G H args vs as):(Zf2 args).length=as.length/\∀(k:Nat) (s:Sl),(Zf2 args)[k]? = some s->∃o a,s = .own o/\as[k]? = some a/\ObOk K G H a o/\G a=none:=by
 induction h with
 |nil=>exact⟨rfl,fun k s h=>by simp [Zf2] at h⟩
 |fz _ _ ih=>exact ih
 | @own o a ss vs as h1 h2 r ih=>
  refine⟨by simp [Zf2,ih.1],fun k s h=>?_⟩
  cases k with
  |zero=>simp [Zf2] at h;exact⟨o,a,h.symm,rfl,h1,h2⟩
  |succ k=>simp [Zf2] at h;simpa using ih.2 k s h
theorem Z9a {α : Type}{l:List (Option α)}{n i:Nat}{s : α}(h:(l++List.replicate n none)[i]? = some (some s)):l[i]? = some (some s):=by
 rcases Nat.lt_or_ge i l.length with hi|hi
 ·rw[List.getElem?_append_left hi] at h;exact h
 ·rw[List.getElem?_append_right hi,List.getElem?_replicate] at h
  split at h <;> cases h
theorem Z55 {N:List Str}{args:List Sl}{vs:List V}{as:List Addr}(s:Same G H)(h:AOk K G H args vs as)(nd:as.Nodup)(hl:args.length<=N.length):Rel K ⟨H,G,as⟩ G [] (Z09 N.length args) (Z2m N vs) H:=by
 have hv:=h.len
 have slot:∀(i:Nat) (sl:Sl),(Z09 N.length args).env[i]? = some (some sl)->∃v,(Z2m N vs)[i]? = some (some v)/\((∃t,sl = .fz t/\IsT K G v t)∨∃j a,sl = .out (0+j)/\as[j]? = some a/\v = .ref a):=fun i sl e=>by
  obtain⟨v,e1,e2⟩:=h.ent 0 i sl (Z9a e)
  refine⟨v,?_,e2⟩
  unfold Z2m
  rw[List.getElem?_append_left (by rw[length_map];exact(List.getElem?_eq_some_iff.mp e1).1),List.getElem?_map,e1];rfl
 have ob:∀r o,Z01 (Z09 N.length args) r=some o->∃k,r = .out k/\(Zf2 args)[k]? = some (.own o):=fun r o e=>by
  cases r with
  |loc i=>
   simp only [Z01] at e
   cases q:(Z09 N.length args).env[i]? with
   |none=>simp [q] at e
   |some x=>
    cases x with
    |none=>simp [q] at e
    |some sl=>
     rw[q] at e
     obtain⟨v,_,⟨t,rfl,_⟩|⟨j,a,rfl,_⟩⟩:=slot i sl q
     ·simp [slO] at e
     ·simp [slO] at e
  |out k=>
   simp only [Z01] at e
   cases q:(Z09 N.length args).out[k]? with
   |none=>simp [q] at e
   |some x=>
    rw[q] at e
    cases x with
    |own u=>simp [slO] at e;subst e;exact⟨k,rfl,q⟩
    |fz t=>simp [slO] at e
    |out k=>simp [slO] at e
  |tmp j=>exact absurd (show([]:List Ob)[j]? = some o from e) (by simp)
 refine⟨s,Same.refl _,fun a o h1 _=>h1,fun a o h1=>.inl h1,fun a ha=>?_,?_,h.outs.1,rfl,fun i t e=>?_,fun i k e=>?_,fun k t e=>?_,fun r o e=>?_,fun r r' o o' a e e' ea ea'=>?_,fun r o a e ea=>?_⟩
 ·obtain⟨k,hk⟩:=List.getElem?_of_mem ha
  have hkl:k<(Zf2 args).length:=by rw[h.outs.1];exact(List.getElem?_eq_some_iff.mp hk).1
  obtain⟨o,b,_,e2,e3,_⟩:=h.outs.2 k _ (List.getElem?_eq_getElem hkl)
  have e2':as[k]? = some b:=e2
  have hk':as[k]? = some a:=hk
  rw[hk'] at e2';cases e2'
  exact e3.some
 ·show(Zbn 0 args++_).length=(Z2m N vs).length
  unfold Z2m
  simp only [length_append,length_map,length_replicate,Z4p]
  lia
 ·obtain⟨v,e1,⟨t',z,e2⟩|⟨j,a,z,_⟩⟩:=slot i _ e
  ·cases z;exact⟨v,e1,e2⟩
  ·cases z
 ·obtain⟨v,e1,⟨t',z,e2⟩|⟨j,a,z,e3,rfl⟩⟩:=slot i _ e
  ·cases z
  ·cases z;exact⟨a,by show as[0+j]? = _;rw[Nat.zero_add];exact e3,e1⟩
 ·obtain⟨o,a,z,_⟩:=h.outs.2 k _ e;cases z
 ·obtain⟨k,rfl,e1⟩:=ob r o e
  obtain⟨o',a,z,e2,e3,e4⟩:=h.outs.2 k _ e1
  cases z
  exact⟨a,e2,e3,e4⟩
 ·obtain⟨k,rfl,e1⟩:=ob r o e
  obtain⟨k',rfl,e1'⟩:=ob r' o' e'
  have q1:as[k]? = some a:=ea
  have q2:as[k']? = some a:=ea'
  have:=(List.getElem?_inj (List.getElem?_eq_some_iff.mp q1).1 nd).mp (q1.trans q2.symm)
  rw[this]
 ·obtain⟨k,rfl,_⟩:=ob r o e;exact .inl ⟨k,rfl⟩
theorem Zif {args:List Sl}{vs:List V}{as:List Addr}(h:AOk K G H args vs as):∀{os ss:List Sl} {n:Nat},Z0z args os=some ss->(∀(k:Nat) (s:Sl),os[k]? = some s->∃a,as[k]? = some a/\match s with | .own o=>ObOk K G' H' a o/\G' a=none | .fz t=>IsT K G' (.ref a) t | .out _=>True)->APs K G' H' args vs ss:=by
 induction h with
 |nil=>intro os ss n e _;cases e;exact .nil
 | @fz t ss0 v vs as ht r ih=>
  intro os ss n e hs
  simp only [Z0z] at e
  cases q:Z0z ss0 os with
  |none=>rw[q] at e;cases e
  |some x=>rw[q] at e;cases e;exact .fz (ih (n:=n) q hs)
 | @own o a ss0 vs as h1 h2 r ih=>
  intro os ss n e hs
  cases os with
  |nil=>cases e
  |cons s os=>
   have rest:∀(k:Nat) (s':Sl),os[k]? = some s'->∃b,as[k]? = some b/\match s' with | .own o=>ObOk K G' H' b o/\G' b=none | .fz t=>IsT K G' (.ref b) t | .out _=>True:=fun k s' e'=>by
    have:=hs (k+1) s' (by simpa using e')
    simpa using this
   obtain⟨b,e1,e2⟩:=hs 0 s rfl
   cases e1
   cases s with
   |own o'=>
    simp only [Z0z] at e
    cases q:Z0z ss0 os with
    |none=>rw[q] at e;cases e
    |some x=>rw[q] at e;cases e;exact .own e2.1 e2.2 (ih (n:=n) q rest)
   |fz t=>
    simp only [Z0z] at e
    cases q:Z0z ss0 os with
    |none=>rw[q] at e;cases e
    |some x=>rw[q] at e;cases e;exact .gone e2 (ih (n:=n) q rest)
   |out k=>cases e
theorem Rel.post {as:List Addr}(R:Rel K ⟨H,G,as⟩ G' ta M σ H'):Post K G H as G' H':=
 ⟨R.g0,R.sub,R.fra,R.gd,fun a o h=>by
  by_cases ha:a∈as
  ·exact R.pr a ha
  ·exact⟨o,R.fra a o h ha⟩⟩
theorem Rel.aps {args:List Sl}{vs:List V}{as:List Addr}{ss:List Sl}(R:Rel K ⟨H,G,as⟩ G' ta M σ H')(h:AOk K G H args vs as)(e:Z0z args M.out=some ss):APs K G' H' args vs ss:=
 Zif h (n:=0) e fun k s hk=>by
  cases s with
  |own o=>obtain⟨a,h1,h2,h3⟩:=R.ob (.out k) o (by simp [Z01,hk,slO]);exact⟨a,h1,h2,h3⟩
  |fz t=>obtain⟨a,h1,h2⟩:=R.fo k t hk;exact⟨a,h1,h2⟩
  |out j=>
   have:k<as.length:=by have:=(List.getElem?_eq_some_iff.mp hk).1;rw[R.lo] at this;exact this
   exact⟨as[k],List.getElem?_eq_getElem this,trivial⟩
theorem Rel.res {as:List Addr}(R:Rel K ⟨H,G,as⟩ G' ta M σ H'){ev:Ev}{v:V}{r:Sl}(h:EvOk K ⟨H,G,as⟩ G' ta σ ev v)(e:Zie M ev=some r):ROk K H G' H' v r:=by
 have own:∀x o a,Z01 M x=some o->adr ⟨H,G,as⟩ ta σ x=some a->(∀k,x ≠ .out k)->ROk K H G' H' (.ref a) (.own o):=fun x o a h1 h2 h3=>by
  obtain⟨b,e1,e2,e3⟩:=R.ob x o h1
  rw[h2] at e1;cases e1
  rcases R.nw x o a h1 h2 with ⟨k,z⟩|z
  ·exact absurd z (h3 k)
  ·exact⟨a,rfl,z,e2,e3⟩
 cases ev with
 |fz t=>cases e;exact h
 |loc i=>
  obtain⟨h1,a,rfl⟩:=h
  simp only [Zie,slR] at e
  split at e
  ·next o q=>cases e;exact own (.loc i) o a (by simp [Z01,q,slO]) (by simp [adr,h1,Zia]) fun k z=>by cases z
  ·next t q=>
   cases e
   obtain⟨v',z1,z2⟩:=R.fz i t q
   rw[h1] at z1;cases z1;exact z2
  ·cases e
 |out k=>cases e
 |tmp j=>
  obtain⟨a,h1,rfl⟩:=h
  simp only [Zie] at e
  cases q:M.tmp[j]? with
  |none=>rw[q] at e;cases e
  |some o=>rw[q] at e;cases e;exact own (.tmp j) o a q h1 fun k z=>by cases z
end
section
variable {P:Program}{w:World}{K:W.Frag}{mg:Str->Option Value}{base:Heap}
theorem Fun.okW {x qual:Str}{st:Stmt}{f:Addr}{fd:FuncData}{N ps:List Str}{k:Nat}{psp:PSp}{wb:TWS}(F:Fun K x qual st f fd)(S:FnScope N ps (Z0c st))(len:∀args k,psp args k->args.length=ps.length)
  (body:∀(cdv:Value) (A:Around) (outer:List Env) (s:Shared) (H:Hp) (E:XK) (Fr:Fr),Room k (A.deeper (envOfC qual (Z0c st) s.heap.objs.size f cdv))->PSs (Zlh CX0 P w K mg base N qual (Z0c st) f cdv A outer s H E).nox (Z15 st) (LS K Fr wb))
  (h:∀args k,psp args k->wb (Z02 args k) (Z09 N.length args)):FnOk P w K mg base CX0 (k+1) f fd ps (spW K psp):=by
 have hN:ps.length<=N.length:=by have:=congrArg List.length S.pre;rw[length_take] at this;lia
 refine F.ok S (fun vs H Q E ⟨G,args,as,K0,s,ha,nd,hp,q⟩=>by rw[ha.len,len _ _ hp]) fun cdv A outer s H vs Q E hr ⟨G,args,as,K0,sm,ha,nd,hp,q⟩=>?_
 refine⟨_,body cdv A outer s H E ⟨H,G,as⟩ hr,G,_,_,Z55 sm ha nd (by rw[len _ _ hp];exact hN),h args K0 hp,?_⟩
 refine⟨fun M' G' σ' H' k' R' s'=>?_,fun ev M' G' ta' σ' v H' k' R' s' e'=>?_,fun M' G' σ' H' k' R' s'=>k'.elim,fun M' G' σ' H' k' R' s'=>k'.elim⟩
 ·obtain⟨ss,e1,k'⟩:=Z00 k'
  exact q _ ss .non G' H' k' R'.post (R'.aps ha e1) (.at rfl)
 ·obtain⟨ss,e1,k'⟩:=Z00 k'
  obtain⟨r,e2,k'⟩:=Z00 k'
  exact q r ss v G' H' k' R'.post (R'.aps ha e1) (R'.res e' e2)
end
inductive Pt where
 |nm (i:Nat)
 |nil
 |cons (a b:Pt)
def bd:Pt->Tv->Ms->Option Ms
 | .nm i,t,M=>some { M with env:=M.env.set i (some (.fz t)) }
 | .nil,.tup [],M=>some M
 | .cons a b,.tup (t::ts),M=>(bd a t M).bind fun M1=>bd b (.tup ts) M1
 | .cons a b,.ktp (t::ts),M=>(bd a t M).bind fun M1=>bd b (.tup ts) M1
 |_,_,_=>none
inductive LG (K:W.Frag)(F:Fr)(b:Tv->Ms->Option Ms)(v:V)(σ:St)(H:Hp)(Q:(St->Hp->Prop)):Prop
 |mk (G M t M':_) (_:Rel K F G [] M σ H) (_:IsT K G v t) (_:b t M=some M') (_:∀ σ',Rel K F G [] M' σ' H->Q σ' H):LG K F b v σ H Q
inductive LGs (K:W.Frag)(F:Fr)(b:List Tv->Ms->Option Ms)(vs:List V)(σ:St)(H:Hp)(Q:(St->Hp->Prop)):Prop
 |mk (G M ts M':_) (_:Rel K F G [] M σ H) (_:IsTs K G vs ts) (_:b ts M=some M') (_:∀ σ',Rel K F G [] M' σ' H->Q σ' H):LGs K F b vs σ H Q
section
variable {X:Cx}{F:Fr}
theorem PG.imp {e:Expr}{t t':TG}(h:PG X e t)(i:∀v σ H Q,t' v σ H Q->t v σ H Q):PG X e t':=fun pins s σ H v u Q I r q=>h pins s σ H v u Q I r (i v σ H Q q)
theorem PGs.imp {e:List Expr}{t t':TGs}(h:PGs X e t)(i:∀v σ H Q,t' v σ H Q->t v σ H Q):PGs X e t':=fun pins s σ H v u Q I r q=>h pins s σ H v u Q I r (i v σ H Q q)
theorem Zm1 {e:Expr}{i:Nat}(h:PG X e (Ze2 i)):PG X e (LG X.K F (bd (.nm i))):=h.imp fun v σ H Q ⟨G,M,t,M',R,ht,e,q⟩=>by
 cases e
 exact q _ (R.putS i (s:=.fz t) ht)
theorem LG.tup {n:Nat}{b:List Tv->Ms->Option Ms}{c:Tv->Ms->Option Ms}(hc:∀t M M',c t M=some M'->∃ts,(t = .tup ts∨t = .ktp ts)/\ts.length=n/\b ts M=some M'){v:V}{σ:St}{H:Hp}{Q:St->Hp->Prop}:LG X.K F c v σ H Q->Zv2 X.K n (LGs X.K F b) v σ H Q:=fun⟨G,M,t,M',R,ht,e,q⟩=>by
 obtain⟨ts,z,hn,e2⟩:=hc _ _ _ e
 rcases z with rfl|rfl
 ·cases ht with
  | @tup a vs _ h r=>exact⟨a,vs,rfl,.of (R.sub _ _ h),by rw[r.len];exact hn,G,M,ts,M',R,r,e2,q⟩
 ·cases ht with
  | @ktp a vs _ h r=>exact⟨a,vs,rfl,R.sub.tup h,by rw[r.len];exact hn,G,M,ts,M',R,r,e2,q⟩
theorem LGs.nil {b:List Tv->Ms->Option Ms}(hb:∀ts M M',b ts M=some M'->ts = []/\M'=M){vs:List V}{σ:St}{H:Hp}{Q:St->Hp->Prop}:LGs X.K F b vs σ H Q->gNil vs σ H Q:=fun⟨G,M,ts,M',R,ht,e,q⟩=>by
 obtain⟨rfl,rfl⟩:=hb _ _ _ e
 cases ht
 exact⟨rfl,q σ R⟩
theorem LGs.cons {a:Tv->Ms->Option Ms}{b c:List Tv->Ms->Option Ms}(hb:∀ts M M',c ts M=some M'->∃t r M1,ts=t::r/\a t M=some M1/\b r M1=some M'){vs:List V}{σ:St}{H:Hp}{Q:St->Hp->Prop}:LGs X.K F c vs σ H Q->Zph (LG X.K F a) (LGs X.K F b) vs σ H Q:=fun⟨G,M,ts,M',R,ht,e,q⟩=>by
 obtain⟨t,r,M1,rfl,e1,e2⟩:=hb _ _ _ e
 cases ht with
 | @cons v vs _ _ h1 h2=>exact⟨v,vs,rfl,G,M,t,M1,R,h1,e1,fun σ1 R1=>⟨G,M1,r,M',R1,h2,e2,q⟩⟩
structure ItOk (K:W.Frag)(G:Hp)(J:It)(ts:List Tv):Prop where
 go:∀i G' H',Same G G'->Same G' H'->i<ts.length->J.go i H'
 stop:∀G' H',Same G G'->Same G' H'->J.stop ts.length H'
 yld:∀(i:Nat) (t:Tv) G' H' x H'',Same G G'->Same G' H'->ts[i]? = some t->J.yld i H' x H''->∃G'',Same G' G''/\Same G'' H''/\Same H' H''/\(∀a o,G'' a=some o->G' a=some o∨H' a=none∨Zou o)/\IsT K G'' x t
inductive LI (K:W.Frag)(F:Fr)(w:TWF)(σ:St)(H:Hp)(R:(It->Hp->Prop)):Prop
 |mk (G ta M K0:_) (_:Rel K F G ta M σ H) (_:w M K0) (_:∀ts M' G' J H',K0 ts M'->Rel K F G' ta M' σ H'->Same G G'->ItOk K G' J ts->R J H'):LI K F w σ H R
theorem PI.imp {tg e:Expr}{t t':TI}(h:PI X tg e t)(i:∀ σ H Q,t' σ H Q->t σ H Q):PI X tg e t':=fun pins s σ H R I q=>h pins s σ H R I (i σ H R q)
def Ztr (K:W.Frag)(tl:TE):TI:=fun σ H R=>tl σ H fun x H1=>∃a,x = .ref a/\(((∃xs,SqL K H1 a xs)/\R (Itl K a) H1)∨((∃xs,SqT K H1 a xs)/\R (Itt K a) H1))
theorem Zf3 {tg l:Expr}{tl:TE}(hl:PE X l tl):PI X tg l (Ztr X.K tl):=by
 intro pins s σ H R I h
 refine thn (hl pins s σ H _ I h) fun v s1 ⟨x,H1,I1,r1,q1⟩=>?_
 obtain⟨a,e,q1⟩:=q1
 subst e
 cases r1
 have fp:∀b ∈ [s1.heap.objs.size],Z68 X pins H1 b:=fun b hb=>by
  have e:b=s1.heap.objs.size:=by simpa using hb
  subst e
  exact I1.fpOk (Nat.le_refl _) (I1.hok.fresh (Nat.le_refl _))
 rcases q1 with ⟨⟨xs,hq⟩,q⟩|⟨⟨xs,hq⟩,q⟩
 ·obtain⟨its,rv,p,hz⟩:=I1.list hq
  refine wpAny_pyIter_list p.isList ?_
  exact⟨s1.heap.objs.size,[s1.heap.objs.size],_,_,H1,rfl,I1.kept (t':=s1.toks) fun b o e=>Heap.get?_push_of_some _ e,Ze3 a _,⟨_,Heap.get?_push_size _ rfl,rfl,rfl⟩,fp,q⟩
 ·obtain⟨its,rv,p,hz⟩:=I1.tuple hq
  refine wpAny_pyIter_tuple (show s1.heap.IsTuple a its.toArray from p) ?_
  exact⟨s1.heap.objs.size,[s1.heap.objs.size],_,_,H1,rfl,I1.kept (t':=s1.toks) fun b o e=>Heap.get?_push_of_some _ e,Zcm a _,⟨_,Heap.get?_push_size _ rfl,rfl,rfl⟩,fp,q⟩
def Zwq:Tv->Option (List Tv)
 | .tup l=>some l
 | .lst l=>some l
 | .ktp l=>some l
 |_=>none
def wIt (wa:TW):TWF:=fun M k=>wa M fun ev M1=>Zez (Z6u M.tmp.length M1 ev) fun t M2=>bnd (Zwq t) fun ts=>k ts M2
theorem LI.seq {wa:TW}{σ:St}{H:Hp}{R:It->Hp->Prop}:LI X.K F (wIt wa) σ H R->Ztr X.K (LE X.K F wa) σ H R:=fun⟨G,ta,M,K0,R0,k,q⟩=>by
 refine⟨G,ta,M,_,R0,k,fun ev M1 G1 t1 v H1 k1 R1 s1 e1=>?_⟩
 obtain⟨t,M2,h2,k1⟩:=Z0n k1
 obtain⟨ts,h3,k1⟩:=Z00 k1
 obtain⟨G2,R2,s2,s2',t2⟩:=R1.frz R0.lt s1 e1 h2
 cases t2 with
 | «at» f => cases h3
 |dic h r=>cases h3
 |scr h r=>cases h3
 |fnv=>cases h3
 | @ktp a vs _ h r=>
  cases h3
  refine⟨a,rfl,.inr ⟨⟨vs,R2.sub.tup h⟩,q _ _ G2 _ H1 k1 R2 s2.g ⟨fun i G' H' z1 z2 hi=>?_,fun G' H' z1 z2=>⟨vs,(z1.trans z2).tup h,by rw[r.len];exact Nat.le_refl _⟩,fun i u G' H' x H'' z1 z2 hu hy=>?_⟩⟩⟩
  ·obtain⟨x,hx,_⟩:=r.get (List.getElem?_eq_getElem hi)
   exact⟨vs,x,(z1.trans z2).tup h,hx⟩
  ·obtain⟨rfl,hy⟩:=hy
   obtain⟨x',hx,hx'⟩:=r.get hu
   have:=hy vs ((z1.trans z2).tup h)
   rw[hx] at this;cases this
   exact⟨G',Same.refl _,z2,Same.refl _,fun _ _ e=>.inl e,hx'.mono z1⟩
 | @tup a vs _ h r=>
  cases h3
  refine⟨a,rfl,.inr ⟨⟨vs,SqT.of (R2.sub _ _ h)⟩,q _ _ G2 _ H1 k1 R2 s2.g ⟨fun i G' H' z1 z2 hi=>?_,fun G' H' z1 z2=>⟨vs,SqT.of ((z1.trans z2) _ _ h),by rw[r.len];exact Nat.le_refl _⟩,fun i u G' H' x H'' z1 z2 hu hy=>?_⟩⟩⟩
  ·obtain⟨x,hx,_⟩:=r.get (List.getElem?_eq_getElem hi)
   exact⟨vs,x,SqT.of ((z1.trans z2) _ _ h),hx⟩
  ·obtain⟨rfl,hy⟩:=hy
   obtain⟨x',hx,hx'⟩:=r.get hu
   have:=hy vs (SqT.of ((z1.trans z2) _ _ h))
   rw[hx] at this;cases this
   exact⟨G',Same.refl _,z2,Same.refl _,fun _ _ e=>.inl e,hx'.mono z1⟩
 | @lst a vs _ h r=>
  cases h3
  refine⟨a,rfl,.inl ⟨⟨vs,SqL.of (R2.sub _ _ h)⟩,q _ _ G2 _ H1 k1 R2 s2.g ⟨fun i G' H' z1 z2 hi=>?_,fun G' H' z1 z2=>⟨vs,SqL.of ((z1.trans z2) _ _ h),by rw[r.len];exact Nat.le_refl _⟩,fun i u G' H' x H'' z1 z2 hu hy=>?_⟩⟩⟩
  ·obtain⟨x,hx,_⟩:=r.get (List.getElem?_eq_getElem hi)
   exact⟨vs,x,SqL.of ((z1.trans z2) _ _ h),hx⟩
  ·obtain⟨rfl,hy⟩:=hy
   obtain⟨x',hx,hx'⟩:=r.get hu
   have:=hy vs (SqL.of ((z1.trans z2) _ _ h))
   rw[hx] at this;cases this
   exact⟨G',Same.refl _,z2,Same.refl _,fun _ _ e=>.inl e,hx'.mono z1⟩
def Z2n (p:Tv->Ms->Option Ms)(b:TWS)(P:PD):List Tv->Ms->Prop
 |[],M=>P.nx M
 |t::ts,M=>bnd (p t M) fun M1=>b { nx:=Z2n p b P ts,ct:=Z2n p b P ts,bk:=P.nx,rt:=P.rt } M1
def Zvp (wi:TWF)(p:Tv->Ms->Option Ms)(b:TWS):TWS:=fun P M=>wi M fun ts M1=>Z2n p b P ts M1
theorem Z7k {α : Type}{l:List α}{i:Nat}{x : α}(h:l[i]? = some x):l.drop i=x::l.drop (i+1):=by
 have hi:=(List.getElem?_eq_some_iff.mp h).1
 rw[drop_eq_getElem_cons hi]
 congr 1
 exact(List.getElem?_eq_some_iff.mp h).2
theorem LS.for {wi:TWF}{p:Tv->Ms->Option Ms}{b:TWS}{D:Ends}{σ:St}{H:Hp}:LS X.K F (Zvp wi p b) D σ H->Zv4 (LI X.K F wi) (LG X.K F p) (LS X.K F b) D σ H:=fun⟨G,M,P,R,k,ok⟩=>by
 refine⟨G,[],M,_,R,k,fun ts M1 G1 J H1 k1 R1 s1 io=>?_⟩
 refine⟨fun i m σ H=>m+i=ts.length/\∃G' M,Rel X.K F G' [] M σ H/\Same G1 G'/\Z2n p b P (ts.drop i) M,⟨ts.length,by lia,G1,M1,R1,Same.refl _,k1⟩,?_⟩
 rintro i m σ2 H2 ⟨hm,G2,M2,R2,s2,k2⟩
 rcases Nat.lt_or_ge i ts.length with hi|hi
 ·right
  refine⟨io.go i G2 H2 s2 R2.sub hi,fun σ' H'=>∃m',m'<m/\m'+(i+1)=ts.length/\∃G' M,Rel X.K F G' [] M σ' H'/\Same G1 G'/\Z2n p b P (ts.drop (i+1)) M,fun σ' H' h=>h,fun x H' hy=>?_⟩
  have ht:=List.getElem?_eq_getElem hi
  obtain⟨G3,z1,z2,z3,z4,z5⟩:=io.yld i _ G2 H2 x H' s2 R2.sub ht hy
  have R3:=R2.more z1 z2 z3 z4
  rw[Z7k ht] at k2
  obtain⟨M3,e3,k2⟩:=Z00 k2
  refine⟨G3,M2,_,M3,R3,z5,e3,fun σ4 R4=>⟨G3,M3,_,R4,k2,fun M5 G5 σ5 H5 k5 R5 s5=>?_,fun ev M5 G5 t5 σ5 v H5 k5 R5 s5 e5=>ok.rt ev M5 G5 t5 σ5 v H5 k5 R5 (s1.trans (s2.trans (z1.trans s5))) e5,fun M5 G5 σ5 H5 k5 R5 s5=>ok.nx M5 G5 σ5 H5 k5 R5 (s1.trans (s2.trans (z1.trans s5))),fun M5 G5 σ5 H5 k5 R5 s5=>?_⟩⟩
  ·exact⟨m-1,by lia,by lia,G5,M5,R5,s2.trans (z1.trans s5),k5⟩
  ·exact⟨m-1,by lia,by lia,G5,M5,R5,s2.trans (z1.trans s5),k5⟩
 ·left
  rw[drop_eq_nil_of_le hi] at k2
  have hi':i=ts.length:=by lia
  subst hi'
  exact⟨io.stop G2 H2 s2 R2.sub,ok.nx M2 G2 σ2 H2 k2 R2 (s1.trans s2)⟩
def Zvq (p:Tv->Ms->Option Ms)(wa:TW):TWS:=fun P M=>wa M fun ev M1=>Zez (Z6u 0 M1 ev) fun t M2=>bnd (p t M2) P.nx
theorem LS.asgP {p:Tv->Ms->Option Ms}{wa:TW}{D:Ends}{σ:St}{H:Hp}:LS X.K F (Zvq p wa) D σ H->Zot (LE X.K F wa) (LG X.K F p) D σ H:=fun⟨G,M,P,R,k,ok⟩=>by
 refine⟨G,[],M,_,R,k,fun ev M1 G1 t1 v H1 k1 R1 s1 e1=>?_⟩
 obtain⟨t,M2,h2,k1⟩:=Z0n k1
 obtain⟨M3,h3,k1⟩:=Z00 k1
 have h2':Z6u M.tmp.length M1 ev=some (t,M2):=by rw[R.lt];exact h2
 obtain⟨G2,R2,s2,s2',t2⟩:=R1.frz R.lt s1 e1 h2'
 exact⟨G2,M2,t,M3,R2,t2,h3,fun σ' R'=>ok.nx M3 G2 σ' H1 k1 R' s2.g⟩
end
def Z03 (p:Tv->Ms->Option Ms)(wt:TWT)(we:TW)(k:List Tv->Ms->Prop):List Tv->List Tv->Ms->Prop
 |[],ys,M=>k ys M
 |t::ts,ys,M=>bnd (p t M) fun M1=>wt M1 fun b M2=>if b=true then we M2 fun ev M3=>Zez (Z6u 0 M3 ev) fun y M4=>Z03 p wt we k ts (ys ++ [y]) M4 else Z03 p wt we k ts ys M2
def Z9b (M:Ms):List Nat->Option (List Ev)
 |[]=>some []
 |i::r=>match Z7h M i,Z9b M r with
  |some e,some es=>some (e::es)
  |_,_=>none
def Zm2 (caps:List Nat)(own:Nat)(wi:TWF)(p:Tv->Ms->Option Ms)(wt:TWT)(we:TW):TW:=fun M k=>wi M fun ts M1=>ts.length<=16777216/\bnd (Z9b M1 caps) fun evs=>bnd (Z6v M1.tmp.length M1 evs) fun rs=>Zkn rs=true ∧
 Z03 p wt we (fun ys Mb=>bnd (Z0z (rs.map (·.1)) Mb.out) fun ss=>Zqn M1.tmp.length (wb M1 rs ss) k (.own (.lst ys))) ts [] (Z09 (caps.length+own) (rs.map (·.1)))
inductive LEx (K:W.Frag)(w:TW)(σ:St)(H:Hp)(Q:VK):Prop
 |mk (F:_) (_:LE K F w σ H Q):LEx K w σ H Q
inductive LBx (K:W.Frag)(w:TWT)(σ:St)(H:Hp)(Q:(Bool->Hp->Prop)):Prop
 |mk (F:_) (_:LB K F w σ H Q):LBx K w σ H Q
inductive LGx (K:W.Frag)(b:Tv->Ms->Option Ms)(v:V)(σ:St)(H:Hp)(Q:(St->Hp->Prop)):Prop
 |mk (F:_) (_:LG K F b v σ H Q):LGx K b v σ H Q
section
variable {X:Cx}{F:Fr}
theorem PE.all {e:Expr}{w:TW}(h:∀F,PE X e (LE X.K F w)):PE X e (LEx X.K w):=fun pins s σ H Q I ⟨F,q⟩=>h F pins s σ H Q I q
theorem PTs.all {e:List Expr}{w:TWT}(h:∀F,PTs X e (LB X.K F w)):PTs X e (LBx X.K w):=fun pins s σ H Q I ⟨F,q⟩=>h F pins s σ H Q I q
theorem PG.all {e:Expr}{b:Tv->Ms->Option Ms}(h:∀F,PG X e (LG X.K F b)):PG X e (LGx X.K b):=fun pins s σ H v u Q I r ⟨F,q⟩=>h F pins s σ H v u Q I r q
theorem Rel.vars {K:W.Frag}{G H:Hp}{ta:List Addr}{M:Ms}{σ:St}(R:Rel K F G ta M σ H):∀{caps:List Nat} {evs:List Ev},Z9b M caps=some evs->∃vs,caps.map (fun j=>(σ[j]?).getD none)=vs.map some/\EvsOk K F G ta σ evs vs
 |[],_,e=>by cases e;exact⟨[],rfl,.nil⟩
 |i::r,_,e=>by
  simp only [Z9b] at e
  split at e
  ·next x xs e1 e2=>
   cases e
   obtain⟨v,h1,h2⟩:=R.var e1
   obtain⟨vs,h3,h4⟩:=R.vars e2
   exact⟨v::vs,by rw[map_cons,map_cons,h1,h3];rfl,.cons h2 h4⟩
  ·cases e
theorem Zbo {σ:St}{caps:List Nat}{m:Nat}:Z6q (caps.map some++List.replicate m none) σ=caps.map (fun j=>(σ[j]?).getD none)++List.replicate m none:=by
 unfold Z6q
 rw[map_append,map_map,List.map_replicate];rfl
theorem Zbp {N:List Str}{vs:List V}:Z2m N vs=vs.map some++List.replicate (N.length-vs.length) none:=rfl
theorem LE.comp {N':List Str}{caps:List Nat}{m:Nat}{wi:TWF}{p:Tv->Ms->Option Ms}{wt:TWT}{we:TW}(hN:N'.length=caps.length+m){σ:St}{H:Hp}{Q:VK}:
  LE X.K F (Zm2 caps m wi p wt we) σ H Q->Zi2 (caps.map some++List.replicate m none) (LI X.K F wi) (LGx X.K p) (LBx X.K wt) (LEx X.K we) σ H Q:=fun⟨G,ta,M,K0,R,k,q⟩=>by
 refine⟨G,ta,M,_,R,k,fun ts M1 G1 J H1 k1 R1 s1 io=>?_⟩
 obtain⟨hts,k1⟩:=k1
 obtain⟨evs,h1,k1⟩:=Z00 k1
 obtain⟨rs,h2,ok,k1⟩:=Z00 k1
 obtain⟨vs,e1,e2⟩:=R1.vars h1
 obtain⟨as,g1,g2,g3,g4⟩:=R1.args e2 h2 ok
 have hvl:vs.length=caps.length:=by have:=congrArg List.length e1;simpa using this.symm
 have hal:(rs.map (·.1)).length=caps.length:=by rw[<- g2.len,hvl]
 have st:Z6q (caps.map some++List.replicate m none) σ=Z2m N' vs:=by
  rw[Zbo,e1,Zbp,hN,hvl]
  congr 2;lia
 have E:=Z55 (N:=N') R1.sub g2 g3 (by rw[hal,hN];lia)
 rw[hN] at E
 rw[st]
 refine⟨fun i n ys σc H=>n+i=ts.length/\ys.length<=i/\∃Gc Mb tys,Rel X.K ⟨H1,G1,as⟩ Gc [] Mb σc H/\IsTs X.K Gc ys tys/\Same G1 Gc/\Z03 p wt we (fun ys Mb=>bnd (Z0z (rs.map (·.1)) Mb.out) fun ss=>Zqn M1.tmp.length (wb M1 rs ss) K0 (.own (.lst ys))) (ts.drop i) tys Mb,
  ⟨ts.length,by lia,Nat.zero_le _,G1,_,[],E,.nil,Same.refl _,k1⟩,?_⟩
 rintro i n ys σc H2 ⟨hn,hyl,G2,Mb,tys,R2,hy,s2,k2⟩
 rcases Nat.lt_or_ge i ts.length with hi|hi
 ·right
  refine⟨io.go i G2 H2 s2 R2.sub hi,by rw[sizeLine_eq];lia,fun x H' hx=>?_⟩
  have ht:=List.getElem?_eq_getElem hi
  obtain⟨G3,z1,z2,z3,z4,z5⟩:=io.yld i _ G2 H2 x H' s2 R2.sub ht hx
  have R3:=R2.more z1 z2 z3 z4
  rw[Z7k ht] at k2
  obtain⟨M3,e3,k2⟩:=Z00 k2
  refine⟨_,G3,Mb,_,M3,R3,z5,e3,fun σ4 R4=>⟨_,G3,[],M3,_,R4,k2,fun b M5 G5 H5 k5 R5 s5=>?_⟩⟩
  cases b with
  |true=>
   refine⟨_,G5,[],M5,_,R5,k5,fun ev M6 G6 t6 v H6 k6 R6 s6 e6=>?_⟩
   obtain⟨t,M7,h7,k6⟩:=Z0n k6
   have l5:M5.tmp.length=0:=R5.lt
   have h7':Z6u M5.tmp.length M6 ev=some (t,M7):=by rw[l5];exact h7
   obtain⟨G7,R7,s7,s7',t7⟩:=R6.frz R5.lt s6 e6 h7'
   exact⟨n-1,by lia,by lia,by simp;lia,G7,M7,_,R7,(hy.mono (z1.trans (s5.trans s7.g))).app (.cons t7 .nil),s2.trans (z1.trans (s5.trans s7.g)),k6⟩
  |false=>exact⟨n-1,by lia,by lia,by lia,G5,M5,tys,R5,hy.mono (z1.trans s5),s2.trans (z1.trans s5),k5⟩
 ·left
  have hi':i=ts.length:=by lia
  refine⟨by rw[hi'];exact io.stop G2 H2 s2 R2.sub,fun l hl=>?_⟩
  rw[drop_eq_nil_of_le hi] at k2
  obtain⟨ss,e3,k2⟩:=Z00 k2
  have lt1:M1.tmp.length=ta.length:=R1.lt
  rw[lt1] at g4 k2
  have R1':Rel X.K F G1 (ta ++ []) M1 σ H1:=by rw[append_nil];exact R1
  have g1':RAs F (ta ++ []) σ M1 rs vs as:=by rw[append_nil];exact g1
  have B:=R1'.back g1' (R2.aps g2 e3) R2.post g4
  have B2:=B.1.push (o:=.lst tys) hl (H':=upd H2 l (.lst ys)) (fun b x e=>by rw[Z04 (Z0b e hl)];exact e) ⟨ys,Z08,hy⟩
  refine q _ _ G2 (ta ++ [l]) _ _ k2 (by rw[Z99];exact B2) ⟨s1.trans s2,[l],rfl⟩ ⟨l,?_,rfl⟩
  rw[List.getElem?_append_right (Nat.le_refl _)];simp
end
section
variable {K:W.Frag}{G H:Hp}{v x y:V}{Q:VK}
theorem IsR.at {u:V}(h:IsR K G H v (.at u)):v=u/\okA u=true:=by
 rcases h with h|⟨a,o,rfl,e,h⟩
 ·cases h with | «at» f => exact ⟨rfl, f⟩
 ·cases o <;> cases e
theorem IsR.lst {l:List Tv}(s:Same G H)(h:IsR K G H v (.lst l)):∃a vs,v = .ref a/\H a=some (.lst vs)/\IsTs K G vs l:=by
 rcases h with h|⟨a,o,rfl,e,h⟩
 ·cases h with|lst h r=>exact⟨_,_,rfl,s _ _ h,r⟩
 ·cases o with
  |lst l'=>cases e;obtain⟨vs,e,r⟩:=h;exact⟨a,vs,rfl,e,r⟩
  |dic l'=>cases e
theorem IsR.tup {l:List Tv}(s:Same G H)(h:IsR K G H v (.tup l)):∃a vs,v = .ref a/\H a=some (.tup vs)/\IsTs K G vs l:=by
 rcases h with h|⟨a,o,rfl,e,h⟩
 ·cases h with|tup h r=>exact⟨_,_,rfl,s _ _ h,r⟩
 ·cases o <;> cases e
theorem IsR.ktp {l:List Tv}(s:Same G H)(h:IsR K G H v (.ktp l)):∃a vs,v = .ref a/\SqT K H a vs/\IsTs K G vs l:=by
 rcases h with h|⟨a,o,rfl,e,h⟩
 ·cases h with|ktp h r=>exact⟨_,_,rfl,s.tup h,r⟩
 ·cases o <;> cases e
theorem IsR.dic {l:List (Key×Tv)}(s:Same G H)(h:IsR K G H v (.dic l)):∃a kvs,v = .ref a/\H a=some (.dK kvs)/\IsKs K G kvs l:=by
 rcases h with h|⟨a,o,rfl,e,h⟩
 ·cases h with|dic h r=>exact⟨_,_,rfl,s _ _ h,r⟩
 ·cases o with
  |dic l'=>cases e;obtain⟨vs,e,r⟩:=h;exact⟨a,vs,rfl,e,r⟩
  |lst l'=>cases e
theorem IsR.scr {l:List Tv}(s:Same G H)(h:IsR K G H v (.scr l)):∃a vs,v = .ref a/\SqL K H a vs/\IsTs K G vs l:=by
 rcases h with h|⟨a,o,rfl,e,h⟩
 ·cases h with|scr h r=>exact⟨_,_,rfl,s.seq h,r⟩
 ·cases o <;> cases e
def rOr (r r':R2):R2:=fun x y H Q=>r x y H Q∨r' x y H Q
def vI (i:Int):Rs:=.v (.at (.int i))
def vB (b:Bool):Rs:=.v (.at (.bl b))
def vS (x:Str):Rs:=.v (.at (.str x))
def Zss:Tv->Tv->Rz
 | .at (.int i),.at (.int j)=>.ok (vI (i+j))
 | .at (.str i),.at (.str j)=>.cd (i.length+j.length<=16777216) (vS (i++j))
 | .lst l,.lst m=>.cd (l.length+m.length<=16777216) (.n (.lst (l++m)))
 | .tup l,.tup m=>.cd (l.length+m.length<=16777216) (.v (.tup (l++m)))
 |_,_=>.no
def Zf4:R2:=fun x y H Q=>∃i j,x = .str i/\y = .str j/\i.length+j.length<=sizeLine/\Q (.str (i++j)) H
def Zqo (K:W.Frag):R2:=rOr (rI0 fun i j=>.int (i+j)) (rOr Zf4 (rOr rCat rCatP))
theorem Zm3 {X:Cx}:OpR X (binaryOp .Add) (Zqo X.K):=op_add.or (OpR.or (r:=Zf4) Zcq (op_cat.or Zlw))
theorem Z24 {i j:Str}:(i++j).length=i.length+j.length:=by
 show(Str.mk (i.cps++j.cps)).cps.size=i.cps.size+j.cps.size
 simp
theorem Zm4:Z0t K Zss (Zqo K):=fun G H x y t u s Q sm h1 h2 e q=>by
 have hz:=sizeLine_eq
 unfold Zss at e
 split at e
 ·next i j=>
  cases e
  obtain⟨rfl,_⟩:=h1.at;obtain⟨rfl,_⟩:=h2.at
  exact .inl ⟨i,j,rfl,rfl,Z0l sm (.at rfl) q⟩
 ·next i j=>
  cases e with|cd hl=>
  obtain⟨rfl,_⟩:=h1.at;obtain⟨rfl,_⟩:=h2.at
  exact .inr (.inl ⟨i,j,rfl,rfl,by rw[hz];exact hl,Z0l sm (.at (by show decide _=true;rw[Z24];exact decide_eq_true hl)) q⟩)
 ·next l m=>
  cases e with|cd hl=>
  obtain⟨a,vs,rfl,e1,r1⟩:=h1.lst sm;obtain⟨b,ws,rfl,e2,r2⟩:=h2.lst sm
  exact .inr (.inr (.inl ⟨a,b,vs,ws,rfl,rfl,e1,e2,by rw[hz,r1.len,r2.len];exact hl,Z23 (r1.app r2) q⟩))
 ·next l m=>
  cases e with|cd hl=>
  obtain⟨a,vs,rfl,e1,r1⟩:=h1.tup sm;obtain⟨b,ws,rfl,e2,r2⟩:=h2.tup sm
  exact .inr (.inr (.inr ⟨a,b,vs,ws,rfl,rfl,e1,e2,by rw[hz,r1.len,r2.len];exact hl,fun p H' sH sq=>Z4o sm sH sq (r1.app r2) q⟩))
 ·cases e
def Zow (C:Int->Int->Prop)(g:Int->Int->V):Tv->Tv->Rz
 | .at (.int i),.at (.int j)=>.cd (C i j) (.v (.at (g i j)))
 |_,_=>.no
theorem Z7l {C:Int->Int->Prop}{g:Int->Int->V}(hg:∀i j,okA (g i j)=true):Z0t K (Zow C g) (rI C g):=fun G H x y t u s Q sm h1 h2 e q=>by
 unfold Zow at e
 split at e
 ·next i j=>
  cases e with|cd c=>
  obtain⟨rfl,_⟩:=h1.at;obtain⟨rfl,_⟩:=h2.at
  exact⟨i,j,rfl,rfl,c,Z0l sm (.at (hg i j)) q⟩
 ·cases e
def Zad (g:Int->Int->V):Tv->Tv->Rz
 | .at (.int i),.at (.int j)=>.ok (.v (.at (g i j)))
 |_,_=>.no
theorem Z37 {g:Int->Int->V}(hg:∀i j,okA (g i j)=true):Z0t K (Zad g) (rI0 g):=fun G H x y t u s Q sm h1 h2 e q=>by
 unfold Zad at e
 split at e
 ·next i j=>
  cases e
  obtain⟨rfl,_⟩:=h1.at;obtain⟨rfl,_⟩:=h2.at
  exact⟨i,j,rfl,rfl,Z0l sm (.at (hg i j)) q⟩
 ·cases e
def Zst (g:Str->Str->Bool):Tv->Tv->Rz
 | .at (.str i),.at (.str j)=>.ok (vB (g i j))
 |_,_=>.no
def orT (f g:Tv->Tv->Rz):Tv->Tv->Rz:=fun t u=>match f t u with | .no=>g t u|z=>z
theorem Z9c {f g:Tv->Tv->Rz}{r r':R2}(h:Z0t K f r)(h':Z0t K g r'):Z0t K (orT f g) (rOr r r'):=fun G H x y t u s Q sm h1 h2 e q=>by
 unfold orT at e
 split at e
 ·exact .inr (h' G H x y t u s Q sm h1 h2 e q)
 ·exact .inl (h G H x y t u s Q sm h1 h2 e q)
theorem Zf5 {g:Str->Str->Bool}:Z0t K (Zst g) (fun x y H Q=>∃i j,x = .str i/\y = .str j/\Q (.bl (g i j)) H):=fun G H x y t u s Q sm h1 h2 e q=>by
 unfold Zst at e
 split at e
 ·next i j=>
  cases e
  obtain⟨rfl,_⟩:=h1.at;obtain⟨rfl,_⟩:=h2.at
  exact⟨i,j,rfl,rfl,Z0l sm (.at rfl) q⟩
 ·cases e
def Zm5:Tv->Tv->Rz
 | .at (.bl b),.at (.bl c)=>.ok (vB (!decide (b=c)))
 |_,_=>.no
def rIsntB:R2:=fun x y H Q=>∃b c,x = .bl b/\y = .bl c/\Q (.bl (!decide (b=c))) H
theorem Zig:Z0t K Zm5 rIsntB:=fun G H x y t u s Q sm h1 h2 e q=>by
 unfold Zm5 at e
 split at e
 ·next b c=>
  cases e
  obtain⟨rfl,_⟩:=h1.at;obtain⟨rfl,_⟩:=h2.at
  exact⟨b,c,rfl,rfl,Z0l sm (.at rfl) q⟩
 ·cases e
def Zts:Tv->Tv->Rz
 | .at (.bl b),.at (.bl c)=>.ok (vB (decide (b=c)))
 |_,_=>.no
def rIsB:R2:=fun x y H Q=>∃b c,x = .bl b/\y = .bl c/\Q (.bl (decide (b=c))) H
theorem Zm6:Z0t K Zts rIsB:=fun G H x y t u s Q sm h1 h2 e q=>by
 unfold Zts at e
 split at e
 ·next b c=>
  cases e
  obtain⟨rfl,_⟩:=h1.at;obtain⟨rfl,_⟩:=h2.at
  exact⟨b,c,rfl,rfl,Z0l sm (.at rfl) q⟩
 ·cases e
def Zsu (neg:Bool):Tv->Tv->Rz
 | .at v,.at .non=>.ok (vB (xor neg (decide (v = .non))))
 | .tup _,.at .non=>.ok (vB neg)
 | .lst _,.at .non=>.ok (vB neg)
 | .ktp _,.at .non=>.ok (vB neg)
 | .fnv _,.at .non=>.ok (vB neg)
 |_,_=>.no
def Ztt (neg:Bool):R2:=fun x y H Q=>y = .non/\Q (.bl (xor neg (decide (x = .non)))) H
theorem Zf6 {neg:Bool}:Z0t K (Zsu neg) (Ztt neg):=fun G H x y t u s Q sm h1 h2 e q=>by
 unfold Zsu at e
 split at e
 ·next v=>cases e;obtain⟨rfl,_⟩:=h1.at;obtain⟨rfl,_⟩:=h2.at;exact⟨rfl,Z0l sm (.at rfl) q⟩
 ·next l=>
  cases e;obtain⟨a,vs,rfl,_⟩:=h1.tup sm;obtain⟨rfl,_⟩:=h2.at
  exact⟨rfl,by have:=Z0l sm (.at rfl) q;simpa using this⟩
 ·next l=>
  cases e;obtain⟨a,vs,rfl,_⟩:=h1.lst sm;obtain⟨rfl,_⟩:=h2.at
  exact⟨rfl,by have:=Z0l sm (.at rfl) q;simpa using this⟩
 ·next l=>
  cases e;obtain⟨rfl,_⟩:=h2.at
  obtain⟨a,rfl⟩:∃a,x = .ref a:=by
   rcases h1 with h1|⟨a,o,rfl,_⟩
   ·cases h1;exact⟨_,rfl⟩
   ·exact⟨a,rfl⟩
  exact⟨rfl,by have:=Z0l sm (.at rfl) q;simpa using this⟩
 ·next l=>
  cases e;obtain⟨rfl,_⟩:=h2.at
  obtain⟨a,rfl⟩:∃a,x = .ref a:=by
   rcases h1 with h1|⟨a,o,rfl,_⟩
   ·cases h1;exact⟨_,rfl⟩
   ·exact⟨a,rfl⟩
  exact⟨rfl,by have:=Z0l sm (.at rfl) q;simpa using this⟩
 ·cases e
def eqT (neg:Bool):Tv->Tv->Rz
 | .at a,.at b=>match Zt8 a b with
  |true=>.ok (vB (xor neg (decide (a=b))))
  |false=>.no
 |_,_=>.no
theorem Zqp:Z0t K (eqT false) rEq:=fun G H x y t u s Q sm h1 h2 e q=>by
 unfold eqT at e
 split at e
 ·next a b=>
  split at e
  ·next c=>
   cases e
   obtain⟨rfl,_⟩:=h1.at;obtain⟨rfl,_⟩:=h2.at
   exact⟨c,Z0l sm (.at rfl) (by simpa [vB] using q)⟩
  ·cases e
 ·cases e
theorem Zqq:Z0t K (eqT true) rNe:=fun G H x y t u s Q sm h1 h2 e q=>by
 unfold eqT at e
 split at e
 ·next a b=>
  split at e
  ·next c=>
   cases e
   obtain⟨rfl,_⟩:=h1.at;obtain⟨rfl,_⟩:=h2.at
   exact⟨c,Z0l sm (.at rfl) (by simpa [vB] using q)⟩
  ·cases e
 ·cases e
def unA:Tv->V
 | .at v=>v
 |_=>.non
def flatL (l:List Tv):Prop:=∀t∈l,∃v,t = .at v/\Z1k v=true
theorem flatL.is {l:List Tv}(f:flatL l):∀{vs:List V},IsTs K G vs l->vs=l.map unA/\vs.all Z1k=true:=by
 induction l with
 |nil=>intro vs h;cases h;exact⟨rfl,rfl⟩
 |cons t l ih=>
  intro vs h
  cases h with
  | @cons v vs _ _ h1 h2=>
   obtain⟨u,rfl,fu⟩:=f t mem_cons_self
   obtain⟨e,g⟩:=ih (fun x hx=>f x (mem_cons_of_mem _ hx)) h2
   cases h1
   exact⟨by rw[map_cons,<- e];rfl,by simp [all_cons,fu,g]⟩
def eqL (neg:Bool):Tv->Tv->Rz
 | .lst l,.lst m=>.cd (flatL l/\flatL m) (vB (xor neg (Zkh (l.map unA) (m.map unA))))
 |_,_=>.no
def Ztu (K:W.Frag)(neg:Bool):R2:=fun x y H Q=>∃a b xs ys,x = .ref a/\y = .ref b/\SqL K H a xs/\SqL K H b ys/\xs.all Z1k=true/\ys.all Z1k=true/\Q (.bl (xor neg (Zkh xs ys))) H
theorem Zf7 {neg:Bool}:Z0t K (eqL neg) (Ztu K neg):=fun G H x y t u s Q sm h1 h2 e q=>by
 unfold eqL at e
 split at e
 ·next l m=>
  cases e with|cd c=>
  obtain⟨a,vs,rfl,k1,r1⟩:=h1.lst sm;obtain⟨b,ws,rfl,k2,r2⟩:=h2.lst sm
  obtain⟨rfl,f1⟩:=c.1.is r1;obtain⟨rfl,f2⟩:=c.2.is r2
  exact⟨a,b,_,_,rfl,rfl,.of k1,.of k2,f1,f2,Z0l sm (.at rfl) q⟩
 ·cases e
theorem Zqr {X:Cx}(hu:X.A.units<cLine):OpR X (compareOp .Eq) (Ztu X.K false):=fun pins s σ H x y v u Q I rx ry ⟨a,b,xs,ys,h1,h2,h3,h4,h5,h6,q⟩=>Zd0 hu pins s σ H x y v u Q I rx ry ⟨a,b,xs,ys,h1,h2,h3,h4,h5,h6,by simpa using q⟩
theorem Zqs {X:Cx}(hu:X.A.units<cLine):OpR X (compareOp .NotEq) (Ztu X.K true):=fun pins s σ H x y v u Q I rx ry ⟨a,b,xs,ys,h1,h2,h3,h4,h5,h6,q⟩=>Zd1 hu pins s σ H x y v u Q I rx ry ⟨a,b,xs,ys,h1,h2,h3,h4,h5,h6,by simpa using q⟩
def inT (neg:Bool):Tv->Tv->Rz
 | .at v,.lst l=>.cd (flatL l/\Z1k v=true) (vB (xor neg (inV v (l.map unA))))
 | .at v,.tup l=>.cd (flatL l/\Z1k v=true) (vB (xor neg (inV v (l.map unA))))
 | .at v,.ktp l=>.cd (flatL l/\Z1k v=true) (vB (xor neg (inV v (l.map unA))))
 |_,_=>.no
theorem Zko {neg:Bool}:Z0t K (inT neg) (rIn K neg):=fun G H x y t u s Q sm h1 h2 e q=>by
 unfold inT at e
 split at e
 ·next w l=>
  cases e with|cd c=>
  obtain⟨rfl,_⟩:=h1.at;obtain⟨b,ws,rfl,k2,r2⟩:=h2.lst sm
  obtain⟨rfl,f2⟩:=c.1.is r2
  have q':∀bb,bb=xor neg (inV x (l.map unA))->Q (.bl bb) H:=fun bb z=>by subst z;exact Z0l sm (.at rfl) q
  exact⟨b,_,rfl,.inl (.of k2),c.2,f2,q' _ (by cases neg <;> simp)⟩
 ·next w l=>
  cases e with|cd c=>
  obtain⟨rfl,_⟩:=h1.at;obtain⟨b,ws,rfl,k2,r2⟩:=h2.tup sm
  obtain⟨rfl,f2⟩:=c.1.is r2
  have q':∀bb,bb=xor neg (inV x (l.map unA))->Q (.bl bb) H:=fun bb z=>by subst z;exact Z0l sm (.at rfl) q
  exact⟨b,_,rfl,.inr (.of k2),c.2,f2,q' _ (by cases neg <;> simp)⟩
 ·next w l=>
  cases e with|cd c=>
  obtain⟨rfl,_⟩:=h1.at;obtain⟨b,ws,rfl,k2,r2⟩:=h2.ktp sm
  obtain⟨rfl,f2⟩:=c.1.is r2
  have q':∀bb,bb=xor neg (inV x (l.map unA))->Q (.bl bb) H:=fun bb z=>by subst z;exact Z0l sm (.at rfl) q
  exact⟨b,_,rfl,.inr k2,c.2,f2,q' _ (by cases neg <;> simp)⟩
 ·cases e
def ofO:Option Tv->Rz
 |some t=>.ok (.v t)
 |none=>.no
theorem ZH.ofO {o:Option Tv}{s:Rs}(h:ZH (L2.ofO o) s):∃t,o=some t/\s = .v t:=by
 cases o with
 |none=>cases h
 |some t=>cases h;exact⟨t,rfl,rfl⟩
def Z8i {α : Type}(l:List α):Int->Option α
 | .ofNat j=>l[j]?
 | .negSucc j=>if j<l.length then l[l.length-(j+1)]? else none
theorem Zae {α : Type}(l:List α)(i:Int):Z8i l i=atI l i:=by
 unfold Z8i atI ixN
 cases i with
 |ofNat j=>
  simp only [Int.ofNat_eq_natCast,Int.natCast_nonneg,if_true]
  by_cases h:j<l.length
  ·rw[if_pos (by lia)];simp
  ·rw[if_neg (by lia)];simp;lia
 |negSucc j=>
  have h0:¬ (0:Int)<=Int.negSucc j:=by lia
  by_cases h:j<l.length
  ·have h1 : -(l.length:Int)<=Int.negSucc j:=by lia
   have h2:(Int.negSucc j+(l.length:Int)).toNat=l.length-(j+1):=by lia
   simp only [if_neg h0,if_pos h,if_pos h1,h2];rfl
  ·have h1:¬ -(l.length:Int)<=Int.negSucc j:=by lia
   simp only [if_neg h0,if_neg h,if_neg h1];rfl
def ixT:Tv->Tv->Rz
 | .lst l,.at (.int i)=>ofO (Z8i l i)
 | .tup l,.at (.int i)=>ofO (Z8i l i)
 | .at (.str x),.at (.int i)=>ofO ((Z8i x.cps.toList i).map fun c=>.at (.str ⟨#[c]⟩))
 |_,_=>.no
theorem IsTs.atI {vs:List V}{ts:List Tv}{i:Int}{t:Tv}(r:IsTs K G vs ts)(h:L2.atI ts i=some t):∃v,L2.atI vs i=some v/\IsT K G v t:=by
 unfold L2.atI at h ⊢
 rw[r.len]
 cases e:ixN ts.length i with
 |none=>rw[e] at h;cases h
 |some j=>rw[e] at h;exact r.get h
theorem Zqt:Z0t K ixT (rIx K):=fun G H x y t u s Q sm h1 h2 e q=>by
 have hz:=sizeLine_eq
 unfold ixT at e
 split at e
 ·next l i=>
  obtain⟨w,z,rfl⟩:=e.ofO
  rw[Zae] at z
  obtain⟨a,vs,rfl,k1,r1⟩:=h1.lst sm;obtain⟨rfl,_⟩:=h2.at
  obtain⟨v,e1,e2⟩:=r1.atI z
  exact .inl ⟨a,vs,i,v,rfl,rfl,.of k1,e1,Z0l sm e2 q⟩
 ·next l i=>
  obtain⟨w,z,rfl⟩:=e.ofO
  rw[Zae] at z
  obtain⟨a,vs,rfl,k1,r1⟩:=h1.tup sm;obtain⟨rfl,_⟩:=h2.at
  obtain⟨v,e1,e2⟩:=r1.atI z
  exact .inr (.inl ⟨a,vs,i,v,rfl,rfl,.of k1,e1,Z0l sm e2 q⟩)
 ·next w i=>
  obtain⟨w',z,rfl⟩:=e.ofO
  rw[Zae] at z
  cases z2:L2.atI w.cps.toList i with
  |none=>rw[z2] at z;cases z
  |some c=>
   rw[z2] at z;cases z
   obtain⟨rfl,f⟩:=h1.at;obtain⟨rfl,_⟩:=h2.at
   exact .inr (.inr ⟨w,i,c,rfl,rfl,by rw[hz];exact of_decide_eq_true f,z2,Z0l sm (.at rfl) q⟩)
 ·cases e
def Ztv:Tv->Rz
 | .lst l=>.ok (vI l.length)
 | .tup l=>.ok (vI l.length)
 | .dic l=>.ok (vI l.length)
 | .at (.str x)=>.ok (vI x.length)
 |_=>.no
def Zm7:Tv->Rz
 | .lst l=>.ok (.n (.lst l))
 | .tup l=>.ok (.n (.lst l))
 |_=>.no
def Zf8:Tv->Rz
 | .lst l=>.ok (.v (.tup l))
 | .tup l=>.ok (.v (.tup l))
 |_=>.no
def Zqu (K:W.Frag):V->Hp->VK->Prop:=fun x H Q=>(∃p ys,x = .ref p/\(SqL K H p ys∨SqT K H p ys)/\Q (.int ys.length) H)∨(∃z,x = .str z/\z.length<=sizeLine/\Q (.int z.length) H)∨∃a kvs,x = .ref a/\H a=some (.dK kvs)/\Q (.int kvs.length) H
theorem IsKs.len {vs:List (Key×V)}:∀{ts:List (Key×Tv)},IsKs K G vs ts->vs.length=ts.length:=by
 induction vs with
 |nil=>intro ts h;cases h;rfl
 |cons v vs ih=>intro ts h;cases h with|cons _ r=>simp [ih r]
theorem Zm8:Z4k K Ztv (Zqu K):=fun G H x t s Q sm h1 e q=>by
 have hz:=sizeLine_eq
 unfold Ztv at e
 split at e
 ·next l=>cases e;obtain⟨a,vs,rfl,k1,r1⟩:=h1.lst sm;exact .inl ⟨a,vs,rfl,.inl (.of k1),by rw[r1.len];exact Z0l sm (.at rfl) q⟩
 ·next l=>cases e;obtain⟨a,vs,rfl,k1,r1⟩:=h1.tup sm;exact .inl ⟨a,vs,rfl,.inr (.of k1),by rw[r1.len];exact Z0l sm (.at rfl) q⟩
 ·next l=>cases e;obtain⟨a,vs,rfl,k1,r1⟩:=h1.dic sm;exact .inr (.inr ⟨a,vs,rfl,k1,by rw[r1.len];exact Z0l sm (.at rfl) q⟩)
 ·next z=>cases e;obtain⟨rfl,f⟩:=h1.at;exact .inr (.inl ⟨z,rfl,by rw[hz];exact of_decide_eq_true f,Z0l sm (.at rfl) q⟩)
 ·cases e
theorem Zf9 {X:Cx}:Z2l X (.builtin "len") (fun xs H Q=>∃x,xs = [x]/\Zqu X.K x H Q):=fun pins s σ H xs us Q I r ⟨x,e,h⟩=>by
 subst e
 rcases h with ⟨p,ys,rfl,h,q⟩|⟨z,rfl,h,q⟩|⟨a,kvs,rfl,h,q⟩
 ·exact Z8t pins s σ H _ us Q I r ⟨p,ys,rfl,h,q⟩
 ·exact Z8u pins s σ H _ us Q I r ⟨z,rfl,h,q⟩
 ·exact Zeo pins s σ H _ us Q I r ⟨a,kvs,rfl,h,q⟩
def Zqv (K:W.Frag):V->Hp->VK->Prop:=fun x H Q=>∃p ys,x = .ref p/\(SqL K H p ys∨SqT K H p ys)/\∀l,H l=none->Q (.ref l) (upd H l (.lst ys))
theorem Zih:Z4k K Zm7 (Zqv K):=fun G H x t s Q sm h1 e q=>by
 unfold Zm7 at e
 split at e
 ·next l=>cases e;obtain⟨a,vs,rfl,k1,r1⟩:=h1.lst sm;exact⟨a,vs,rfl,.inl (.of k1),Z23 r1 q⟩
 ·next l=>cases e;obtain⟨a,vs,rfl,k1,r1⟩:=h1.tup sm;exact⟨a,vs,rfl,.inr (.of k1),Z23 r1 q⟩
 ·cases e
def Zm9 (K:W.Frag):V->Hp->VK->Prop:=fun x H Q=>∃p ys,x = .ref p/\((SqL K H p ys/\∀l,H l=none->Q (.ref l) (upd H l (.tup ys)))∨(SqT K H p ys/\Q (.ref p) H))
theorem Zfa:Z4k K Zf8 (Zm9 K):=fun G H x t s Q sm h1 e q=>by
 unfold Zf8 at e
 split at e
 ·next l=>cases e;obtain⟨a,vs,rfl,k1,r1⟩:=h1.lst sm;exact⟨a,vs,rfl,.inl ⟨.of k1,Zaa sm r1 q⟩⟩
 ·next l=>cases e;obtain⟨a,vs,rfl,k1,r1⟩:=h1.tup sm;exact⟨a,vs,rfl,.inr ⟨.of k1,Z4o sm (Same.refl _) k1 r1 q⟩⟩
 ·cases e
theorem Z4d {F:Fr}{wa:TW}{r:List V->Hp->VK->Prop}{r1:V->Hp->VK->Prop}(hr:∀x H Q,r1 x H Q->r [x] H Q){σ:St}{H:Hp}{Q:VK}:tUn r1 (LE K F wa) σ H Q->tCB r (Zcr (LE K F wa) tNil) σ H Q:=fun⟨G,ta,M,K0,R,k,q⟩=>
 ⟨G,ta,M,K0,R,k,fun ev M' G' t' v H' k' R' s' e'=>hr _ _ _ (q ev M' G' t' v H' k' R' s' e')⟩
end
def Z9x (M:Ms)(o:Ob):Rf->Ms
 | .loc i=>{ M with env:=M.env.set i (some (.own o)) }
 | .out k=>{ M with out:=M.out.set k (.own o) }
 | .tmp j=>{ M with tmp:=M.tmp.set j o }
def Zfb:Ev->Option Rf
 | .loc i=>some (.loc i)
 | .out k=>some (.out k)
 | .tmp j=>some (.tmp j)
 | .fz _=>none
section
variable {X:Cx}{K:W.Frag}{F:Fr}{G G' H H':Hp}{ta ta':List Addr}{M M':Ms}{σ σ':St}
theorem Rel.chg (R:Rel K F G ta M σ H){r:Rf}{o o':Ob}{a:Addr}(h1:Z01 M r=some o)(h2:adr F ta σ r=some a)(hH:∀b,b≠a->H' b=H b)(ok:ObOk K G H' a o'):Rel K F G ta (Z9x M o' r) σ H':=by
 obtain⟨b,e1,e2,e3⟩:=R.ob r o h1
 rw[h2] at e1;cases e1
 have notG:∀b x,G b=some x->b≠a:=fun b x e z=>by rw[z,e3] at e;cases e
 have nr:∀x u,Z01 (Z9x M o' r) x=some u->(x=r/\u=o')∨(x≠r/\Z01 M x=some u):=fun x u h=>by
  cases r with
  |loc i=>
   cases x with
   |loc j=>
    simp only [Z01,Z9x] at h
    cases q:(M.env.set i (some (.own o')))[j]? with
    |none=>simp [q] at h
    |some s=>
     rw[q] at h
     rcases Z0g q with ⟨rfl,rfl⟩|⟨z,q'⟩
     ·simp [slO] at h;exact .inl ⟨rfl,h.symm⟩
     ·exact .inr ⟨(fun e=>by cases e;exact z rfl),by simp only [Z01];rw[q'];exact h⟩
   |out k=>exact .inr ⟨(fun z=>by cases z),h⟩
   |tmp k=>exact .inr ⟨(fun z=>by cases z),h⟩
  |out i=>
   cases x with
   |out j=>
    simp only [Z01,Z9x] at h
    cases q:(M.out.set i (.own o'))[j]? with
    |none=>simp [q] at h
    |some s=>
     rw[q] at h
     rcases Z0g q with ⟨rfl,rfl⟩|⟨z,q'⟩
     ·simp [slO] at h;exact .inl ⟨rfl,h.symm⟩
     ·exact .inr ⟨(fun e=>by cases e;exact z rfl),by simp only [Z01];rw[q'];exact h⟩
   |loc k=>exact .inr ⟨(fun z=>by cases z),h⟩
   |tmp k=>exact .inr ⟨(fun z=>by cases z),h⟩
  |tmp i=>
   cases x with
   |tmp j=>
    have q:(M.tmp.set i o')[j]? = some u:=h
    rcases Z0g q with ⟨rfl,rfl⟩|⟨z,q'⟩
    ·exact .inl ⟨rfl,rfl⟩
    ·exact .inr ⟨(fun e=>by cases e;exact z rfl),q'⟩
   |loc k=>exact .inr ⟨(fun z=>by cases z),h⟩
   |out k=>exact .inr ⟨(fun z=>by cases z),h⟩
 have orig:∀x u,Z01 (Z9x M o' r) x=some u->∃u',Z01 M x=some u':=fun x u h=>by
  rcases nr x u h with ⟨rfl,_⟩|⟨_,h⟩
  ·exact⟨o,h1⟩
  ·exact⟨u,h⟩
 have lens:(Z9x M o' r).env.length=M.env.length/\(Z9x M o' r).out.length=M.out.length/\(Z9x M o' r).tmp.length=M.tmp.length:=by cases r <;> simp [Z9x]
 have envf:∀(i:Nat) (s:Sl),(Z9x M o' r).env[i]? = some (some s)->(∀u,s ≠ .own u)->M.env[i]? = some (some s):=fun i s h n=>by
  cases r with
  |loc j=>
   rcases Z0g (show(M.env.set j (some (.own o')))[i]? = some (some s) from h) with ⟨_,z⟩|⟨_,z⟩
   ·cases z;exact absurd rfl (n o')
   ·exact z
  |out j=>exact h
  |tmp j=>exact h
 have outf:∀(i:Nat) (s:Sl),(Z9x M o' r).out[i]? = some s->(∀u,s ≠ .own u)->M.out[i]? = some s:=fun i s h n=>by
  cases r with
  |out j=>
   rcases Z0g (show(M.out.set j (.own o'))[i]? = some s from h) with ⟨_,z⟩|⟨_,z⟩
   ·cases z;exact absurd rfl (n o')
   ·exact z
  |loc j=>exact h
  |tmp j=>exact h
 refine⟨fun b x e=>by rw[hH b (notG b x e)];exact R.sub b x e,R.g0,fun b x e1 e4=>?_,R.gd,fun b hb=>?_,by rw[lens.1];exact R.ls,by rw[lens.2.1];exact R.lo,by rw[lens.2.2];exact R.lt,fun i t h=>R.fz i t (envf i _ h fun u z=>by cases z),fun i k h=>R.al i k (envf i _ h fun u z=>by cases z),fun k t h=>R.fo k t (outf k _ h fun u z=>by cases z),fun x u h=>?_,fun x x' u u' b h h' e e'=>?_,fun x u b h e=>?_⟩
 ·have hb:b≠a:=fun z=>by
   rcases R.nw r o a h1 h2 with ⟨k,rfl⟩|q
   ·exact e4 (z▸mem_of_getElem? (show F.ao[k]? = some a from h2))
   ·rw[z,q] at e1;cases e1
  rw[hH b hb];exact R.fra b x e1 e4
 ·by_cases z:b=a
  ·rw[z];exact ok.some
  ·rw[hH b z];exact R.pr b hb
 ·rcases nr x u h with ⟨rfl,rfl⟩|⟨hx,h⟩
  ·exact⟨a,h2,ok,e3⟩
  ·obtain⟨b,k1,k2,k3⟩:=R.ob x u h
   have hb:b≠a:=fun z=>hx (R.ij x r u o a h h1 (by rw[k1,z]) h2)
   exact⟨b,k1,k2.mono (Same.refl _) (hH b hb),k3⟩
 ·obtain⟨v,h⟩:=orig x u h;obtain⟨v',h'⟩:=orig x' u' h'
  exact R.ij x x' v v' b h h' e e'
 ·obtain⟨v,h⟩:=orig x u h
  exact R.nw x v b h e
theorem EvOk.adr {ev:Ev}{v:V}{r:Rf}(h:EvOk K F G ta σ ev v)(e:Zfb ev=some r):∃a,v = .ref a/\L2.adr F ta σ r=some a:=by
 cases ev with
 |fz t=>cases e
 |loc i=>cases e;obtain⟨h1,a,rfl⟩:=h;exact⟨a,rfl,by simp [L2.adr,h1,Zia]⟩
 |out k=>cases e;obtain⟨a,h1,rfl⟩:=h;exact⟨a,rfl,h1⟩
 |tmp j=>cases e;obtain⟨a,h1,rfl⟩:=h;exact⟨a,rfl,h1⟩
def isL:Ob->Bool
 | .lst _=>true
 |_=>false
def Ztw (f:Ob->List Tv->Option (Prop×Ob×Tv))(wo:TW)(wr:TWF):TW:=fun M k=>wo M fun x M1=>bnd (Zfb x) fun r=>bnd (Z01 M1 r) fun o1=>isL o1=true/\wr M1 fun ts M2=>bnd (Z01 M2 r) fun o=>Zez (f o ts) fun c p=>c/\k (.fz p.2) ((Z9x M2 p.1 r).cut M.tmp.length)
def Zii (K:W.Frag)(f:Ob->List Tv->Option (Prop×Ob×Tv))(r:V->List V->Hp->VK->Prop):Prop:=∀G H a o o' t ts vs Q,Same G H->ObOk K G H a o->G a=none->IsTs K G vs ts->(∃c:Prop,c/\f o ts=some (c,o',t))->(∀v H',(∀b,b≠a->H' b=H b)->ObOk K G H' a o'->IsT K G v t->Q v H')->r (.ref a) vs H Q
theorem LE.mut {n:Nat}{f:Ob->List Tv->Option (Prop×Ob×Tv)}{r:V->List V->Hp->VK->Prop}{wo:TW}{wr:TWF}(ok:Zii X.K f r){σ:St}{H:Hp}{Q:VK}:LE X.K F (Ztw f wo wr) σ H Q->tBM X.K "list" r (LE X.K F wo) (LF X.K F n wr) σ H Q:=fun⟨G,ta,M,K0,R,k,q⟩=>by
 refine⟨G,ta,M,_,R,k,fun x M1 G1 t1 v H1 k1 R1 s1 e1=>?_⟩
 obtain⟨r,hr,k1⟩:=Z00 k1
 obtain⟨o1,ho1,hl,k1⟩:=Z00 k1
 obtain⟨a,rfl,ha⟩:=e1.adr hr
 obtain⟨b,z1,z2,z3⟩:=R1.ob r o1 ho1
 rw[ha] at z1;cases z1
 refine⟨?_,G1,t1,M1,_,R1,k1,fun ts M2 G2 vs H2 k2 R2 s2 e2 _=>?_⟩
 ·cases o1 with
  |lst l=>obtain⟨vs,e,_⟩:=z2;exact .inl ⟨rfl,_,SqL.of e⟩
  |dic l=>cases hl
 ·obtain⟨o,ho,k2⟩:=Z00 k2
  obtain⟨c,⟨o',t⟩,hf,hc,k2⟩:=Z0n k2
  obtain⟨b,y1,y2,y3⟩:=R2.ob r o ho
  rw[ha] at y1;cases y1
  refine ok G2 H2 a o o' t ts vs Q R2.sub y2 y3 e2 ⟨c,hc,hf⟩ fun v H' hH ok' ht=>?_
  have R3:=R2.chg ho ha hH ok'
  exact q _ _ G2 ta v H' k2 (R3.cutTo R.lt ⟨s1.g.trans s2,s1.t⟩) ⟨s1.g.trans s2,[],by simp⟩ ht
def Ztx:Ob->List Tv->Option (Prop×Ob×Tv)
 | .lst l,[t]=>some (l.length<16777216,.lst (l ++ [t]),.at .non)
 |_,_=>none
theorem Zma:Zii K Ztx rAppend:=fun G H a o o' t ts vs Q sm h hg ht e q=>by
 obtain⟨c,hl,e⟩:=e
 unfold Ztx at e
 split at e
 ·next l u=>
  cases e
  obtain⟨ws,e1,e2⟩:=h
  cases ht with
  | @cons v _ _ _ k1 k2=>
   cases k2
   exact⟨a,ws,v,rfl,rfl,e1,by rw[sizeLine_eq,e2.len];exact hl,q _ _ (fun b hb=>Z04 hb) ⟨_,Z08,e2.app (.cons k1 .nil)⟩ (.at rfl)⟩
 ·cases e
def Zmb:Ob->List Tv->Option (Prop×Ob×Tv)
 | .lst l,[]=>(l[l.length-1]?).map fun t=>(True,.lst l.dropLast,t)
 |_,_=>none
theorem Zmc:Zii K Zmb rPop:=fun G H a o o' t ts vs Q sm h hg ht e q=>by
 obtain⟨c,hl,e⟩:=e
 unfold Zmb at e
 split at e
 ·next l=>
  cases z:l[l.length-1]? with
  |none=>rw[z] at e;cases e
  |some u=>
   rw[z] at e;cases e
   obtain⟨ws,e1,e2⟩:=h
   cases ht
   obtain⟨v,e3,e4⟩:=e2.get z
   rw[<- e2.len] at e3
   refine⟨a,ws,v,rfl,rfl,e1,e3,q _ _ (fun b hb=>Z04 hb) ⟨_,Z08,?_⟩ e4⟩
   rw[List.dropLast_eq_take,List.dropLast_eq_take,e2.len]
   exact e2.take _
 ·cases e
def Zox:Tv->Option Key
 | .at (.int i)=>some (.inl i)
 | .at (.str x)=>some (.inr x)
 |_=>none
def Z6w (l:List (Key×Tv))(k:Key)(t:Tv):List (Key×Tv):=
 if (l.any fun kv=>decide (kv.1=k))=true then l.map (fun kv=>if kv.1=k then (kv.1,t) else kv) else l ++ [(k,t)]
def Z07:List (Key×Tv)->Key->Option Tv
 |[],_=>none
 | (k',t)::r,k=>if k'=k then some t else Z07 r k
theorem IsKs.look {vs:List (Key×V)}:∀{ts:List (Key×Tv)} {k:Key} {t:Tv},IsKs K G vs ts->Z07 ts k=some t->∃v,Z67 vs k=some v/\IsT K G v t:=by
 induction vs with
 |nil=>intro ts k t h e;cases h;cases e
 |cons p vs ih=>
  intro ts k t h e
  cases h with
  | @cons k' v _ u ts h1 h2=>
   by_cases z:k'=k
   ·simp [Z07,z] at e;subst e
    exact⟨v,by simp [Z67,List.find?_cons,z],h1⟩
   ·have e':Z07 ts k=some t:=by simpa [Z07,z] using e
    obtain⟨w,h3,h4⟩:=ih h2 e'
    exact⟨w,by simpa [Z67,List.find?_cons,z] using h3,h4⟩
theorem IsKs.lookN {vs:List (Key×V)}:∀{ts:List (Key×Tv)} {k:Key},IsKs K G vs ts->Z07 ts k=none->Z67 vs k=none:=by
 induction vs with
 |nil=>intro ts k h e;rfl
 |cons p vs ih=>
  intro ts k h e
  cases h with
  | @cons k' v _ u ts h1 h2=>
   by_cases z:k'=k
   ·simp [Z07,z] at e
   ·have e':Z07 ts k=none:=by simpa [Z07,z] using e
    have h3:=ih h2 e'
    simpa [Z67,List.find?_cons,z] using h3
theorem IsKs.any {vs:List (Key×V)}{ts:List (Key×Tv)}{k:Key}(h:IsKs K G vs ts):(vs.any fun kv=>decide (kv.1=k))=ts.any fun kv=>decide (kv.1=k):=by
 induction vs generalizing ts with
 |nil=>cases h;rfl
 |cons p vs ih=>cases h with|cons h1 h2=>simp only [any_cons,ih h2]
theorem IsKs.map {vs:List (Key×V)}{k:Key}{v:V}{t:Tv}(ht:IsT K G v t):∀{ts:List (Key×Tv)},IsKs K G vs ts->IsKs K G (vs.map fun kv=>if kv.1=k then (kv.1,v) else kv) (ts.map fun kv=>if kv.1=k then (kv.1,t) else kv):=by
 induction vs with
 |nil=>intro ts h;cases h;exact .nil
 |cons p vs ih=>
  intro ts h
  cases h with
  | @cons k' w _ u ts h1 h2=>
   rw[map_cons,map_cons]
   by_cases z:k'=k
   ·simp only [z,if_pos];exact .cons ht (ih h2)
   ·simp only [if_neg z];exact .cons h1 (ih h2)
theorem IsKs.snoc {vs:List (Key×V)}{k:Key}{v:V}{t:Tv}(ht:IsT K G v t):∀{ts:List (Key×Tv)},IsKs K G vs ts->IsKs K G (vs ++ [(k,v)]) (ts ++ [(k,t)]):=by
 induction vs with
 |nil=>intro ts h;cases h;exact .cons ht .nil
 |cons p vs ih=>intro ts h;cases h with|cons h1 h2=>exact .cons h1 (ih h2)
theorem IsKs.put {vs:List (Key×V)}{ts:List (Key×Tv)}{k:Key}{v:V}{t:Tv}(h:IsKs K G vs ts)(ht:IsT K G v t):IsKs K G (Z6l vs k v) (Z6w ts k t):=by
 unfold Z6l Z6w
 rw[h.any]
 split
 ·exact h.map ht
 ·exact h.snoc ht
def dgT:Tv->Tv->Rz
 | .dic l,t=>match Zox t with
  |some k=>ofO (Z07 l k)
  |none=>.no
 |_,_=>.no
def rDGet:R2:=fun x y H Q=>∃a v,x = .ref a/\DGet H a y (some v)/\Q v H
theorem Z7m {y:V}{t:Tv}{k:Key}(h:IsR K G H y t)(e:Zox t=some k):y=kV k:=by
 unfold Zox at e
 split at e
 ·cases e;obtain⟨rfl,_⟩:=h.at;rfl
 ·cases e;obtain⟨rfl,_⟩:=h.at;rfl
 ·cases e
theorem Zqw:Z0t K dgT rDGet:=fun G H x y t u s Q sm h1 h2 e q=>by
 unfold dgT at e
 split at e
 ·next l=>
  split at e
  ·next k z=>
   obtain⟨w,z2,rfl⟩:=e.ofO
   obtain⟨a,kvs,rfl,k1,r1⟩:=h1.dic sm
   obtain⟨v,e1,e2⟩:=r1.look z2
   have hy:=Z7m h2 z
   subst hy
   exact⟨a,v,rfl,by rw[<- e1];exact DGet.k k1,Z0l sm e2 q⟩
  ·cases e
 ·cases e
def Zqx (wv wd wk:TW):TWS:=fun P M=>wv M fun v M1=>Zez (Z6u 0 M1 v) fun t M2=>wd M2 fun x M2=>wk M2 fun y M3=>bnd (Zfb x) fun r=>bnd (Z01 M3 r) fun o=>bnd (rd M3 y) fun u=>bnd (Zox u) fun k=>match o with
 | .dic l=>l.length<16777216/\P.nx ((Z9x M3 (.dic (Z6w l k t)) r).cut 0)
 |_=>False
theorem LS.dput {wv wd wk:TW}{D:Ends}{σ:St}{H:Hp}:LS X.K F (Zqx wv wd wk) D σ H->Zq4 (LE X.K F wd) (LE X.K F wk) (LE X.K F wv) D σ H:=fun⟨G,M,P,R,k,ok⟩=>by
 refine⟨G,[],M,_,R,k,fun ev M1 G1 t1 v H1 k1 R1 s1 e1=>?_⟩
 obtain⟨t,M2,h2,k1⟩:=Z0n k1
 have h2':Z6u M.tmp.length M1 ev=some (t,M2):=by rw[R.lt];exact h2
 obtain⟨G2,R2,s2,s2',t2⟩:=R1.frz R.lt s1 e1 h2'
 refine⟨G2,[],M2,_,R2,k1,fun x M3 G3 t3 xv H3 k3 R3 s3 e3=>⟨G3,t3,M3,_,R3,k3,fun y M4 G4 t4 yv H4 k4 R4 s4 e4=>?_⟩⟩
 obtain⟨r,hr,k4⟩:=Z00 k4
 obtain⟨o,ho,k4⟩:=Z00 k4
 obtain⟨u,hu,k4⟩:=Z00 k4
 obtain⟨kk,hk,k4⟩:=Z00 k4
 obtain⟨a,rfl,ha⟩:=(e3.stp s4).adr hr
 obtain⟨b,z1,z2,z3⟩:=R4.ob r o ho
 rw[ha] at z1;cases z1
 have hy:=Z7m (R4.rd e4 hu) hk
 subst hy
 cases o with
 |lst l=>exact k4.elim
 |dic l=>
  obtain⟨kvs,e5,r5⟩:=z2
  obtain⟨hl,k4⟩:=k4
  refine⟨a,_,rfl,DPut.k e5 (by rw[sizeLine_eq,r5.len];exact hl),?_⟩
  have R5:=R4.chg (o':=.dic (Z6w l kk t)) ho ha (H':=upd H4 a (.dK (Z6l kvs kk v))) (fun b hb=>Z04 hb) ⟨_,Z08,r5.put (t2.mono (s3.g.trans s4.g))⟩
  exact ok.nx _ G4 σ _ k4 (R5.cut 0) (s2.g.trans (s3.g.trans s4.g))
end
section
variable {X:Cx}{K:W.Frag}{F:Fr}{G H:Hp}
def Z0o {α : Type}(xs:List α)(lo hi:Option Int):List α := (xs.drop (HT.sIx xs.length 0 lo)).take (HT.sIx xs.length xs.length hi-HT.sIx xs.length 0 lo)
theorem IsTs.cut {vs:List V}{ts:List Tv}(h:IsTs K G vs ts)(lo hi:Option Int):IsTs K G (Zef vs lo hi) (Z0o ts lo hi):=by
 unfold Zef Z0o
 rw[h.len]
 exact(h.drop _).take _
abbrev TWO:=Ms->(Option Int->Ms->Prop)->Prop
inductive LO (K:W.Frag)(F:Fr)(w:TWO)(σ:St)(H:Hp)(Q:(Option Int->Hp->Prop)):Prop
 |mk (G ta M K0:_) (_:Rel K F G ta M σ H) (_:w M K0) (_:∀i M' G' ta' H',K0 i M'->Rel K F G' ta' M' σ H'->Stp G ta G' ta'->Q i H'):LO K F w σ H Q
def Zfc:Tv->Option Int
 | .at (.int i)=>some i
 |_=>none
def Zvr:TWO:=fun M k=>k none M
def Zqy (wa:TW):TWO:=fun M k=>wa M fun x M1=>bnd (rd M1 x) fun t=>bnd (Zfc t) fun i=>k (some i) M1
theorem PO.imp {e:Option Expr}{t t':TO}(h:PO X e t)(i:∀ σ H Q,t' σ H Q->t σ H Q):PO X e t':=fun pins s σ H Q I q=>h pins s σ H Q I (i σ H Q q)
theorem Zmd:PO X none (LO X.K F Zvr):=po_none.imp fun σ H Q ⟨G,ta,M,K0,R,k,q⟩=>q _ _ G ta H k R .refl
theorem Z7n {t:Tv}{i:Int}(h:Zfc t=some i):t = .at (.int i):=by
 unfold Zfc at h
 split at h
 ·cases h;rfl
 ·cases h
theorem Zme {e:Expr}{wa:TW}(h:PE X e (LE X.K F wa)):PO X (some e) (LO X.K F (Zqy wa)):=(Zli h).imp fun σ H Q ⟨G,ta,M,K0,R,k,q⟩=>by
 refine⟨G,ta,M,_,R,k,fun x M1 G1 t1 v1 H1 k1 R1 s1 e1=>?_⟩
 obtain⟨t,ht,k1⟩:=Z00 k1
 obtain⟨i,hi,k1⟩:=Z00 k1
 have hr:=R1.rd e1 ht
 rw[Z7n hi] at hr
 exact⟨i,hr.at.1,q _ _ G1 t1 H1 k1 R1 s1⟩
def Zty (lo hi:Option Int):Tv->Rz
 | .lst l=>.ok (.n (.lst (Z0o l lo hi)))
 | .scr l=>.ok (.n (.lst (Z0o l lo hi)))
 | .tup l=>.ok (.v (.tup (Z0o l lo hi)))
 | .at (.str z)=>.cd ((Txt.slice z lo hi).length<=16777216) (vS (Txt.slice z lo hi))
 |_=>.no
def Ztz (K:W.Frag):V->Option Int->Option Int->Hp->VK->Prop:=fun x lo hi H Q=>Zva K x lo hi H Q∨(fun x lo hi H Q=>rSlP x lo hi H Q∨rSlS x lo hi H Q) x lo hi H Q
theorem Zwr:SlR X (Ztz X.K):=sl_list.or (sl_tupP.or Zqc)
theorem Zqz (lo hi:Option Int):Z4k K (Zty lo hi) (fun x H Q=>Ztz K x lo hi H Q):=fun G H x t s Q sm h1 e q=>by
 have hz:=sizeLine_eq
 unfold Zty at e
 split at e
 ·next l=>cases e;obtain⟨a,vs,rfl,k1,r1⟩:=h1.lst sm;exact .inl ⟨a,vs,rfl,.of k1,Z23 (r1.cut lo hi) q⟩
 ·next l=>cases e;obtain⟨a,vs,rfl,k1,r1⟩:=h1.scr sm;exact .inl ⟨a,vs,rfl,k1,Z23 (r1.cut lo hi) q⟩
 ·next l=>cases e;obtain⟨a,vs,rfl,k1,r1⟩:=h1.tup sm;exact .inr (.inl ⟨a,vs,rfl,k1,fun p H' sH e=>Z4o sm sH e (r1.cut lo hi) q⟩)
 ·next z=>
  cases e with|cd hc=>
  obtain⟨rfl,f⟩:=h1.at
  exact .inr (.inr ⟨z,rfl,by rw[hz];exact of_decide_eq_true f,Z0l sm (.at (decide_eq_true hc)) q⟩)
 ·cases e
def Zvs (wa:TW)(wl wh:TWO):TW:=fun M k=>wa M fun x M1=>wl M1 fun lo M2=>wh M2 fun hi M3=>bnd (rd M3 x) fun t=>bz (Zty lo hi t) (Za9 M.tmp.length M3 k)
theorem LE.slc {wa:TW}{wl wh:TWO}{σ:St}{H:Hp}{Q:VK}:LE X.K F (Zvs wa wl wh) σ H Q->tSl (Ztz X.K) (LE X.K F wa) (LO X.K F wl) (LO X.K F wh) σ H Q:=fun⟨G,ta,M,K0,R,k,q⟩=>by
 refine⟨G,ta,M,_,R,k,fun x M1 G1 t1 v1 H1 k1 R1 s1 e1=>⟨G1,t1,M1,_,R1,k1,fun lo M2 G2 t2 H2 k2 R2 s2=>⟨G2,t2,M2,_,R2,k2,fun hi M3 G3 t3 H3 k3 R3 s3=>?_⟩⟩⟩
 obtain⟨t,ht,k3⟩:=Z00 k3
 obtain⟨s,hs,k3⟩:=Z1l k3
 exact Zqz lo hi G3 H3 v1 t s Q R3.sub (R3.rd (e1.stp (s2.trans s3)) ht) hs (R3.done R.lt (s1.trans (s2.trans s3)) k3 q)
def tyN:Tv->Option String
 | .at .non=>some "NoneType"
 | .at (.bl _)=>some "bool"
 | .at (.int _)=>some "int"
 | .at (.str _)=>some "str"
 | .tup _=>some "tuple"
 | .lst _=>some "list"
 | .dic _=>some "dict"
 |_=>none
theorem Zr0 {v:V}{t:Tv}{n:String}(h:IsT K H v t)(e:tyN t=some n):TyOf K H v (.type n):=by
 cases h with
 | «at» f => cases v <;> cases e <;> constructor
 |tup h r=>cases e;exact .tup h
 |lst h r=>cases e;exact .lst h
 |dic h r=>cases e;exact .dK h
 |scr h r=>cases e
 |fnv=>cases e
 |ktp h r=>cases e
def isK (n T:String):Bool:=n==T||(n=="bool"&&T=="int")
def Zu0 (T:String)(t:Tv):Rz:=match tyN t with
 |some n=>.ok (vB (isK n T))
 |none=>.no
def tvI:Tv->Int
 | .at (.int i)=>i
 |_=>0
def tvB:Tv->Bool
 | .at (.bl b)=>b
 |_=>false
def intL (l:List Tv):Prop:=∀t∈l,∃i,t = .at (.int i)
def blL (l:List Tv):Prop:=∀t∈l,∃b,t = .at (.bl b)
theorem intL.is {l:List Tv}(f:intL l):∀{vs:List V},IsTs K G vs l->vs=(l.map tvI).map V.int:=by
 induction l with
 |nil=>intro vs h;cases h;rfl
 |cons t l ih=>
  intro vs h
  cases h with
  | @cons v vs _ _ h1 h2=>
   obtain⟨i,rfl⟩:=f t mem_cons_self
   cases h1
   rw[ih (fun x hx=>f x (mem_cons_of_mem _ hx)) h2];rfl
theorem blL.is {l:List Tv}(f:blL l):∀{vs:List V},IsTs K G vs l->vs=(l.map tvB).map V.bl:=by
 induction l with
 |nil=>intro vs h;cases h;rfl
 |cons t l ih=>
  intro vs h
  cases h with
  | @cons v vs _ _ h1 h2=>
   obtain⟨i,rfl⟩:=f t mem_cons_self
   cases h1
   rw[ih (fun x hx=>f x (mem_cons_of_mem _ hx)) h2];rfl
def Zu1:Tv->Rz
 | .lst l=>.cd (intL l) (vI (l.map tvI).sum)
 |_=>.no
def Zu2:Tv->Rz
 | .lst l=>.cd (blL l) (vB ((l.map tvB).all id))
 |_=>.no
def Zu3:Tv->Rz
 | .lst l=>.cd (blL l) (vB ((l.map tvB).any id))
 |_=>.no
def Zmf:Tv->Rz
 | .at (.int i)=>.ok (vI i)
 | .at (.bl b)=>.ok (vI (if b then 1 else 0))
 |_=>.no
def Zu4:Tv->Rz
 | .at (.int i)=>.ok (vI (-i))
 |_=>.no
def Zu5 (K:W.Frag):V->Hp->VK->Prop:=fun x H Q=>∃(a:Addr) (ns:List Int),x = .ref a/\SqL K H a (ns.map V.int)/\Q (.int ns.sum) H
def Zr1 (K:W.Frag)(f:List Bool->Bool):V->Hp->VK->Prop:=fun x H Q=>∃(a:Addr) (bs:List Bool),x = .ref a/\SqL K H a (bs.map V.bl)/\Q (.bl (f bs)) H
theorem Zmg:Z4k K Zu1 (Zu5 K):=fun G H x t s Q sm h1 e q=>by
 unfold Zu1 at e
 split at e
 ·next l=>
  cases e with|cd c=>
  obtain⟨a,vs,rfl,k1,r1⟩:=h1.lst sm
  have:=c.is r1;subst this
  exact⟨a,_,rfl,.of k1,Z0l sm (.at rfl) q⟩
 ·cases e
theorem Zmh:Z4k K Zu2 (Zr1 K fun bs=>bs.all id):=fun G H x t s Q sm h1 e q=>by
 unfold Zu2 at e
 split at e
 ·next l=>
  cases e with|cd c=>
  obtain⟨a,vs,rfl,k1,r1⟩:=h1.lst sm
  have:=c.is r1;subst this
  exact⟨a,_,rfl,.of k1,Z0l sm (.at rfl) q⟩
 ·cases e
theorem Zmi:Z4k K Zu3 (Zr1 K fun bs=>bs.any id):=fun G H x t s Q sm h1 e q=>by
 unfold Zu3 at e
 split at e
 ·next l=>
  cases e with|cd c=>
  obtain⟨a,vs,rfl,k1,r1⟩:=h1.lst sm
  have:=c.is r1;subst this
  exact⟨a,_,rfl,.of k1,Z0l sm (.at rfl) q⟩
 ·cases e
def rInt1:V->Hp->VK->Prop:=fun x H Q=>(∃i,x = .int i/\Q (.int i) H)∨∃k,x = .bl k/\Q (.int (if k then 1 else 0)) H
theorem Zmj:Z4k K Zmf rInt1:=fun G H x t s Q sm h1 e q=>by
 unfold Zmf at e
 split at e
 ·next i=>cases e;obtain⟨rfl,_⟩:=h1.at;exact .inl ⟨i,rfl,Z0l sm (.at rfl) q⟩
 ·next b=>cases e;obtain⟨rfl,_⟩:=h1.at;exact .inr ⟨b,rfl,Z0l sm (.at rfl) q⟩
 ·cases e
theorem Zmk:Z4k K Zu4 (rU fun i=>.int (-i)):=fun G H x t s Q sm h1 e q=>by
 unfold Zu4 at e
 split at e
 ·next i=>cases e;obtain⟨rfl,_⟩:=h1.at;exact⟨i,rfl,Z0l sm (.at rfl) q⟩
 ·cases e
def Z8j (n:Nat):List Tv:=(List.range n).map fun(i:Nat)=>.at (.int (i:Int))
def Zvt (wa:TW):TWF:=fun M k=>wa M fun x M1=>bnd (rd M1 x) fun t=>bnd (Zfc t) fun j=>(-(2 ^ 62)<=j/\j<2 ^ 62)/\k (Z8j j.toNat) (M1.cut M.tmp.length)
theorem Zr2 (n:Nat):ItOk K G (Itr 0 n) (Z8j n):=by
 have hl:(Z8j n).length=n:=by unfold Z8j;simp
 refine⟨fun i G' H' _ _ hi=>by rw[hl] at hi;exact hi,fun G' H' _ _=>by rw[hl];exact Nat.le_refl _,fun i t G' H' x H'' s1 s2 ht hy=>?_⟩
 obtain⟨rfl,rfl⟩:=hy
 have hi:i<n:=by have:=(List.getElem?_eq_some_iff.mp ht).1;rw[hl] at this;exact this
 have:t = .at (.int (0+(i:Int))):=by
  unfold Z8j at ht
  rw[List.getElem?_map,List.getElem?_range hi] at ht
  simpa using ht.symm
 subst this
 exact⟨G',Same.refl _,s2,Same.refl _,fun _ _ e=>.inl e,.at rfl⟩
theorem LI.rng {wa:TW}{σ:St}{H:Hp}{R:It->Hp->Prop}:LI X.K F (Zvt wa) σ H R->Zpk (Zcr (LE X.K F wa) tNil) σ H R:=fun⟨G,ta,M,K0,R0,k,q⟩=>by
 refine⟨G,ta,M,_,R0,k,fun x M1 G1 t1 v1 H1 k1 R1 s1 e1=>?_⟩
 obtain⟨t,ht,k1⟩:=Z00 k1
 obtain⟨j,hj,hb,k1⟩:=Z00 k1
 have hr:=R1.rd e1 ht
 rw[Z7n hj] at hr
 exact⟨j,by rw[hr.at.1],hb.1,hb.2,q _ _ G1 _ H1 k1 (R1.cutTo R0.lt s1) s1.g (Zr2 _)⟩
theorem Zfd {x:Ev}{b:Bool}(hb:evB x=some b):x = .fz (.at (.bl b)):=by
 cases x with
 |fz t=>cases t with
  | «at» v => cases v <;> simp [evB] at hb; subst hb; rfl
  |_=>simp [evB] at hb
 |_=>simp [evB] at hb
def Zr3 (wa wb:TW):TW:=fun M k=>wa M fun x M1=>bnd (evB x) fun c=>if c=true then wb (M1.cut M.tmp.length) k else k (.fz (.at (.bl false))) (M1.cut M.tmp.length)
def Zvu (wa wb:TW):TW:=fun M k=>wa M fun x M1=>bnd (evB x) fun c=>if c=true then k (.fz (.at (.bl true))) (M1.cut M.tmp.length) else wb (M1.cut M.tmp.length) k
def Zr4 (wa:TW):TW:=fun M k=>wa M fun x M1=>bnd (evB x) fun c=>k (.fz (.at (.bl (!c)))) (M1.cut M.tmp.length)
theorem LE.andV {wa wb:TW}{σ:St}{H:Hp}{Q:VK}:LE X.K F (Zr3 wa wb) σ H Q->Zpc (LE X.K F wa) (LE X.K F wb) σ H Q:=fun⟨G,ta,M,K0,R,k,q⟩=>by
 refine⟨G,ta,M,_,R,k,fun x M1 G1 t1 v1 H1 k1 R1 s1 e1=>?_⟩
 obtain⟨b,hb,k1⟩:=Z00 k1
 rw[Zfd hb] at e1
 have e1':IsT X.K G1 v1 (.at (.bl b)):=e1
 cases e1'
 have R2:=R1.cutTo R.lt s1
 refine⟨b,rfl,?_⟩
 cases b with
 |true=>exact⟨G1,ta,_,K0,R2,k1,fun b M' G' t' v H' k' R' s' e'=>q b M' G' t' v H' k' R' (Stp.trans ⟨s1.g,[],by simp⟩ s') e'⟩
 |false=>exact q _ _ G1 ta _ H1 k1 R2 ⟨s1.g,[],by simp⟩ (.at rfl)
theorem LE.orV {wa wb:TW}{σ:St}{H:Hp}{Q:VK}:LE X.K F (Zvu wa wb) σ H Q->Zuy (LE X.K F wa) (LE X.K F wb) σ H Q:=fun⟨G,ta,M,K0,R,k,q⟩=>by
 refine⟨G,ta,M,_,R,k,fun x M1 G1 t1 v1 H1 k1 R1 s1 e1=>?_⟩
 obtain⟨b,hb,k1⟩:=Z00 k1
 rw[Zfd hb] at e1
 have e1':IsT X.K G1 v1 (.at (.bl b)):=e1
 cases e1'
 have R2:=R1.cutTo R.lt s1
 refine⟨b,rfl,?_⟩
 cases b with
 |false=>exact⟨G1,ta,_,K0,R2,k1,fun b M' G' t' v H' k' R' s' e'=>q b M' G' t' v H' k' R' (Stp.trans ⟨s1.g,[],by simp⟩ s') e'⟩
 |true=>exact q _ _ G1 ta _ H1 k1 R2 ⟨s1.g,[],by simp⟩ (.at rfl)
theorem LE.notV {wa:TW}{σ:St}{H:Hp}{Q:VK}:LE X.K F (Zr4 wa) σ H Q->Zpd (LE X.K F wa) σ H Q:=fun⟨G,ta,M,K0,R,k,q⟩=>by
 refine⟨G,ta,M,_,R,k,fun x M1 G1 t1 v1 H1 k1 R1 s1 e1=>?_⟩
 obtain⟨b,hb,k1⟩:=Z00 k1
 rw[Zfd hb] at e1
 have e1':IsT X.K G1 v1 (.at (.bl b)):=e1
 cases e1'
 exact⟨b,rfl,q _ _ G1 ta _ H1 k1 (R1.cutTo R.lt s1) ⟨s1.g,[],by simp⟩ (.at rfl)⟩
def rsB:Rs->Option Bool
 | .v (.at (.bl b))=>some b
 |_=>none
theorem Zr5 {r:Rs}{b:Bool}(h:rsB r=some b):r = .v (.at (.bl b)):=by
 unfold rsB at h
 split at h
 ·cases h;rfl
 ·cases h
def Zvv (f f':Tv->Tv->Rz)(wa wb wc:TW):TW:=fun M k=>wa M fun x M1=>wb M1 fun y M2=>bnd (rd M2 x) fun t=>bnd (rd M2 y) fun u=>bz (f t u) fun r=>bnd (rsB r) fun c=>
 if c=true then wc M2 fun z M3=>bnd (rd M3 y) fun u'=>bnd (rd M3 z) fun v=>bz (f' u' v) (Za9 M.tmp.length M3 k) else k (.fz (.at (.bl false))) (M2.cut M.tmp.length)
theorem LE.chn {f f':Tv->Tv->Rz}{r r':R2}(o:Z0t X.K f r)(o':Z0t X.K f' r'){wa wb wc:TW}{σ:St}{H:Hp}{Q:VK}:LE X.K F (Zvv f f' wa wb wc) σ H Q->Ze9 r r' (LE X.K F wa) (LE X.K F wb) (LE X.K F wc) σ H Q:=fun⟨G,ta,M,K0,R,k,q⟩=>by
 refine⟨G,ta,M,_,R,k,fun x M1 G1 t1 v1 H1 k1 R1 s1 e1=>⟨G1,t1,M1,_,R1,k1,fun y M2 G2 t2 v2 H2 k2 R2 s2 e2=>?_⟩⟩
 obtain⟨t,ht,k2⟩:=Z00 k2
 obtain⟨u,hu,k2⟩:=Z00 k2
 obtain⟨s,hs,k2⟩:=Z1l k2
 obtain⟨c,hc,k2⟩:=Z00 k2
 have hs':=hs
 rw[Zr5 hc] at hs'
 refine o G2 H2 v1 v2 t u _ _ R2.sub (R2.rd (e1.stp s2) ht) (R2.rd e2 hu) hs' fun v G' H' z1 z2 z3 z4 z5=>?_
 cases z5
 have R3:=R2.more z1 z3 z2 z4
 refine⟨c,rfl,?_⟩
 cases c with
 |true=>
  refine⟨G',t2,M2,_,R3,k2,fun z M4 G4 t4 v4 H4 k4 R4 s4 e4=>?_⟩
  obtain⟨u',hu',k4⟩:=Z00 k4
  obtain⟨v',hv',k4⟩:=Z00 k4
  obtain⟨s',hs',k4⟩:=Z1l k4
  have st:Stp G2 t2 G4 t4:=Stp.trans ⟨z1,[],by simp⟩ s4
  exact o' G4 H4 v2 v4 u' v' s' Q R4.sub (R4.rd (e2.stp st) hu') (R4.rd e4 hv') hs' (R4.done R.lt (s1.trans (s2.trans st)) k4 q)
 |false=>exact q _ _ G' ta _ H' k2 (R3.cutTo R.lt (s1.trans (s2.trans ⟨z1,[],by simp⟩))) ⟨s1.g.trans (s2.g.trans z1),[],by simp⟩ (.at rfl)
def Zr6 (wv wo wi:TW):TWS:=fun P M=>wv M fun v M1=>Zez (Z6u 0 M1 v) fun t M2=>wo M2 fun x M3=>wi M3 fun y M4=>bnd (Zfb x) fun r=>bnd (Z01 M4 r) fun o=>bnd (rd M4 y) fun u=>bnd (Zfc u) fun i=>match o with
 | .lst l=>∃j,ixN l.length i=some j/\P.nx ((Z9x M4 (.lst (l.set j t)) r).cut 0)
 |_=>False
theorem LS.lput {wv wo wi:TW}{D:Ends}{σ:St}{H:Hp}:LS X.K F (Zr6 wv wo wi) D σ H->Zot (LE X.K F wv) (Zv3 (LE X.K F wo) (LE X.K F wi) rSetL) D σ H:=fun⟨G,M,P,R,k,ok⟩=>by
 refine⟨G,[],M,_,R,k,fun ev M1 G1 t1 v H1 k1 R1 s1 e1=>?_⟩
 obtain⟨t,M2,h2,k1⟩:=Z0n k1
 have h2':Z6u M.tmp.length M1 ev=some (t,M2):=by rw[R.lt];exact h2
 obtain⟨G2,R2,s2,s2',t2⟩:=R1.frz R.lt s1 e1 h2'
 refine⟨G2,[],M2,_,R2,k1,fun x M3 G3 t3 xv H3 k3 R3 s3 e3=>⟨G3,t3,M3,_,R3,k3,fun y M4 G4 t4 yv H4 k4 R4 s4 e4=>?_⟩⟩
 obtain⟨r,hr,k4⟩:=Z00 k4
 obtain⟨o,ho,k4⟩:=Z00 k4
 obtain⟨u,hu,k4⟩:=Z00 k4
 obtain⟨i,hi,k4⟩:=Z00 k4
 obtain⟨a,rfl,ha⟩:=(e3.stp s4).adr hr
 obtain⟨b,z1,z2,z3⟩:=R4.ob r o ho
 rw[ha] at z1;cases z1
 have hy:=R4.rd e4 hu
 rw[Z7n hi] at hy
 obtain⟨rfl,_⟩:=hy.at
 cases o with
 |dic l=>exact k4.elim
 |lst l=>
  obtain⟨vs,e5,r5⟩:=z2
  obtain⟨j,hj,k4⟩:=k4
  refine⟨a,vs,i,j,rfl,rfl,e5,by rw[r5.len];exact hj,?_⟩
  have R5:=R4.chg (o':=.lst (l.set j t)) ho ha (H':=upd H4 a (.lst (vs.set j v))) (fun b hb=>Z04 hb) ⟨_,Z08,r5.set j (t2.mono (s3.g.trans s4.g))⟩
  exact ok.nx _ G4 σ _ k4 (R5.cut 0) (s2.g.trans (s3.g.trans s4.g))
def Zr7:TW:=fun M k=>Za9 M.tmp.length M k (.n (.dic []))
theorem Zml {pos:Pos}:PE X (.Dict [] [] pos) (LE X.K F Zr7):=pe_dnewK.imp fun σ H Q ⟨G,ta,M,K0,R,k,q⟩ p hp=>
 R.done R.lt .refl k q p _ hp (fun b x e=>by rw[Z04 (Z0b e hp)];exact e) ⟨[],Z08,.nil⟩
def Zmm:Tv->Rz
 | .dic l=>.ok (.n (.dic l))
 |_=>.no
def rDictW:V->Hp->VK->Prop:=fun x H Q=>∃(p:Addr) (kvs:List (Key×V)),x = .ref p/\H p=some (.dK kvs)/\∀a,H a=none->Q (.ref a) (upd H a (.dK kvs))
theorem Zij:Z4k K Zmm rDictW:=fun G H x t s Q sm h1 e q=>by
 unfold Zmm at e
 split at e
 ·next l=>
  cases e
  obtain⟨a,kvs,rfl,k1,r1⟩:=h1.dic sm
  exact⟨a,kvs,rfl,k1,fun p hp=>q p _ hp (fun b x e=>by rw[Z04 (Z0b e hp)];exact e) ⟨kvs,Z08,r1⟩⟩
 ·cases e
def Z6x (l:List (Key×Tv))(m:List (Key×Tv)):List (Key×Tv):=m.foldl (fun acc kv=>Z6w acc kv.1 kv.2) l
theorem IsKs.merge {vs:List (Key×V)}:∀{ts:List (Key×Tv)} {ws:List (Key×V)} {us:List (Key×Tv)},IsKs K G vs ts->IsKs K G ws us->IsKs K G (Z4b ws vs) (Z6x us ts):=by
 induction vs with
 |nil=>intro ts ws us h1 h2;cases h1;exact h2
 |cons p vs ih=>
  intro ts ws us h1 h2
  cases h1 with
  | @cons k v _ t ts a b=>
   show IsKs K G (Z4b (Z6l ws k v) vs) (Z6x (Z6w us k t) ts)
   exact ih b (h2.put a)
theorem IsKs.zip {ks:List Str}:∀{vs:List V} {ts:List Tv},IsTs K G vs ts->IsKs K G (ks.zip vs |>.map fun p=>(Sum.inr p.1,p.2)) (ks.zip ts |>.map fun p=>(Sum.inr p.1,p.2)):=by
 induction ks with
 |nil=>intro vs ts h;exact .nil
 |cons k ks ih=>
  intro vs ts h
  cases h with
  |nil=>exact .nil
  |cons a b=>exact .cons a (ih b)
def Zsv (ks:List Str)(ts:List Tv):List (Key×Tv):=ks.zip ts |>.map fun p=>(Sum.inr p.1,p.2)
def Zvw (ks:List Str)(wr:TWF):TW:=fun M k=>wr { M with tmp:=M.tmp ++ [.dic []] } fun ts M2=>M2.tmp[M.tmp.length]? = some (.dic [])/\k (.tmp M.tmp.length) { M2 with tmp:=M2.tmp.take M.tmp.length ++ [.dic (Z6x [] (Zsv ks ts))] }
def LP (K:W.Frag)(F:Fr)(w:TWF)(ks:List Str)(σ:St)(H:Hp)(Q:List (V×V)->Hp->Prop):Prop:=∃G ta M K0,Rel K F G ta M σ H/\w M K0/\∀ts M' G' vs H',K0 ts M'->Rel K F G' ta M' σ H'->Same G G'->IsTs K G' vs ts->Q (ks.zip vs |>.map fun p=>(V.str p.1,p.2)) H'
theorem LP.nil {σ:St}{H:Hp}{Q:List (V×V)->Hp->Prop}:LP K F Zm0 [] σ H Q->Z4a [] σ H Q:=fun⟨G,ta,M,K0,R,k,q⟩=>q [] M G [] H k R (Same.refl _) .nil
theorem LP.cons {x:Str}{ks:List Str}{wa:TW}{wr:TWF}{trs:List (TE×TE)}(hr:∀ σ H Q,LP K F wr ks σ H Q->Z4a trs σ H Q){σ:St}{H:Hp}{Q:List (V×V)->Hp->Prop}:LP K F (Z98 wa wr) (x::ks) σ H Q->Z4a ((tC (.str x),LE K F wa)::trs) σ H Q:=fun⟨G,ta,M,K0,R,k,q⟩=>by
 refine⟨G,ta,M,_,R,k,fun ev M1 G1 t1 v1 H1 k1 R1 s1 e1=>?_⟩
 obtain⟨t,M2,ht,k1⟩:=Z0n k1
 obtain⟨G2,R2,s2,s2',t2⟩:=R1.frz R.lt s1 e1 ht
 exact hr _ _ _ ⟨G2,ta,M2,_,R2,k1,fun ts M' G' vs H' k' R' s' e'=>q _ _ G' (v1::vs) H' k' R' (s2.g.trans s') (.cons (t2.mono s') e')⟩
theorem LE.dct {ks:List Str}{wr:TWF}{trs:List (TE×TE)}(hk:ks.length<=15)(hr:∀ σ H Q,LP X.K F wr ks σ H Q->Z4a trs σ H Q){σ:St}{H:Hp}{Q:VK}:LE X.K F (Zvw ks wr) σ H Q->Zq6 trs σ H Q:=fun⟨G,ta,M,K0,R,k,q⟩ p hp=>by
 have R1:=R.push (o:=.dic []) hp (H':=upd H p (.dK [])) (fun b x e=>by rw[Z04 (Z0b e hp)];exact e) ⟨[],Z08,.nil⟩
 refine hr _ _ _ ⟨G,ta ++ [p],_,_,R1,k,fun ts M2 G2 vs H2 k2 R2 s2 e2=>?_⟩
 have lt2:M2.tmp.length=ta.length+1:=by have:=R2.lt;simpa using this
 obtain⟨ho,k2⟩:=k2
 have l0:=R.lt
 rw[l0] at ho k2
 have ha:adr F (ta ++ [p]) σ (.tmp ta.length)=some p:=by show(ta ++ [p])[ta.length]? = _;rw[List.getElem?_append_right (Nat.le_refl _)];simp
 obtain⟨b,z1,⟨kvs,z2,z3⟩,z4⟩:=R2.ob (.tmp ta.length) (.dic []) ho
 rw[ha] at z1;cases z1
 cases z3
 refine⟨z2,(ks.zip vs).map (fun p=>(Sum.inr p.1,p.2)),by rw[map_map];rfl,by rw[length_map,List.length_zip];lia,?_⟩
 have R3:=R2.chg (r:=.tmp ta.length) (o:=.dic []) (o':=.dic (Z6x [] (Zsv ks ts))) ho ha (H':=upd H2 p (.dK (Z4b [] ((ks.zip vs).map fun p=>(Sum.inr p.1,p.2))))) (fun b hb=>Z04 hb) ⟨_,Z08,(IsKs.zip e2).merge .nil⟩
 have em:M2.tmp.set ta.length (.dic (Z6x [] (Zsv ks ts)))=M2.tmp.take ta.length ++ [.dic (Z6x [] (Zsv ks ts))]:=by
  rw[List.set_eq_take_append_cons_drop,if_pos (by lia),drop_eq_nil_of_le (by lia)]
 simp only [Z9x] at R3
 rw[em] at R3
 exact q _ _ G2 (ta ++ [p]) _ _ k2 R3 ⟨s2,[p],rfl⟩ ⟨p,ha,rfl⟩
def Zu6:Tv->Tv->Rz
 | .lst l,.at (.int n)=>.cd ((-(2 ^ 63)<=n/\n<2 ^ 63)/\l.length*n.toNat<=16777216) (.n (.lst (List.replicate n.toNat l).flatten))
 |_,_=>.no
theorem IsTs.rep {vs:List V}{ts:List Tv}(h:IsTs K G vs ts):∀n:Nat,IsTs K G (List.replicate n vs).flatten (List.replicate n ts).flatten
 | 0=>.nil
 |n+1=>by rw[replicate_succ,replicate_succ,flatten_cons,flatten_cons];exact h.app (IsTs.rep h n)
theorem Zmn:Z0t K Zu6 rRep:=fun G H x y t u s Q sm h1 h2 e q=>by
 unfold Zu6 at e
 split at e
 ·next l n=>
  cases e with|cd c=>
  obtain⟨a,vs,rfl,k1,r1⟩:=h1.lst sm;obtain⟨rfl,_⟩:=h2.at
  exact⟨a,n,vs,rfl,rfl,k1,c.1.1,c.1.2,by rw[sizeLine_eq,r1.len];exact c.2,Z23 (r1.rep _) q⟩
 ·cases e
def Zmo:Tv->Tv->Rz
 | .tup l,.at (.int n)=>.cd (l ≠ []/\(2<=n/\n<=1000)/\l.length<=1000) (.v (.tup (List.replicate n.toNat l).flatten))
 |_,_=>.no
theorem Zik:Z0t K Zmo (Zqf K):=fun G H x y t u s Q sm h1 h2 e q=>by
 unfold Zmo at e
 split at e
 ·next l n=>
  cases e with|cd c=>
  obtain⟨a,vs,rfl,k1,r1⟩:=h1.tup sm;obtain⟨rfl,_⟩:=h2.at
  exact⟨a,n,vs,rfl,rfl,SqT.of k1,fun z=>c.1 (by subst z;cases r1;rfl),c.2.1.1,c.2.1.2,by rw[r1.len];exact c.2.2,fun p hp=>Z4o sm (Z33 hp) Z08 (r1.rep _) q⟩
 ·cases e
def Zvx (wd wk wz:TW):TW:=fun M k=>wd M fun x M1=>bnd (rd M1 x) fun t1=>isD t1=true/\wk M1 fun y M2=>wz M2 fun z M3=>Zez (Z6u M.tmp.length M3 z) fun tz M4=>bnd (rd M3 x) fun t=>bnd (rd M3 y) fun u=>bnd (Zox u) fun kk=>bnd (getT t kk tz) fun r=>k (.fz r) M4
where
 isD:Tv->Bool
  | .dic _=>true
  |_=>false
 getT:Tv->Key->Tv->Option Tv
  | .dic l,k,z=>some ((Z07 l k).getD z)
  |_,_,_=>none
theorem LE.get {wd wk wz:TW}{σ:St}{H:Hp}{Q:VK}:LE X.K F (Zvx wd wk wz) σ H Q->Zkg (LE X.K F wd) (LE X.K F wk) (LE X.K F wz) σ H Q:=fun⟨G,ta,M,K0,R,k,q⟩=>by
 refine⟨G,ta,M,_,R,k,fun x M1 G1 t1 v1 H1 k1 R1 s1 e1=>?_⟩
 obtain⟨d1,hd1,hD,k1⟩:=Z00 k1
 have hr1:=R1.rd e1 hd1
 cases d1 with
 |dic l1=>
  obtain⟨a,kvs1,rfl,ha1,_⟩:=hr1.dic R1.sub
  refine⟨a,rfl,.inl ⟨_,.inl ha1⟩,G1,t1,M1,_,R1,k1,fun y M2 G2 t2 v2 H2 k2 R2 s2 e2=>⟨G2,t2,M2,_,R2,k2,fun z M3 G3 t3 v3 H3 k3 R3 s3 e3=>?_⟩⟩
  obtain⟨tz,M4,h4,k3⟩:=Z0n k3
  obtain⟨t,ht,k3⟩:=Z00 k3
  obtain⟨u,hu,k3⟩:=Z00 k3
  obtain⟨kk,hk,k3⟩:=Z00 k3
  obtain⟨r,hr,k3⟩:=Z00 k3
  obtain⟨G4,R4,s4,s4',t4⟩:=R3.frz R.lt (s1.trans (s2.trans s3)) e3 h4
  cases t with
  |dic l=>
   cases hr
   have hx:=R3.rd (e1.stp (s2.trans s3)) ht
   obtain⟨b,kvs,eb,hb,rb⟩:=hx.dic R3.sub
   cases eb
   have hy:=Z7m (R3.rd (e2.stp s3) hu) hk
   subst hy
   refine⟨Z67 kvs kk,DGet.k hb,?_⟩
   cases z:Z07 l kk with
   |none=>
    rw[rb.lookN z]
    rw[z] at k3
    exact q _ _ G4 ta v3 H3 k3 R4 s4 t4
   |some w=>
    obtain⟨w',hw,hw'⟩:=rb.look z
    rw[hw]
    rw[z] at k3
    exact q _ _ G4 ta w' H3 k3 R4 s4 (hw'.mono s4')
  |_=>cases hr
 |_=>cases hD
end
section
variable {X:Cx}
theorem Z9d:Z2l X (.type "dict") (fun xs H Q=>∃(p:Addr) (kvs:List (Key×V)),xs = [.ref p]/\H p=some (.dK kvs)/\∀a,H a=none->Q (.ref a) (upd H a (.dK kvs))):=by
 intro pins s σ H xs us Q I r h
 obtain⟨p,kvs,rfl,hp,q⟩:=h
 obtain⟨u,rfl,rx⟩:=Z3p r
 cases rx
 exact Zi0 I (Rd.of hp) fun a s' ha I'=>⟨.ref a,_,I',rfl,q a ha⟩
end
end L2
namespace HT
open PySem PySem.Spec PyProof.Rows
section
variable {prog:Program}{w:World}{A:Around}{E:Value->Shared->Prop}{s:Shared}
theorem Zd3 (n:Nat):Builtin.Slice.sliceAdjust none none (-1) (n:Int)=((n:Int)-1,-1):=by
 unfold Builtin.Slice.sliceAdjust
 simp
theorem Zd4 (n:Nat):Builtin.Slice.slicePlaces ((n:Int)-1) (-1) (-1)=n:=by
 unfold Builtin.Slice.slicePlaces
 simp
 split <;> lia
theorem Z4l {sl:Addr}{t:Tok}{n:Nat}{Q:Int×Int×Nat->Shared->Prop}(hs:s.heap.IsSliceOf sl .none .none (.int (-1) t))
  (h:Q ((n:Int)-1,-1,n) s):wpAny (model prog w) A (Builtin.Slice.sliceApplied (.ref sl) (pure (n:Int))) Q E s:=by
 obtain⟨os,hos,hcs,hds⟩:=id hs
 unfold Builtin.Slice.sliceApplied Builtin.Slice.sliceFields
 refine wpAny_bind (wpAny_bind (wpAny_field hos hds (x:=.none) rfl (wpAny_bind (wpAny_field hos hds (x:=.none) rfl (wpAny_bind (wpAny_field hos hds (x:=.int (-1) t) rfl (wpAny_pure ?_)))))))
 refine wpAny_bind (slicePart_int ?_)
 show wpAny _ _ (if ((-1:Int)==0)=true then _ else _) _ _ s
 rw[if_neg (by decide)]
 refine wpAny_bind (slicePart_none (wpAny_bind (slicePart_none (wpAny_bind (wpAny_pure ?_)))))
 show wpAny _ _ (match Builtin.Slice.sliceAdjust none none (-1) (n:Int) with | (lo,hi)=>pure (lo,(-1:Int),Builtin.Slice.slicePlaces lo hi (-1))) _ _ s
 rw[Zd3 n]
 show wpAny _ _ (pure ((n:Int)-1,(-1:Int),Builtin.Slice.slicePlaces ((n:Int)-1) (-1) (-1))) _ _ s
 rw[Zd4]
 exact wpAny_pure h
theorem Zil (xs:Array Value):((List.range xs.size).filterMap fun(m:Nat)=>xs[((xs.size:Int)-1+(m:Int)*(-1)).toNat]?).toArray=xs.toList.reverse.toArray:=by
 have e:(fun(m:Nat)=>xs[((xs.size:Int)-1+(m:Int)*(-1)).toNat]?)=(fun k:Nat=>xs[k]?)∘fun m=>xs.size-1-m:=by
  funext m
  show _=xs[xs.size-1-m]?
  by_cases hm:m<xs.size
  ·have h1:((xs.size:Int)-1+(m:Int)*(-1)).toNat=xs.size-1-m:=by lia
   rw[h1]
  ·have h1:((xs.size:Int)-1+(m:Int)*(-1)).toNat=0:=by lia
   have h2:xs.size-1-m=0:=by lia
   rw[h1,h2]
 rw[e,<- List.filterMap_map,PySem.W.krv_range,List.filterMap_reverse,PySem.W.krv_all]
theorem getItem_tuple_rev {t sl:Addr}{items:Array Value}{tk:Tok}{Q:Value->Shared->Prop}(ht:IsTup s.heap t items)(hs:s.heap.IsSliceOf sl .none .none (.int (-1) tk))
  (h:Q (.ref s.heap.objs.size) { s with heap:=s.heap.push { cls:=.type "tuple",data:=.seq items.toList.reverse.toArray } })
  (hsz:items.size<=sizeLine):wpAny (model prog w) A (getItem (.ref t) (.ref sl)) Q E s:=by
 have htake:sizeOk (.seq items.toList.reverse.toArray):=by
  show(items.toList.reverse).toArray.size<=sizeLine
  rw[size_toArray,length_reverse,Array.length_toList]
  lia
 obtain⟨os,hos,hcs,hds⟩:=id hs
 have hTs:s.TypeIs (.ref sl) "slice":=⟨os,hos,hcs⟩
 unfold getItem
 try with_reducible refine wpAny_holding ?_
 first|refine wpAny_bind (wpAny_pure ?_)|skip
 refine wpAny_bind (wpAny_sequenceKey ht.typeIs (by decide) ?_)
 refine wpAny_bind (wpAny_callSpecial?_slot (name:=Str.ofString "__getitem__") ht.typeIs PyProof.Rows.slot_tuple_getitem
  (wpAny_call_entry PyProof.Rows.slot_tuple_getitem ht.typeIs entry_tuple_getitem ?_ (args_tuple_getitem _ _)))
 show wpAny _ _ (Builtin.Tuple.tupleItemsOf (.ref t) >>= _) _ _ s
 refine wpAny_bind (tupleItemsOf_ ht ?_)
 refine wpAny_bind (wpAny_typeOf hTs ?_)
 rw[if_pos (by decide)]
 refine wpAny_bind (Z4l hs ?_)
 have hno:¬ ((((items.size:Int)-1)==0&&(-1:Int)==1&&items.size==items.size)=true):=by
  intro q
  rw[Bool.and_eq_true,Bool.and_eq_true] at q
  exact absurd q.1.2 (by decide)
 show wpAny _ _ (if (((items.size:Int)-1)==0&&(-1:Int)==1&&items.size==items.size)=true then _ else _) _ _ s
 rw[if_neg hno,Zil]
 first
  |exact wpAny_bind (m:=Builtin.Tuple.tupleExact _) (wpAny_newObj_type (wpAny_pure ⟨_,rfl,wpAny_pure h⟩) htake)
  |exact wpAny_bind (m:=Builtin.Tuple.tupleExact _) (wpAny_newObj_type (wpAny_bind (wpAny_pure (wpAny_pure ⟨_,rfl,wpAny_pure h⟩))) htake)
  |exact wpAny_bind (wpAny_bind (m:=Builtin.Tuple.tupleExact _) (wpAny_newObj_type (wpAny_pure (wpAny_pure ⟨_,rfl,wpAny_pure h⟩)) htake))
  |exact wpAny_bind (wpAny_bind (m:=Builtin.Tuple.tupleExact _) (wpAny_newObj_type (wpAny_pure ⟨_,rfl,wpAny_pure h⟩) htake))
end
end HT
namespace L2
open PySem PySem.Spec PyProof.Rows
section
variable {X:Cx}
theorem Zmp {e st:Expr}{te ts:TE}{pos p2:Pos}(he:PE X e te)(hst:PE X st ts):PE X (.Subscript e (.Slice none none (some st) p2) pos)
  (fun σ H Q=>te σ H fun x H1=>ts σ H1 fun y H2=>y = .int (-1)/\∃a xs,x = .ref a/\SqT X.K H2 a xs/\∀p,H2 p=none->Q (.ref p) (upd H2 p (.tup xs.reverse))):=by
 intro pins s σ H Q I h
 refine Subscript_ (thn (he pins s σ H _ I h) fun v s1 ⟨x,H1,I1,r1,q1⟩=>?_)
 refine wpAny_Slice ?_
 rw[evalPart_none]
 refine wpAny_pure (wpAny_pure ?_)
 rw[evalPart_some]
 refine thn (hst pins s1 σ H1 _ I1 q1) fun vs s3 ⟨y,H3,I3,ry,ey,a,xs,ex,hx,q⟩=>?_
 subst ey ex
 cases r1
 obtain⟨t,rfl⟩:=ry
 have I4:Inv X pins σ H3 { s3 with heap:=s3.heap.push { cls:=.type "slice",data:=.fields #[.none,.none,.int (-1) t] } }:=I3.kept (t':=s3.toks) fun b ob q=>Heap.get?_push_of_some _ q
 obtain⟨its,r,ht,hz⟩:=I4.tuple hx
 have hlen:=r.length
 refine tail_any (ops:=[.ref a,.ref s3.heap.objs.size]) ht.typeIs PyProof.Rows.slot_tuple_getitem.lookup (HT.getItem_tuple_rev ht (Heap.IsSliceOf.new ..) ?_ (by rw[size_toArray] <;> lia)) (by with_unfolding_all rfl)
 refine⟨.ref _,_,I4.laid (t':=s3.toks) (o:=.tup xs.reverse) (fun b ob q=>Heap.get?_push_of_some _ q) (Nat.le_refl _) ?_,rfl,q _ (I4.hok.fresh (Nat.le_refl _))⟩
 refine⟨by rw[length_reverse];exact hz,its.reverse,r.reverse,?_⟩
 rw[show(its.toArray.toList.reverse).toArray=its.reverse.toArray by simp]
 exact IsTupN.new _ _
end
section
variable {X:Cx}{K:W.Frag}{F:Fr}{G H:Hp}
def Zu7:Ob->List Tv->Option (Prop×Ob×Tv)
 | .lst l,[.lst m]=>some (l.length+m.length<=16777216,.lst (l++m),.at .non)
 | .lst l,[.tup m]=>some (l.length+m.length<=16777216,.lst (l++m),.at .non)
 |_,_=>none
def rExtW:V->List V->Hp->VK->Prop:=fun x vs H Q=>rExtend x vs H Q∨rExtendT x vs H Q
theorem Zmq:MtM X "list.extend" rExtW:=fun pins s σ H x xs v us Q I rx rv h=>by
 rcases h with h|h
 ·exact Zek pins s σ H x xs v us Q I rx rv h
 ·exact Zd2 pins s σ H x xs v us Q I rx rv h
theorem Zmr:Zii K Zu7 rExtW:=fun G H a o o' t ts vs Q sm h hg ht e q=>by
 obtain⟨c,hl,e⟩:=e
 unfold Zu7 at e
 split at e
 ·next l m=>
  cases e
  obtain⟨ws,e1,e2⟩:=h
  cases ht with
  |cons k1 k2=>
   cases k2
   cases k1 with
   | @lst b zs _ h r=>exact .inl ⟨a,b,ws,zs,rfl,rfl,e1,sm _ _ h,by rw[sizeLine_eq,e2.len,r.len];exact hl,q _ _ (fun b hb=>Z04 hb) ⟨_,Z08,e2.app r⟩ (.at rfl)⟩
 ·next l m=>
  cases e
  obtain⟨ws,e1,e2⟩:=h
  cases ht with
  |cons k1 k2=>
   cases k2
   cases k1 with
   | @tup b zs _ h r=>exact .inr ⟨a,b,ws,zs,rfl,rfl,e1,sm _ _ h,by rw[sizeLine_eq,e2.len,r.len];exact hl,q _ _ (fun b hb=>Z04 hb) ⟨_,Z08,e2.app r⟩ (.at rfl)⟩
 ·cases e
def Zvy:Bool->Tv->Rz
 |false,.lst l=>.ok (.n (.lst l.reverse))
 |true,.tup l=>.ok (.v (.tup l.reverse))
 |_,_=>.no
theorem Zr8 {b:Bool}{e:Expr}{wa:TW}{j:Nat}{p1 p2 p3 pos:Pos}(h:PE X e (LE X.K F wa)):PE X (.Subscript e (.Slice none none (some (.UnaryOp .USub (.Constant (.int 1) j p1) p2)) p3) pos) (LE X.K F (wUn (Zvy b) wa)):=by
 have hst:PE X (.UnaryOp .USub (.Constant (.int 1) j p1) p2) (tUn (rU fun i=>.int (-i)) (tC (.int 1))):=Zpm Zkb Zk3
 cases b with
 |false=>
  refine(Zqd h hst).imp fun σ H Q ⟨G,ta,M,K0,R,k,q⟩=>⟨G,ta,M,_,R,k,fun x M1 G1 t1 v1 H1 k1 R1 s1 e1=>?_⟩
  obtain⟨t,ht,k1⟩:=Z00 k1
  obtain⟨s,hs,k1⟩:=Z1l k1
  have hr:=R1.rd e1 ht
  refine⟨1,rfl,rfl,?_⟩
  cases t with
  |lst l=>cases hs;obtain⟨a,vs,rfl,ha,r⟩:=hr.lst R1.sub;exact⟨a,vs,rfl,.of ha,Z23 r.rev (R1.done R.lt s1 k1 q)⟩
  |_=>cases hs
 |true=>
  refine(Zmp h hst).imp fun σ H Q ⟨G,ta,M,K0,R,k,q⟩=>⟨G,ta,M,_,R,k,fun x M1 G1 t1 v1 H1 k1 R1 s1 e1=>?_⟩
  obtain⟨t,ht,k1⟩:=Z00 k1
  obtain⟨s,hs,k1⟩:=Z1l k1
  have hr:=R1.rd e1 ht
  refine⟨1,rfl,rfl,?_⟩
  cases t with
  |tup l=>cases hs;obtain⟨a,vs,rfl,ha,r⟩:=hr.tup R1.sub;exact⟨a,vs,rfl,.of ha,Zaa R1.sub r.rev (R1.done R.lt s1 k1 q)⟩
  |_=>cases hs
end
def eqN (neg:Bool):Tv->Tv->Rz
 | .lst l,.lst []=>.ok (vB (xor neg l.isEmpty))
 |_,_=>.no
def Zu8 (K:W.Frag)(neg:Bool):R2:=fun x y H Q=>∃a b xs,x = .ref a/\y = .ref b/\SqL K H a xs/\SqL K H b []/\Q (.bl (xor neg xs.isEmpty)) H
theorem Zfe {K:W.Frag}{neg:Bool}:Z0t K (eqN neg) (Zu8 K neg):=fun G H x y t u s Q sm h1 h2 e q=>by
 unfold eqN at e
 split at e
 ·next l=>
  cases e
  obtain⟨a,vs,rfl,k1,r1⟩:=h1.lst sm;obtain⟨b,ws,rfl,k2,r2⟩:=h2.lst sm
  cases r2
  have hl:vs.isEmpty=l.isEmpty:=by cases r1 <;> rfl
  refine⟨a,b,_,rfl,rfl,.of k1,.of k2,?_⟩
  rw[hl]
  exact Z0l sm (.at rfl) q
 ·cases e
section
variable {X:Cx}
theorem Zr9 (hu:X.A.units<cLine):OpR X (compareOp .Eq) (Zu8 X.K false):=fun pins s σ H x y v u Q I rx ry ⟨a,b,xs,h1,h2,h3,h4,q⟩=>Zev hu pins s σ H x y v u Q I rx ry ⟨a,b,xs,h1,h2,h3,h4,by simpa using q⟩
theorem Zra (hu:X.A.units<cLine):OpR X (compareOp .NotEq) (Zu8 X.K true):=by
 intro pins s σ H x y v u Q I rx ry h
 obtain⟨a,b,xs,rfl,rfl,hx,hy,q⟩:=h
 cases rx
 cases ry
 obtain⟨its,r,pl,hz⟩:=I.list hx
 obtain⟨its2,r2,pl2,hz2⟩:=I.list hy
 have hl:=r.length
 have hl2:=r2.length
 cases xs with
 |nil=>
  refine SeqAt.RcNeAt.lists (e:=fun _=>true) pl.isList pl2.isList (by simp only [size_toArray];simp at hl hl2;lia) hu (fun j h1 h2=>?_) X.prog X.w _ _ ?_
  ·simp only [size_toArray] at h1
   simp at hl
   lia
  ·refine Z06 I q ?_
   rw[size_toArray,<- hl]
   rfl
 |cons z zs=>
  refine SeqAt.RcNeAt.lists_lengths pl.isList pl2.isList (by simp only [size_toArray,bne_iff_ne];simp at hl hl2;lia) hu X.prog X.w _ _ ?_
  exact Z06 I q rfl
end
def Zu9 (M:Ms)(i:Nat):Option (Rf×List Tv):=match Z7h M i with
 |some (.loc j)=>match Z01 M (.loc j) with
  |some (.lst ts)=>some (.loc j,ts)
  |_=>none
 |some (.out j)=>match Z01 M (.out j) with
  |some (.lst ts)=>some (.out j,ts)
  |_=>none
 |_=>none
def Zff (caps:List Nat)(own i:Nat)(p:Tv->Ms->Option Ms)(wt:TWT)(we:TW):TW:=fun M k=>match Zu9 M i with
 |some (r,ts)=>ts.length<=16777216/\bnd (Z9b M caps) fun evs=>bnd (Z6v M.tmp.length M evs) fun rs=>(Zkn rs&&Zab r rs)=true ∧
   Z03 p wt we (fun ys Mb=>bnd (Z0z (rs.map (·.1)) Mb.out) fun ss=>Zqn M.tmp.length (wb M rs ss) k (.own (.lst ys))) ts [] (Z09 (caps.length+own) (rs.map (·.1)))
 |none=>Zm2 caps own (wIt (Zov i)) p wt we M k
theorem Zms {M:Ms}{i:Nat}{r:Rf}{ts:List Tv}(h:Zu9 M i=some (r,ts)):Z01 M r=some (.lst ts)/\((r = .loc i/\Z7h M i=some (.loc i))∨∃k,r = .out k/\Z7h M i=some (.out k)):=by
 unfold Zu9 at h
 split at h
 ·next j e=>
  have hj:j=i:=by
   unfold Z7h at e
   split at e <;> cases e
   rfl
  subst hj
  split at h
  ·next ts' e2=>cases h;exact⟨e2,.inl ⟨rfl,e⟩⟩
  ·cases h
 ·next j e=>
  split at h
  ·next ts' e2=>cases h;exact⟨e2,.inr ⟨j,rfl,e⟩⟩
  ·cases h
 ·cases h
section
variable {X:Cx}{F:Fr}
theorem LE.compV {N':List Str}{caps:List Nat}{m i0:Nat}{p:Tv->Ms->Option Ms}{wt:TWT}{we:TW}(hN:N'.length=caps.length+m){σ:St}{H:Hp}{Q:VK}:
  LE X.K F (Zff caps m i0 p wt we) σ H Q->Zi2 (caps.map some++List.replicate m none) (Ztr X.K (LE X.K F (Zov i0))) (LGx X.K p) (LBx X.K wt) (LEx X.K we) σ H Q:=fun⟨G,ta,M,K0,R,k,q⟩=>by
 unfold Zff at k
 split at k
 ·next r ts hr=>
  obtain⟨ho,hev⟩:=Zms hr
  have hw:Zov i0 M fun ev M'=>M'=M/\Z7h M i0=some ev:=by
   unfold Zov
   rcases hev with ⟨_,e⟩|⟨k',_,e⟩ <;> (rw[e];exact⟨rfl,rfl⟩)
  refine⟨G,ta,M,_,R,hw,fun ev M1 G1 t1 v H1 hk R1 s1 e1=>?_⟩
  obtain⟨rfl,hv⟩:=hk
  obtain⟨a,ha,⟨wvs,hH,hts⟩,hg⟩:=R1.ob r _ ho
  have hva:v = .ref a:=by
   rcases hev with ⟨rfl,e⟩|⟨k',rfl,e⟩
   ·rw[e] at hv;cases hv
    obtain⟨h1,b,h2⟩:=e1
    simp only [adr] at ha
    subst h2
    rw[h1] at ha
    cases ha;rfl
   ·rw[e] at hv;cases hv
    obtain⟨b,h1,h2⟩:=e1
    simp only [adr] at ha
    subst h2
    rw[h1] at ha
    cases ha;rfl
  refine⟨a,hva,.inl ⟨⟨wvs,SqL.of hH⟩,?_⟩⟩
  obtain⟨hts',k1⟩:=k
  obtain⟨evs,h1,k1⟩:=Z00 k1
  obtain⟨rs,h2,ok,k1⟩:=Z00 k1
  rw[Bool.and_eq_true] at ok
  obtain⟨vs,e1',e2⟩:=R1.vars h1
  obtain⟨as,g1,g2,g3,g4⟩:=R1.args e2 h2 ok.1
  have hna:a∉as:=fun hm=>by
   obtain⟨y,x,o,m1,m2,m3⟩:=g1.mem a hm
   have:=R1.ij r x _ o a ho m2 ha m3
   subst this
   exact Z36 ok.2 y m1
  have hvl:vs.length=caps.length:=by have:=congrArg List.length e1';simpa using this.symm
  have hal:(rs.map (·.1)).length=caps.length:=by rw[<- g2.len,hvl]
  have st:Z6q (caps.map some++List.replicate m none) σ=Z2m N' vs:=by
   rw[Zbo,e1',Zbp,hN,hvl]
   congr 2;lia
  have E:=Z55 (N:=N') R1.sub g2 g3 (by rw[hal,hN];lia)
  rw[hN] at E
  rw[st]
  refine⟨fun i n ys σc H=>n+i=ts.length/\ys.length<=i/\∃Gc Mb tys,Rel X.K ⟨H1,G1,as⟩ Gc [] Mb σc H/\IsTs X.K Gc ys tys/\Same G1 Gc/\Z03 p wt we (fun ys Mb=>bnd (Z0z (rs.map (·.1)) Mb.out) fun ss=>Zqn M1.tmp.length (wb M1 rs ss) K0 (.own (.lst ys))) (ts.drop i) tys Mb,
   ⟨ts.length,by lia,Nat.zero_le _,G1,_,[],E,.nil,Same.refl _,k1⟩,?_⟩
  rintro i n ys σc H2 ⟨hn,hyl,G2,Mb,tys,R2,hy,s2,k2⟩
  have hH2:H2 a=some (.lst wvs):=R2.fra a _ hH hna
  rcases Nat.lt_or_ge i ts.length with hi|hi
  ·right
   have ht:=List.getElem?_eq_getElem hi
   obtain⟨xi,hxi,hxt⟩:=hts.get ht
   refine⟨⟨wvs,xi,SqL.of hH2,hxi⟩,by rw[sizeLine_eq];lia,fun x H' hx=>?_⟩
   obtain⟨rfl,hx⟩:=hx
   have hxx:=hx wvs (SqL.of hH2)
   rw[hxi] at hxx;cases hxx
   have z5:=hxt.mono s2
   rw[Z7k ht] at k2
   obtain⟨M3,e3,k2⟩:=Z00 k2
   refine⟨_,G2,Mb,_,M3,R2,z5,e3,fun σ4 R4=>⟨_,G2,[],M3,_,R4,k2,fun b M5 G5 H5 k5 R5 s5=>?_⟩⟩
   cases b with
   |true=>
    refine⟨_,G5,[],M5,_,R5,k5,fun ev M6 G6 t6 v H6 k6 R6 s6 e6=>?_⟩
    obtain⟨t,M7,h7,k6⟩:=Z0n k6
    have l5:M5.tmp.length=0:=R5.lt
    have h7':Z6u M5.tmp.length M6 ev=some (t,M7):=by rw[l5];exact h7
    obtain⟨G7,R7,s7,s7',t7⟩:=R6.frz R5.lt s6 e6 h7'
    exact⟨n-1,by lia,by lia,by simp;lia,G7,M7,_,R7,(hy.mono (s5.trans s7.g)).app (.cons t7 .nil),s2.trans (s5.trans s7.g),k6⟩
   |false=>exact⟨n-1,by lia,by lia,by lia,G5,M5,tys,R5,hy.mono s5,s2.trans s5,k5⟩
  ·left
   have hi':i=ts.length:=by lia
   refine⟨⟨wvs,SqL.of hH2,by rw[hts.len,hi'];exact Nat.le_refl _⟩,fun l hl=>?_⟩
   rw[drop_eq_nil_of_le hi] at k2
   obtain⟨ss,e3,k2⟩:=Z00 k2
   have lt1:M1.tmp.length=t1.length:=R1.lt
   rw[lt1] at g4 k2
   have R1':Rel X.K F G1 (t1 ++ []) M1 σ H1:=by rw[append_nil];exact R1
   have g1':RAs F (t1 ++ []) σ M1 rs vs as:=by rw[append_nil];exact g1
   have B:=R1'.back g1' (R2.aps g2 e3) R2.post g4
   have B2:=B.1.push (o:=.lst tys) hl (H':=upd H2 l (.lst ys)) (fun b x e=>by rw[Z04 (Z0b e hl)];exact e) ⟨ys,Z08,hy⟩
   refine q _ _ G2 (t1 ++ [l]) _ _ k2 (by rw[Z99];exact B2) (s1.trans ⟨s2,[l],rfl⟩) ⟨l,?_,rfl⟩
   rw[List.getElem?_append_right (Nat.le_refl _)];simp
 ·exact LI.seq (LE.comp hN ⟨G,ta,M,K0,R,k,q⟩)
end
end L2
namespace L2.Ztl
open L2
open PySem PySem.Spec PyProof.Rows PySem.Builtin PySem.AutoSeq1
end L2.Ztl
namespace L2
open PySem PySem.Spec PyProof.Rows
section
variable {X:Cx}{F:Fr}
def Zrb (wd wk:TW)(n:Int):TWS:=fun P M=>wd M fun x M2=>wk M2 fun y M3=>bnd (Zfb x) fun r=>bnd (Z01 M3 r) fun o=>bnd (rd M3 y) fun u=>bnd (Zox u) fun k=>match o with
 | .dic l=>l.length<16777216/\∃i,Z07 l k=some (.at (.int i))/\P.nx ((Z9x M3 (.dic (Z6w l k (.at (.int (i-n))))) r).cut 0)
 |_=>False
theorem LS.dsub {wd wk:TW}{n:Int}{D:Ends}{σ:St}{H:Hp}:LS X.K F (Zrb wd wk n) D σ H->Zq5 (LE X.K F wd) (LE X.K F wk) (tC (.int n)) rSub D σ H:=fun⟨G,M,P,R,k,ok⟩=>by
 refine⟨G,[],M,_,R,k,fun x M3 G3 t3 xv H3 k3 R3 s3 e3=>⟨G3,t3,M3,_,R3,k3,fun y M4 G4 t4 yv H4 k4 R4 s4 e4=>?_⟩⟩
 obtain⟨r,hr,k4⟩:=Z00 k4
 obtain⟨o,ho,k4⟩:=Z00 k4
 obtain⟨u,hu,k4⟩:=Z00 k4
 obtain⟨kk,hk,k4⟩:=Z00 k4
 obtain⟨a,rfl,ha⟩:=(e3.stp s4).adr hr
 obtain⟨b,z1,z2,z3⟩:=R4.ob r o ho
 rw[ha] at z1;cases z1
 have hy:=Z7m (R4.rd e4 hu) hk
 subst hy
 cases o with
 |lst l=>exact k4.elim
 |dic l=>
  obtain⟨kvs,e5,r5⟩:=z2
  obtain⟨hl,i,hi,k4⟩:=k4
  obtain⟨v,hv,ht⟩:=r5.look hi
  cases ht
  refine⟨a,.int i,rfl,by rw[<- hv];exact DGet.k e5,i,n,rfl,rfl,_,DPut.k e5 (by rw[sizeLine_eq,r5.len];exact hl),?_⟩
  have R5:=R4.chg (o':=.dic (Z6w l kk (.at (.int (i-n))))) ho ha (H':=upd H4 a (.dK (Z6l kvs kk (.int (i-n))))) (fun b hb=>Z04 hb) ⟨_,Z08,r5.put (.at rfl)⟩
  exact ok.nx _ G4 σ _ k4 (R5.cut 0) (s3.g.trans s4.g)
end
def eqE (neg:Bool):Tv->Tv->Rz
 | .tup l,.tup []=>.ok (vB (xor neg l.isEmpty))
 |_,_=>.no
inductive rEqE (K:W.Frag)(neg:Bool)(x:V)(y:V)(H:Hp)(Q:VK):Prop
 |mk (a b xs:_) (_:x = .ref a) (_:y = .ref b) (_:SqT K H a xs) (_:SqT K H b []) (_:Q (.bl (xor neg xs.isEmpty)) H):rEqE K neg x y H Q
theorem Zfg {K:W.Frag}{neg:Bool}:Z0t K (eqE neg) (rEqE K neg):=fun G H x y t u s Q sm h1 h2 e q=>by
 unfold eqE at e
 split at e
 ·next l=>
  cases e
  obtain⟨a,vs,rfl,k1,r1⟩:=h1.tup sm;obtain⟨b,ws,rfl,k2,r2⟩:=h2.tup sm
  cases r2
  have hl:vs.isEmpty=l.isEmpty:=by cases r1 <;> rfl
  refine⟨a,b,_,rfl,rfl,.of k1,.of k2,?_⟩
  rw[hl]
  exact Z0l sm (.at rfl) q
 ·cases e
section
variable {X:Cx}
theorem Zvz {A:Around}{s:Shared}{its:List Value}:∀(j:Nat) (h1:j<its.toArray.size) (h2:j<([]:List Value).toArray.size),SeqAt.EqAt A s its.toArray[j] ([]:List Value).toArray[j] ((fun _=>true) j):=fun j h1 h2=>absurd h2 (Nat.not_lt_zero _)
theorem Zrc (hu:X.A.units<cLine):OpR X (compareOp .Eq) (rEqE X.K false):=by
 intro pins s σ H x y v u Q I rx ry ⟨a,b,xs,h1,h2,h3,h4,q⟩
 subst h1 h2
 cases rx;cases ry
 obtain⟨its,v1,pl,_⟩:=I.tuple h3
 obtain⟨its2,v2,pl2,_⟩:=I.tuple h4
 cases v2
 refine SeqAt.eq_tupleAt pl pl2 hu (e:=fun _=>true) Zvz (Z06 I q ?_)
 cases v1 <;> simp
theorem Zrd (hu:X.A.units<cLine):OpR X (compareOp .NotEq) (rEqE X.K true):=by
 intro pins s σ H x y v u Q I rx ry ⟨a,b,xs,h1,h2,h3,h4,q⟩
 subst h1 h2
 cases rx;cases ry
 obtain⟨its,v1,pl,_⟩:=I.tuple h3
 obtain⟨its2,v2,pl2,_⟩:=I.tuple h4
 cases v2
 refine SeqAt.RcNeAt.tuples pl pl2 hu (e:=fun _=>true) Zvz X.prog X.w _ _ (Z06 I q ?_)
 cases v1 <;> simp
end
section
variable {X:Cx}{F:Fr}
def chT (z:Str):List Tv:=z.cps.toList.map fun c=>.at (.str ⟨#[c]⟩)
def Zw0 (wa:TW):TWF:=fun M k=>wa M fun ev M1=>Zez (Z6u M.tmp.length M1 ev) fun t M2=>match t with
 | .at (.str z)=>k (chT z) M2
 |_=>False
theorem LI.its {wa:TW}{σ:St}{H:Hp}{R:It->Hp->Prop}:LI X.K F (Zw0 wa) σ H R->Zvc (LE X.K F wa) σ H R:=fun⟨G,ta,M,K0,R0,k,q⟩=>by
 refine⟨G,ta,M,_,R0,k,fun ev M1 G1 t1 v H1 k1 R1 s1 e1=>?_⟩
 obtain⟨t,M2,h2,k1⟩:=Z0n k1
 obtain⟨G2,R2,s2,s2',t2⟩:=R1.frz R0.lt s1 e1 h2
 cases t2 with
 | «at» f =>
  cases v with
  |str z=>
   have hl:(chT z).length=z.cps.size:=by simp [chT]
   refine⟨z,rfl,q _ _ G2 _ H1 k1 R2 s2.g ⟨fun i G' H' z1 z2 hi=>by rw[hl] at hi;exact hi,fun G' H' z1 z2=>hl,fun i u G' H' x H'' z1 z2 hu hy=>?_⟩⟩
   obtain⟨rfl,c,hc,rfl⟩:=hy
   have e:(chT z)[i]? = some (.at (.str ⟨#[c]⟩)):=by
    have hc':z.cps.toList[i]? = some c:=by simpa using hc
    show(z.cps.toList.map _)[i]? = _
    rw[List.getElem?_map,hc'];rfl
   rw[e] at hu;cases hu
   exact⟨G',Same.refl _,z2,Same.refl _,fun _ _ e=>.inl e,.at rfl⟩
  |_=>exact k1.elim
 |_=>exact k1.elim
end
end L2
namespace Stx
open Srt PySem PyProof.Rows
theorem strs_len:∀{vs:List Value} {ns:List Str},StrsAre vs ns->vs.length=ns.length
 |_,_,.nil=>rfl
 |_,_,.cons y t h=>congrArg (· + 1) (strs_len h)
theorem Zbq {v:Value}{k:Str}(h:Value.isStrOf k v=true):∃t,v = .str k t:=by
 unfold Value.isStrOf at h
 split at h
 ·rw[beq_iff_eq] at h
  subst h
  exact⟨_,rfl⟩
 ·cases h
def IS (P:Program)(w:World)(h:Heap)(a:Addr)(l:List Str):Prop:=
 ∃o es ep t,h.get? a=some o/\o.ExactSet/\o.data = .set es ep t/\ElemsOf (PySem.strKind P w) es.toList/\(es.toList.map fun e=>strOf e.2).Perm l/\l.Nodup/\es.size<scanBound/\t.fits es.size=true/\Rs t.place/\t.led = !byT w
theorem IS.keep {P:Program}{w:World}{h h':Heap}{a:Addr}{l:List Str}(x:IS P w h a l)(k:∀o,h.get? a=some o->h'.get? a=some o):IS P w h' a l:=by
 obtain⟨o,es,ep,t,ho,r⟩:=x
 exact⟨o,es,ep,t,k o ho,r⟩
def addL (l:List Str)(k:Str):List Str:=if k∈l then l else l ++ [k]
theorem Zmt {l:List Str}{k:Str}(h:l.Nodup):(addL l k).Nodup:=by
 unfold addL
 by_cases e:k∈l
 ·rw[if_pos e]
  exact h
 ·rw[if_neg e]
  exact nodup_append.mpr ⟨h,nodup_cons.mpr ⟨not_mem_nil,nodup_nil⟩,fun a ha b hb=>by rw[mem_singleton.mp hb];exact fun z=>e (z▸ha)⟩
section
variable {P:Program}{w:World}{A:Around}{E:Value->Shared->Prop}{s:Shared}
theorem IS.store {h:Heap}{a:Addr}{o:Obj}{es:Array (Int×Value)}{ep:Nat}{t:SetTable}(ho:h.get? a=some o)(hx:o.ExactSet)(hd:o.data = .set es ep t){es':Array (Int×Value)}{t':SetTable}{l:List Str}
  (h1:ElemsOf (PySem.strKind P w) es'.toList) (h2:(es'.toList.map fun e=>strOf e.2).Perm l) (h3:l.Nodup) (h4:es'.size<scanBound) (h5:t'.fits es'.size=true) (h6:Rs t'.place) (h7:t'.led = !byT w):
  (h.update a (Obj.putSet es' t')).get? a=some { o with data:=.set es' (ep+1) t' }/\IS P w (h.update a (Obj.putSet es' t')) a l:=by
 have g:(h.update a (Obj.putSet es' t')).get? a=some { o with data:=.set es' (ep+1) t' }:=by
  have q:=Heap.get?_update_self (Obj.putSet es' t') ho (by rw[putSet_of es' t' hd];rfl)
  rw[putSet_of es' t' hd] at q
  exact q
 exact⟨g,_,es',ep+1,t',g,hx,rfl,h1,h2,h3,h4,h5,h6,h7⟩
theorem Zd5 {a:Addr}{l:List Str}{k:Str}{tk:Tok}{Q:Bool->Shared->Prop}(hS:IS P w s.heap a l)(room:l.length+1<scanBound)
  (h:∀h' b,Heap.SameBut a s.heap h'->IS P w h' a (addL l k)->Q b { s with heap:=h' }):wpAny (model P w) A (setAddHashed a (.str k tk) ((PySem.strKind P w).hash k)) Q E s:=by
 obtain⟨o,es,ep,t,ho,hx,hd,hel,hpm,hnd,hb,hf,hr,hled⟩:=hS
 have hlen:es.size=l.length:=by rw[<- hpm.length_eq,length_map,Array.length_toList]
 have hkey:(PySem.strKind P w).is k (.str k tk)=true:=PySem.strKind_is _ _ _ _
 have memk:k∈l↔∃e∈es.toList,(PySem.strKind P w).is k e.2=true:=by
  rw[<- hpm.mem_iff,mem_map]
  constructor
  ·rintro⟨e,he,q⟩
   obtain⟨⟨k',hk',_⟩,_⟩:=hel e he
   obtain⟨t',e'⟩:=Zbq hk'
   refine⟨e,he,?_⟩
   rw[e'] at q ⊢
   rw[<- q]
   exact PySem.strKind_is _ _ _ _
  ·rintro⟨e,he,q⟩
   obtain⟨t',e'⟩:=Zbq q
   exact⟨e,he,by rw[e'];rfl⟩
 unfold setAddHashed setAddHashedIn
 refine wpAny_holding (wpAny_bind (wpAny_setState_of ho hd hf ?_))
 dsimp only
 rw[byScan_of (x:=.str k tk) rfl hb hel]
 simp only [↓reduceIte]
 unfold setAddByScan
 refine wpAny_bind (wpAny_bind (wpAny_rule (wpAny_bind (wpAny_setScan_of hkey ho hd hf hel ?_))))
 cases hq:List.findIdx? (fun e=>(PySem.strKind P w).is k e.2) es.toList with
 |some j=>
  dsimp only
  obtain⟨hj,hpj,_⟩:=List.findIdx?_eq_some_iff_getElem.mp hq
  have hk:k∈l:=memk.mpr ⟨es.toList[j],getElem_mem hj,hpj⟩
  refine wpAny_pure (wpAny_pure ?_)
  refine h s.heap _ (Heap.SameBut.refl a s.heap) ?_
  rw[addL,if_pos hk]
  exact⟨o,es,ep,t,ho,hx,hd,hel,hpm,hnd,hb,hf,hr,hled⟩
 |none=>
  dsimp only
  have hk:¬k∈l:=fun z=>by
   obtain⟨e,he,q⟩:=memk.mp z
   have:=List.findIdx?_eq_none_iff.mp hq e he
   rw[q] at this
   cases this
  have e1:=layNew_perm t es ((PySem.strKind P w).hash k) (.str k tk)
  have e2:=layNew_fits t es ((PySem.strKind P w).hash k) (.str k tk)
  have e3:=Zex hr es ((PySem.strKind P w).hash k) (.str k tk)
  generalize layNew t es ((PySem.strKind P w).hash k) (.str k tk)=L at e1 e2 e3 ⊢
  obtain⟨es1,t1,wd,gave⟩:=L
  dsimp only at e1 e2 e3 ⊢
  rw[Array.toList_push] at e1
  have el1:ElemsOf (PySem.strKind P w) es1.toList:=(hel.push hkey rfl).perm e1
  have pm1:(es1.toList.map fun e=>strOf e.2).Perm (addL l k):=by
   refine(e1.map _).trans ?_
   rw[map_append,addL,if_neg hk]
   exact List.Perm.append_right _ hpm
  have nd1:(addL l k).Nodup:=Zmt hnd
  have b1:es1.size<scanBound:=by
   rw[<- Array.length_toList,e1.length_eq,length_append,Array.length_toList,hlen]
   exact room
  refine wpAny_bind (Zey gave ?_)
  have e4:hashByValue 8 (.str k tk)=pure false:=rfl
  rw[e4]
  obtain⟨e3a,e3b⟩:=e3
  have sb1:=fun t9:SetTable=>Heap.SameBut.update s.heap a (Obj.putSet es1 t9)
  cases hpl:t1.plain
  ·rw[if_neg (by decide)]
   refine wpAny_bind (wpAny_pure ?_)
   simp only [↓reduceIte]
   have e3b':=e3b.trans hled
   have sbb:=sb1 t1
   clear hpl e4 e3b sb1
   generalize t1=t2 at e2 e3a e3b' sbb ⊢
   refine wpAny_bind (wpAny_storeSet_of ho hd ?_ (fits_of_scanBound b1))
   obtain⟨g1,i1⟩:=IS.store (P:=P) (w:=w) ho hx hd el1 pm1 nd1 b1 e2 e3a e3b'
   split
   ·have f1:=relayAll_perm t2 es1 (SetTable.grown es1.size)
    have f2:=relayAll_fits t2 es1 (SetTable.grown es1.size)
    have f3:=Z53 (t:=t2) es1 (SetTable.grown es1.size)
    generalize relayAll t2 es1 (SetTable.grown es1.size)=R at f1 f2 f3 ⊢
    obtain⟨es2,t3,gave2⟩:=R
    dsimp only at f1 f2 f3 ⊢
    have sz:es2.size=es1.size:=by rw[<- Array.length_toList,f1.length_eq,Array.length_toList]
    refine wpAny_bind (Zey gave2 ?_)
    refine wpAny_bind (wpAny_storeSet_of g1 rfl ?_ (fits_of_scanBound (by lia)))
    obtain⟨g2,i2⟩:=IS.store (P:=P) (w:=w) g1 hx rfl (el1.perm f1) ((f1.map _).trans pm1) nd1 (by lia) f2 f3.1 (f3.2.trans e3b')
    exact wpAny_pure (wpAny_pure (h _ _ (sbb.trans (Heap.SameBut.update _ a _)) i2))
   ·exact wpAny_pure (wpAny_pure (h _ _ sbb i1))
  ·rw[if_pos rfl]
   refine wpAny_bind (wpAny_pure ?_)
   simp only [Bool.false_eq_true,↓reduceIte]
   replace e2:({ t1 with plain:=false }:SetTable).fits es1.size=true:=e2
   replace e3a:Rs ({ t1 with plain:=false }:SetTable).place:=e3a
   have e3b':({ t1 with plain:=false }:SetTable).led = !byT w:=e3b.trans hled
   have sbb:=sb1 { t1 with plain:=false }
   clear sb1
   generalize ({ t1 with plain:=false }:SetTable)=t2 at e2 e3a e3b' sbb ⊢
   refine wpAny_bind (wpAny_storeSet_of ho hd ?_ (fits_of_scanBound b1))
   obtain⟨g1,i1⟩:=IS.store (P:=P) (w:=w) ho hx hd el1 pm1 nd1 b1 e2 e3a e3b'
   split
   ·have f1:=relayAll_perm t2 es1 (SetTable.grown es1.size)
    have f2:=relayAll_fits t2 es1 (SetTable.grown es1.size)
    have f3:=Z53 (t:=t2) es1 (SetTable.grown es1.size)
    generalize relayAll t2 es1 (SetTable.grown es1.size)=R at f1 f2 f3 ⊢
    obtain⟨es2,t3,gave2⟩:=R
    dsimp only at f1 f2 f3 ⊢
    have sz:es2.size=es1.size:=by rw[<- Array.length_toList,f1.length_eq,Array.length_toList]
    refine wpAny_bind (Zey gave2 ?_)
    refine wpAny_bind (wpAny_storeSet_of g1 rfl ?_ (fits_of_scanBound (by lia)))
    obtain⟨g2,i2⟩:=IS.store (P:=P) (w:=w) g1 hx rfl (el1.perm f1) ((f1.map _).trans pm1) nd1 (by lia) f2 f3.1 (f3.2.trans e3b')
    exact wpAny_pure (wpAny_pure (h _ _ (sbb.trans (Heap.SameBut.update _ a _)) i2))
   ·exact wpAny_pure (wpAny_pure (h _ _ sbb i1))
end
end Stx
namespace Stx
open Srt PySem PyProof.Rows PySem.Spec
section
variable {P:Program}{w:World}
theorem IS.new {h:Heap}{a:Addr}(e:h.get? a=some (Zhm w)):IS P w h a []:=
 ⟨_,#[],0,_,e,⟨rfl,rfl,rfl⟩,rfl,fun e he=>absurd he (by simp),List.Perm.refl _,nodup_nil,by decide,by rfl,List.Pairwise.nil,rfl⟩
end
theorem Zfh:∀{vs:List Value} {ns:List Str},StrsAre vs ns->∀(i:Nat) (v:Value),vs[i]? = some v->∃t,v = .str (ns.getD i "") t
 |_,_,.nil,i,v,e=>by simp at e
 |_,_,.cons y t h,0,v,e=>by
  simp at e
  exact⟨t,by rw[<- e];rfl⟩
 |_,_,.cons y t h,i+1,v,e=>Zfh h i v (by simpa using e)
def ofL (ns:List Str):List Str:=ns.foldl addL []
theorem addL_len (l:List Str)(k:Str):(addL l k).length<=l.length+1:=by
 unfold addL
 split
 ·lia
 ·rw[length_append]
  exact Nat.le_refl _
theorem Zim (ns:List Str)(k:Str):ofL (ns ++ [k])=addL (ofL ns) k:=by
 unfold ofL
 rw[foldl_append]
 rfl
theorem ofL_len:∀(ns:List Str),(ofL ns).length<=ns.length:=by
 have go:∀(ns l:List Str),(ns.foldl addL l).length<=l.length+ns.length:=by
  intro ns
  induction ns with
  |nil=>intro l;exact Nat.le_refl _
  |cons a r ih=>
   intro l
   have h1:=ih (addL l a)
   have h2:=addL_len l a
   rw[foldl_cons,length_cons]
   lia
 intro ns
 have:=go ns []
 rw[length_nil,Nat.zero_add] at this
 exact this
theorem Zin (ns:List Str)(i:Nat):(ofL (ns.take i)).length<=(ofL ns).length:=by
 have go:∀(ns l:List Str),l.length<=(ns.foldl addL l).length:=by
  intro ns
  induction ns with
  |nil=>intro l;exact Nat.le_refl _
  |cons a r ih=>
   intro l
   have h1:=ih (addL l a)
   have h2:l.length<=(addL l a).length:=by
    unfold addL
    split
    ·exact Nat.le_refl _
    ·rw[length_append];lia
   rw[foldl_cons]
   lia
 have e:ofL ns=(ns.drop i).foldl addL (ofL (ns.take i)):=by
  unfold ofL
  rw[<- foldl_append,take_append_drop]
 rw[e]
 exact go _ _
section
variable {P:Program}{w:World}{A:Around}{R:Result->Shared->Prop}{I:Addr}{fp wr:List Addr}{G:Array GenState->Array GenState->Prop}{n:Nat}{Pv:Nat->Value->Prop}{St:Nat->Shared->Prop}
theorem Zio (W:WalksS P w A.in1 I fp wr G n Pv St)(S:Addr)(hS:S∉fp)(ns:List Str)(hn:ns.length=n)(hv:∀i v,Pv i v->∃t,v = .str (ns.getD i "") t)(hb:(ofL ns).length+1<scanBound):
  ∀(k i:Nat) (s:Shared),n-i=k->i<=n->St i s->IS P w s.heap S (ofL (ns.take i))->(∀s',Moved (S::wr) G s s'->IS P w s'.heap S (ofL ns)->R (.ok (.ret .none)) s') →
   codeAny (model P w) A (.builtin "set.update.loop" ⟨[.ref S,.ref I],[]⟩) R s:=by
 have hw:S∉wr:=fun z=>hS (W.sub _ z)
 have sub:∀b∈wr,b∈S::wr:=fun b z=>mem_cons_of_mem _ z
 intro k
 induction k with
 |zero=>
  intro i s hk hi st is hR
  obtain rfl:i=n:=by lia
  refine codeAny_builtin F.entry_set_update_loop ?_
  rw[Around.under_plainId F.plain_set_update_loop _]
  show wpAny _ A.in1 (pyNext (.ref I) >>= _) _ _ s
  refine wpAny_bind (W.done s _ _ st fun s' hm=>?_)
  show wpAny _ A.in1 (ret Value.none) _ _ s'
  refine wpAny_pure (hR s' (hm.mono sub) ?_)
  rw[take_of_length_le (by lia)] at is
  exact is.keep fun o e=>hm.heap S o hw e
 |succ k ih=>
  intro i s hk hi st is hR
  have lt:i<n:=by lia
  refine codeAny_builtin F.entry_set_update_loop ?_
  rw[Around.under_plainId F.plain_set_update_loop _]
  show wpAny _ A.in1 (pyNext (.ref I) >>= _) _ _ s
  refine wpAny_bind (W.item i s _ _ lt st fun v s' hP st' hm=>?_)
  obtain⟨t,rfl⟩:=hv i v hP
  have is':=is.keep (h':=s'.heap) fun o e=>hm.heap S o hw e
  show wpAny _ A.in1 (holding [Value.str (ns.getD i "") t] (setAdd S (.str (ns.getD i "") t)) >>= _) _ _ s'
  refine wpAny_bind (wpAny_holding ?_)
  unfold setAdd
  refine wpAny_holding (wpAny_bind ((PySem.strKind P w).pyHash (k:=ns.getD i "") (PySem.strKind_is _ _ _ _) ?_))
  have room:(ofL (ns.take i)).length+1<scanBound:=by
   have h1:=Zin ns i
   lia
  refine Zd5 (s:={ s' with toks:=s'.toks+1 }) is' room fun h' b hs is2=>?_
  have e:addL (ofL (ns.take i)) (ns.getD i "")=ofL (ns.take (i+1)):=by
   have q:ns[i]? = some (ns.getD i ""):=by
    rw[List.getD_eq_getElem?_getD,List.getElem?_eq_getElem (by lia)]
    rfl
   rw[List.take_add_one,q,<- Zim]
   rfl
  rw[e] at is2
  refine wpAny_pure ⟨plainId_quiet F.plain_set_update_loop _,ih (i+1) _ (by lia) lt (W.frame _ s' _ _ st' (Nat.le_succ _) fun b hb o q=>?_) is2 fun s'' hm'' is3=>?_⟩
  ·rw[hs.2 b fun z=>hS (z▸hb)]
   exact q
  ·refine hR s'' (Moved.trans W.gtrans ((hm.mono sub).then_heap (Nat.le_succ _) fun b o hb q=>?_) hm'') is3
   rw[hs.2 b fun z=>hb (z▸mem_cons_self)]
   exact q
end
section
variable {P:Program}{w:World}{A:Around}{E:Value->Shared->Prop}{s:Shared}
theorem set1t {l:Addr}{vs:List Value}{ns:List Str}{Q:Value->Shared->Prop}(hh:A.handled=none)(hl:s.heap.IsTuple l vs.toArray)(hi:StrsAre vs ns)(hb:(ofL ns).length+1<scanBound)
  (h:∀(h':Heap) (tk:Nat),IS P w h' s.heap.objs.size (ofL ns)->(∀b o,b<s.heap.objs.size->s.heap.get? b=some o->h'.get? b=some o)->Q (.ref s.heap.objs.size) { s with heap:=h',toks:=tk }):
  wpAny (model P w) A (call (.type "set") [.ref l]) Q E s:=by
 obtain⟨c,tl,hmro⟩:=F.called_set.mro
 have hmade:=F.called_set.made
 have hsub:=F.called_set.sub
 have h1:=F.called_set.notType
 have h2:=F.called_set.canCreate
 have hct:=F.typeCall_set_1 (.ref l)
 refine wpAny_call (codeAny_of_tree ?_)
 show wpAny _ _ (callAny (.type "set") _) _ _ _
 refine wpAny_pure ⟨Code.quiet_builtin _ (by decide+kernel),codeAny_builtin F.entry_type_call ?k⟩
 case k=>
  rw[Around.under_plain (weight_type_call_type "set" [.ref l] []) rfl]
  repeat (any_goals (first|assumption|wp_step))
  refine codeAny_mono (Zwp (.ref l) (E:=E) (Q₁:=fun v s₁=>v = .ref s.heap.objs.size/\s₁={ s with heap:=s.heap.push (Zhm w) }) ⟨rfl,rfl⟩) fun r s₁ hr=>?_
  rcases r with e|fl
  ·exact hr
  ·rcases fl with _|_|_|v
   ·exact hr.elim
   ·exact hr.elim
   ·exact hr.elim
   ·obtain⟨rfl,rfl⟩:=hr
    have hS:(s.heap.push (Zhm w)).get? s.heap.objs.size=some (Zhm w):=Heap.get?_push_size _ rfl
    have hT:Shared.TypeIs { s with heap:=s.heap.push (Zhm w) } (.ref s.heap.objs.size) "set":=⟨_,hS,rfl⟩
    have hli:=F.called_set.init.lookup
    have hbi:=F.called_set.init.bind (.ref s.heap.objs.size)
    repeat (any_goals (first|assumption|wp_step))
    refine codeAny_mono (codeAny_call_builtin (R:=wants (fun r s₂=>r = .none/\∃h' tk,s₂={ s with heap:=h',toks:=tk }/\IS P w h' s.heap.objs.size (ofL ns)/\∀b o,b<s.heap.objs.size->s.heap.get? b=some o->h'.get? b=some o) E) F.called_set.init.plain F.entry_set_init (check_set_init_1 hT ?goA)) fun r₂ s₂ hr₂=>?goB
    case goA=>
     obtain⟨ol,hol,hcl,nl,hdl⟩:=hl
     obtain⟨ocls,odict,odata,oslots⟩:=ol
     simp only at hcl hdl
     subst hcl hdl
     have hol':(s.heap.push (Zhm w)).get? l=some { cls:=.type "tuple",dict:=odict,data:=.seq vs.toArray nl,slots:=oslots }:=Heap.get?_push_of_some _ hol
     have hsls:=F.sub_tuple_set
     have hslf:=F.sub_tuple_frozenset
     have hne:(Value.type "tuple"==Value.type "dict")=false:=by decide
     have hl1:(s.heap.push (Zhm w)).IsTuple l vs.toArray:=⟨_,hol',rfl,nl,rfl⟩
     unfold Builtin.«set.__init__» noKeywords Builtin.Frozenset.updateFrom
     generalize hPI:pyIter=PI
     wp_walk
     subst hPI
     refine wpAny_pyIter_tuple hl1 ?_
     refine wpAny_bind (wpAny_runValue ?_)
     have lS:l<s.heap.objs.size:=Heap.lt_size hol
     have hh3:A.in1.in1.in1.handled=none:=by simp [hh]
     have nI:l≠(s.heap.push (Zhm w)).objs.size:=by
      rw[Heap.size_push]
      exact Nat.ne_of_lt (Nat.lt_succ_of_lt lS)
     have nS:s.heap.objs.size ∉ [(s.heap.push (Zhm w)).objs.size,l]:=by
      rw[Heap.size_push]
      simp only [mem_cons,not_mem_nil,or_false,not_or]
      exact And.intro (Nat.ne_of_lt (Nat.lt_succ_self _)) (Nat.ne_of_gt lS)
     have hv:∀(i:Nat) (v:Value),vs.toArray[i]? = some v->∃t,v = .str (ns.getD i "") t:=fun i v e=>Zfh hi i v (by simpa using e)
     refine Zio ((Walks.tuple hh3 _ l nI vs.toArray).toS) s.heap.objs.size nS ns (by rw[<- strs_len hi];simp) hv hb (vs.toArray.size-0) 0 _ rfl (Nat.zero_le _) ⟨⟨_,Heap.get?_push_size _ rfl,rfl,rfl⟩,hl1.push _⟩ ?isA ?rA
     case isA=>exact IS.new (Heap.get?_push_of_some _ hS)
     case rA=>
      intro s' hm is'
      obtain⟨h',g',d',tk',os'⟩:=s'
      obtain rfl:g'=s.gens:=hm.gens
      obtain rfl:d'=s.drawn:=hm.drawn
      obtain rfl:os'=s.os:=hm.os
      show wpAny _ _ _ _ _ _
      refine wpAny_pure ?_
      show wpAny _ _ (ret Value.none) _ _ _
      refine wpAny_pure ⟨rfl,h',tk',rfl,is',fun b o hb e=>?_⟩
      refine hm.heap b o ?_ (Heap.get?_push_of_some _ (Heap.get?_push_of_some _ e))
      rw[Heap.size_push]
      simp only [mem_cons,not_mem_nil,or_false,not_or]
      exact And.intro (Nat.ne_of_lt hb) (Nat.ne_of_lt (Nat.lt_succ_of_lt hb))
    case goB=>
     rcases r₂ with e|fl₂
     ·exact hr₂
     ·rcases fl₂ with _|_|_|v
      ·exact hr₂.elim
      ·exact hr₂.elim
      ·exact hr₂.elim
      ·obtain⟨rfl,h',tk,rfl,is',k'⟩:=hr₂
       repeat (any_goals (first|assumption|wp_step))
       exact h _ _ is' k'
end
end Stx
namespace L2
open PySem PySem.Spec PyProof.Rows
def Zre (P:Program)(w:World)(a:Addr)(l:List Str):HO:=.ext fun h=>Stx.IS P w h a l
section
variable {X:Cx}{pins:List (Addr×Obj)}{σ:St}{H:Hp}{s:Shared}
theorem Inv.tset {a:Addr}{l:List Str}(I:Inv X pins σ H s)(h:H a=some (Zre X.prog X.w a l)):Stx.IS X.prog X.w s.heap a l:=(I.hok a _ h).1
theorem Zmu {P:Program}{w:World}{H:Hp}{h:Heap}{a:Addr}{l:List Str}(x:Stx.IS P w h a l):ObjOk P w H h a (Zre P w a l):=by
 refine⟨x,?_,fun h1 h2 y k=>y.keep k⟩
 obtain⟨o,es,ep,t,ho,_⟩:=x
 exact⟨o,ho⟩
theorem Zd6 (hc:X.calm=true):Z2l X (.type "set") (fun xs H Q=>∃(p:Addr) (ns:List Str),xs = [.ref p]/\SqT X.K H p (ns.map V.str)/\(Stx.ofL ns).length<=1000/\∀a,H a=none->Q (.ref a) (upd H a (Zre X.prog X.w a (Stx.ofL ns)))):=by
 intro pins s σ H xs us Q I r h
 obtain⟨p,ns,rfl,hq,hz,q⟩:=h
 obtain⟨u,rfl,rx⟩:=Z3p r
 cases rx
 obtain⟨its,r',pl,_⟩:=I.tuple hq
 have hI:=Zes r'
 have hlen:its.length=ns.length:=Stx.strs_len hI
 refine Stx.set1t (I.ok.hd hc) pl hI (by show(Stx.ofL ns).length+1<4096;lia) fun h' tk is k=>?_
 exact⟨.ref s.heap.objs.size,_,I.laid (t':=tk) (fun b o e=>k b o (Heap.lt_size e) e) (Nat.le_refl _) (Zmu is),rfl,q _ (I.hok.fresh (Nat.le_refl _))⟩
end
section
variable {X:Cx}
theorem Zfi:Z2l X (.builtin "len") (fun xs H Q=>∃p l,xs = [.ref p]/\H p=some (Zre X.prog X.w p l)/\Q (.int l.length) H):=by
 intro pins s σ H xs us Q I r h
 obtain⟨p,l,rfl,hp,q⟩:=h
 obtain⟨u,rfl,rx⟩:=Z3p r
 cases rx
 obtain⟨o,es,ep,t,ho,hx,hd,he,pm,nd,hz,hf,_⟩:=I.tset hp
 have hn:es.size=l.length:=by have:=pm.length_eq;simpa using this
 refine call_len_set ho hx hd hf ?_ ⟨.int l.length,H,(I.tok _).tok _,⟨s.toks+1,by rw[hn]⟩,q⟩
 have:scanBound=4096:=rfl
 lia
end
def Zsw:Tv->Rz
 | .tup l=>.ex fun r=>∃ns:List Str,l=ns.map (fun x=>.at (.str x))/\ns.length<=100/\r = .v (.at (.int ((Stx.ofL ns).length:Nat)))
 |_=>.no
inductive rLns (X:Cx)(x:V)(H:Hp)(Q:VK):Prop
 |mk (p ns:_) (_:x = .ref p) (_:SqT X.K H p (ns.map V.str)) (_:(Stx.ofL ns).length<=1000) (_:∀a,H a=none->Q (.int ((Stx.ofL ns).length:Nat)) (upd H a (Zre X.prog X.w a (Stx.ofL ns)))):rLns X x H Q
theorem Zbr {K:W.Frag}{G:Hp}:∀{vs:List V} {ns:List Str},IsTs K G vs (ns.map fun x=>.at (.str x))->vs=ns.map V.str
 |_,[],h=>by cases h;rfl
 |_,n::ns,h=>by
  cases h with
  |cons a b=>cases a;rw[Zbr b];rfl
theorem Zmv {X:Cx}:Z4k X.K Zsw (rLns X):=fun G H x t s Q sm h1 e q=>by
 unfold Zsw at e
 cases t with
 |tup l=>
  cases e with
  |ex h=>
   obtain⟨ns,rfl,hl,rfl⟩:=h
   obtain⟨a,vs,rfl,ha,r⟩:=h1.tup sm
   have:=Zbr r
   subst this
   refine⟨a,ns,rfl,.of ha,by have:=Stx.ofL_len ns;lia,fun b hb=>?_⟩
   exact q _ G _ (Same.refl _) (Z33 hb) (sm.trans (Z33 hb)) (fun _ _ e=>.inl e) (.at rfl)
 |_=>cases e
theorem Zrf {X:Cx}{F:Fr}{e:Expr}{wa:TW}{p1 p2 p3 p4:Pos}(hc:X.calm=true)(hg:Gl X "len")(hm:X.mg "len"=none)(hg':Gl X "set")(hm':X.mg "set"=none)(he:starEach [e] X.env=(false,eval e X.env)::starEach [] X.env)(ha:PE X e (LE X.K F wa)):PE X (.Call (.Name "len" p1) [.Call (.Name "set" p2) [e] [] p3] [] p4) (LE X.K F (wUn Zsw wa)):=
 Z69 ((Z2g Zfi hg hm PySem.boot_len (Z20 (Z21 (Zd6 hc) hg' hm' (by decide+kernel) (Z20 ha pa_nil he) (he:=he)) pa_nil)).imp fun σ H Q ⟨G,ta,M,K0,R,k,q⟩=>⟨G,ta,M,K0,R,k,fun ev M' G' t' v H' k' R' s' e'=>by
  obtain⟨p,ns,e,h2,h3,h4⟩:=q ev M' G' t' v H' k' R' s' e'
  exact⟨p,ns,by rw[e],h2,h3,fun a ha=>⟨a,_,rfl,Z08,h4 a ha⟩⟩⟩) Zmv
def inD:Tv->Tv->Rz
 | .at (.str x),.dic l=>.ok (.v (.at (.bl (Z07 l (.inr x)).isSome)))
 |_,_=>.no
inductive rInD (x:V)(y:V)(H:Hp)(Q:VK):Prop
 |mk (a o:_) (_:y = .ref a) (_:DGet H a x o) (_:Q (.bl o.isSome) H):rInD x y H Q
theorem Zrg {X:Cx}(hu:X.A.units+1<cLine):OpR X (compareOp .In) rInD:=by
 intro pins s σ H x y v u Q I rx ry ⟨a,o,h1,g,q⟩
 subst h1
 cases ry
 exact Zwo hu I g rx fun s' I'=>⟨.bl o.isSome,H,I',rfl,q⟩
theorem Zmw {K:W.Frag}:Z0t K inD rInD:=fun G H x y t u s Q sm h1 h2 e q=>by
 unfold inD at e
 split at e
 ·next z l=>
  cases e
  obtain⟨rfl,_⟩:=h1.at;obtain⟨b,kvs,rfl,hb,r⟩:=h2.dic sm
  refine⟨b,Z67 kvs (.inr z),rfl,DGet.k (k:=.inr z) hb,?_⟩
  have e2:(Z67 kvs (.inr z)).isSome=(Z07 l (.inr z)).isSome:=by
   cases c:Z07 l (.inr z) with
   |none=>rw[r.lookN c];rfl
   |some t=>obtain⟨v,hv,_⟩:=r.look c;rw[hv];rfl
  rw[e2]
  exact Z0l sm (.at rfl) q
 ·cases e
def Zmx {α : Type}:List α -> (List α -> Prop)->Prop
 |[],k=>k []
 |a::l,k=>Zmx l fun l'=>k (a::l')
def Zsx (M:Ms)(k:Ms->Prop):Prop:=match M with
 |⟨e,o,t⟩=>Zmx e fun e'=>Zmx o fun o'=>Zmx t fun t'=>k ⟨e',o',t'⟩
theorem Z7o {α : Type}:∀{l:List α} {k:List α -> Prop},Zmx l k=k l
 |[],_=>rfl
 |a::l,k=>by unfold Zmx;rw[Z7o]
theorem Zaf {M:Ms}{k:Ms->Prop}:Zsx M k=k M:=by cases M;show Zmx _ _=_;rw[Z7o,Z7o,Z7o]
def Zua (w:TWF):TWF:=fun M k=>Zsx M fun M'=>w M' k
theorem Zmy (w:TWF):Zua w=w:=by funext M k;exact Zaf
def Zub (w:TWs):TWs:=fun M k=>Zsx M fun M'=>w M' k
theorem Zmz (w:TWs):Zub w=w:=by funext M k;exact Zaf
inductive O2 where
 |add|sub|mul|fdiv|mod|pow
inductive C2 where
 |eq|ne|lt|le|gt|ge|isin|notin|is|isnt|eqe|nee|ind
inductive F1 where
 |len|list|tuple|sum|all|any|int|dict
inductive Mt where
 |app|pop|ext
inductive IE where
 |var (i:Nat)|cst (v:V)
 |bin (o:O2) (a b:IE)|cmp (o:C2) (a b:IE)|ix (a b:IE)|dg (a b:IE)|b1 (f:F1) (a:IE)
 |and (a b:IE)|or (a b:IE)|not (a:IE)
 |nil|cons (a r:IE)|tup (r:IE)|lst (r:IE)
 |call (j:Nat) (r:IE)|mth (m:Mt) (o r:IE)
 |comp (caps:List Nat) (own:List Str) (p:Pt) (it c e:IE)
 |cmpv (caps:List Nat) (own:List Str) (p:Pt) (i:Nat) (c e:IE)
 |tt|neg (a:IE)|isi (T:String) (a:IE)|slc (a lo hi:IE)|rng (a:IE)
 |chn (o o':C2) (a b c:IE)|dnew|dct (ks:List Str) (r:IE)|glb (j:Nat)|rvs (b:Bool) (a:IE)|get (d k z:IE)|callv (j i:Nat) (r:IE)|its (a:IE)|lns (a:IE)
abbrev IE.v (i:Nat):IE:=.var i
abbrev IE.s (x:Str):IE:=.cst (.str x)
abbrev IE.n (i:Int):IE:=.cst (.int i)
abbrev IE.k (a r:IE):IE:=.cons a r
abbrev IE.o:IE:=.nil
abbrev Pt.k (a r:Pt):Pt:=.cons a r
abbrev Pt.o:Pt:=.nil
def O2.op:O2->Operator
 | .add=>.Add | .sub=>.Sub | .mul=>.Mult | .fdiv=>.FloorDiv | .mod=>.Mod | .pow=>.Pow
def O2.f:O2->Tv->Tv->Rz
 | .add=>Zss
 | .sub=>Zad fun i j=>.int (i-j)
 | .mul=>orT (Zow CMul fun i j=>.int (i*j)) (orT Zu6 Zmo)
 | .fdiv=>Zow Zls fun i j=>.int (i / j)
 | .mod=>Zow (fun _ j=>0<j) fun i j=>.int (i % j)
 | .pow=>Zow Zv6 fun i j=>.int (i ^ j.toNat)
def C2.op:C2->CmpOp
 | .eq=>.Eq | .ne=>.NotEq | .lt=>.Lt | .le=>.LtE | .gt=>.Gt | .ge=>.GtE | .isin=>.In | .notin=>.NotIn | .is=>.Is | .isnt=>.IsNot | .eqe=>.Eq | .nee=>.NotEq | .ind=>.In
def C2.f:C2->Tv->Tv->Rz
 | .eq=>orT (eqT false) (orT (eqN false) (eqL false))
 | .ne=>orT (eqT true) (orT (eqN true) (eqL true))
 | .lt=>Zad fun i j=>.bl (decide (i<j))
 | .le=>orT (Zad fun i j=>.bl (decide (i<=j))) (Zst fun i j => !decide (j.cps.toList<i.cps.toList))
 | .gt=>orT (Zad fun i j=>.bl (decide (j<i))) (Zst fun i j=>decide (j.cps.toList<i.cps.toList))
 | .ge=>Zad fun i j=>.bl (decide (j<=i))
 | .isin=>inT false
 | .notin=>inT true
 | .is=>orT Zts (Zsu false)
 | .isnt=>orT Zm5 (Zsu true)
 | .eqe=>eqE false
 | .nee=>eqE true
 | .ind=>inD
def F1.f:F1->Tv->Rz
 | .len=>Ztv
 | .list=>Zm7
 | .tuple=>Zf8
 | .sum=>Zu1
 | .all=>Zu2
 | .any=>Zu3
 | .int=>Zmf
 | .dict=>Zmm
def F1.nm:F1->Str
 | .len=>"len" | .list=>"list" | .tuple=>"tuple" | .sum=>"sum" | .all=>"all" | .any=>"any" | .int=>"int" | .dict=>"dict"
def Mt.f:Mt->Ob->List Tv->Option (Prop×Ob×Tv)
 | .app=>Ztx
 | .pop=>Zmb
 | .ext=>Zu7
def Mt.nm:Mt->Str
 | .app=>"append" | .pop=>"pop" | .ext=>"extend"
structure Gm where
 bl:List Str
 fns:List (Str×PSp)
 kt:List String:=[]
 gl:List (Str×Tv):=[]
 fv:List ((Addr->Prop)×(Addr->PSp)):=[]
structure Sm where
 e:TW
 t:TWT
 f:TWF
 a:TWs
 i:TWF
 o:TWO:=fun _ _=>False
def noE:TW:=fun _ _=>False
def noT:TWT:=fun _ _=>False
def noF:TWF:=fun _ _=>False
def noA:TWs:=fun _ _=>False
def noO:TWO:=fun _ _=>False
def vSm (w:TW):Sm:=⟨w,Zvg w,noF,noA,wIt w,Zqy w⟩
def bSm (w:TW):Sm:=⟨w,Zsr w,noF,noA,noF,noO⟩
def Gm.sp (Γ : Gm)(j:Nat):PSp:=match Γ.fns[j]? with
 |some p=>p.2
 |none=>fun _ _=>False
def Zfj (i:Nat)(wr:TWs)(p:(Addr->Prop)×(Addr->PSp)):TW:=fun M k=>∃a,M.env[i]? = some (some (.fz (.fnv a)))/\p.1 a/\Zid (p.2 a) wr M k
def sem (Γ : Gm):IE->Sm
 | .var i=>vSm (Zov i)
 | .cst v=>vSm (wC (.at v))
 | .bin o a b=>vSm (Zkk o.f (sem Γ a).e (sem Γ b).e)
 | .cmp o a b=>⟨Zkk o.f (sem Γ a).e (sem Γ b).e,Zsr (Zkk o.f (sem Γ a).e (sem Γ b).e),noF,noA,noF,noO⟩
 | .ix a b=>vSm (Zkk ixT (sem Γ a).e (sem Γ b).e)
 | .dg a b=>vSm (Zkk dgT (sem Γ a).e (sem Γ b).e)
 | .b1 f a=>vSm (wUn f.f (sem Γ a).e)
 | .and a b=>⟨Zr3 (sem Γ a).e (sem Γ b).e,Zvh (sem Γ a).t (sem Γ b).t,noF,noA,noF,noO⟩
 | .or a b=>⟨Zvu (sem Γ a).e (sem Γ b).e,wOr (sem Γ a).t (sem Γ b).t,noF,noA,noF,noO⟩
 | .not a=>⟨Zr4 (sem Γ a).e,Zvi (sem Γ a).t,noF,noA,noF,noO⟩
 | .nil=>⟨noE,noT,Zm0,Zvd,noF,Zvr⟩
 | .cons a r=>⟨noE,noT,Z98 (sem Γ a).e (Zua (sem Γ r).f),Zib (sem Γ a).e (Zub (sem Γ r).a),noF,noO⟩
 | .tup r=>vSm (Zf0 Zvj (sem Γ r).f)
 | .lst r=>vSm (Zf0 Zvk (sem Γ r).f)
 | .call j r=>vSm (Zid (Γ.sp j) (sem Γ r).a)
 | .mth m o r=>vSm (Ztw m.f (sem Γ o).e (sem Γ r).f)
 | .comp caps own p it c e=>vSm (Zm2 caps own.length (sem Γ it).i (bd p) (sem Γ c).t (sem Γ e).e)
 | .cmpv caps own p i c e=>vSm (Zff caps own.length i (bd p) (sem Γ c).t (sem Γ e).e)
 | .tt=>⟨noE,fun M k=>k true M,noF,noA,noF,noO⟩
 | .neg a=>vSm (wUn Zu4 (sem Γ a).e)
 | .isi T a=>vSm (wUn (Zu0 T) (sem Γ a).e)
 | .slc a lo hi=>vSm (Zvs (sem Γ a).e (sem Γ lo).o (sem Γ hi).o)
 | .rng a=>⟨noE,noT,noF,noA,Zvt (sem Γ a).e,noO⟩
 | .chn o o' a b c=>bSm (Zvv o.f o'.f (sem Γ a).e (sem Γ b).e (sem Γ c).e)
 | .dnew=>vSm Zr7
 | .dct ks r=>vSm (Zvw ks (sem Γ r).f)
 | .rvs b a=>vSm (wUn (Zvy b) (sem Γ a).e)
 | .glb j=>vSm (match Γ.gl[j]? with|some p=>wC p.2|none=>noE)
 | .lns a=>vSm (wUn Zsw (sem Γ a).e)
 | .its a=>⟨noE,noT,noF,noA,Zw0 (sem Γ a).e,noO⟩
 | .get d k z=>vSm (Zvx (sem Γ d).e (sem Γ k).e (sem Γ z).e)
 | .callv j i r=>vSm (match Γ.fv[j]? with|some p=>Zfj i (sem Γ r).a p|none=>noE)
structure Cs where
 N:List Str
 names:List (Str×NameKind)
 fn:Bool
structure Ck where
 e:Expr->Bool
 t:Expr->Bool
 l:List Expr->Bool
 i:Expr->Expr->Bool
 ts:List Expr->Bool
 o:Option Expr->Bool:=fun _=>false
def noL:List Expr->Bool:=fun _=>false
def no1:Expr->Bool:=fun _=>false
def no2:Expr->Expr->Bool:=fun _ _=>false
def Z9e:Expr->Bool
 | .UnaryOp .Not _ _=>false
 | .BoolOp _ _ _=>false
 | .IfExp _ _ _ _=>false
 | .Compare _ _ _ _=>false
 |_=>true
def Z0a:Expr->Bool
 | .Starred _ _=>false
 |_=>true
def Z1h:Expr->Bool
 | .Set _ _ _=>false
 |_=>true
def Z25:Expr->Bool
 | .ListComp _ _ _ _=>false
 | .SetComp _ _ _ _=>false
 | .DictComp _ _ _ _ _=>false
 |_=>true
def Z16:Expr->Bool
 | .Slice _ _ _ _=>false
 |_=>true
def Cs.gl (C:Cs)(x:Str):Bool:=C.names.lookup x==some .globalImplicit
def Cs.vis (C:Cs)(x:Str):Bool:=match C.names.lookup x with
 |some .local=>true
 |some .cell=>true
 |some .free=>true
 |_=>false
def Cs.loc (C:Cs)(x:Str):Bool:=match C.names.lookup x with
 |some .local=>true
 |some .cell=>C.fn
 |_=>false
def Z10 (x:Str):Bool := !(x==("__debug__":Str)) && !(x==("__classdict__":Str)) && !(x==("__name__":Str))
def ckP (C:Cs):Pt->Expr->Bool
 | .nm i,.Name x _=>C.N[i]? == some x&&C.loc x
 | .cons a b,.Tuple (e::es) _ _=>ckP C a e&&Z0a e&&ckPs C b es
 |_,_=>false
where ckPs (C:Cs):Pt->List Expr->Bool
 | .nil,[]=>true
 | .cons a b,e::es=>ckP C a e&&Z0a e&&ckPs C b es
 |_,_=>false
def Cs.in (C:Cs)(scope:Scope)(N':List Str):Cs:=⟨N',scope.names.map fun(n,k)=>if (k==NameKind.free&&C.names.lookup n==some .cell) then (n,NameKind.cell) else (n,k),false⟩
def Zd7:Expr->Bool
 | .Name _ _=>true
 | .Subscript _ _ _=>true
 |_=>false
def Zuc:Mt->IE->List Expr->Bool
 | .app,_,[_]=>true
 | .ext,_,[_]=>true
 | .pop,.nil,[]=>true
 |_,_,_=>false
def Z0u (c:Str->Bool):Expr->Bool
 | .Name x _=>c x
 |_=>false
def Zw1 (c:Operator->Expr->Expr->Bool):Expr->Bool
 | .BinOp l op r _=>c op l r
 |_=>false
def Zsy (c:CmpOp->Expr->Expr->Bool):Expr->Bool
 | .Compare l [op] [r] _=>c op l r
 |_=>false
def Zip (c:Expr->Expr->Bool):Expr->Bool
 | .Subscript a b _=>c a b
 |_=>false
def Z56 (c:Expr->List Expr->Pos->Bool):Expr->Bool
 | .Call f es [] p=>c f es p
 |_=>false
def Zfk (c:Expr->Str->Pos->Bool):Expr->Bool
 | .Attribute o x p=>c o x p
 |_=>false
def Zbs (c:Expr->Bool):List Expr->Bool
 |[e]=>c e
 |_=>false
def Zd8 (c:List Expr->Bool):List Expr->Bool
 |[]=>false
 |e::es=>c (e::es)
def Zd9 (o:BoolOp)(a b:Expr->Bool):Expr->Bool
 | .BoolOp op (l::r) p=>op==o&&a l&&(match r with | []=>false | [x]=>b x|x::y::z=>b (.BoolOp op (x::y::z) p))
 |_=>false
def Zud (c:Expr->Bool):Expr->Bool
 | .UnaryOp .Not r _=>c r
 |_=>false
def Zue:List Expr->Bool
 |[]=>true
 |_=>false
def Zrh (a:Expr->Bool)(r:List Expr->Bool):List Expr->Bool
 |e::es=>a e&&Z0a e&&r es
 |_=>false
def Zw2 (c:List Expr->Bool):Expr->Bool
 | .Tuple es _ _=>c es&&decide (es.length<=1000)
 |_=>false
def Zw3 (c:List Expr->Bool):Expr->Bool
 | .List es _=>c es&&decide (es.length<=1000)
 |_=>false
def Zn0 (c:Expr->Expr->Expr->List Expr->Scope->Bool):Expr->Bool
 | .ListComp elt [⟨tg,iter,ifs,n⟩] scope _=>n==0&&c elt tg iter ifs scope
 |_=>false
def Zri (c:Expr->Bool):Option Expr->Bool
 |some e=>c e
 |none=>false
def Zrj:Option Expr->Bool
 |some _=>false
 |none=>true
def no0:Option Expr->Bool:=fun _=>false
def vCk (c:Expr->Bool):Ck:=⟨c,fun e=>c e&&Z9e e,noL,fun _ e=>c e,Zbs fun e=>c e&&Z9e e,Zri c⟩
def Z3o (C:Cs)(caps:List Nat)(own:List Str):List Str:=(caps.map fun j=>(C.N[j]?).getD ("":Str))++own
def bCk (e c:Expr->Bool):Ck:=⟨e,c,noL,no2,Zbs c,no0⟩
def Zsz (c:CmpOp->CmpOp->Expr->Expr->Expr->Bool):Expr->Bool
 | .Compare l [op,op'] [m,r] _=>c op op' l m r
 |_=>false
def kD0:Expr->Bool
 | .Dict [] [] _=>true
 |_=>false
def Zrk (c:List (Option Expr)->List Expr->Bool):Expr->Bool
 | .Dict ks vs _=>c ks vs
 |_=>false
def Z57:List Str->List (Option Expr)->Bool
 |[],[]=>true
 |k::ks,some e::es=>Z4c e==some (.str k)&&Z57 ks es
 |_,_=>false
def Zw4 (c:Expr->Bool):Expr->Bool
 | .UnaryOp .USub r _=>c r
 |_=>false
def Zoy (c:Expr->Expr->Bool):List Expr->Bool
 |[a,b]=>c a b
 |_=>false
def Zuf (a:Expr->Bool)(l h:Option Expr->Bool):Expr->Bool
 | .Subscript e (.Slice lo hi none _) _=>a e&&l lo&&h hi
 |_=>false
def Zug (c:Expr->Bool):Expr->Bool
 | .Subscript e (.Slice none none (some (.UnaryOp .USub (.Constant (.int 1) _ _) _)) _) _=>c e
 |_=>false
def Zoz (T:String):Bool:=["int","bool","str","tuple","list","dict"].contains T
def ck (Γ : Gm):IE->Cs->Ck
 | .var i,C=>vCk (Z0u fun x=>C.N[i]? == some x&&C.vis x&&Z10 x)
 | .cst v,C=>vCk fun e=>Z4c e==some v&&okA v
 | .bin o a b,C=>vCk (Zw1 fun op l r=>op==o.op&&(ck Γ a C).e l&&(ck Γ b C).e r)
 | .cmp o a b,C=>⟨Zsy fun op l r=>op==o.op&&(ck Γ a C).e l&&(ck Γ b C).e r&&Z1h r,Zsy fun op l r=>op==o.op&&(ck Γ a C).e l&&(ck Γ b C).e r&&Z1h r,noL,no2,Zbs (Zsy fun op l r=>op==o.op&&(ck Γ a C).e l&&(ck Γ b C).e r&&Z1h r),no0⟩
 | .ix a b,C=>vCk (Zip fun l r=>(ck Γ a C).e l&&(ck Γ b C).e r&&Z16 r)
 | .dg a b,C=>vCk (Zip fun l r=>(ck Γ a C).e l&&(ck Γ b C).e r&&Z16 r)
 | .b1 f a,C=>vCk (Z56 fun g es _=>Z0u (fun x=>x==f.nm&&C.gl x && Γ.bl.contains x) g&&Zbs (fun r=>(ck Γ a C).e r&&Z0a r) es)
 | .and a b,C=>bCk (Zd9 .And (ck Γ a C).e (ck Γ b C).e) (Zd9 .And (ck Γ a C).t (ck Γ b C).t)
 | .or a b,C=>bCk (Zd9 .Or (ck Γ a C).e (ck Γ b C).e) (Zd9 .Or (ck Γ a C).t (ck Γ b C).t)
 | .not a,C=>bCk (Zud (ck Γ a C).e) (Zud (ck Γ a C).t)
 | .nil,_=>⟨no1,no1,Zue,no2,noL,Zrj⟩
 | .cons a r,C=>⟨no1,no1,Zrh (ck Γ a C).e (ck Γ r C).l,no2,noL,no0⟩
 | .tup r,C=>vCk (Zw2 (ck Γ r C).l)
 | .lst r,C=>vCk (Zw3 (ck Γ r C).l)
 | .call j r,C=>vCk (Z56 fun g es _=>Z0u (fun x=>(Γ.fns[j]?).map (·.1)==some x&&C.gl x&&Z10 x) g&&Zd8 (ck Γ r C).l es)
 | .mth m o r,C=>vCk (Z56 fun g es cp=>Zfk (fun l x ap=>x==m.nm&&(ck Γ o C).e l&&Zd7 l&&ap.endLine==cp.line) g&&(ck Γ r C).l es&&Zuc m r es)
 | .comp caps own p it c e,C=>vCk (Zn0 fun elt tg iter ifs scope=>Z1b (fun x=>C.names.lookup x) C.N scope (Z3o C caps own) (caps.map some++List.replicate own.length none)&&(ck Γ it C).i tg iter&&Z1h iter&&ckP (C.in scope (Z3o C caps own)) p tg&&(ck Γ c (C.in scope (Z3o C caps own))).ts ifs&&(ck Γ e (C.in scope (Z3o C caps own))).e elt&&decide (Z3o C caps own).Nodup)
 | .cmpv caps own p i c e,C=>vCk (Zn0 fun elt tg iter ifs scope=>Z1b (fun x=>C.names.lookup x) C.N scope (Z3o C caps own) (caps.map some++List.replicate own.length none)&&Z0u (fun x=>C.N[i]? == some x&&C.vis x&&Z10 x) iter&&Z1h iter&&ckP (C.in scope (Z3o C caps own)) p tg&&(ck Γ c (C.in scope (Z3o C caps own))).ts ifs&&(ck Γ e (C.in scope (Z3o C caps own))).e elt&&decide (Z3o C caps own).Nodup)
 | .tt,_=>⟨no1,no1,noL,no2,Zue,no0⟩
 | .neg a,C=>vCk (Zw4 (ck Γ a C).e)
 | .isi T a,C=>vCk (Z56 fun g es _=>Z0u (fun x=>x==("isinstance":Str)&&C.gl x && Γ.bl.contains x) g&&Zoy (fun r y=>(ck Γ a C).e r&&Z0a r&&Z0u (fun z=>z==Str.ofString T&&C.gl z && Γ.bl.contains z) y && Γ.kt.contains T&&Zoz T) es)
 | .slc a lo hi,C=>vCk (Zuf (ck Γ a C).e (ck Γ lo C).o (ck Γ hi C).o)
 | .rng a,C=>⟨no1,no1,noL,fun _=>Z56 fun g es _=>Z0u (fun x=>x==("range":Str)&&C.gl x && Γ.bl.contains x) g&&Zbs (fun r=>(ck Γ a C).e r&&Z0a r) es,noL,no0⟩
 | .chn o o' a b c,C=>bCk (Zsz fun op op' l m r=>op==o.op&&op'==o'.op&&(ck Γ a C).e l&&(ck Γ b C).e m&&(ck Γ c C).e r&&Z1h r) (Zsz fun op op' l m r=>op==o.op&&op'==o'.op&&(ck Γ a C).e l&&(ck Γ b C).e m&&(ck Γ c C).e r&&Z1h r)
 | .dnew,_=>vCk kD0
 | .dct ks r,C=>vCk (Zrk fun es vs=>Z57 ks es&&(ck Γ r C).l vs&&decide (ks.length<=15) && !ks.isEmpty&&es.length==vs.length)
 | .rvs _ a,C=>vCk (Zug (ck Γ a C).e)
 | .glb j,C=>vCk (Z0u fun x=>(Γ.gl[j]?).map (·.1)==some x&&C.gl x&&Z10 x)
 | .lns a,C=>vCk (Z56 fun g es _=>Z0u (fun x=>x==("len":Str)&&C.gl x && Γ.bl.contains x) g&&Zbs (Z56 fun g' es' _=>Z0u (fun x=>x==("set":Str)&&C.gl x && Γ.bl.contains x) g'&&Zbs (fun r=>(ck Γ a C).e r&&Z0a r) es') es)
 | .its a,C=>⟨no1,no1,noL,fun _ e=>(ck Γ a C).e e,noL,no0⟩
 | .get d k z,C=>vCk (Z56 fun g es cp=>Zfk (fun l x ap=>x==("get":Str)&&(ck Γ d C).e l&&Zd7 l&&ap.endLine==cp.line) g&&Zoy (fun a b=>(ck Γ k C).e a&&Z0a a&&(ck Γ z C).e b&&Z0a b) es)
 | .callv j i r,C=>vCk (Z56 fun g es _=>Z0u (fun x=>C.N[i]? == some x&&C.vis x&&Z10 x) g&&(Γ.fv[j]?).isSome&&Zd8 (ck Γ r C).l es)
theorem Zn1 {e:Expr}{c:Expr->Bool}(h:Zug c e=true):∃x j p1 p2 p3 p,e = .Subscript x (.Slice none none (some (.UnaryOp .USub (.Constant (.int 1) j p1) p2)) p3) p/\c x=true:=by
 unfold Zug at h
 split at h
 ·exact⟨_,_,_,_,_,_,rfl,h⟩
 ·cases h
theorem Zn2 {e:Expr}{c:CmpOp->CmpOp->Expr->Expr->Expr->Bool}(h:Zsz c e=true):∃l op op' m r p,e = .Compare l [op,op'] [m,r] p/\c op op' l m r=true:=by
 cases e with
 |Compare l a b p=>(rcases a with _|⟨o,_|⟨q,_|_⟩⟩ <;> rcases b with _|⟨m,_|⟨r,_|_⟩⟩ <;> first|exact⟨_,_,_,_,_,_,rfl,h⟩|exact(Bool.false_ne_true h).elim)
 |_=>exact(Bool.false_ne_true h).elim
theorem Zrl {e:Expr}(h:kD0 e=true):∃p,e = .Dict [] [] p:=by
 cases e with
 |Dict a b p=>(cases a <;> cases b <;> first|exact⟨_,rfl⟩|exact(Bool.false_ne_true h).elim)
 |_=>exact(Bool.false_ne_true h).elim
theorem Ziq {e:Expr}{c:List (Option Expr)->List Expr->Bool}(h:Zrk c e=true):∃ks vs p,e = .Dict ks vs p/\c ks vs=true:=by
 cases e with
 |Dict ks vs p=>exact⟨_,_,_,rfl,h⟩
 |_=>exact(Bool.false_ne_true h).elim
theorem Zir {o:Option Expr}{c:Expr->Bool}(h:Zri c o=true):∃e,o=some e/\c e=true:=by cases o with|none=>cases h|some e=>exact⟨e,rfl,h⟩
theorem Zis {o:Option Expr}(h:Zrj o=true):o=none:=by cases o with|none=>rfl|some e=>cases h
theorem Zn3 {e:Expr}{c:Expr->Bool}(h:Zw4 c e=true):∃r p,e = .UnaryOp .USub r p/\c r=true:=by
 cases e with
 |UnaryOp o r p=>
  cases o with
  |USub=>exact⟨_,_,rfl,h⟩
  |_=>exact(Bool.false_ne_true h).elim
 |_=>exact(Bool.false_ne_true h).elim
theorem Zfl {es:List Expr}{c:Expr->Expr->Bool}(h:Zoy c es=true):∃a b,es = [a,b]/\c a b=true:=by
 unfold Zoy at h
 split at h
 ·exact⟨_,_,rfl,h⟩
 ·cases h
theorem Zn4 {e:Expr}{a:Expr->Bool}{l h:Option Expr->Bool}(q:Zuf a l h e=true):∃x lo hi p p2,e = .Subscript x (.Slice lo hi none p2) p/\a x=true/\l lo=true/\h hi=true:=by
 unfold Zuf at q
 split at q
 ·simp only [Bool.and_eq_true] at q;exact⟨_,_,_,_,_,rfl,q.1.1,q.1.2,q.2⟩
 ·cases q
theorem Z0m {e:Expr}{c:Str->Bool}(h:Z0u c e=true):∃x p,e = .Name x p/\c x=true:=by
 cases e with
 |Name x p=>exact⟨_,_,rfl,h⟩
 |_=>exact(Bool.false_ne_true h).elim
theorem Zn5 {e:Expr}{c:Operator->Expr->Expr->Bool}(h:Zw1 c e=true):∃l op r p,e = .BinOp l op r p/\c op l r=true:=by
 cases e with
 |BinOp l op r p=>exact⟨_,_,_,_,rfl,h⟩
 |_=>exact(Bool.false_ne_true h).elim
theorem Zn6 {e:Expr}{c:CmpOp->Expr->Expr->Bool}(h:Zsy c e=true):∃l op r p,e = .Compare l [op] [r] p/\c op l r=true:=by
 cases e with
 |Compare l a b p=>(rcases a with _|⟨o,_|_⟩ <;> rcases b with _|⟨r,_|_⟩ <;> first|exact⟨_,_,_,_,rfl,h⟩|exact(Bool.false_ne_true h).elim)
 |_=>exact(Bool.false_ne_true h).elim
theorem Z58 {e:Expr}{c:Expr->Expr->Bool}(h:Zip c e=true):∃a b p,e = .Subscript a b p/\c a b=true:=by
 cases e with
 |Subscript a b p=>exact⟨_,_,_,rfl,h⟩
 |_=>exact(Bool.false_ne_true h).elim
theorem Z14 {e:Expr}{c:Expr->List Expr->Pos->Bool}(h:Z56 c e=true):∃f es p,e = .Call f es [] p/\c f es p=true:=by
 cases e with
 |Call f es ks p=>
  cases ks with
  |nil=>exact⟨_,_,_,rfl,h⟩
  |cons _ _=>exact(Bool.false_ne_true h).elim
 |_=>exact(Bool.false_ne_true h).elim
theorem Zbt {e:Expr}{c:Expr->Str->Pos->Bool}(h:Zfk c e=true):∃o x p,e = .Attribute o x p/\c o x p=true:=by
 cases e with
 |Attribute o x p=>exact⟨_,_,_,rfl,h⟩
 |_=>exact(Bool.false_ne_true h).elim
theorem Z2t {es:List Expr}{c:Expr->Bool}(h:Zbs c es=true):∃e,es = [e]/\c e=true:=by
 unfold Zbs at h
 split at h
 ·exact⟨_,rfl,h⟩
 ·cases h
theorem Zbu {es:List Expr}{c:List Expr->Bool}(h:Zd8 c es=true):∃e r,es=e::r/\c (e::r)=true:=by
 unfold Zd8 at h
 split at h
 ·cases h
 ·exact⟨_,_,rfl,h⟩
theorem Z4q {o:BoolOp}{a b:Expr->Bool}{e:Expr}(h:Zd9 o a b e=true):∃l p,a l=true/\((∃x,e = .BoolOp o [l,x] p/\b x=true)∨∃x y z,e = .BoolOp o (l::x::y::z) p/\b (.BoolOp o (x::y::z) p)=true):=by
 unfold Zd9 at h
 split at h
 ·next op l r p=>
  simp only [Bool.and_eq_true,beq_iff_eq] at h
  obtain⟨⟨rfl,h1⟩,h2⟩:=h
  refine⟨l,p,h1,?_⟩
  split at h2
  ·cases h2
  ·exact .inl ⟨_,rfl,h2⟩
  ·exact .inr ⟨_,_,_,rfl,h2⟩
 ·cases h
theorem Zfm {e:Expr}{c:Expr->Bool}(h:Zud c e=true):∃r p,e = .UnaryOp .Not r p/\c r=true:=by
 cases e with
 |UnaryOp o r p=>
  cases o with
  |Not=>exact⟨_,_,rfl,h⟩
  |_=>exact(Bool.false_ne_true h).elim
 |_=>exact(Bool.false_ne_true h).elim
theorem Z7p {es:List Expr}(h:Zue es=true):es = []:=by cases es with|nil=>rfl|cons _ _=>cases h
theorem Z7q {es:List Expr}{a:Expr->Bool}{r:List Expr->Bool}(h:Zrh a r es=true):∃x xs,es=x::xs/\a x=true/\Z0a x=true/\r xs=true:=by
 cases es with
 |nil=>cases h
 |cons x xs=>
  have h':(a x&&Z0a x&&r xs)=true:=h
  simp only [Bool.and_eq_true] at h'
  exact⟨x,xs,rfl,h'.1.1,h'.1.2,h'.2⟩
theorem Zn7 {e:Expr}{c:List Expr->Bool}(h:Zw2 c e=true):∃es k p,e = .Tuple es k p/\c es=true/\es.length<=1000:=by
 cases e with
 |Tuple es k p=>have h:(_&&_)=true:=h;simp only [Bool.and_eq_true,decide_eq_true_eq] at h;exact⟨_,_,_,rfl,h⟩
 |_=>exact(Bool.false_ne_true h).elim
theorem Zn8 {e:Expr}{c:List Expr->Bool}(h:Zw3 c e=true):∃es p,e = .List es p/\c es=true/\es.length<=1000:=by
 cases e with
 |List es p=>have h:(_&&_)=true:=h;simp only [Bool.and_eq_true,decide_eq_true_eq] at h;exact⟨_,_,rfl,h⟩
 |_=>exact(Bool.false_ne_true h).elim
theorem Z4r {e:Expr}{c:Expr->Expr->Expr->List Expr->Scope->Bool}(h:Zn0 c e=true):∃elt tg iter ifs scope p,e = .ListComp elt [⟨tg,iter,ifs,0⟩] scope p/\c elt tg iter ifs scope=true:=by
 cases e with
 |ListComp elt gs sc p=>
  rcases gs with _|⟨⟨tg,iter,ifs,n⟩,_|_⟩
  ·exact(Bool.false_ne_true h).elim
  ·have h:(_&&_)=true:=h
   simp only [Bool.and_eq_true,beq_iff_eq] at h
   obtain⟨rfl,h⟩:=h
   exact⟨_,_,_,_,_,_,rfl,h⟩
  ·exact(Bool.false_ne_true h).elim
 |_=>exact(Bool.false_ne_true h).elim
def Fok (X:Cx)(x:Str)(psp:PSp):Prop:=∃k f fd ps,FnOk X.prog X.w X.K X.mg X.base CX0 k f fd ps (spW X.K psp)/\Room k X.A/\X.mg x=some (.ref f)/\PySem.W.keepIn X.K (.ref f)=true/\Binds X.K fd ps []
structure At (Γ : Gm)(C:Cs)(X:Cx):Prop where
 N:X.N=C.N
 nd:C.N.Nodup
 nm:X.env.scope.names=C.names
 kd:X.env.scope.kind = .function
 fn:C.fn=true->∀x,X.fn x=true
 calm:X.calm=true
 bl:∀x ∈ Γ.bl,X.mg x=none
 un:X.A.units+64<cLine
 gd:X.A.guards=some []
 kt:∀T ∈ Γ.kt,∀n ∈ ["NoneType","bool","int","str","tuple","list","dict"],PySem.W.kitOne X.K (.type n) (.type T)=some (isK n T)
 gl:∀p ∈ Γ.gl,∃v u,X.mg p.1=some u/\RelV v u/\∀G,IsT X.K G v p.2
 fns:∀p ∈ Γ.fns,Fok X p.1 p.2
 fv:∀p ∈ Γ.fv,∃k,Room k X.A/\∀a,p.1 a->∃fd ps,FnOk X.prog X.w X.K X.mg X.base CX0 k a fd ps (spW X.K (p.2 a))/\PySem.W.keepIn X.K (.ref a)=true/\Binds X.K fd ps []
section
variable {Γ : Gm}{C:Cs}{X:Cx}{F:Fr}
structure Snd (Γ : Gm)(X:Cx)(F:Fr)(s:Sm)(c:Ck):Prop where
 e:∀e,c.e e=true->PE X e (LE X.K F s.e)
 t:∀e,c.t e=true->PT X e (LB X.K F s.t)
 l:∀es,c.l es=true->PA X es (LF X.K F es.length s.f)/\PA X es (LA X.K F s.a)
 i:∀tg e,c.i tg e=true->PI X tg e (LI X.K F s.i)
 ts:∀es,c.ts es=true->PTs X es (LB X.K F s.t)
 o:∀e,c.o e=true->PO X e (LO X.K F s.o)
 p:∀ks es vs pos,Z57 ks es=true->c.l vs=true->es.length=vs.length->∃trs,PPs X pos es vs trs/\∀ σ H Q,LP X.K F s.f ks σ H Q->Z4a trs σ H Q
theorem Zbv {e:Expr}{env:Env}(h:Z9e e=true)(whole:Sem Value):isTrue e env whole=(do let v ← whole;standAt e.pos;holding [v] (truthy v)):=by
 cases e with
 |UnaryOp op a p=>cases op <;> first|rfl|cases h
 |BoolOp _ _ _=>cases h
 |IfExp _ _ _ _=>cases h
 |Compare _ _ _ _=>cases h
 |_=>rfl
theorem Z0d {e:Expr}{es:List Expr}{env:Env}(h:Z0a e=true):starEach (e::es) env=(false,eval e env)::starEach es env:=by
 cases e <;> first|rfl|cases h
theorem Z38 {e:Expr}{env:Env}(h:Z1h e=true)(x:Value):foldedSetIterable e env x=pure x:=by
 cases e <;> first|rfl|cases h
theorem Z6y {e:Expr}(h:Z16 e=true)(o i:Value):subscripted e false o i=operate [o,i] (getItem o i):=by
 cases e <;> first|rfl|cases h
theorem Zbw {op:CmpOp}{e:Expr}(h:Z1h e=true):behindInMarks op e=false:=by
 cases e <;> first|rfl|cases h
theorem Z17 {w:TW}{c:Expr->Bool}(h:∀e,c e=true->PE X e (LE X.K F w)):Snd Γ X F (vSm w) (vCk c) where
 e:=h
 t:=fun e he=>by
  have he':(c e&&Z9e e)=true:=he
  rw[Bool.and_eq_true] at he'
  exact Zkm (Zbe (h e he'.1) (Zbv he'.2))
 l:=fun es z=>by cases z
 i:=fun tg e he=>(Zf3 (h e he)).imp fun σ H R=>LI.seq
 ts:=fun es he=>by
  obtain⟨e,rfl,he⟩:=Z2t he
  replace he:(c e&&Z9e e)=true:=he
  rw[Bool.and_eq_true] at he
  exact Za4 (Zkm (Zbe (h e he.1) (Zbv he.2)))
 o:=fun e he=>by obtain⟨e,rfl,he⟩:=Zir he;exact Zme (h e he)
 p:=fun _ _ _ _ _ z=>by cases z
theorem At.var {i:Nat}{x:Str}{pos:Pos}(A:At Γ C X)(h:(C.N[i]? == some x&&C.vis x&&Z10 x)=true):PE X (.Name x pos) (Zp6 i):=by
 simp only [Bool.and_eq_true,beq_iff_eq] at h
 obtain⟨⟨h1,h2⟩,h3⟩:=h
 simp only [Z10,Bool.and_eq_true,Bool.not_eq_true'] at h3
 refine Zk2 (by rw[A.N];exact h1) ?_ h3.1.1 h3.1.2
 unfold Vis
 rw[A.nm]
 unfold Cs.vis at h2
 split at h2
 ·next e=>exact .inl e
 ·next e=>exact .inr (.inl e)
 ·next e=>exact .inr (.inr e)
 ·cases h2
theorem At.gl' {x:Str}(A:At Γ C X)(h:C.gl x=true):Gl X x:=by
 show X.env.scope.names.lookup x=_
 rw[A.nm];exact eq_of_beq h
theorem Zag:∀{r:IE} {es:List Expr},(ck Γ r C).l es=true->∀e∈es,Z0a e=true:=by
 intro r
 induction r with
 |cons a r iha ihr=>
  intro es h x hx
  obtain⟨y,ys,rfl,_,h2,h3⟩:=Z7q h
  rcases mem_cons.mp hx with rfl|hx
  ·exact h2
  ·exact ihr h3 x hx
 |nil=>intro es h x hx;rw[Z7p h] at hx;cases hx
 |_=>intro es h;cases h
theorem Zbx {es:List Expr}{pos:Pos}{env:Env}(h:∀e∈es,Z0a e=true):(backTo pos (starEach es env)).any (·.1)=false:=by
 induction es with
 |nil=>rfl
 |cons e es ih=>
  rw[Z0d (h e mem_cons_self)]
  show(false||(backTo pos (starEach es env)).any (·.1))=false
  rw[ih fun x hx=>h x (mem_cons_of_mem _ hx)];rfl
theorem Zn9 {o:O2}{a b:Expr}{wa wb:TW}{pos:Pos}(ha:PE X a (LE X.K F wa))(hb:PE X b (LE X.K F wb)):PE X (.BinOp a o.op b pos) (LE X.K F (Zkk o.f wa wb)):=by
 cases o with
 |add=>exact Z35 (Zco Zm3 ha hb) Zm4
 |sub=>exact Z35 (Zco Zpn ha hb) (Z37 fun _ _=>rfl)
 |mul=>exact Z35 (r:=rOr _ _) (Zco (op_mul.or (op_rep.or Zlv)) ha hb) (Z9c (Z7l fun _ _=>rfl) (Z9c Zmn Zik))
 |fdiv=>exact Z35 (Zco Zi3 ha hb) (Z7l fun _ _=>rfl)
 |mod=>exact Z35 (Zco Zpo ha hb) (Z7l fun _ _=>rfl)
 |pow=>exact Z35 (Zco Zpp ha hb) (Z7l fun _ _=>rfl)
theorem Z6z {f g:Tv->Tv->Rz}{op:CmpOp}{r r':R2}(h:OpR X (compareOp op) r/\Z0t X.K f r)(h':OpR X (compareOp op) r'/\Z0t X.K g r'):∃r,OpR X (compareOp op) r/\Z0t X.K (orT f g) r:=⟨rOr r r',h.1.or h'.1,Z9c h.2 h'.2⟩
theorem Zrm:OpR X (compareOp .Is) (Ztt false):=fun pins s σ H x y v u Q I rx ry ⟨h,q⟩=>Zpq pins s σ H x y v u Q I rx ry ⟨h,by simpa using q⟩
theorem Zrn:OpR X (compareOp .Is) rIsB:=by
 intro pins s σ H x y v u Q I rx ry h
 obtain⟨b,c,rfl,rfl,q⟩:=h
 cases rx
 cases ry
 cases b <;> cases c <;> exact wpAny_pure (Z06 I q rfl)
theorem Zit:OpR X (compareOp .IsNot) (Ztt true):=fun pins s σ H x y v u Q I rx ry ⟨h,q⟩=>Zla pins s σ H x y v u Q I rx ry ⟨h,by simpa using q⟩
theorem Ziu:OpR X (compareOp .IsNot) rIsntB:=Za8
theorem Zfn (hu6:X.A.units+64<cLine)(hu:X.A.units<cLine):∀o:C2,∃r,OpR X (compareOp o.op) r/\Z0t X.K o.f r
 | .eq=>Z6z ⟨Zt9,Zqp⟩ ⟨(Zr9 hu).or (Zqr hu),Z9c Zfe Zf7⟩
 | .ne=>Z6z ⟨Zta,Zqq⟩ ⟨(Zra hu).or (Zqs hu),Z9c Zfe Zf7⟩
 | .lt=>⟨_,Ztb,Z37 fun _ _=>rfl⟩
 | .le=>Z6z ⟨Ztc,Z37 fun _ _=>rfl⟩ ⟨Zeq,Zf5⟩
 | .gt=>Z6z ⟨Ztd,Z37 fun _ _=>rfl⟩ ⟨Zer,Zf5⟩
 | .ge=>⟨_,Zte,Z37 fun _ _=>rfl⟩
 | .eqe=>⟨_,Zrc hu,Zfg⟩
 | .nee=>⟨_,Zrd hu,Zfg⟩
 | .ind=>⟨_,Zrg (by lia),Zmw⟩
 | .isin=>⟨_,Zei,Zko⟩
 | .notin=>⟨_,Z8s,Zko⟩
 | .is=>Z6z ⟨Zrn,Zm6⟩ ⟨Zrm,Zf6⟩
 | .isnt=>Z6z ⟨Ziu,Zig⟩ ⟨Zit,Zf6⟩
theorem Zro {f:F1}{e:Expr}{wa:TW}{p pos:Pos}(hc:X.calm=true)(hu:X.A.units+64<cLine)(hgd:X.A.guards=some [])(hm:X.mg f.nm=none)(hg:Gl X f.nm)(hs:Z0a e=true)(ha:PE X e (LE X.K F wa)):PE X (.Call (.Name f.nm p) [e] [] pos) (LE X.K F (wUn f.f wa)):=by
 have hA:PA X [e] (Zcr (LE X.K F wa) tNil):=Z20 ha pa_nil (Z0d hs)
 cases f with
 |len=>exact Z69 ((Z2g Zf9 hg hm PySem.boot_len hA (he:=Z0d hs)).imp fun σ H Q=>Z4d fun x H Q h=>⟨x,rfl,h⟩) Zm8
 |list=>exact Z69 ((Z21 Z8v hg hm (by decide+kernel) hA (he:=Z0d hs)).imp fun σ H Q=>Z4d fun x H Q ⟨p,ys,e,h⟩=>⟨p,ys,by rw[e],h⟩) Zih
 |tuple=>exact Z69 ((Z21 Z79 hg hm (by decide+kernel) hA (he:=Z0d hs)).imp fun σ H Q=>Z4d fun x H Q ⟨p,ys,e,h⟩=>⟨p,ys,by rw[e],h⟩) Zfa
 |sum=>exact Z69 ((Z2g (Zi8 hc) hg hm (by decide+kernel) hA (he:=Z0d hs)).imp fun σ H Q=>Z4d fun x H Q ⟨a,ns,e,h⟩=>⟨a,ns,by rw[e],h⟩) Zmg
 |all=>exact Z69 ((Z2g (Za6 hc) hg hm (by decide+kernel) hA (he:=Z0d hs)).imp fun σ H Q=>Z4d fun x H Q ⟨a,ns,e,h⟩=>⟨a,ns,by rw[e],h⟩) Zmh
 |any=>exact Z69 ((Z2g (Za7 hc) hg hm (by decide+kernel) hA (he:=Z0d hs)).imp fun σ H Q=>Z4d fun x H Q ⟨a,ns,e,h⟩=>⟨a,ns,by rw[e],h⟩) Zmi
 |dict=>exact Z69 ((Z21 Z9d hg hm (by decide+kernel) hA (he:=Z0d hs)).imp fun σ H Q=>Z4d fun x H Q ⟨p,kvs,e,h⟩=>⟨p,kvs,by rw[e],h⟩) Zij
 |int=>exact Z69 ((Z21 Zea hg hm (by decide+kernel) hA (he:=Z0d hs)).imp fun σ H Q=>Z4d fun x H Q h=>h.elim (fun⟨i,e,q⟩=>.inl ⟨i,by rw[e],q⟩) fun⟨k,e,q⟩=>.inr ⟨k,by rw[e],q⟩) Zmj
theorem PW.imp {e:Expr}{t t':TT}(h:PW X e t)(i:∀ σ H Q,t' σ H Q->t σ H Q):PW X e t':=fun whole pins s σ H Q I q=>h whole pins s σ H Q I (i σ H Q q)
theorem PT.pw {op:BoolOp}{vs:List Expr}{p:Pos}{t:TT}(h:PT X (.BoolOp op vs p) t):PW X (.BoolOp op vs p) t:=fun whole pins s σ H Q I q=>h pins s σ H Q I q
theorem Cs.loc_is {x:Str}(A:At Γ C X)(h:C.loc x=true):Loc X.env.scope x/\(X.fn x=true∨X.env.scope.names.lookup x=some .local):=by
 unfold Loc
 rw[A.nm]
 unfold Cs.loc at h
 split at h
 ·next e=>exact⟨.inl e,.inr e⟩
 ·next e=>exact⟨.inr e,.inl (A.fn h x)⟩
 ·cases h
theorem Z70:∀{p:Pt} {es:List Expr} {env:Env},ckP.ckPs C p es=true->(assignEach es env).findIdx? (·.1)=none/\(∀e r,es=e::r->(assignEach (e::r) env).map (·.2)=assign e env::(assignEach r env).map (·.2)):=by
 intro p
 induction p with
 |nm i=>intro es env h;cases h
 |nil=>
  intro es env h
  match es,h with
  |[],_=>exact⟨rfl,fun e r z=>by cases z⟩
 |cons a b iha ihb=>
  intro es env h
  match es,h with
  |e::es,h=>
   have h':(ckP C a e&&Z0a e&&ckP.ckPs C b es)=true:=h
   simp only [Bool.and_eq_true] at h'
   have e1:assignEach (e::es) env=(false,assign e env)::assignEach es env:=by
    have:=h'.1.2
    cases e <;> first|rfl|cases this
   refine⟨?_,fun e' r z=>?_⟩
   ·rw[e1,List.findIdx?_cons]
    simp [(ihb (es:=es) (env:=env) h'.2).1]
   ·cases z;rw[e1];rfl
theorem Zah {a b:Pt}{t:Tv}{M M':Ms}(h:bd (.cons a b) t M=some M'):∃u r M1,(t = .tup (u::r)∨t = .ktp (u::r))/\bd a u M=some M1/\bd b (.tup r) M1=some M':=by
 have go:∀u r,(bd a u M).bind (fun M1=>bd b (.tup r) M1)=some M'->∃M1,bd a u M=some M1/\bd b (.tup r) M1=some M':=fun u r h=>by
  cases q:bd a u M with
  |none=>rw[q] at h;cases h
  |some M1=>rw[q] at h;exact⟨M1,rfl,h⟩
 cases t with
 |tup l=>
  cases l with
  |nil=>cases h
  |cons u r=>
   obtain⟨M1,h1,h2⟩:=go u r h
   exact⟨u,r,M1,.inl rfl,h1,h2⟩
 |ktp l=>
  cases l with
  |nil=>cases h
  |cons u r=>
   obtain⟨M1,h1,h2⟩:=go u r h
   exact⟨u,r,M1,.inr rfl,h1,h2⟩
 |_=>cases h
theorem Zna (A:At Γ C X):∀p:Pt,(∀e,ckP C p e=true->PG X e (LG X.K F (bd p)))/\(∀es,ckP.ckPs C p es=true->PGs X es (LGs X.K F fun ts M=>bd p (.tup ts) M)/\∀ts M M',bd p (.tup ts) M=some M'->ts.length=es.length):=by
 intro p
 induction p with
 |nm i=>
  refine⟨fun e h=>?_,fun es h=>by cases h⟩
  cases e with
  |Name x pos=>
   have h':(C.N[i]? == some x&&C.loc x)=true:=h
   simp only [Bool.and_eq_true,beq_iff_eq] at h'
   obtain⟨h1,h2⟩:=Cs.loc_is A h'.2
   exact Zm1 (Zl9 (by rw[A.N];exact A.nd) (by rw[A.N];exact h'.1) h1 h2)
  |_=>cases h
 |nil=>
  refine⟨(fun e h=>by cases e <;> cases h),fun es h=>?_⟩
  match es,h with
  |[],_=>
   refine⟨pgs_nil.imp fun v σ H Q=>LGs.nil fun ts M M' e=>?_,fun ts M M' e=>?_⟩
   ·cases ts with
    |nil=>cases e;exact⟨rfl,rfl⟩
    |cons _ _=>cases e
   ·cases ts with
    |nil=>rfl
    |cons _ _=>cases e
 |cons a b iha ihb=>
  have rows:∀es,ckP.ckPs C (.cons a b) es=true->PGs X es (LGs X.K F fun ts M=>bd (.cons a b) (.tup ts) M)/\∀ts M M',bd (.cons a b) (.tup ts) M=some M'->ts.length=es.length:=fun es h=>by
   have hal:=Z70 (env:=X.env) h
   match es,h with
   |e::es,h=>
    have h':(ckP C a e&&Z0a e&&ckP.ckPs C b es)=true:=h
    simp only [Bool.and_eq_true] at h'
    obtain⟨g1,g2⟩:=ihb.2 es h'.2
    refine⟨(Zhp (iha.1 e h'.1.1) g1 (hal.2 e es rfl)).imp fun v σ H Q=>LGs.cons fun ts M M' z=>?_,fun ts M M' z=>?_⟩
    ·obtain⟨u,r,M1,e1,e2,e3⟩:=Zah z
     rcases e1 with e1|e1 <;> cases e1
     exact⟨u,r,M1,rfl,e2,e3⟩
    ·obtain⟨u,r,M1,e1,e2,e3⟩:=Zah z
     rcases e1 with e1|e1 <;> cases e1
     simp [g2 r M1 M' e3]
  refine⟨fun e h=>?_,rows⟩
  cases e with
  |Tuple es k pos=>
   cases es with
   |nil=>cases h
   |cons e es=>
    have h':ckP.ckPs C (.cons a b) (e::es)=true:=h
    obtain⟨g1,g2⟩:=rows _ h'
    have hl:∀{p:Pt} {es:List Expr},ckP.ckPs C p es=true->(assignEach es X.env).length=es.length:=by
     intro p
     induction p with
     |nm i=>intro es h;cases h
     |nil=>
      intro es h
      match es,h with
      |[],_=>rfl
     |cons a b _ ih=>
      intro es h
      match es,h with
      |e::es,h=>
       have h':(ckP C a e&&Z0a e&&ckP.ckPs C b es)=true:=h
       simp only [Bool.and_eq_true] at h'
       have e1:assignEach (e::es) X.env=(false,assign e X.env)::assignEach es X.env:=by
        have:=h'.1.2
        cases e <;> first|rfl|cases this
       rw[e1];simp [ih h'.2]
    refine(Zpi A.calm g1 (hl h') (Z70 h').1).imp fun v σ H Q=>LG.tup fun t M M' z=>?_
    obtain⟨u,r,M1,e1,e2,e3⟩:=Zah z
    rcases e1 with rfl|rfl
    ·exact⟨u::r,.inl rfl,g2 _ M M' z,z⟩
    ·exact⟨u::r,.inr rfl,g2 (u::r) M M' z,z⟩
  |_=>cases h
theorem At.inn {scope:Scope}{N':List Str}{cl:List (Str×Addr)}{D:Addr}{ex:List Addr}{s0:Shared}{H0:Hp}(A:At Γ C X)(hk:scope.kind = .function)(hN:N'.Nodup):At Γ (C.in scope N') (Z0q X N' scope cl D ex s0 H0) where
 N:=rfl
 nd:=hN
 nm:=by
  show(relabel scope X.env).names=_
  unfold relabel Cs.in
  simp only
  congr 1
  funext ⟨n,k⟩
  have e1:X.env.kindOf n=C.names.lookup n:=by show X.env.scope.names.lookup n=_;rw[A.nm]
  simp only [e1,A.kd]
  simp
 kd:=hk
 fn:=fun h=>by cases h
 calm:=A.calm
 bl:=A.bl
 un:=A.un
 gd:=A.gd
 kt:=A.kt
 gl:=A.gl
 fv:=A.fv
 fns:=fun p hp=>by
  obtain⟨k,f,fd,ps,h⟩:=A.fns p hp
  exact⟨k,f,fd,ps,h⟩
theorem Ziv {s:Sm}{d c:Expr->Bool}(hd:∀e,d e=true->PE X e (LE X.K F s.e))(h:∀e,c e=true->PT X e (LB X.K F s.t)):Snd Γ X F s (bCk d c) where
 e:=hd
 t:=h
 l:=fun e z=>by cases z
 i:=fun tg e z=>by cases z
 ts:=fun es he=>by obtain⟨e,rfl,he⟩:=Z2t he;exact Za4 (h e he)
 o:=fun e z=>by cases z
 p:=fun _ _ _ _ _ z=>by cases z
theorem LE.callV {i:Nat}{wr:TWs}{p:(Addr->Prop)×(Addr->PSp)}{E:XK}{σ:St}{H:Hp}{Q:VK}:LE X.K F (Zfj i wr p) σ H Q->Zkj p.1 (fun a=>spW X.K (p.2 a)) E (Zp6 i) (LA X.K F wr) σ H Q:=fun⟨G,ta,M,K0,R,⟨a,h1,h2,k⟩,q⟩=>by
 obtain⟨v,hv,ht⟩:=R.fz i _ h1
 cases ht
 have h:=LE.call (E:=E) (X:=X) (psp:=p.2 a) (wr:=wr) ⟨G,ta,M,K0,R,k,q⟩
 unfold Zlf at h
 simp only [append_nil] at h
 exact⟨_,hv,a,rfl,h2,h⟩
theorem Znb {m:Mt}{r:IE}{o:Expr}{es:List Expr}{wo:TW}{ap cp:Pos}(hm:Zuc m r es=true)(hb:attributeBase o m.nm X.env (eval o X.env)=eval o X.env)(hl:(ap.endLine==cp.line)=true)(hs:∀e∈es,Z0a e=true)(ho:PE X o (LE X.K F wo))(hr:PA X es (LF X.K F es.length (sem Γ r).f)):
  PE X (.Call (.Attribute o m.nm ap) es [] cp) (LE X.K F (Ztw m.f wo (sem Γ r).f)):=by
 cases m with
 |app=>
  match es,hm with
  |[e],_=>
   have h1:Z0a e=true:=hs e mem_cons_self
   exact(Zq0 PySem.F.plainAttrs_list PySem.F.slot_list_append PySem.F.type_list_append Zej ho hr hb (by rw[Z0d h1];rfl) hl (Z0d h1) rfl).imp fun σ H Q=>LE.mut Zma
 |ext=>
  match es,hm with
  |[e],_=>
   have h1:Z0a e=true:=hs e mem_cons_self
   exact(Zq0 PySem.F.plainAttrs_list PySem.F.slot_list_extend PySem.F.type_list_extend Zmq ho hr hb (by rw[Z0d h1];rfl) hl (Z0d h1) rfl).imp fun σ H Q=>LE.mut Zmr
 |pop=>
  have h9:r = .nil:=by
   cases r with
   |nil=>rfl
   |_=>exact(Bool.false_ne_true hm).elim
  subst h9
  match es,hm with
  |[],_=>
   refine(Zpz PySem.F.plainAttrs_list PySem.F.slot_list_pop PySem.F.type_list_pop Zq1 ho hb hl).imp fun σ H Q k=>?_
   obtain⟨G,ta,M,K0,R,k,q⟩:=LE.mut (n:=0) Zmc k
   refine⟨G,ta,M,K0,R,k,fun x M1 G1 t1 v H1 k1 R1 s1 e1=>?_⟩
   obtain⟨h1,G2,t2,M2,K2,R2,k2,q2⟩:=q x M1 G1 t1 v H1 k1 R1 s1 e1
   exact⟨h1,q2 [] M2 G2 [] H1 k2 R2 (Same.refl _) .nil rfl⟩
theorem Znc {T:String}(h:Zoz T=true):bootBuiltins (Str.ofString T)=some (.type T)/\(Str.ofString T==("__debug__":Str))=false/\Str.ofString T≠"__name__":=by
 have h':T="int"∨T="bool"∨T="str"∨T="tuple"∨T="list"∨T="dict":=by simpa [Zoz] using h
 rcases h' with rfl|rfl|rfl|rfl|rfl|rfl <;> exact⟨by decide+kernel,by decide+kernel,by decide+kernel⟩
theorem Znd {t:Tv}{n:String}(h:tyN t=some n):n ∈ ["NoneType","bool","int","str","tuple","list","dict"]:=by
 unfold tyN at h
 split at h <;> first | (cases h;decide)|cases h
theorem Zne {T:String}{e:Expr}{wa:TW}{p p' pos:Pos}(kt:∀n ∈ ["NoneType","bool","int","str","tuple","list","dict"],PySem.W.kitOne X.K (.type n) (.type T)=some (isK n T))(hm:X.mg "isinstance"=none)(hg:Gl X "isinstance")(hm':X.mg (Str.ofString T)=none)(hg':Gl X (Str.ofString T))(hT:Zoz T=true)(hs:Z0a e=true)(ha:PE X e (LE X.K F wa)):
  PE X (.Call (.Name "isinstance" p) [e,.Name (Str.ofString T) p'] [] pos) (LE X.K F (wUn (Zu0 T) wa)):=by
 obtain⟨b1,b2,b3⟩:=Znc hT
 have pT:PE X (.Name (Str.ofString T) p') (tC (.ty T)):=Zl6 hg' hm' b1 rfl b3 b2
 refine(Z2g Za5 hg hm (by decide+kernel) (Z20 ha (Z20 pT pa_nil) (Z0d hs)) (he:=Z0d hs)).imp fun σ H Q ⟨G,ta,M,K0,R,k,q⟩=>?_
 refine⟨G,ta,M,_,R,k,fun x M1 G1 t1 v1 H1 k1 R1 s1 e1=>?_⟩
 obtain⟨t,ht,k1⟩:=Z00 k1
 obtain⟨s,hs,k1⟩:=Z1l k1
 have hr:=R1.rd e1 ht
 unfold Zu0 at hs
 split at hs
 ·next n hn=>
  cases hs
  exact⟨v1,T,.type n,isK n T,rfl,Zr0 (hr.up R1.sub) hn,kt n (Znd hn),Z0l R1.sub (.at rfl) (R1.done R.lt s1 k1 q)⟩
 ·cases hs
theorem Z2j {caps:List Nat}{own:List Str}{p:Pt}{it c e:IE}{elt tg iter:Expr}{ifs:List Expr}{scope:Scope}(A:At Γ C X)(ihi:∀C X F,At Γ C X->Snd Γ X F (sem Γ it) (ck Γ it C))(ihc:∀C X F,At Γ C X->Snd Γ X F (sem Γ c) (ck Γ c C))(ihe:∀C X F,At Γ C X->Snd Γ X F (sem Γ e) (ck Γ e C))
  (h:(Z1b (fun x=>C.names.lookup x) C.N scope (Z3o C caps own) (caps.map some++List.replicate own.length none)&&(ck Γ it C).i tg iter&&Z1h iter&&ckP (C.in scope (Z3o C caps own)) p tg&&(ck Γ c (C.in scope (Z3o C caps own))).ts ifs&&(ck Γ e (C.in scope (Z3o C caps own))).e elt&&decide (Z3o C caps own).Nodup)=true):∃N':List Str,N'.length=caps.length+own.length/\CompScope X scope N' (caps.map some++List.replicate own.length none)/\PI X tg iter (LI X.K F (sem Γ it).i)/\Z1h iter=true ∧
   ∀cl D ex s0 H0,PG (Z0q X N' scope cl D ex s0 H0) tg (LGx X.K (bd p))/\PTs (Z0q X N' scope cl D ex s0 H0) ifs (LBx X.K (sem Γ c).t)/\PE (Z0q X N' scope cl D ex s0 H0) elt (LEx X.K (sem Γ e).e):=by
 simp only [Bool.and_eq_true,decide_eq_true_eq] at h
 obtain⟨⟨⟨⟨⟨⟨h1,h2⟩,h3⟩,h4⟩,h5⟩,h6⟩,h7⟩:=h
 have hN:(Z3o C caps own).length=caps.length+own.length:=by unfold Z3o;simp
 generalize Z3o C caps own=N' at h1 h4 h5 h6 h7 hN
 have hk:scope.kind = .function:=by
  unfold Z1b at h1
  simp only [Bool.and_eq_true,beq_iff_eq] at h1
  exact h1.1.1.1
 refine⟨N',hN,Z93 X.env.scope rfl X.N rfl (by rw[A.nm,A.N];exact h1),(ihi C X F A).i tg iter h2,h3,fun cl D ex s0 H0=>?_⟩
 have A':=A.inn (cl:=cl) (D:=D) (ex:=ex) (s0:=s0) (H0:=H0) hk h7
 exact⟨PG.all fun F'=>(Zna A' p).1 tg h4,PTs.all fun F'=>(ihc _ _ F' A').ts ifs h5,PE.all fun F'=>(ihe _ _ F' A').e elt h6⟩
theorem Zfo (Γ : Gm)(i:Nat):∀(C:Cs) (X:Cx) (F:Fr),At Γ C X->Snd Γ X F (sem Γ (.var i)) (ck Γ (.var i) C):=by
 intro C X F A
 refine Z17 fun e h=>?_
 obtain⟨x,p,rfl,h⟩:=Z0m h
 exact Zbl (A.var h)
theorem snd (Γ : Gm):∀(ir:IE) (C:Cs) (X:Cx) (F:Fr),At Γ C X->Snd Γ X F (sem Γ ir) (ck Γ ir C):=by
 intro ir
 induction ir with
 |var i=>
  intro C X F A
  refine Z17 fun e h=>?_
  obtain⟨x,p,rfl,h⟩:=Z0m h
  exact Zbl (A.var h)
 |cst v=>
  intro C X F A
  refine Z17 fun e h=>?_
  replace h:(Z4c e==some v&&okA v)=true:=h
  simp only [Bool.and_eq_true,beq_iff_eq] at h
  exact Zqh (Z7f h.1) h.2
 |bin o a b iha ihb=>
  intro C X F A
  refine Z17 fun e h=>?_
  obtain⟨l,op,r,p,rfl,h⟩:=Zn5 h
  replace h:(op==o.op&&(ck Γ a C).e l&&(ck Γ b C).e r)=true:=h
  simp only [Bool.and_eq_true,beq_iff_eq] at h
  obtain⟨⟨rfl,h1⟩,h2⟩:=h
  exact Zn9 ((iha C X F A).e l h1) ((ihb C X F A).e r h2)
 |cmp o a b iha ihb=>
  intro C X F A
  have go:∀e,(ck Γ (.cmp o a b) C).e e=true->∃l op r pos,e = .Compare l [op] [r] pos/\op=o.op/\(ck Γ a C).e l=true/\(ck Γ b C).e r=true/\Z1h r=true:=fun e h=>by
   obtain⟨l,op,r,p,rfl,h⟩:=Zn6 h
   replace h:(op==o.op&&(ck Γ a C).e l&&(ck Γ b C).e r&&Z1h r)=true:=h
   simp only [Bool.and_eq_true,beq_iff_eq] at h
   exact⟨l,op,r,p,rfl,h.1.1.1,h.1.1.2,h.1.2,h.2⟩
  have hu:X.A.units<cLine:=by have:=A.un;lia
  obtain⟨r2,o1,o2⟩:=Zfn A.un hu o
  have pt:∀e,(ck Γ (.cmp o a b) C).e e=true->PT X e (LB X.K F (Zsr (Zkk o.f (sem Γ a).e (sem Γ b).e))):=fun e h=>by
   obtain⟨l,op,r,pos,rfl,rfl,h1,h2,h3⟩:=go e h
   have P:=Zld (pos:=pos) o1 ((iha C X F A).e l h1) ((ihb C X F A).e r h2) (Zbw h3)
   refine Zkl (P.imp fun σ H Q ⟨G,ta,M,K0,R,k,q⟩=>?_)
   refine⟨G,ta,M,_,R,k,fun x M1 G1 t1 v1 H1 k1 R1 s1 e1=>⟨G1,t1,M1,_,R1,k1,fun y M2 G2 t2 v2 H2 k2 R2 s2 e2=>?_⟩⟩
   obtain⟨t,ht,k2⟩:=Z00 k2
   obtain⟨u,hu,k2⟩:=Z00 k2
   obtain⟨s,hs,k2⟩:=Z1l k2
   exact o2 G2 H2 v1 v2 t u s _ R2.sub (R2.rd (e1.stp s2) ht) (R2.rd e2 hu) hs (R2.done R.lt (s1.trans s2) k2 q)
  refine⟨fun e h=>?_,pt,(fun es z=>by cases z),(fun tg e z=>by cases z),fun es he=>?_,(fun e z=>by cases z),(fun _ _ _ _ _ z=>by cases z)⟩
  ·obtain⟨l,op,r,pos,rfl,rfl,h1,h2,h3⟩:=go e h
   exact Z35 (Zlb (pos:=pos) o1 ((iha C X F A).e l h1) ((ihb C X F A).e r h2) (Zbw h3)) o2
  ·obtain⟨e,rfl,he⟩:=Z2t he
   exact Za4 (pt e he)
 |ix a b iha ihb=>
  intro C X F A
  refine Z17 fun e h=>?_
  obtain⟨l,r,p,rfl,h⟩:=Z58 h
  replace h:((ck Γ a C).e l&&(ck Γ b C).e r&&Z16 r)=true:=h
  simp only [Bool.and_eq_true] at h
  exact Z35 (Ztj Zpy ((iha C X F A).e l h.1.1) ((ihb C X F A).e r h.1.2) (Z6y h.2)) Zqt
 |dg a b iha ihb=>
  intro C X F A
  refine Z17 fun e h=>?_
  obtain⟨l,r,p,rfl,h⟩:=Z58 h
  replace h:((ck Γ a C).e l&&(ck Γ b C).e r&&Z16 r)=true:=h
  simp only [Bool.and_eq_true] at h
  exact Z35 (r:=rDGet) (Zlm (by have:=A.un;lia) ((iha C X F A).e l h.1.1) ((ihb C X F A).e r h.1.2) (Z6y h.2)) Zqw
 |b1 f a iha=>
  intro C X F A
  refine Z17 fun e h=>?_
  obtain⟨g,es,p,rfl,h⟩:=Z14 h
  replace h:(Z0u (fun x=>x==f.nm&&C.gl x && Γ.bl.contains x) g&&Zbs (fun r=>(ck Γ a C).e r&&Z0a r) es)=true:=h
  rw[Bool.and_eq_true] at h
  obtain⟨x,q,rfl,h1⟩:=Z0m h.1
  obtain⟨r,rfl,h2⟩:=Z2t h.2
  replace h1:(x==f.nm&&C.gl x && Γ.bl.contains x)=true:=h1
  replace h2:((ck Γ a C).e r&&Z0a r)=true:=h2
  simp only [Bool.and_eq_true,beq_iff_eq] at h1 h2
  obtain⟨⟨rfl,h3⟩,h4⟩:=h1
  exact Zro A.calm A.un A.gd (A.bl _ (contains_iff_mem.mp h4)) (A.gl' h3) h2.2 ((iha C X F A).e r h2.1)
 |and a b iha ihb=>
  intro C X F A
  refine Ziv (fun e h=>?_) fun e h=>?_
  ·obtain⟨l,p,h1,⟨x,rfl,h2⟩|⟨x,y,z,rfl,h2⟩⟩:=Z4q h
   ·exact(Zk6 ((iha C X F A).e l h1) (Zk5 ((ihb C X F A).e x h2))).imp fun σ H Q=>LE.andV
   ·exact(Zk6 ((iha C X F A).e l h1) ((ihb C X F A).e _ h2)).imp fun σ H Q=>LE.andV
  ·obtain⟨l,p,h1,⟨x,rfl,h2⟩|⟨x,y,z,rfl,h2⟩⟩:=Z4q h
   ·exact((Zk4 ((iha C X F A).t l h1) (Zl7 ((ihb C X F A).t x h2))).imp fun σ H Q=>LB.and).pt
   ·exact((Zk4 ((iha C X F A).t l h1) ((ihb C X F A).t _ h2).pw).imp fun σ H Q=>LB.and).pt
 |or a b iha ihb=>
  intro C X F A
  refine Ziv (fun e h=>?_) fun e h=>?_
  ·obtain⟨l,p,h1,⟨x,rfl,h2⟩|⟨x,y,z,rfl,h2⟩⟩:=Z4q h
   ·exact(Zpe ((iha C X F A).e l h1) (Zk5 ((ihb C X F A).e x h2))).imp fun σ H Q=>LE.orV
   ·exact(Zpe ((iha C X F A).e l h1) ((ihb C X F A).e _ h2)).imp fun σ H Q=>LE.orV
  ·obtain⟨l,p,h1,⟨x,rfl,h2⟩|⟨x,y,z,rfl,h2⟩⟩:=Z4q h
   ·exact((Zpa ((iha C X F A).t l h1) (Zp9 ((ihb C X F A).t x h2))).imp fun σ H Q=>LB.or).pt
   ·exact((Zpa ((iha C X F A).t l h1) ((ihb C X F A).t _ h2).pw).imp fun σ H Q=>LB.or).pt
 |not a iha=>
  intro C X F A
  refine Ziv (fun e h=>?_) fun e h=>?_
  ·obtain⟨r,p,rfl,h⟩:=Zfm h
   exact(Zpf ((iha C X F A).e r h)).imp fun σ H Q=>LE.notV
  ·obtain⟨r,p,rfl,h⟩:=Zfm h
   exact(Zpb ((iha C X F A).t r h)).imp fun σ H Q=>LB.not
 |chn o o' a b c iha ihb ihc=>
  intro C X F A
  have hu:X.A.units<cLine:=by have:=A.un;lia
  obtain⟨r2,o1,o2⟩:=Zfn A.un hu o
  obtain⟨r3,o3,o4⟩:=Zfn A.un hu o'
  have go:∀e,Zsz (fun op op' l m r=>op==o.op&&op'==o'.op&&(ck Γ a C).e l&&(ck Γ b C).e m&&(ck Γ c C).e r&&Z1h r) e=true->∃l m r p,e = .Compare l [o.op,o'.op] [m,r] p/\PE X l (LE X.K F (sem Γ a).e)/\PE X m (LE X.K F (sem Γ b).e)/\PE X r (LE X.K F (sem Γ c).e)/\Z1h r=true:=fun e h=>by
   obtain⟨l,op,op',m,r,p,rfl,h⟩:=Zn2 h
   replace h:(op==o.op&&op'==o'.op&&(ck Γ a C).e l&&(ck Γ b C).e m&&(ck Γ c C).e r&&Z1h r)=true:=h
   simp only [Bool.and_eq_true,beq_iff_eq] at h
   obtain⟨⟨⟨⟨⟨rfl,rfl⟩,h1⟩,h2⟩,h3⟩,h4⟩:=h
   exact⟨l,m,r,p,rfl,(iha C X F A).e l h1,(ihb C X F A).e m h2,(ihc C X F A).e r h3,h4⟩
  refine Ziv (fun e h=>?_) fun e h=>?_
  ·obtain⟨l,m,r,p,rfl,h1,h2,h3,h4⟩:=go e h
   exact(Zht o1 o3 h1 h2 h3 (Zbw h4)).imp fun σ H Q=>LE.chn o2 o4
  ·obtain⟨l,m,r,p,rfl,h1,h2,h3,h4⟩:=go e h
   exact Zkl ((Zhu o1 o3 h1 h2 h3 (Zbw h4)).imp fun σ H Q k=>LE.chn o2 o4 k)
 |dnew=>
  intro C X F A
  refine Z17 fun e h=>?_
  obtain⟨p,rfl⟩:=Zrl h
  exact Zml
 |dct ks r ihr=>
  intro C X F A
  refine Z17 fun e h=>?_
  obtain⟨es,vs,p,rfl,h⟩:=Ziq h
  replace h:(Z57 ks es&&(ck Γ r C).l vs&&decide (ks.length<=15) && !ks.isEmpty&&es.length==vs.length)=true:=h
  simp only [Bool.and_eq_true,decide_eq_true_eq,beq_iff_eq,Bool.not_eq_true'] at h
  obtain⟨⟨⟨⟨h1,h2⟩,h3⟩,h4⟩,h5⟩:=h
  obtain⟨trs,g1,g2⟩:=(ihr C X F A).p ks es vs p h1 h2 h5
  have ko:∀(ks:List Str) (es:List (Option Expr)),Z57 ks es=true->ks.length=es.length/\es.all (·.isSome)=true:=by
   intro ks
   induction ks with
   |nil=>intro es h;cases es with|nil=>exact⟨rfl,rfl⟩|cons _ _=>cases h
   |cons k ks ih=>
    intro es h
    match es,h with
    |some e::es,h=>
     have h':(Z4c e==some (.str k)&&Z57 ks es)=true:=h
     rw[Bool.and_eq_true] at h'
     obtain⟨a1,a2⟩:=ih es h'.2
     exact⟨by simp [a1],by simpa using a2⟩
  obtain⟨k1,k2⟩:=ko ks es h1
  exact(Zlq g1 k2 h5 (fun z=>by rw[z] at k1;cases ks with|nil=>cases h4|cons _ _=>cases k1) (by lia)).imp fun σ H Q=>LE.dct h3 g2
 |nil=>
  intro C X F A
  refine⟨(fun e z=>by cases z),(fun e z=>by cases z),fun es h=>?_,(fun tg e z=>by cases z),(fun es z=>by cases z),(fun e h=>by rw[Zis h];exact Zmd),fun ks es vs pos hk hv hl=>?_⟩
  ·rw[Z7p h]
   exact⟨Zqj,Zqi⟩
  ·rw[Z7p hv] at hl ⊢
   have:es = []:=List.eq_nil_of_length_eq_zero hl
   subst this
   cases ks with
   |nil=>exact⟨[],Zlp,fun σ H Q=>LP.nil⟩
   |cons _ _=>cases hk
 |cons a r iha ihr=>
  intro C X F A
  have eS:sem Γ (.cons a r)=⟨noE,noT,Z98 (sem Γ a).e (sem Γ r).f,Zib (sem Γ a).e (sem Γ r).a,noF,noO⟩:=by
   show Sm.mk noE noT (Z98 (sem Γ a).e (Zua (sem Γ r).f)) (Zib (sem Γ a).e (Zub (sem Γ r).a)) noF noO=_
   rw[Zmy,Zmz]
  rw[eS]
  refine⟨(fun e z=>by cases z),(fun e z=>by cases z),fun es h=>?_,(fun tg e z=>by cases z),(fun es z=>by cases z),(fun e z=>by cases z),fun ks es vs pos hk hv hl=>?_⟩
  ·obtain⟨x,xs,rfl,h1,h2,h3⟩:=Z7q h
   have pe:=(iha C X F A).e x h1
   obtain⟨q1,q2⟩:=(ihr C X F A).l xs h3
   exact⟨(Z20 pe q1 (Z0d h2)).imp fun σ H Q=>LF.cons,Zly (Z20 pe q2 (Z0d h2))⟩
  ·obtain⟨x,xs,rfl,h1,h2,h3⟩:=Z7q hv
   cases es with
   |nil=>cases hl
   |cons o es=>
    match ks,o,hk with
    |k::ks,some e,hk=>
     have hk':(Z4c e==some (.str k)&&Z57 ks es)=true:=hk
     simp only [Bool.and_eq_true,beq_iff_eq] at hk'
     obtain⟨trs,g1,g2⟩:=(ihr C X F A).p ks es xs pos hk'.2 h3 (by simpa using hl)
     exact⟨_,Zhy (Z7f hk'.1) ((iha C X F A).e x h1) g1,fun σ H Q=>LP.cons g2⟩
 |tup r ihr=>
  intro C X F A
  refine Z17 fun e h=>?_
  obtain⟨es,k,p,rfl,h1,h2⟩:=Zn7 h
  exact Zqk h2 ((ihr C X F A).l es h1).1
 |lst r ihr=>
  intro C X F A
  refine Z17 fun e h=>?_
  obtain⟨es,p,rfl,h1,h2⟩:=Zn8 h
  exact Zql h2 ((ihr C X F A).l es h1).1
 |call j r ihr=>
  intro C X F A
  refine Z17 fun e h=>?_
  obtain⟨g,es,p,rfl,h⟩:=Z14 h
  replace h:(Z0u (fun x=>(Γ.fns[j]?).map (·.1)==some x&&C.gl x&&Z10 x) g&&Zd8 (ck Γ r C).l es)=true:=h
  rw[Bool.and_eq_true] at h
  obtain⟨x,q,rfl,h1⟩:=Z0m h.1
  obtain⟨a,es,rfl,h4⟩:=Zbu h.2
  replace h1:((Γ.fns[j]?).map (·.1)==some x&&C.gl x&&Z10 x)=true:=h1
  simp only [Bool.and_eq_true,beq_iff_eq] at h1
  obtain⟨⟨h1,h2⟩,h3⟩:=h1
  have st:=Zag h4
  simp only [Z10,Bool.and_eq_true,Bool.not_eq_true'] at h3
  cases q : Γ.fns[j]? with
  |none=>rw[q] at h1;cases h1
  |some pr=>
   obtain⟨y,psp⟩:=pr
   rw[q] at h1
   cases h1
   obtain⟨k,f,fd,ps,g1,g2,g3,g4,g5⟩:=A.fns _ (mem_of_getElem? q)
   have e2 : Γ.sp j=psp:=by unfold Gm.sp;rw[q]
   show PE X _ (LE X.K F (Zid (Γ.sp j) (sem Γ r).a))
   rw[e2]
   exact(Zlg g1 g2 (A.gl' h2) g3 g4 g5 .nil Zq9 ((ihr C X F A).l _ h4).2 h3.1.1 (Z0d (st a mem_cons_self)) (Zbx fun z hz=>st z (mem_cons_of_mem _ hz))).imp fun σ H Q=>LE.call
 |callv j i r ihr=>
  intro C X F A
  refine Z17 fun e h=>?_
  obtain⟨g,es,p,rfl,h⟩:=Z14 h
  replace h:(Z0u (fun x=>C.N[i]? == some x&&C.vis x&&Z10 x) g&&(Γ.fv[j]?).isSome&&Zd8 (ck Γ r C).l es)=true:=h
  simp only [Bool.and_eq_true] at h
  obtain⟨x,q,rfl,h1⟩:=Z0m h.1.1
  obtain⟨a,es,rfl,h4⟩:=Zbu h.2
  have st:=Zag h4
  cases q : Γ.fv[j]? with
  |none=>rw[q] at h;exact(Bool.false_ne_true h.1.2).elim
  |some pr=>
   obtain⟨k,hr,hF⟩:=A.fv _ (mem_of_getElem? q)
   show PE X _ (LE X.K F (Zfj i (sem Γ r).a pr))
   exact(Zi5 (CX:=CX0) (sp:=fun a=>spW X.K (pr.2 a)) hF hr Zq9 (A.var h1) ((ihr C X F A).l _ h4).2 (Z0d (st a mem_cons_self)) (Zbx fun z hz=>st z (mem_cons_of_mem _ hz))).imp fun σ H Q=>LE.callV
 |mth m o r iho ihr=>
  intro C X F A
  refine Z17 fun e h=>?_
  obtain⟨g,es,cp,rfl,h⟩:=Z14 h
  replace h:(Zfk (fun l x ap=>x==m.nm&&(ck Γ o C).e l&&Zd7 l&&ap.endLine==cp.line) g&&(ck Γ r C).l es&&Zuc m r es)=true:=h
  simp only [Bool.and_eq_true] at h
  obtain⟨l,x,ap,rfl,h1⟩:=Zbt h.1.1
  replace h1:(x==m.nm&&(ck Γ o C).e l&&Zd7 l&&ap.endLine==cp.line)=true:=h1
  simp only [Bool.and_eq_true,beq_iff_eq] at h1
  obtain⟨⟨⟨rfl,h2⟩,h3⟩,h4⟩:=h1
  refine Znb h.2 ?_ (beq_iff_eq.mpr h4) (Zag h.1.2) ((iho C X F A).e l h2) ((ihr C X F A).l es h.1.2).1
  cases l <;> first|rfl|cases h3
 |comp caps own p it c e ihi ihc ihe=>
  intro C X F A
  refine Z17 fun x h=>?_
  obtain⟨elt,tg,iter,ifs,scope,pos,rfl,h⟩:=Z4r h
  obtain⟨N',hN,S,hi,hs,hb⟩:=Z2j (F:=F) A ihi ihc ihe h
  exact(Zep A.calm S hi hb (Z38 hs)).imp fun σ H Q=>LE.comp hN
 |cmpv caps own p i c e ihc ihe=>
  intro C X F A
  refine Z17 fun x h=>?_
  obtain⟨elt,tg,iter,ifs,scope,pos,rfl,h⟩:=Z4r h
  have hv:Z0u (fun x=>C.N[i]? == some x&&C.vis x&&Z10 x) iter=true:=by
   replace h:(Z1b (fun x=>C.names.lookup x) C.N scope (Z3o C caps own) (caps.map some++List.replicate own.length none)&&Z0u (fun x=>C.N[i]? == some x&&C.vis x&&Z10 x) iter&&Z1h iter&&ckP (C.in scope (Z3o C caps own)) p tg&&(ck Γ c (C.in scope (Z3o C caps own))).ts ifs&&(ck Γ e (C.in scope (Z3o C caps own))).e elt&&decide (Z3o C caps own).Nodup)=true:=h
   simp only [Bool.and_eq_true] at h
   exact h.1.1.1.1.1.2
  obtain⟨N',hN,S,hi,hs,hb⟩:=Z2j (F:=F) (it:=.var i) A (Zfo Γ i) ihc ihe h
  obtain⟨x,q,rfl,hv⟩:=Z0m hv
  exact(Zep A.calm S (Zf3 (Zbl (F:=F) (A.var hv))) hb (Z38 hs)).imp fun σ H Q=>LE.compV hN
 |tt=>
  intro C X F A
  refine⟨(fun e z=>by cases z),(fun e z=>by cases z),(fun es z=>by cases z),(fun tg e z=>by cases z),fun es h=>?_,(fun e z=>by cases z),(fun _ _ _ _ _ z=>by cases z)⟩
  rw[Z7p h]
  exact fun pins s σ H Q I ⟨G,ta,M,K0,R,k,q⟩=>Zlr pins s σ H Q I (q _ _ G H k R (Same.refl _))
 |neg a iha=>
  intro C X F A
  refine Z17 fun e h=>?_
  obtain⟨r,p,rfl,h⟩:=Zn3 h
  exact Z69 (Zpm Zkb ((iha C X F A).e r h)) Zmk
 |isi T a iha=>
  intro C X F A
  refine Z17 fun e h=>?_
  obtain⟨g,es,p,rfl,h⟩:=Z14 h
  replace h:(Z0u (fun x=>x==("isinstance":Str)&&C.gl x && Γ.bl.contains x) g&&Zoy (fun r y=>(ck Γ a C).e r&&Z0a r&&Z0u (fun z=>z==Str.ofString T&&C.gl z && Γ.bl.contains z) y && Γ.kt.contains T&&Zoz T) es)=true:=h
  rw[Bool.and_eq_true] at h
  obtain⟨x,q,rfl,h1⟩:=Z0m h.1
  obtain⟨r,y,rfl,h2⟩:=Zfl h.2
  replace h1:(x==("isinstance":Str)&&C.gl x && Γ.bl.contains x)=true:=h1
  replace h2:((ck Γ a C).e r&&Z0a r&&Z0u (fun z=>z==Str.ofString T&&C.gl z && Γ.bl.contains z) y && Γ.kt.contains T&&Zoz T)=true:=h2
  simp only [Bool.and_eq_true,beq_iff_eq] at h1 h2
  obtain⟨⟨⟨⟨h3,h4⟩,h5⟩,h6⟩,h7⟩:=h2
  obtain⟨z,q',rfl,h8⟩:=Z0m h5
  replace h8:(z==Str.ofString T&&C.gl z && Γ.bl.contains z)=true:=h8
  simp only [Bool.and_eq_true,beq_iff_eq] at h8
  obtain⟨⟨rfl,h9⟩,h10⟩:=h8
  obtain⟨⟨rfl,h11⟩,h12⟩:=h1
  exact Zne (A.kt T (contains_iff_mem.mp h6)) (A.bl _ (contains_iff_mem.mp h12)) (A.gl' h11) (A.bl _ (contains_iff_mem.mp h10)) (A.gl' h9) h7 h4 ((iha C X F A).e r h3)
 |slc a lo hi iha ihl ihh=>
  intro C X F A
  refine Z17 fun e h=>?_
  obtain⟨x,lo,hi,p,p2,rfl,h1,h2,h3⟩:=Zn4 h
  exact(Zhw Zwr ((iha C X F A).e x h1) ((ihl C X F A).o lo h2) ((ihh C X F A).o hi h3)).imp fun σ H Q=>LE.slc
 |rng a iha=>
  intro C X F A
  refine⟨(fun e z=>by cases z),(fun e z=>by cases z),(fun es z=>by cases z),fun tg e h=>?_,(fun es z=>by cases z),(fun e z=>by cases z),(fun _ _ _ _ _ z=>by cases z)⟩
  obtain⟨g,es,p,rfl,h⟩:=Z14 h
  replace h:(Z0u (fun x=>x==("range":Str)&&C.gl x && Γ.bl.contains x) g&&Zbs (fun r=>(ck Γ a C).e r&&Z0a r) es)=true:=h
  rw[Bool.and_eq_true] at h
  obtain⟨x,q,rfl,h1⟩:=Z0m h.1
  obtain⟨r,rfl,h2⟩:=Z2t h.2
  replace h1:(x==("range":Str)&&C.gl x && Γ.bl.contains x)=true:=h1
  replace h2:((ck Γ a C).e r&&Z0a r)=true:=h2
  simp only [Bool.and_eq_true,beq_iff_eq] at h1 h2
  obtain⟨⟨rfl,h3⟩,h4⟩:=h1
  exact(Ze4 (A.gl' h3) (A.bl _ (contains_iff_mem.mp h4)) (Z20 ((iha C X F A).e r h2.1) pa_nil (Z0d h2.2)) (Z0d h2.2)).imp fun σ H R=>LI.rng
 |its a iha=>
  intro C X F A
  exact⟨(fun e z=>by cases z),(fun e z=>by cases z),(fun es z=>by cases z),(fun tg e h=>(Zqb ((iha C X F A).e e h)).imp fun σ H R=>LI.its),(fun es z=>by cases z),(fun e z=>by cases z),(fun _ _ _ _ _ z=>by cases z)⟩
 |rvs b a iha=>
  intro C X F A
  refine Z17 fun e h=>?_
  obtain⟨x,j,p1,p2,p3,p,rfl,h⟩:=Zn1 h
  exact Zr8 ((iha C X F A).e x h)
 |lns a iha=>
  intro C X F A
  refine Z17 fun e h=>?_
  obtain⟨g,es,p,rfl,h⟩:=Z14 h
  replace h:(Z0u (fun x=>x==("len":Str)&&C.gl x && Γ.bl.contains x) g&&Zbs (Z56 fun g' es' _=>Z0u (fun x=>x==("set":Str)&&C.gl x && Γ.bl.contains x) g'&&Zbs (fun r=>(ck Γ a C).e r&&Z0a r) es') es)=true:=h
  rw[Bool.and_eq_true] at h
  obtain⟨x,q,rfl,h1⟩:=Z0m h.1
  obtain⟨y,rfl,h2⟩:=Z2t h.2
  obtain⟨g',es',p',rfl,h3⟩:=Z14 h2
  replace h3:(Z0u (fun x=>x==("set":Str)&&C.gl x && Γ.bl.contains x) g'&&Zbs (fun r=>(ck Γ a C).e r&&Z0a r) es')=true:=h3
  rw[Bool.and_eq_true] at h3
  obtain⟨x',q',rfl,h4⟩:=Z0m h3.1
  obtain⟨r,rfl,h5⟩:=Z2t h3.2
  replace h1:(x==("len":Str)&&C.gl x && Γ.bl.contains x)=true:=h1
  replace h4:(x'==("set":Str)&&C.gl x' && Γ.bl.contains x')=true:=h4
  replace h5:((ck Γ a C).e r&&Z0a r)=true:=h5
  simp only [Bool.and_eq_true,beq_iff_eq] at h1 h4 h5
  obtain⟨⟨rfl,a1⟩,a2⟩:=h1
  obtain⟨⟨rfl,a3⟩,a4⟩:=h4
  exact Zrf A.calm (A.gl' a1) (A.bl _ (contains_iff_mem.mp a2)) (A.gl' a3) (A.bl _ (contains_iff_mem.mp a4)) (Z0d h5.2) ((iha C X F A).e r h5.1)
 |glb j=>
  intro C X F A
  refine Z17 fun e h=>?_
  obtain⟨x,p,rfl,h⟩:=Z0m h
  replace h:((Γ.gl[j]?).map (·.1)==some x&&C.gl x&&Z10 x)=true:=h
  simp only [Bool.and_eq_true,beq_iff_eq] at h
  obtain⟨⟨h1,h2⟩,h3⟩:=h
  simp only [Z10,Bool.and_eq_true,Bool.not_eq_true'] at h3
  cases q : Γ.gl[j]? with
  |none=>rw[q] at h1;cases h1
  |some pr=>
   obtain⟨y,t⟩:=pr
   rw[q] at h1
   cases h1
   obtain⟨v,u,g1,g2,g3⟩:=A.gl _ (mem_of_getElem? q)
   exact(Ze1 (A.gl' h2) g1 g2 h3.1.1).imp fun σ H Q ⟨G,ta,M,K0,R,k,q⟩=>q _ _ G ta v H k R .refl (g3 G)
 |get d k z ihd ihk ihz=>
  intro C X F A
  refine Z17 fun e h=>?_
  obtain⟨g,es,cp,rfl,h⟩:=Z14 h
  replace h:(Zfk (fun l x ap=>x==("get":Str)&&(ck Γ d C).e l&&Zd7 l&&ap.endLine==cp.line) g&&Zoy (fun a b=>(ck Γ k C).e a&&Z0a a&&(ck Γ z C).e b&&Z0a b) es)=true:=h
  rw[Bool.and_eq_true] at h
  obtain⟨l,x,ap,rfl,h1⟩:=Zbt h.1
  obtain⟨a,b,rfl,h2⟩:=Zfl h.2
  replace h1:(x==("get":Str)&&(ck Γ d C).e l&&Zd7 l&&ap.endLine==cp.line)=true:=h1
  replace h2:((ck Γ k C).e a&&Z0a a&&(ck Γ z C).e b&&Z0a b)=true:=h2
  simp only [Bool.and_eq_true,beq_iff_eq] at h1 h2
  obtain⟨⟨⟨rfl,h3⟩,h4⟩,h5⟩:=h1
  obtain⟨⟨⟨h6,h7⟩,h8⟩,h9⟩:=h2
  have st:starEach [a,b] X.env = [(false,eval a X.env),(false,eval b X.env)]:=by rw[Z0d h7,Z0d h9];rfl
  have bs:attributeBase l "get" X.env (eval l X.env)=eval l X.env:=by cases l <;> first|rfl|cases h4
  have m:M2 X l "get" ap a b cp:=⟨bs,(by rw[st];rfl),beq_iff_eq.mpr h5,(by rw[st];rfl)⟩
  exact(Zhz (by have:=A.un;lia) ((ihd C X F A).e l h3) ((ihk C X F A).e a h6) ((ihz C X F A).e b h8) m).imp fun σ H Q=>LE.get
end
inductive IS where
 |skip
 |seq (a b:IS)|cut (a b:IS)
 |ret (e:IE)|exp (e:IE)|set (i:Nat) (e:IE)|asg (p:Pt) (e:IE)
 |ife (c:IE) (a b:IS)|for (p:Pt) (it:IE) (b:IS)|whl (c:IE) (b:IS)
 |dput (v d k:IE)|lput (v o i:IE)|dsub (d k:IE) (n:Int)
def Zw5 (a b:TWS):TWS:=fun P M=>∃Mid:Ms->Prop,a { P with nx:=Mid } M/\∀M',Mid M'->b P M'
def nrm (w:TWS):TWS:=fun P M=>Zsx M (w P)
theorem Z4e (w:TWS):nrm w=w:=by funext P M;exact Zaf
def Z0j (Γ : Gm):IS->TWS
 | .skip=>Zqm
 | .seq a b=>Zvl (Z0j Γ a) (nrm (Z0j Γ b))
 | .cut a b=>Zw5 (Z0j Γ a) (nrm (Z0j Γ b))
 | .ret e=>Zvm (sem Γ e).e
 | .exp e=>Zvn (sem Γ e).e
 | .set i e=>Ztq i (sem Γ e).e
 | .asg p e=>Zvq (bd p) (sem Γ e).e
 | .ife c a b=>wIf (sem Γ c).t (nrm (Z0j Γ a)) (nrm (Z0j Γ b))
 | .for p it b=>Zvp (sem Γ it).i (bd p) (nrm (Z0j Γ b))
 | .whl c b=>Zvo (sem Γ c).t (nrm (Z0j Γ b))
 | .dput v d k=>Zqx (sem Γ v).e (sem Γ d).e (sem Γ k).e
 | .dsub d k n=>Zrb (sem Γ d).e (sem Γ k).e n
 | .lput v o i=>Zr6 (sem Γ v).e (sem Γ o).e (sem Γ i).e
def Znf:Expr->Bool
 | .Tuple _ _ _=>false
 |_=>true
structure Sk where
 s:Stmt->Bool
 b:List Stmt->Bool
def Zfp (s:Stmt->Bool):Sk:=⟨s,fun sts=>match sts with | [st]=>s st|_=>false⟩
def Zng:Stmt->Bool
 | .Pass _=>true
 |_=>false
def Zuh:List Stmt->Bool
 |[]=>true
 |[st]=>Zng st
 |_=>false
def Zw6 (a:Stmt->Bool)(b:List Stmt->Bool):List Stmt->Bool
 |st::r=>a st&&b r
 |_=>false
def Zw7 (c:Expr->Bool):Stmt->Bool
 | .Return (some x) _=>c x
 |_=>false
def Zw8 (c:Expr->Bool):Stmt->Bool
 | .Expr x _=>c x&&Z25 x
 |_=>false
def Zfq (c:Expr->Expr->Bool):Stmt->Bool
 | .Assign [tg] v _=>c tg v
 |_=>false
def kIf (c:Expr->Bool)(a b:List Stmt->Bool):Stmt->Bool
 | .If t x y _=>c t&&a x&&b y
 |_=>false
def Zw9 (p:Expr->Bool)(i:Expr->Expr->Bool)(b:List Stmt->Bool):Stmt->Bool
 | .For tg x y [] _=>p tg&&i tg x&&Z1h x&&b y
 |_=>false
def Zwa (c:Expr->Bool)(b:List Stmt->Bool):Stmt->Bool
 | .While t x [] _=>c t&&b x
 |_=>false
def Zrp (c:Expr->Expr->Bool):Stmt->Bool
 | .AugAssign tg op v _=>op == .Sub&&c tg v
 |_=>false
theorem Ziw {st:Stmt}{c:Expr->Expr->Bool}(h:Zrp c st=true):∃tg v p,st = .AugAssign tg .Sub v p/\c tg v=true:=by
 cases st with
 |AugAssign tg op v p=>
  have h:(_&&_)=true:=h
  simp only [Bool.and_eq_true,beq_iff_eq] at h
  obtain⟨rfl,h⟩:=h
  exact⟨_,_,_,rfl,h⟩
 |_=>exact(Bool.false_ne_true h).elim
def ckS (Γ : Gm):IS->Cs->Sk
 | .skip,_=>⟨Zng,Zuh⟩
 | .seq a b,C=>⟨fun _=>false,Zw6 (ckS Γ a C).s (ckS Γ b C).b⟩
 | .cut a b,C=>⟨fun _=>false,Zw6 (ckS Γ a C).s (ckS Γ b C).b⟩
 | .ret e,C=>Zfp (Zw7 (ck Γ e C).e)
 | .exp e,C=>Zfp (Zw8 (ck Γ e C).e)
 | .set i e,C=>Zfp (Zfq fun tg v=>Z0u (fun x=>C.N[i]? == some x&&C.loc x) tg&&(ck Γ e C).e v)
 | .asg p e,C=>Zfp (Zfq fun tg v=>ckP C p tg&&(ck Γ e C).e v&&Z25 v&&Znf v&&Z0a tg)
 | .ife c a b,C=>Zfp (kIf (ck Γ c C).t (ckS Γ a C).b (ckS Γ b C).b)
 | .for p it b,C=>Zfp (Zw9 (ckP C p) (ck Γ it C).i (ckS Γ b C).b)
 | .whl c b,C=>Zfp (Zwa (ck Γ c C).t (ckS Γ b C).b)
 | .dput v d k,C=>Zfp (Zfq fun tg x=>Zip (fun o i=>(ck Γ d C).e o&&(ck Γ k C).e i) tg&&(ck Γ v C).e x&&Z25 x)
 | .lput v o i,C=>Zfp (Zfq fun tg x=>Zip (fun a b=>(ck Γ o C).e a&&(ck Γ i C).e b&&Z16 b) tg&&(ck Γ v C).e x&&Z25 x)
 | .dsub d k n,C=>Zfp (Zrp fun tg x=>Zip (fun o i=>(ck Γ d C).e o&&(ck Γ k C).e i&&Z16 i) tg&&Z4c x==some (.int n))
theorem Zby {st:Stmt}(h:Zng st=true):∃p,st = .Pass p:=by cases st <;> first|exact⟨_,rfl⟩|cases h
theorem Znh {st:Stmt}{c:Expr->Bool}(h:Zw7 c st=true):∃x p,st = .Return (some x) p/\c x=true:=by
 cases st with
 |Return o p=>
  cases o with
  |none=>exact(Bool.false_ne_true h).elim
  |some x=>exact⟨_,_,rfl,h⟩
 |_=>exact(Bool.false_ne_true h).elim
theorem Zni {st:Stmt}{c:Expr->Bool}(h:Zw8 c st=true):∃x p,st = .Expr x p/\c x=true/\Z25 x=true:=by
 cases st with
 |Expr x p=>have h:(_&&_)=true:=h;simp only [Bool.and_eq_true] at h;exact⟨_,_,rfl,h⟩
 |_=>exact(Bool.false_ne_true h).elim
theorem Z4s {st:Stmt}{c:Expr->Expr->Bool}(h:Zfq c st=true):∃tg v p,st = .Assign [tg] v p/\c tg v=true:=by
 cases st with
 |Assign l v p=>(rcases l with _|⟨t,_|_⟩ <;> first|exact⟨_,_,_,rfl,h⟩|exact(Bool.false_ne_true h).elim)
 |_=>exact(Bool.false_ne_true h).elim
theorem Zrq {st:Stmt}{c:Expr->Bool}{a b:List Stmt->Bool}(h:kIf c a b st=true):∃t x y p,st = .If t x y p/\c t=true/\a x=true/\b y=true:=by
 cases st with
 |If t x y p=>have h:(_&&_&&_)=true:=h;simp only [Bool.and_eq_true] at h;exact⟨_,_,_,_,rfl,h.1.1,h.1.2,h.2⟩
 |_=>exact(Bool.false_ne_true h).elim
theorem Znj {st:Stmt}{p:Expr->Bool}{i:Expr->Expr->Bool}{b:List Stmt->Bool}(h:Zw9 p i b st=true):∃tg x y q,st = .For tg x y [] q/\p tg=true/\i tg x=true/\Z1h x=true/\b y=true:=by
 cases st with
 |For t x y z q=>
  cases z with
  |nil=>
   have h:(_&&_&&_&&_)=true:=h
   simp only [Bool.and_eq_true] at h
   exact⟨_,_,_,_,rfl,h.1.1.1,h.1.1.2,h.1.2,h.2⟩
  |cons _ _=>exact(Bool.false_ne_true h).elim
 |_=>exact(Bool.false_ne_true h).elim
theorem Znk {st:Stmt}{c:Expr->Bool}{b:List Stmt->Bool}(h:Zwa c b st=true):∃t x q,st = .While t x [] q/\c t=true/\b x=true:=by
 cases st with
 |While t x z q=>
  cases z with
  |nil=>
   have h:(_&&_)=true:=h
   simp only [Bool.and_eq_true] at h
   exact⟨_,_,_,rfl,h.1,h.2⟩
  |cons _ _=>exact(Bool.false_ne_true h).elim
 |_=>exact(Bool.false_ne_true h).elim
section
variable {Γ : Gm}{C:Cs}{X:Cx}{F:Fr}
theorem Zix {e tg:Expr}{env:Env}(h:Znf e=true):swappedStores [tg] e env=pure none:=by
 cases e <;> first | (cases tg <;> rfl)|cases h
theorem Zfr {a b e:Expr}{p:Pos}{env:Env}:swappedStores [.Subscript a b p] e env=pure none:=by cases e <;> rfl
theorem Zkp {tg:Expr}{env:Env}(h:Z0a tg=true):(assignEach [tg] env).map (·.2) = [assign tg env]:=by
 cases tg <;> first|rfl|cases h
structure SndS (Γ : Gm)(X:Cx)(F:Fr)(w:TWS)(c:Sk):Prop where
 s:∀st,c.s st=true->PS X st (LS X.K F w)
 b:∀sts,c.b sts=true->PSs X sts (LS X.K F w)
theorem Z1d {w:TWS}{c:Stmt->Bool}(h:∀st,c st=true->PS X st (LS X.K F w)):SndS Γ X F w (Zfp c) where
 s:=h
 b:=fun sts hs=>by
  match sts,hs with
  |[st],hs=>exact Z9z (h st hs)
theorem Z59 {e:Expr}{tg:Option Expr}{n:Nat}{env:Env}(h:Z25 e=true):swapsWith e tg n env=pure false:=by
 cases e <;> first|rfl|cases h
theorem Z71 {e tg:Expr}{n:Nat}{env:Env}(h:Z25 e=true):swapsWithSole [tg] e n env=pure false:=by
 cases e <;> first|rfl|cases h
theorem PE.swp {i:Nat}{x:Str}{p spos:Pos}{v:Expr}{e:IE}(A:At Γ C X)(hi:C.N[i]? = some x)(hl:C.loc x=true)(hv:(ck Γ e C).e v=true):PS X (.Assign [.Name x p] v spos) (LS X.K F (Ztq i (sem Γ e).e)):=by
 obtain⟨l1,l2⟩:=Cs.loc_is A hl
 have hN:X.N.Nodup:=by rw[A.N];exact A.nd
 have hix:X.N[i]? = some x:=by rw[A.N];exact hi
 have pe:=(snd Γ e C X F A).e v hv
 by_cases hc:Z25 v=true
 ·exact(Zk9 hN hix l1 pe (Z59 hc) l2).imp fun D σ H=>LS.set
 ·cases v with
  |ListComp elt gens scope pos=>
   have hsw:∃b,swapsWith (.ListComp elt gens scope pos) (some (.Name x p)) spos.line X.env=pure b:=⟨_,rfl⟩
   obtain⟨b,hsw⟩:=hsw
   cases b with
   |false=>exact(Zk9 hN hix l1 pe hsw l2).imp fun D σ H=>LS.set
   |true=>
    cases e with
    |comp caps own pp it c e=>
     obtain⟨elt',tg,iter,ifs,scope',pos',e1,h⟩:=Z4r hv
     cases e1
     obtain⟨N',hNl,S,h1,h2,hb⟩:=Z2j (F:=F) A (snd Γ it) (snd Γ c) (snd Γ e) h
     exact(Z6t A.calm hN hix l1 S h1 hb hsw (Z38 h2) l2).imp fun D σ H k=>by
      obtain⟨G,ta,M,K0,R,k,q⟩:=LS.set k
      exact LE.comp hNl ⟨G,ta,M,K0,R,k,q⟩
    |cmpv caps own pp j c e=>
     obtain⟨elt',tg,iter,ifs,scope',pos',e1,h⟩:=Z4r hv
     cases e1
     have hv':Z0u (fun x=>C.N[j]? == some x&&C.vis x&&Z10 x) iter=true:=by
      replace h:(Z1b (fun x=>C.names.lookup x) C.N scope (Z3o C caps own) (caps.map some++List.replicate own.length none)&&Z0u (fun x=>C.N[j]? == some x&&C.vis x&&Z10 x) iter&&Z1h iter&&ckP (C.in scope (Z3o C caps own)) pp tg&&(ck Γ c (C.in scope (Z3o C caps own))).ts ifs&&(ck Γ e (C.in scope (Z3o C caps own))).e elt&&decide (Z3o C caps own).Nodup)=true:=h
      simp only [Bool.and_eq_true] at h
      exact h.1.1.1.1.1.2
     obtain⟨N',hNl,S,h1,h2,hb⟩:=Z2j (F:=F) (it:=.var j) A (Zfo Γ j) (snd Γ c) (snd Γ e) h
     obtain⟨y,q,rfl,hv'⟩:=Z0m hv'
     exact(Z6t A.calm hN hix l1 S (Zf3 (Zbl (F:=F) (A.var hv'))) hb hsw (Z38 h2) l2).imp fun D σ H k=>by
      obtain⟨G,ta,M,K0,R,k,q⟩:=LS.set k
      exact LE.compV hNl ⟨G,ta,M,K0,R,k,q⟩
    |_=>cases hv
  |SetComp _ _ _ _=>cases e <;> cases hv
  |DictComp _ _ _ _ _=>cases e <;> cases hv
  |_=>exact absurd rfl hc
theorem LS.cut {a b:TWS}{D:Ends}{σ:St}{H:Hp}:LS X.K F (Zw5 a b) D σ H->Zt5 (LS X.K F a) (LS X.K F b) D σ H:=fun⟨G,M,P,R,⟨Mid,k,k2⟩,ok⟩=>
 ⟨G,M,_,R,k,fun M1 G1 σ1 H1 p R1 s1=>⟨G1,M1,P,R1,k2 M1 p,ok.up s1⟩,ok.rt,ok.bk,ok.ct⟩
theorem Zws (Γ : Gm)(C:Cs)(X:Cx)(F:Fr)(A:At Γ C X)(hp:PassesOwn (model X.prog X.w) X.A X.env X.xe):∀ir:IS,SndS Γ X F (Z0j Γ ir) (ckS Γ ir C):=by
 have skp:∀D σ H,LS X.K F Zqm D σ H->tNext D σ H:=fun D σ H ⟨G,M,P,R,k,ok⟩=>ok.nx M G σ H k R (Same.refl _)
 intro ir
 induction ir with
 |skip=>
  refine⟨fun st h=>?_,fun sts h=>?_⟩
  ·obtain⟨p,rfl⟩:=Zby h;exact ps_pass.imp skp
  ·match sts,h with
   |[],_=>exact pss_nil.imp skp
   |[st],h=>obtain⟨p,rfl⟩:=Zby h;exact Z9z (ps_pass.imp skp)
 |seq a b iha ihb=>
  refine⟨(fun st h=>by cases h),fun sts h=>?_⟩
  match sts,h with
  |st::r,h=>
   have h':((ckS Γ a C).s st&&(ckS Γ b C).b r)=true:=h
   simp only [Bool.and_eq_true] at h'
   exact(Zbd (iha.s st h'.1) (ihb.b r h'.2)).imp fun D σ H z=>LS.seq (by rw[<- Z4e (Z0j Γ b)];exact z)
 |cut a b iha ihb=>
  refine⟨(fun st h=>by cases h),fun sts h=>?_⟩
  match sts,h with
  |st::r,h=>
   have h':((ckS Γ a C).s st&&(ckS Γ b C).b r)=true:=h
   simp only [Bool.and_eq_true] at h'
   exact(Zbd (iha.s st h'.1) (ihb.b r h'.2)).imp fun D σ H z=>LS.cut (by rw[<- Z4e (Z0j Γ b)];exact z)
 |ret e=>exact Z1d fun st h=>by obtain⟨x,p,rfl,h⟩:=Znh h;exact(Zk7 ((snd Γ e C X F A).e x h)).imp fun D σ H=>LS.ret
 |exp e=>exact Z1d fun st h=>by obtain⟨x,p,rfl,h,h2⟩:=Zni h;exact(Zl8 ((snd Γ e C X F A).e x h) (Z59 h2)).imp fun D σ H=>LS.exp
 |set i e=>
  exact Z1d fun st h=>by
   obtain⟨tg,v,p,rfl,h⟩:=Z4s h
   replace h:(Z0u (fun x=>C.N[i]? == some x&&C.loc x) tg&&(ck Γ e C).e v)=true:=h
   simp only [Bool.and_eq_true] at h
   obtain⟨x,q,rfl,h1⟩:=Z0m h.1
   replace h1:(C.N[i]? == some x&&C.loc x)=true:=h1
   simp only [Bool.and_eq_true,beq_iff_eq] at h1
   exact PE.swp A h1.1 h1.2 h.2
 |asg p e=>
  exact Z1d fun st h=>by
   obtain⟨tg,v,q,rfl,h⟩:=Z4s h
   replace h:(ckP C p tg&&(ck Γ e C).e v&&Z25 v&&Znf v&&Z0a tg)=true:=h
   simp only [Bool.and_eq_true] at h
   obtain⟨⟨⟨⟨h1,h2⟩,h3⟩,h4⟩,h5⟩:=h
   exact(Zk8 ((snd Γ e C X F A).e v h2) ((Zna A p).1 tg h1) (Z71 h3) (Zix h4) (Zkp h5)).imp fun D σ H=>LS.asgP
 |ife c a b iha ihb=>
  exact Z1d fun st h=>by
   obtain⟨t,x,y,q,rfl,h1,h2,h3⟩:=Zrq h
   exact(Zt6 ((snd Γ c C X F A).t t h1) (iha.b x h2) (ihb.b y h3)).imp fun D σ H z=>LS.ite (by rw[<- Z4e (Z0j Γ a),<- Z4e (Z0j Γ b)];exact z)
 | «for» p it b ihb =>
  exact Z1d fun st h=>by
   obtain⟨tg,x,y,q,rfl,h1,h2,h3,h4⟩:=Znj h
   exact(Zpl hp A.calm ((snd Γ it C X F A).i tg x h2) ((Zna A p).1 tg h1) (ihb.b y h4) (Z38 h3)).imp fun D σ H z=>LS.for (by rw[<- Z4e (Z0j Γ b)];exact z)
 |whl c b ihb=>
  exact Z1d fun st h=>by
   obtain⟨t,x,q,rfl,h1,h2⟩:=Znk h
   exact(Zhq hp ((snd Γ c C X F A).t t h1) (ihb.b x h2)).imp fun D σ H z=>LS.whl (by rw[<- Z4e (Z0j Γ b)];exact z)
 |dput v d k=>
  exact Z1d fun st h=>by
   obtain⟨tg,x,q,rfl,h⟩:=Z4s h
   replace h:(Zip (fun o i=>(ck Γ d C).e o&&(ck Γ k C).e i) tg&&(ck Γ v C).e x&&Z25 x)=true:=h
   simp only [Bool.and_eq_true] at h
   obtain⟨o,i,p,rfl,h1⟩:=Z58 h.1.1
   replace h1:((ck Γ d C).e o&&(ck Γ k C).e i)=true:=h1
   simp only [Bool.and_eq_true] at h1
   exact(Zln (by have:=A.un;lia) ((snd Γ d C X F A).e o h1.1) ((snd Γ k C X F A).e i h1.2) ((snd Γ v C X F A).e x h.1.2) (Z59 h.2)).imp fun D σ H=>LS.dput
 |dsub d k n=>
  exact Z1d fun st h=>by
   obtain⟨tg,x,q,rfl,h⟩:=Ziw h
   replace h:(Zip (fun o i=>(ck Γ d C).e o&&(ck Γ k C).e i&&Z16 i) tg&&Z4c x==some (.int n))=true:=h
   simp only [Bool.and_eq_true,beq_iff_eq] at h
   obtain⟨o,i,p,rfl,h1⟩:=Z58 h.1
   replace h1:((ck Γ d C).e o&&(ck Γ k C).e i&&Z16 i)=true:=h1
   simp only [Bool.and_eq_true] at h1
   exact(Zlo (by have:=A.un;lia) ((snd Γ d C X F A).e o h1.1.1) ((snd Γ k C X F A).e i h1.1.2) (Z7f h.2) Zps (fun _ _ _=>by have:=h1.2;cases i <;> first|rfl|cases this)).imp fun D σ H=>LS.dsub
 |lput v o i=>
  exact Z1d fun st h=>by
   obtain⟨tg,x,q,rfl,h⟩:=Z4s h
   replace h:(Zip (fun a b=>(ck Γ o C).e a&&(ck Γ i C).e b&&Z16 b) tg&&(ck Γ v C).e x&&Z25 x)=true:=h
   simp only [Bool.and_eq_true] at h
   obtain⟨a,b,p,rfl,h1⟩:=Z58 h.1.1
   replace h1:((ck Γ o C).e a&&(ck Γ i C).e b&&Z16 b)=true:=h1
   simp only [Bool.and_eq_true] at h1
   exact(Zk8 ((snd Γ v C X F A).e x h.1.2) (Zpj ((snd Γ o C X F A).e a h1.1.1) ((snd Γ i C X F A).e b h1.1.2) Zhx (fun v=>by have:=h1.2;cases b <;> first|rfl|cases this)) (Z71 h.2) Zfr (Zkp rfl)).imp fun D σ H=>LS.lput
end
section
variable {P:Program}{w:World}{K:W.Frag}{mg:Str->Option Value}{base:Heap}
def Fk (P:Program)(w:World)(K:W.Frag)(mg:Str->Option Value)(base:Heap)(k:Nat)(p:Str×PSp):Prop:=∃j f fd ps,FnOk P w K mg base CX0 j f fd ps (spW K p.2)/\j<=k/\mg p.1=some (.ref f)/\PySem.W.keepIn K (.ref f)=true/\Binds K fd ps []
theorem Fun.okI {x qual:Str}{st:Stmt}{f:Addr}{fd:FuncData}{N ps:List Str}{k:Nat}{psp:PSp}(Γ : Gm)(ir:IS)(F:Fun K x qual st f fd)(S:FnScope N ps (Z0c st))(len:∀args k,psp args k->args.length=ps.length)
  (hck:(ckS Γ ir ⟨N,(Z0c st).names,true⟩).b (Z15 st)=true) (bl:∀x ∈ Γ.bl,mg x=none) (kt:∀T ∈ Γ.kt,∀n ∈ ["NoneType","bool","int","str","tuple","list","dict"],PySem.W.kitOne K (.type n) (.type T)=some (isK n T)) (gl:∀p ∈ Γ.gl,∃v u,mg p.1=some u/\RelV v u/\∀G,IsT K G v p.2) (fns:∀p ∈ Γ.fns,Fk P w K mg base k p) (fv:∀p ∈ Γ.fv,∃j,j<=k/\∀a,p.1 a->∃fd ps,FnOk P w K mg base CX0 j a fd ps (spW K (p.2 a))/\PySem.W.keepIn K (.ref a)=true/\Binds K fd ps [])
  (h:∀args k,psp args k->nrm (Z0j Γ ir) (Z02 args k) (Z09 N.length args)):FnOk P w K mg base CX0 (k+1) f fd ps (spW K psp):=
 F.okW S len (fun cdv A outer s H E Fr hr=>(Zws Γ ⟨N,(Z0c st).names,true⟩ _ Fr ⟨rfl,S.nd,rfl,S.kind,fun _ _=>rfl,rfl,bl,hr.units,hr.gd,kt,gl,fun p hp=>by
  obtain⟨j,f,fd,ps,h1,h2,h3⟩:=fns p hp
  exact⟨j,f,fd,ps,h1,hr.mono h2,h3⟩,fun p hp=>by
  obtain⟨j,h1,h2⟩:=fv p hp
  exact⟨j,hr.mono h1,h2⟩⟩ PassesOwn.never ir).b _ hck) (fun args k q=>by rw[<- Z4e (Z0j Γ ir)];exact h args k q)
end
end L2
namespace L2
theorem bx {o:Option Tv}{t:Tv}{f:Rs->Prop}(h:o=some t)(k:f (.v t)):bz (ofO o) f:=by rw[h];exact k
theorem Z26 {i j:Int}(h : -(2 ^ 64)<i)(h':i<2 ^ 64):CMul i j:=.inl ⟨h,h'⟩
theorem Z9f {i j:Int}(h : -(2 ^ 64)<j)(h':j<2 ^ 64):CMul i j:=.inr ⟨h,h'⟩
end L2
namespace L2
theorem Z0r {α : Type}{l:List α}{i:Int}(h0:0<=i)(h1:i<l.length):∃t,Z8i l i=some t/\t∈l:=by
 obtain⟨j,rfl⟩:=Int.eq_ofNat_of_zero_le h0
 have hj:j<l.length:=by lia
 exact⟨l[j],List.getElem?_eq_getElem hj,getElem_mem hj⟩
end L2
namespace L2
open PySem
theorem Ziy {P:Program}{w:World}{K:W.Frag}{mg:Str->Option Value}{base:Heap}{k:Nat}{f:Addr}{d:FuncData}{ps:List Str}{psp:PSp}(h:∀args k,¬psp args k):FnOk P w K mg base CX0 k f d ps (spW K psp):=
 ⟨fun vs H Q E ⟨G,args,as,K0,_,_,_,hp,_⟩=>(h _ _ hp).elim,fun A outer s H args us vs Q E hr e0 hb r ⟨_,a,_,K0,_,_,_,hp,_⟩=>(h _ _ hp).elim⟩
end L2
namespace L2
open PySem PySem.Spec PyProof.Rows
def blG:List Str:=["range","list","repr","isinstance","bool","len","tuple","int","sum","dict","zip","reversed","all","any","enumerate","str","set"]
def ktG:List String:=["tuple","bool","int","str"]
abbrev gm (f:List (Str×PSp))(g:List (Str×Tv)):Gm:=⟨blG,f,ktG,g,[]⟩
abbrev Zp0 (K:W.Frag)(T:String):Prop:=∀n ∈ ["NoneType","bool","int","str","tuple","list","dict"],PySem.W.kitOne K (.type n) (.type T)=some (isK n T)
structure Tx (K:W.Frag)(mg:Str->Option Value):Prop where
 bl:∀x∈blG,mg x=none
 kt:∀T∈ktG,Zp0 K T
structure Fn (K:W.Frag)(mg:Str->Option Value)(x:Str)(st:Stmt)(ps:List Str)(f:Addr)(d:FuncData):Prop where
 F:Fun K x x st f d
 b:Binds K d ps []
 m:mg x=some (.ref f)
def At' (K:W.Frag)(mg:Str->Option Value)(x:Str)(st:Stmt)(ps:List Str):Prop:=∃f d,Fn K mg x st ps f d
def Zwt (st:Stmt):List Str:=((Z0c st).names.filter fun y=>y.2 == .local||y.2 == .cell).map (·.1)
def Zda (st:Stmt):List Str:=(Z1z st).args.map (·.arg)
def scB (N P:List Str)(sc:Scope):Bool:=decide (sc.kind = .function) && !sc.isCoroutine && !sc.isGenerator&&decide N.Nodup&&decide (N.take P.length=P)&&P.all (fun x=>decide (sc.names.lookup x=some .local∨sc.names.lookup x=some .cell))&&sc.names.all (fun y=>decide (y.2 ≠ .free))
theorem Zkq {N P:List Str}{sc:Scope}(h:scB N P sc=true):FnScope N P sc:=by
 simp only [scB,Bool.and_eq_true,decide_eq_true_eq,Bool.not_eq_true',all_eq_true] at h
 obtain⟨⟨⟨⟨⟨⟨a,b⟩,c⟩,d⟩,e⟩,f⟩,g⟩:=h
 exact⟨a,b,c,d,e,f,g⟩
def okB (Γ : Gm)(ir:IS)(N:List Str)(n m:Nat)(st:Stmt):Bool:=scB N (Zda st) (Z0c st)&&(ckS Γ ir ⟨N,(Z0c st).names,true⟩).b (Z15 st)&&N.length==n&&(Zda st).length==m
abbrev okL (Γ : Gm)(ir:IS)(n m:Nat)(st:Stmt):Prop:=okB Γ ir (Zwt st) n m st=true
def TT1:PSp:=fun _ _=>True
section
variable {P:Program}{w:World}{K:W.Frag}{mg:Str->Option Value}{base:Heap}
def AllF (P:Program)(w:World)(K:W.Frag)(mg:Str->Option Value)(base:Heap)(k:Nat):List (Str×PSp)->Prop
 |[]=>True
 |p::r=>Fk P w K mg base k p/\AllF P w K mg base k r
theorem AllF.mem {k:Nat}{l:List (Str×PSp)}(h:AllF P w K mg base k l):∀p∈l,Fk P w K mg base k p:=by
 induction l with
 |nil=>intro p hp;cases hp
 |cons a r ih=>
  intro p hp
  cases hp with
  |head=>exact h.1
  |tail _ hp=>exact ih h.2 p hp
def AllG (K:W.Frag)(mg:Str->Option Value):List (Str×Tv)->Prop
 |[]=>True
 |p::r=>(∃v u,mg p.1=some u/\RelV v u/\∀G,IsT K G v p.2)/\AllG K mg r
theorem AllG.mem {l:List (Str×Tv)}(h:AllG K mg l):∀p∈l,∃v u,mg p.1=some u/\RelV v u/\∀G,IsT K G v p.2:=by
 induction l with
 |nil=>intro p hp;cases hp
 |cons a r ih=>
  intro p hp
  cases hp with
  |head=>exact h.1
  |tail _ hp=>exact ih h.2 p hp
theorem Fk.up {j k:Nat}{p:Str×PSp}(h:Fk P w K mg base j p)(e:j<=k:=by decide):Fk P w K mg base k p:=by
 obtain⟨i,f,d,ps,a,b,c⟩:=h
 exact⟨i,f,d,ps,a,Nat.le_trans b e,c⟩
def Fs (P:Program)(w:World)(K:W.Frag)(mg:Str->Option Value)(base:Heap)(k:Nat)(x:Str)(st:Stmt)(psp:PSp):Prop:=∃f d,Fn K mg x st (Zda st) f d/\FnOk P w K mg base CX0 k f d (Zda st) (spW K psp)
theorem Fs.up {x:Str}{st:Stmt}{psp:PSp}{j k:Nat}(h:Fs P w K mg base j x st psp)(e:j<=k:=by decide):Fk P w K mg base k (x,psp):=by
 obtain⟨f,d,F,h⟩:=h
 exact⟨j,f,d,_,h,e,F.m,F.F.kp,F.b⟩
theorem Fs.lift {x:Str}{st:Stmt}{psp:PSp}{j k:Nat}(h:Fs P w K mg base j x st psp)(e:j<=k):Fs P w K mg base k x st psp:=by
 obtain⟨f,d,F,h⟩:=h
 exact⟨f,d,F,h.mono e⟩
theorem mkF {x:Str}{st:Stmt}{N:List Str}{n m k:Nat}{psp:PSp}{f:List (Str×PSp)}{g:List (Str×Tv)}{ir:IS}(T:Tx K mg)(h:At' K mg x st (Zda st))(c:okB (gm f g) ir N n m st=true)(vc:∀a q,psp a q->nrm (Z0j (gm f g) ir) (Z02 a q) (Z09 n a))(fns:AllF P w K mg base k f)(len:∀a q,psp a q->a.length=m)(gl:AllG K mg g):Fs P w K mg base (k+1) x st psp:=by
 obtain⟨a,d,F⟩:=h
 simp only [okB,Bool.and_eq_true,beq_iff_eq] at c
 obtain⟨⟨⟨c1,c2⟩,rfl⟩,rfl⟩:=c
 exact⟨a,d,F,Fun.okI (gm f g) ir F.F (Zkq c1) len c2 T.bl T.kt gl.mem fns.mem (fun p hp=>by cases hp) vc⟩
abbrev gmv (f:List (Str×PSp))(g:List (Str×Tv))(v:List ((Addr->Prop)×(Addr->PSp))):Gm:=⟨blG,f,ktG,g,v⟩
def Zwu (P:Program)(w:World)(K:W.Frag)(mg:Str->Option Value)(base:Heap)(k:Nat)(p:(Addr->Prop)×(Addr->PSp)):Prop:=∃j,j<=k/\∀a,p.1 a->∃fd ps,FnOk P w K mg base CX0 j a fd ps (spW K (p.2 a))/\PySem.W.keepIn K (.ref a)=true/\Binds K fd ps []
theorem mkV {x:Str}{st:Stmt}{N:List Str}{n m k:Nat}{psp:PSp}{f:List (Str×PSp)}{g:List (Str×Tv)}{v:List ((Addr->Prop)×(Addr->PSp))}{ir:IS}(T:Tx K mg)(h:At' K mg x st (Zda st))(c:okB (gmv f g v) ir N n m st=true)(vc:∀a q,psp a q->nrm (Z0j (gmv f g v) ir) (Z02 a q) (Z09 n a))(fns:AllF P w K mg base k f)(len:∀a q,psp a q->a.length=m)(gl:AllG K mg g)(fv:∀p∈v,Zwu P w K mg base k p):Fs P w K mg base (k+1) x st psp:=by
 obtain⟨a,d,F⟩:=h
 simp only [okB,Bool.and_eq_true,beq_iff_eq] at c
 obtain⟨⟨⟨c1,c2⟩,rfl⟩,rfl⟩:=c
 exact⟨a,d,F,Fun.okI (gmv f g v) ir F.F (Zkq c1) len c2 T.bl T.kt gl.mem fns.mem fv vc⟩
theorem mkN {x:Str}{st:Stmt}{k:Nat}{psp:PSp}(h:At' K mg x st (Zda st))(hn:∀a q,¬psp a q):Fs P w K mg base k x st psp:=by
 obtain⟨a,d,F⟩:=h
 exact⟨a,d,F,Ziy hn⟩
theorem Fn.same {x:Str}{st:Stmt}{ps ps':List Str}{f f':Addr}{d d':FuncData}(F:Fn K mg x st ps f d)(F':Fn K mg x st ps' f' d'):f'=f/\d'=d:=by
 have e:=F.m.symm.trans F'.m
 cases e
 obtain⟨_,_,_,_,_,_,_,_,_,_,l,_⟩:=F.F.ex
 obtain⟨_,_,_,_,_,_,_,_,_,_,l',_⟩:=F'.F.ex
 have e:=l.symm.trans l'
 cases e
 exact⟨rfl,rfl⟩
theorem Fs.any {j k:Nat}{x:Str}{st:Stmt}{ι : Type}{sp : ι -> PSp}{psp:PSp}(i : ι)(h:∀i,Fs P w K mg base j x st (sp i))(e:∀a q,psp a q->∃i,sp i a q)(hk:j<=k:=by decide):Fk P w K mg base k (x,psp):=by
 obtain⟨f,d,F,_⟩:=h i
 have g:∀i,FnOk P w K mg base CX0 j f d (Zda st) (spW K (sp i)):=fun i=>by
  obtain⟨f',d',F',h'⟩:=h i
  obtain⟨rfl,rfl⟩:=F.same F'
  exact h'
 refine⟨j,f,d,_,⟨fun vs H Q E ⟨G,args,as,K0,a,b,c,hp,z⟩=>?_,fun A outer s H args us vs Q E hr he hb hv ⟨G,ar,as,K0,a,b,c,hp,z⟩=>?_⟩,hk,F.m,F.F.kp,F.b⟩
 ·obtain⟨i,hi⟩:=e _ _ hp
  exact(g i).len vs H Q E ⟨G,args,as,K0,a,b,c,hi,z⟩
 ·obtain⟨i,hi⟩:=e _ _ hp
  exact(g i).run A outer s H args us vs Q E hr he hb hv ⟨G,ar,as,K0,a,b,c,hi,z⟩
end
end L2
namespace M22
open PySem L2
def Z3s:IS:=.ret (.and (.isi "int" (.v 0)) (.not (.isi "bool" (.v 0))))
abbrev Z3t:Gm:=gm [] []
theorem Zai:okL (Z3t) Z3s 1 1 (top 9):=(by decide+kernel:okL (Z3t) Z3s 1 1 (top 9))
abbrev Z3u:IE:=.chn .le .le (.s "a") (.v 0) (.s "z")
def Z5a:IS:=.seq (.ife (.or (.not (.isi "str" (.v 0))) (.or (.not (.chn .le .le (.n 1) (.b1 .len (.v 0)) (.glb 1))) (.cmp .isin (.v 0) (.glb 0)))) (.ret (.cst (.bl false))) .skip) (.ret (.b1 .all (.comp [] ["sign"] (.nm 0) (.its (.v 0)) .tt Z3u)))
abbrev Z5b:Gm:=gm [] [("WORDS",.ktp [.at (.str "num"),.at (.str "name"),.at (.str "op"),.at (.str "pick"),.at (.str "let"),.at (.str "set"),.at (.str "say"),.at (.str "take"),.at (.str "do"),.at (.str "again"),.at (.str "call"),.at (.str "own"),.at (.str "hole")]),("LONGEST_NAME",.at (.int 8))]
theorem Zdb:okL (Z5b) Z5a 1 1 (top 10):=(by decide+kernel:okL (Z5b) Z5a 1 1 (top 10))
def Z3v:IS:=.ret (.and (.call 0 (.k (.v 0) .o)) (.chn .le .le (.n 0) (.v 0) (.glb 0)))
abbrev Z3w (s0:PSp):Gm:=gm [("is_whole",s0)] [("GREATEST_VALUE",.at (.int 999999999))]
theorem Zaj {s0:PSp}:okL (Z3w s0) Z3v 1 1 (top 11):=(by decide+kernel:okL (Z3w TT1) Z3v 1 1 (top 11))
def Z5c:IS:=.ret (.and (.isi "str" (.v 0)) (.cmp .isin (.v 0) (.glb 0)))
abbrev Z5d:Gm:=gm [] [("SIGNS",.ktp [.at (.str "+"),.at (.str "-"),.at (.str "*"),.at (.str "/"),.at (.str "<"),.at (.str "=")])]
theorem Zdc:okL (Z5d) Z5c 1 1 (top 12):=(by decide+kernel:okL (Z5d) Z5c 1 1 (top 12))
def Z3x:IS:=.ret (.and (.call 0 (.k (.v 0) .o)) (.chn .le .le (.n 0) (.v 0) (.glb 0)))
abbrev Z3y (s0:PSp):Gm:=gm [("is_whole",s0)] [("MOST_TIMES",.at (.int 5))]
theorem Zak {s0:PSp}:okL (Z3y s0) Z3x 1 1 (top 13):=(by decide+kernel:okL (Z3y TT1) Z3x 1 1 (top 13))
abbrev Z3z:IE:=.isi "tuple" (.v 0)
def Z5e:IS:=.seq (.ife (.or (.not (.isi "tuple" (.v 0))) (.or (.cmp .eq (.b1 .len (.v 0)) (.n 0)) (.not (.isi "str" (.ix (.v 0) (.n 0)))))) (.ret (.cst (.bl false))) .skip) (.seq (.set 2 (.callv 0 1 (.k (.ix (.v 0) (.n 0)) .o))) (.seq (.ife (.cmp .is (.v 2) (.cst .non)) (.ret (.cst (.bl false))) .skip) (.seq (.asg (.k (.nm 3) (.k (.nm 4) (.k (.nm 5) .o))) (.v 2)) (.seq (.set 6 (.slc (.v 0) (.n 1) .o)) (.cut (.ife (.cmp .isnt (.v 3) (.cst .non)) (.seq (.ife (.or (.cmp .eq (.b1 .len (.v 6)) (.n 0)) (.not (.callv 1 3 (.k (.ix (.v 6) (.n 0)) .o)))) (.ret (.cst (.bl false))) .skip) (.set 6 (.slc (.v 6) (.n 1) .o))) .skip) (.ret (.and (.chn .le .le (.v 4) (.b1 .len (.v 6)) (.v 5)) (.b1 .all (.comp [] ["part"] (.nm 0) (.v 6) .tt Z3z)))))))))
abbrev Z5f (v0 v1:(Addr->Prop)×(Addr->PSp)):Gm:=gmv [] [] [v0,v1]
theorem Zdd {v0 v1:(Addr->Prop)×(Addr->PSp)}:okL (Z5f v0 v1) Z5e 7 2 (top 16):=(by decide+kernel:okL (Z5f (fun _=>True,fun _=>TT1) (fun _=>True,fun _=>TT1)) Z5e 7 2 (top 16))
abbrev Zde:IS:=.seq (.set 3 (.mth .pop (.v 2) .o)) (.seq (.ife (.not (.call 0 (.k (.v 3) (.k (.v 1) .o)))) (.ret (.cst (.bl false))) .skip) (.exp (.mth .ext (.v 2) (.k (.call 1 (.k (.v 3) .o)) .o))))
def Z5g:IS:=.seq (.set 2 (.lst (.k (.v 0) .o))) (.cut (.whl (.v 2) Zde) (.ret (.cst (.bl true))))
abbrev Z5h (s0 s1:PSp):Gm:=gm [("is_node",s0),("parts",s1)] []
theorem Zdf {s0 s1:PSp}:okL (Z5h s0 s1) Z5g 4 2 (top 17):=(by decide+kernel:okL (Z5h TT1 TT1) Z5g 4 2 (top 17))
abbrev Z39:IS:=.ife (.cmp .eq (.v 2) (.glb 0)) (.dput (.bin .add (.get (.v 1) (.ix (.v 3) (.n 1)) (.n 0)) (.n 1)) (.v 1) (.ix (.v 3) (.n 1))) (.ife (.cmp .eq (.v 2) (.glb 1)) (.dsub (.v 1) (.ix (.v 3) (.n 1)) 1) (.ife (.and (.cmp .eq (.ix (.v 3) (.n 0)) (.s "set")) (.cmp .gt (.get (.v 1) (.ix (.v 3) (.n 1)) (.n 0)) (.n 0))) (.ret (.cst (.bl true))) .skip))
def Z27:IS:=.seq (.set 1 .dnew) (.cut (.for (.k (.nm 2) (.k (.nm 3) .o)) (.call 0 (.k (.v 0) .o)) Z39) (.ret (.cst (.bl false))))
abbrev Z28 (s0:PSp):Gm:=gm [("steps",s0)] [("OPENED",.at (.str "opened")),("CLOSED",.at (.str "closed"))]
theorem Z7r {s0:PSp}:okL (Z28 s0) Z27 4 1 (top 18):=(by decide+kernel:okL (Z28 TT1) Z27 4 1 (top 18))
def Z18:IS:=.ret (.and (.call 1 (.k (.v 0) (.k (.glb 0) .o))) (.not (.call 0 (.k (.v 0) .o))))
abbrev Z19 (s0 s1:PSp)(a0:Addr):Gm:=gm [("sets_bound",s0),("is_tree",s1)] [("expression_rule",.fnv a0)]
theorem Z4m {s0 s1:PSp}{a0:Addr}:okL (Z19 s0 s1 a0) Z18 1 1 (top 19):=(by decide+kernel:okL (Z19 TT1 TT1 0) Z18 1 1 (top 19))
abbrev Znl:IE:=.v 0
def Zfs:IS:=.ret (.b1 .tuple (.comp [] ["field"] (.nm 0) (.v 0) (.not (.isi "tuple" (.v 0))) Znl))
abbrev Zft:Gm:=gm [] []
theorem Znm:okL (Zft) Zfs 1 1 (top 20):=(by decide+kernel:okL (Zft) Zfs 1 1 (top 20))
abbrev Ziz:IE:=.v 0
def Z7s:IS:=.ret (.b1 .tuple (.comp [] ["part"] (.nm 0) (.v 0) (.isi "tuple" (.v 0)) Ziz))
abbrev Z7t:Gm:=gm [] []
theorem Zbz:okL (Z7t) Z7s 1 1 (top 21):=(by decide+kernel:okL (Z7t) Z7s 1 1 (top 21))
abbrev Zc0:IE:=.tup (.k (.glb 0) (.k (.v 0) .o))
abbrev Zj0:IS:=.seq (.asg (.k (.nm 3) (.k (.nm 4) .o)) (.mth .pop (.v 2) .o)) (.seq (.exp (.mth .app (.v 1) (.k (.tup (.k (.v 3) (.k (.v 4) .o))) .o))) (.ife (.cmp .eq (.v 3) (.glb 0)) (.seq (.set 5 (.comp [] ["part"] (.nm 0) (.call 0 (.k (.v 4) .o)) .tt Zc0)) (.cut (.ife (.cmp .eq (.ix (.v 4) (.n 0)) (.s "let")) (.set 5 (.lst (.k (.ix (.v 5) (.n 0)) (.k (.tup (.k (.glb 2) (.k (.v 4) .o))) (.k (.ix (.v 5) (.n 1)) (.k (.tup (.k (.glb 1) (.k (.v 4) .o))) .o)))))) .skip) (.exp (.mth .ext (.v 2) (.k (.rvs false (.v 5)) .o))))) .skip))
def Zal:IS:=.seq (.set 1 (.lst .o)) (.seq (.set 2 (.lst (.k (.tup (.k (.glb 0) (.k (.v 0) .o))) .o))) (.cut (.whl (.v 2) Zj0) (.ret (.v 1))))
abbrev Zam (s0:PSp):Gm:=gm [("parts",s0)] [("NODE",.at (.str "node")),("CLOSED",.at (.str "closed")),("OPENED",.at (.str "opened"))]
theorem Zj1 {s0:PSp}:okL (Zam s0) Zal 6 1 (top 22):=(by decide+kernel:okL (Zam TT1) Zal 6 1 (top 22))
abbrev Zfu:IE:=.tup (.k (.call 2 (.k (.v 1) .o)) (.k (.b1 .len (.call 1 (.k (.v 1) .o))) .o))
def Zfv:IS:=.ret (.comp [] ["deed","node"] (.k (.nm 0) (.k (.nm 1) .o)) (.call 0 (.k (.v 0) .o)) (.cmp .eq (.v 0) (.glb 0)) Zfu)
abbrev Zfw (s0 s1 s2:PSp):Gm:=gm [("steps",s0),("parts",s1),("head",s2)] [("NODE",.at (.str "node"))]
theorem Znn {s0 s1 s2:PSp}:okL (Zfw s0 s1 s2) Zfv 1 1 (top 23):=(by decide+kernel:okL (Zfw TT1 TT1 TT1) Zfv 1 1 (top 23))
abbrev Z2o:IE:=.tup (.k (.ix (.v 0) (.n 1)) (.k (.v 1) .o))
abbrev Z1e:IE:=.cmp .eq (.get (.v 0) (.v 1) (.neg (.n 1))) (.v 2)
def Z1m:IS:=.seq (.set 2 (.comp [] ["lead","many"] (.k (.nm 0) (.k (.nm 1) .o)) (.call 0 (.k (.v 0) .o)) (.cmp .eq (.ix (.v 0) (.n 0)) (.s "call")) Z2o)) (.ret (.b1 .all (.comp [1] ["name","many"] (.k (.nm 1) (.k (.nm 2) .o)) (.v 2) .tt Z1e)))
abbrev Z1n (s0:PSp):Gm:=gm [("flat",s0)] []
theorem Z6a {s0:PSp}:okL (Z1n s0) Z1m 3 2 (top 26):=(by decide+kernel:okL (Z1n TT1) Z1m 3 2 (top 26))
abbrev Z4f:IE:=.call 0 (.k (.v 0) .o)
def Z2u:IS:=.seq (.ife (.or (.not (.isi "tuple" (.v 0))) (.or (.cmp .gt (.b1 .len (.v 0)) (.glb 0)) (.not (.b1 .all (.comp [] ["name"] (.nm 0) (.v 0) .tt Z4f))))) (.ret (.cst (.bl false))) .skip) (.ret (.cmp .eq (.lns (.v 0)) (.b1 .len (.v 0))))
abbrev Z2v (s0:PSp):Gm:=gm [("is_name",s0)] [("MOST_PARAMS",.at (.int 6))]
theorem Z9g {s0:PSp}:okL (Z2v s0) Z2u 1 1 (top 27):=(by decide+kernel:okL (Z2v TT1) Z2u 1 1 (top 27))
abbrev Z2p:IE:=.ix (.v 0) (.n 1)
abbrev Z2q:IE:=.cmp .isin (.v 1) (.v 0)
def Z1o:IS:=.seq (.ife (.or (.not (.isi "tuple" (.v 0))) (.cmp .ne (.b1 .len (.v 0)) (.n 3))) (.ret (.cst (.bl false))) .skip) (.seq (.asg (.k (.nm 2) (.k (.nm 3) (.k (.nm 4) .o))) (.v 0)) (.seq (.ife (.or (.not (.call 2 (.k (.v 2) .o))) (.or (.cmp .ind (.v 2) (.v 1)) (.or (.not (.call 1 (.k (.v 3) .o))) (.not (.call 0 (.k (.v 4) .o)))))) (.ret (.cst (.bl false))) .skip) (.seq (.set 5 (.comp [] ["lead","many"] (.k (.nm 0) (.k (.nm 1) .o)) (.call 3 (.k (.v 4) .o)) (.cmp .eq (.ix (.v 0) (.n 0)) (.s "set")) Z2p)) (.ret (.and (.call 4 (.k (.v 4) (.k (.v 1) .o))) (.not (.b1 .any (.comp [5] ["param"] (.nm 1) (.v 3) .tt Z2q))))))))
abbrev Z1p (s0 s1 s2 s3 s4:PSp):Gm:=gm [("is_expression",s0),("is_params",s1),("is_name",s2),("flat",s3),("calls_right",s4)] []
theorem Z6b {s0 s1 s2 s3 s4:PSp}:okL (Z1p s0 s1 s2 s3 s4) Z1o 6 2 (top 28):=(by decide+kernel:okL (Z1p TT1 TT1 TT1 TT1 TT1) Z1o 6 2 (top 28))
abbrev Z3a:IS:=.seq (.ife (.not (.call 0 (.k (.v 4) (.k (.v 3) .o)))) (.ret (.cst (.bl false))) .skip) (.dput (.b1 .len (.ix (.v 4) (.n 1))) (.v 3) (.ix (.v 4) (.n 0)))
def Z29:IS:=.seq (.ife (.or (.not (.isi "tuple" (.v 0))) (.or (.cmp .ne (.b1 .len (.v 0)) (.n 2)) (.not (.isi "tuple" (.ix (.v 0) (.n 0)))))) (.ret (.cst (.bl false))) .skip) (.seq (.asg (.k (.nm 1) (.k (.nm 2) .o)) (.v 0)) (.seq (.set 3 .dnew) (.cut (.for (.nm 4) (.v 1) Z3a) (.ret (.and (.call 2 (.k (.v 2) .o)) (.call 1 (.k (.v 2) (.k (.v 3) .o))))))))
abbrev Z2a (s0 s1 s2:PSp):Gm:=gm [("is_function",s0),("calls_right",s1),("is_expression",s2)] []
theorem Z7u {s0 s1 s2:PSp}:okL (Z2a s0 s1 s2) Z29 5 1 (top 29):=(by decide+kernel:okL (Z2a TT1 TT1 TT1) Z29 5 1 (top 29))
def Z7v:IS:=.ret (.dct ["cells","at","left"] (.k (.b1 .list (.slc (.v 0) .o (.n 63))) (.k (.n 0) (.k (.n 0) .o))))
abbrev Z7w:Gm:=gm [] []
theorem Zfx:okL (Z7w) Z7v 1 1 (top 31):=(by decide+kernel:okL (Z7w) Z7v 1 1 (top 31))
def Z7x:IS:=.seq (.ife (.cmp .gt (.dg (.v 0) (.s "left")) (.n 0)) (.seq (.set 2 (.bin .mod (.dg (.v 0) (.s "left")) (.v 1))) (.seq (.dput (.bin .fdiv (.dg (.v 0) (.s "left")) (.v 1)) (.v 0) (.s "left")) (.ret (.v 2)))) .skip) (.seq (.set 3 (.dg (.v 0) (.s "at"))) (.seq (.dput (.bin .add (.v 3) (.n 1)) (.v 0) (.s "at")) (.seq (.set 4 (.bin .add (.bin .mul (.v 3) (.v 3)) (.n 7))) (.cut (.ife (.cmp .ne (.dg (.v 0) (.s "cells")) (.lst .o)) (.set 4 (.ix (.dg (.v 0) (.s "cells")) (.bin .mod (.v 3) (.b1 .len (.dg (.v 0) (.s "cells")))))) .skip) (.seq (.ife (.cmp .ge (.v 4) (.bin .pow (.n 10) (.n 18))) (.seq (.dput (.bin .fdiv (.v 4) (.v 1)) (.v 0) (.s "left")) (.ret (.bin .mod (.v 4) (.v 1)))) .skip) (.seq (.set 5 (.bin .mod (.bin .mul (.bin .add (.bin .add (.bin .mod (.v 4) (.n 2147483647)) (.bin .mul (.n 104729) (.v 3))) (.n 1)) (.n 48271)) (.n 2147483629))) (.seq (.set 5 (.bin .mod (.bin .add (.bin .add (.bin .mul (.v 5) (.v 5)) (.bin .mul (.n 7919) (.v 3))) (.n 5)) (.n 2147483647))) (.seq (.set 5 (.bin .mod (.bin .add (.bin .mul (.v 5) (.n 69621)) (.v 3)) (.n 2147483629))) (.ret (.bin .mod (.bin .fdiv (.bin .mod (.bin .mul (.v 5) (.v 5)) (.n 2147483587)) (.n 64)) (.v 1)))))))))))
abbrev Z7y:Gm:=gm [] []
theorem Zfy:okL (Z7y) Z7x 6 2 (top 32):=(by decide+kernel:okL (Z7y) Z7x 6 2 (top 32))
def Z5i:IS:=.seq (.set 1 (.call 0 (.k (.v 0) (.k (.n 6) .o)))) (.seq (.ife (.cmp .eq (.v 1) (.n 0)) (.ret (.bin .sub (.n 999999999) (.call 0 (.k (.v 0) (.k (.n 3) .o))))) .skip) (.seq (.ife (.cmp .eq (.v 1) (.n 1)) (.ret (.bin .add (.bin .mul (.call 0 (.k (.v 0) (.k (.n 40000) .o))) (.n 25000)) (.call 0 (.k (.v 0) (.k (.n 25000) .o))))) .skip) (.ret (.call 0 (.k (.v 0) (.k (.bin .sub (.bin .mul (.n 3) (.v 1)) (.n 3)) .o))))))
abbrev Z5j (s0:PSp):Gm:=gm [("_law_draw",s0)] []
theorem Zdg {s0:PSp}:okL (Z5j s0) Z5i 2 1 (top 33):=(by decide+kernel:okL (Z5j TT1) Z5i 2 1 (top 33))
abbrev Z9h:IS:=.seq (.set 2 (.bin .add (.v 2) (.ix (.s "abcdefghijklmnopqrstuvwxyz") (.bin .mod (.v 0) (.n 26))))) (.set 0 (.bin .fdiv (.v 0) (.n 26)))
def Z2w:IS:=.seq (.set 2 (.s "")) (.cut (.for (.nm 3) (.rng (.v 1)) Z9h) (.ret (.v 2)))
abbrev Z1q:Gm:=gm [] []
theorem Z9i:okL (Z1q) Z2w 4 2 (top 34):=(by decide+kernel:okL (Z1q) Z2w 4 2 (top 34))
abbrev Zfz:IS:=.seq (.set 5 (.bin .add (.v 5) (.n 1))) (.seq (.set 4 (.bin .add (.bin .mod (.v 4) (.n 8)) (.n 1))) (.set 6 (.call 1 (.k (.v 5) (.k (.v 4) .o)))))
def Z7z:IS:=.seq (.set 2 (.lst (.k (.s "num") (.k (.s "name") (.k (.s "op") (.k (.s "pick") (.k (.s "let") (.k (.s "set") (.k (.s "say") (.k (.s "take") .o)))))))))) (.seq (.set 2 (.bin .add (.v 2) (.lst (.k (.s "do") (.k (.s "again") (.k (.s "call") (.k (.s "own") (.k (.s "hole") .o)))))))) (.seq (.set 3 (.call 0 (.k (.v 0) (.k (.n 6) .o)))) (.seq (.set 4 (.bin .add (.n 1) (.call 0 (.k (.v 0) (.k (.n 8) .o))))) (.seq (.set 5 (.bin .add (.bin .mul (.call 0 (.k (.v 0) (.k (.n 456976) .o))) (.n 456976)) (.call 0 (.k (.v 0) (.k (.n 456976) .o))))) (.seq (.set 6 (.call 1 (.k (.v 5) (.k (.v 4) .o)))) (.cut (.ife (.cmp .eq (.v 3) (.n 0)) (.set 6 (.bin .add (.ix (.v 2) (.call 0 (.k (.v 0) (.k (.n 13) .o)))) (.ix (.v 6) (.n 0)))) .skip) (.cut (.ife (.cmp .eq (.v 3) (.n 3)) (.set 6 (.ix (.lst (.k (.s "a") (.k (.s "b") (.k (.s "c") (.k (.s "d") (.k (.s "x") (.k (.s "y") (.k (.s "z") (.k (.s "n") (.k (.s "v") (.k (.s "aa") (.k (.s "ab") (.k (.s "tmp") .o))))))))))))) (.call 0 (.k (.v 0) (.k (.n 12) .o))))) .skip) (.cut (.ife (.and (.cmp .eq (.v 3) (.n 1)) (.cmp .ne (.v 1) (.lst .o))) (.set 6 (.slc (.bin .add (.ix (.v 1) (.call 0 (.k (.v 0) (.k (.b1 .len (.v 1)) .o)))) (.v 6)) .o (.bin .add (.n 1) (.bin .mod (.v 5) (.n 8))))) .skip) (.cut (.ife (.and (.cmp .eq (.v 3) (.n 2)) (.cmp .ne (.v 1) (.lst .o))) (.seq (.set 7 (.ix (.v 1) (.call 0 (.k (.v 0) (.k (.b1 .len (.v 1)) .o))))) (.seq (.set 8 (.bin .mod (.v 5) (.b1 .len (.v 7)))) (.set 6 (.bin .add (.bin .add (.slc (.v 7) .o (.v 8)) (.ix (.v 6) (.n 0))) (.slc (.v 7) (.bin .add (.v 8) (.n 1)) .o))))) .skip) (.cut (.whl (.or (.cmp .isin (.v 6) (.v 1)) (.cmp .isin (.v 6) (.v 2))) Zfz) (.ret (.v 6))))))))))))
abbrev Z4t (s0 s1:PSp):Gm:=gm [("_law_draw",s0),("_law_spelled",s1)] []
theorem Zg0 {s0 s1:PSp}:okL (Z4t s0 s1) Z7z 9 2 (top 35):=(by decide+kernel:okL (Z4t TT1 TT1) Z7z 9 2 (top 35))
abbrev Zdh:IS:=.exp (.mth .app (.v 2) (.k (.call 0 (.k (.v 0) (.k (.v 2) .o))) .o))
def Z5k:IS:=.seq (.set 2 (.lst .o)) (.cut (.for (.nm 3) (.rng (.v 1)) Zdh) (.ret (.v 2)))
abbrev Z3b (s0:PSp):Gm:=gm [("_law_name",s0)] []
theorem Zdi {s0:PSp}:okL (Z3b s0) Z5k 4 2 (top 36):=(by decide+kernel:okL (Z3b TT1) Z5k 4 2 (top 36))
abbrev Zdj:IE:=.v 0
def Z3c:IS:=.ret (.comp [] ["_law_part"] (.nm 0) (.slc (.v 0) (.n 1) .o) (.isi "tuple" (.v 0)) Zdj)
abbrev Z1i:Gm:=gm [] []
theorem Zdk:okL (Z1i) Z3c 1 1 (top 37):=(by decide+kernel:okL (Z1i) Z3c 1 1 (top 37))
abbrev Zg1:IE:=.call 1 (.k (.v 1) (.k (.v 0) .o))
def Z80:IS:=.seq (.set 2 (.b1 .sum (.comp [1] ["_law_part"] (.nm 1) (.call 0 (.k (.v 0) .o)) .tt Zg1))) (.seq (.ife (.cmp .eq (.ix (.v 0) (.n 0)) (.s "again")) (.ret (.bin .add (.n 1) (.bin .mul (.ix (.v 0) (.n 1)) (.v 2)))) .skip) (.seq (.ife (.cmp .eq (.ix (.v 0) (.n 0)) (.s "call")) (.ret (.bin .add (.bin .add (.n 1) (.v 2)) (.dg (.v 1) (.ix (.v 0) (.n 1))))) .skip) (.ret (.bin .add (.n 1) (.v 2)))))
abbrev Z1r (s0 s1:PSp):Gm:=gm [("_law_parts",s0),("_law_work",s1)] []
theorem Zg2 {s0 s1:PSp}:okL (Z1r s0 s1) Z80 3 2 (top 38):=(by decide+kernel:okL (Z1r TT1 TT1) Z80 3 2 (top 38))
def Z81:IS:=.seq (.set 3 (.call 0 (.k (.v 0) (.k (.n 6) .o)))) (.seq (.ife (.and (.cmp .eq (.v 3) (.n 0)) (.dg (.v 1) (.s "takes"))) (.ret (.tup (.k (.s "take") .o))) .skip) (.seq (.set 4 (.bin .add (.bin .add (.dg (.v 1) (.s "names")) (.v 2)) (.v 2))) (.seq (.ife (.or (.cmp .lt (.v 3) (.n 3)) (.cmp .eq (.v 4) (.lst .o))) (.ret (.tup (.k (.s "num") (.k (.call 1 (.k (.v 0) .o)) .o)))) .skip) (.ret (.tup (.k (.s "name") (.k (.ix (.v 4) (.call 0 (.k (.v 0) (.k (.b1 .len (.v 4)) .o)))) .o)))))))
abbrev Z82 (s0 s1:PSp):Gm:=gm [("_law_draw",s0),("_law_value",s1)] []
theorem Zg3 {s0 s1:PSp}:okL (Z82 s0 s1) Z81 5 3 (top 39):=(by decide+kernel:okL (Z82 TT1 TT1) Z81 5 3 (top 39))
abbrev Zdl:IE:=.v 1
def Z5l:IS:=.seq (.set 6 (.comp [2] ["_law_name_here"] (.nm 1) (.dg (.v 1) (.s "names")) (.cmp .notin (.v 1) (.v 0)) Zdl)) (.seq (.ife (.and (.cmp .eq (.v 5) (.s "set")) (.cmp .ne (.v 6) (.lst .o))) (.seq (.set 7 (.ix (.v 6) (.call 0 (.k (.v 0) (.k (.b1 .len (.v 6)) .o))))) (.ret (.tup (.k (.s "set") (.k (.v 7) (.k (.call 1 (.k (.v 0) (.k (.v 1) (.k (.v 2) (.k (.bin .sub (.v 3) (.n 1)) (.k (.v 4) .o)))))) .o)))))) .skip) (.seq (.ife (.cmp .eq (.v 5) (.s "let")) (.seq (.set 6 (.bin .add (.dg (.v 1) (.s "names")) (.dg (.v 1) (.s "lets")))) (.seq (.set 7 (.ix (.v 6) (.call 0 (.k (.v 0) (.k (.b1 .len (.v 6)) .o))))) (.seq (.set 8 (.call 1 (.k (.v 0) (.k (.v 1) (.k (.v 2) (.k (.bin .sub (.v 3) (.n 1)) (.k (.v 4) .o))))))) (.ret (.tup (.k (.s "let") (.k (.v 7) (.k (.v 8) (.k (.call 1 (.k (.v 0) (.k (.v 1) (.k (.bin .add (.v 2) (.lst (.k (.v 7) .o))) (.k (.bin .sub (.v 3) (.n 1)) (.k (.v 4) .o)))))) .o))))))))) .skip) (.ret (.tup (.k (.s "say") (.k (.call 1 (.k (.v 0) (.k (.v 1) (.k (.v 2) (.k (.bin .sub (.v 3) (.n 1)) (.k (.v 4) .o)))))) .o))))))
abbrev Z5m (s0 s1:PSp):Gm:=gm [("_law_draw",s0),("_law_expr",s1)] []
theorem Zdm {s0 s1:PSp}:okB (Z5m s0 s1) Z5l ["_law_feed_here","_law_world_here","_law_bound_here","_law_below","_law_times","_law_kind","_law_some","_law_name_here","_law_first"] 9 6 (top 40)=true:=(by decide+kernel:okB (Z5m TT1 TT1) Z5l ["_law_feed_here","_law_world_here","_law_bound_here","_law_below","_law_times","_law_kind","_law_some","_law_name_here","_law_first"] 9 6 (top 40)=true)
abbrev Zan:IE:=.call 2 (.k (.v 0) (.k (.v 1) (.k (.v 2) (.k (.bin .sub (.v 4) (.n 1)) (.k (.v 3) .o)))))
def Z40:IS:=.seq (.ife (.cmp .eq (.dg (.v 1) (.s "functions")) (.lst .o)) (.ret (.call 0 (.k (.v 0) (.k (.v 1) (.k (.v 2) .o))))) .skip) (.seq (.asg (.k (.nm 5) (.k (.nm 6) .o)) (.ix (.dg (.v 1) (.s "functions")) (.call 1 (.k (.v 0) (.k (.b1 .len (.dg (.v 1) (.s "functions"))) .o))))) (.seq (.set 7 (.bin .mul (.v 4) (.dg (.dg (.v 1) (.s "works")) (.v 5)))) (.seq (.ife (.cmp .lt (.dg (.v 1) (.s "toil")) (.bin .add (.bin .mul (.n 30) (.v 4)) (.v 7))) (.ret (.call 0 (.k (.v 0) (.k (.v 1) (.k (.v 2) .o))))) .skip) (.seq (.dput (.bin .sub (.dg (.v 1) (.s "toil")) (.v 7)) (.v 1) (.s "toil")) (.ret (.b1 .tuple (.bin .add (.lst (.k (.s "call") (.k (.v 5) .o))) (.comp [0,1,2,4,3] ["_law_k"] (.nm 5) (.rng (.v 6)) .tt Zan))))))))
abbrev Z41 (s0 s1 s2:PSp):Gm:=gm [("_law_leaf",s0),("_law_draw",s1),("_law_expr",s2)] []
theorem Zao {s0 s1 s2:PSp}:okL (Z41 s0 s1 s2) Z40 8 5 (top 41):=(by decide+kernel:okL (Z41 TT1 TT1 TT1) Z40 8 5 (top 41))
abbrev Zg4:IE:=.call 4 (.k (.v 0) (.k (.v 1) (.k (.v 2) (.k (.bin .sub (.v 4) (.n 1)) (.k (.v 3) .o)))))
def Z83:IS:=.seq (.dput (.bin .sub (.dg (.v 1) (.s "room")) (.n 1)) (.v 1) (.s "room")) (.seq (.dput (.bin .sub (.dg (.v 1) (.s "toil")) (.v 4)) (.v 1) (.s "toil")) (.seq (.set 5 (.lst (.k (.s "op") (.k (.s "op") (.k (.s "do") (.k (.s "pick") (.k (.s "let") (.k (.s "set") (.k (.s "say") (.k (.s "do") (.k (.s "again") (.k (.s "call") (.k (.s "pick") (.k (.s "op") (.k (.s "leaf") (.k (.s "let") .o)))))))))))))))) (.seq (.set 6 (.ix (.v 5) (.call 0 (.k (.v 0) (.k (.n 14) .o))))) (.seq (.ife (.or (.cmp .lt (.v 3) (.n 2)) (.or (.cmp .lt (.dg (.v 1) (.s "room")) (.n 6)) (.or (.cmp .lt (.dg (.v 1) (.s "toil")) (.bin .mul (.n 30) (.v 4))) (.cmp .eq (.v 6) (.s "leaf"))))) (.ret (.call 1 (.k (.v 0) (.k (.v 1) (.k (.v 2) .o))))) .skip) (.seq (.ife (.cmp .eq (.v 6) (.s "call")) (.ret (.call 2 (.k (.v 0) (.k (.v 1) (.k (.v 2) (.k (.v 3) (.k (.v 4) .o))))))) .skip) (.seq (.ife (.cmp .isin (.v 6) (.tup (.k (.s "let") (.k (.s "set") (.k (.s "say") .o))))) (.ret (.call 3 (.k (.v 0) (.k (.v 1) (.k (.v 2) (.k (.v 3) (.k (.v 4) (.k (.v 6) .o)))))))) .skip) (.seq (.ife (.cmp .eq (.v 6) (.s "again")) (.seq (.set 7 (.ix (.lst (.k (.n 2) (.k (.n 3) (.k (.n 0) (.k (.n 1) (.k (.n 5) (.k (.n 2) .o))))))) (.call 0 (.k (.v 0) (.k (.n 6) .o))))) (.cut (.ife (.cmp .lt (.dg (.v 1) (.s "toil")) (.bin .mul (.bin .mul (.n 30) (.v 4)) (.v 7))) (.set 7 (.n 1)) .skip) (.ret (.tup (.k (.s "again") (.k (.v 7) (.k (.call 4 (.k (.v 0) (.k (.v 1) (.k (.v 2) (.k (.bin .sub (.v 3) (.n 1)) (.k (.bin .mul (.v 4) (.v 7)) .o)))))) .o))))))) .skip) (.seq (.set 8 (.lst (.k (.s "do") .o))) (.seq (.set 7 (.ix (.lst (.k (.n 2) (.k (.n 3) (.k (.n 1) (.k (.n 2) (.k (.n 4) (.k (.n 6) .o))))))) (.call 0 (.k (.v 0) (.k (.n 6) .o))))) (.cut (.ife (.cmp .eq (.v 6) (.s "pick")) (.seq (.set 8 (.lst (.k (.s "pick") .o))) (.set 7 (.n 3))) .skip) (.cut (.ife (.cmp .eq (.v 6) (.s "op")) (.seq (.set 8 (.lst (.k (.s "op") (.k (.ix (.s "+-*/<=") (.call 0 (.k (.v 0) (.k (.n 6) .o)))) .o)))) (.set 7 (.n 2))) .skip) (.ret (.b1 .tuple (.bin .add (.v 8) (.comp [0,1,2,4,3] ["_law_k"] (.nm 5) (.rng (.v 7)) .tt Zg4)))))))))))))))
abbrev Z84 (s0 s1 s2 s3 s4:PSp):Gm:=gm [("_law_draw",s0),("_law_leaf",s1),("_law_called",s2),("_law_bound",s3),("_law_expr",s4)] []
theorem Zg5 {s0 s1 s2 s3 s4:PSp}:okL (Z84 s0 s1 s2 s3 s4) Z83 9 5 (top 42):=(by decide+kernel:okL (Z84 TT1 TT1 TT1 TT1 TT1) Z83 9 5 (top 42))
def Z5n:IS:=.ret (.dct ["names","lets","functions","works","seeds","room","toil","takes"] (.k (.v 0) (.k (.v 1) (.k (.v 2) (.k (.v 3) (.k (.lst .o) (.k (.v 4) (.k (.v 5) (.k (.cst (.bl true)) .o)))))))))
abbrev Z5o:Gm:=gm [] []
theorem Zdn:okL (Z5o) Z5n 6 6 (top 43):=(by decide+kernel:okL (Z5o) Z5n 6 6 (top 43))
abbrev Zg6:IE:=.v 0
def Z4u:IS:=.ret (.b1 .tuple (.bin .add (.comp [] ["_law_part"] (.nm 0) (.v 0) (.not (.isi "tuple" (.v 0))) Zg6) (.v 1)))
abbrev Z2k:Gm:=gm [] []
theorem Zg7:okL (Z2k) Z4u 2 2 (top 44):=(by decide+kernel:okL (Z2k) Z4u 2 2 (top 44))
abbrev Zdo:IE:=.call 1 (.k (.v 0) .o)
def Z5p:IS:=.ret (.bin .add (.n 1) (.b1 .sum (.comp [] ["_law_part"] (.nm 0) (.call 0 (.k (.v 0) .o)) .tt Zdo)))
abbrev Z2b (s0 s1:PSp):Gm:=gm [("_law_parts",s0),("_law_nodes",s1)] []
theorem Zdp {s0 s1:PSp}:okL (Z2b s0 s1) Z5p 1 1 (top 45):=(by decide+kernel:okL (Z2b TT1 TT1) Z5p 1 1 (top 45))
abbrev Z2x:IS:=.seq (.set 5 (.call 1 (.k (.ix (.v 3) (.v 4)) .o))) (.cut (.ife (.chn .le .lt (.n 0) (.v 1) (.v 5)) (.lput (.call 2 (.k (.ix (.v 3) (.v 4)) (.k (.v 1) (.k (.v 2) .o)))) (.v 3) (.v 4)) .skip) (.set 1 (.bin .sub (.v 1) (.v 5))))
def Z42:IS:=.seq (.ife (.cmp .eq (.v 1) (.n 0)) (.ret (.v 2)) .skip) (.seq (.set 3 (.call 0 (.k (.v 0) .o))) (.seq (.set 1 (.bin .sub (.v 1) (.n 1))) (.cut (.for (.nm 4) (.rng (.b1 .len (.v 3))) Z2x) (.ret (.call 3 (.k (.v 0) (.k (.v 3) .o)))))))
abbrev Z43 (s0 s1 s2 s3:PSp):Gm:=gm [("_law_parts",s0),("_law_nodes",s1),("_law_spoilt",s2),("_law_with",s3)] []
theorem Zap {s0 s1 s2 s3:PSp}:okL (Z43 s0 s1 s2 s3) Z42 6 3 (top 46):=(by decide+kernel:okL (Z43 TT1 TT1 TT1 TT1) Z42 6 3 (top 46))
abbrev Z9j:IE:=.ix (.v 0) (.n 0)
abbrev Z9k:IE:=.ix (.v 0) (.n 0)
abbrev Z4g:IS:=.seq (.set 8 (.call 2 (.k (.v 0) (.k (.cmpv [] ["_law_one"] (.nm 0) 4 .tt Z9j) .o)))) (.seq (.set 9 (.bin .add (.v 2) (.slc (.v 3) .o (.n 1)))) (.cut (.ife (.and (.cmp .eq (.call 1 (.k (.v 0) (.k (.n 2) .o))) (.n 0)) (.cmp .notin (.ix (.v 9) (.v 7)) (.cmpv [] ["_law_one"] (.nm 0) 4 .tt Z9k))) (.set 8 (.ix (.v 9) (.v 7))) .skip) (.seq (.set 10 (.call 1 (.k (.v 0) (.k (.b1 .len (.v 9)) .o)))) (.cut (.set 11 (.slc (.bin .add (.slc (.v 9) (.v 10) .o) (.slc (.v 9) .o (.v 10))) .o (.ix (.lst (.k (.n 1) (.k (.n 2) (.k (.n 0) (.k (.n 3) (.k (.n 1) (.k (.n 2) (.k (.n 2) (.k (.n 6) .o))))))))) (.call 1 (.k (.v 0) (.k (.n 8) .o)))))) (.seq (.set 12 (.call 3 (.k (.v 2) (.k (.v 3) (.k (.v 5) (.k (.v 6) (.k (.n 9) (.k (.n 120) .o)))))))) (.seq (.set 13 (.call 4 (.k (.v 0) (.k (.v 12) (.k (.v 11) (.k (.n 4) (.k (.n 1) .o))))))) (.seq (.exp (.mth .app (.v 4) (.k (.tup (.k (.v 8) (.k (.b1 .tuple (.v 11)) (.k (.v 13) .o)))) .o))) (.seq (.set 5 (.bin .add (.v 5) (.lst (.k (.tup (.k (.v 8) (.k (.b1 .len (.v 11)) .o))) .o)))) (.seq (.set 6 (.b1 .dict (.v 6))) (.dput (.call 5 (.k (.v 13) (.k (.v 6) .o))) (.v 6) (.v 8)))))))))))
def Z2y:IS:=.seq (.set 2 (.call 0 (.k (.v 0) (.k (.bin .add (.n 2) (.call 1 (.k (.v 0) (.k (.n 4) .o)))) .o)))) (.seq (.set 3 (.lst (.k (.call 2 (.k (.v 0) (.k (.v 2) .o))) (.k (.ix (.v 2) (.n 0)) .o)))) (.seq (.set 4 (.lst .o)) (.seq (.set 5 (.lst .o)) (.seq (.set 6 .dnew) (.cut (.for (.nm 7) (.rng (.ix (.lst (.k (.n 1) (.k (.n 0) (.k (.n 2) (.k (.n 3) .o))))) (.call 1 (.k (.v 0) (.k (.n 4) .o))))) Z4g) (.seq (.set 12 (.call 3 (.k (.v 2) (.k (.v 3) (.k (.v 5) (.k (.v 6) (.k (.v 1) (.k (.n 1400) .o)))))))) (.ret (.tup (.k (.b1 .tuple (.v 4)) (.k (.call 4 (.k (.v 0) (.k (.v 12) (.k (.lst .o) (.k (.n 7) (.k (.n 1) .o)))))) .o))))))))))
abbrev Z2z (s0 s1 s2 s3 s4 s5:PSp):Gm:=gm [("_law_names",s0),("_law_draw",s1),("_law_name",s2),("_law_world",s3),("_law_expr",s4),("_law_work",s5)] []
theorem Z9l {s0 s1 s2 s3 s4 s5:PSp}:okL (Z2z s0 s1 s2 s3 s4 s5) Z2y 14 2 (top 47):=(by decide+kernel:okL (Z2z TT1 TT1 TT1 TT1 TT1 TT1) Z2y 14 2 (top 47))
def Zaq:IS:=.seq (.set 2 (.lst (.k (.tup (.k (.s "num") (.k (.cst (.bl true)) .o))) (.k (.tup (.k (.s "num") (.k (.neg (.n 1)) .o))) (.k (.tup (.k (.s "num") (.k (.bin .pow (.n 10) (.n 9)) .o))) (.k (.tup (.k (.s "num") .o)) (.k (.tup (.k (.s "num") (.k (.s "1") .o))) (.k (.tup (.k (.s "name") (.k (.s "own") .o))) (.k (.tup (.k (.s "name") (.k (.s "") .o))) .o))))))))) (.seq (.set 2 (.bin .add (.v 2) (.lst (.k (.tup (.k (.s "name") (.k (.s "abcdefghi") .o))) (.k (.tup (.k (.s "name") (.k (.s "aB") .o))) (.k (.tup (.k (.s "name") (.k (.n 3) .o))) (.k (.tup (.k (.s "op") (.k (.s "**") (.k (.v 1) (.k (.v 1) .o))))) (.k (.tup (.k (.s "op") (.k (.s "+") (.k (.v 1) .o)))) .o)))))))) (.seq (.set 2 (.bin .add (.v 2) (.lst (.k (.tup (.k (.s "op") (.k (.s "+") (.k (.v 1) (.k (.v 1) (.k (.v 1) .o)))))) (.k (.tup (.k (.s "pick") (.k (.v 1) (.k (.v 1) .o)))) (.k (.tup (.k (.s "let") (.k (.s "do") (.k (.v 1) (.k (.v 1) .o))))) (.k (.tup (.k (.s "let") (.k (.s "a") (.k (.v 1) .o)))) (.k (.tup (.k (.s "set") (.k (.s "call") (.k (.v 1) .o)))) .o)))))))) (.seq (.set 2 (.bin .add (.v 2) (.lst (.k (.tup (.k (.s "set") (.k (.s "a") (.k (.v 1) (.k (.v 1) .o))))) (.k (.tup (.k (.s "say") .o)) (.k (.tup (.k (.s "say") (.k (.v 1) (.k (.v 1) .o)))) (.k (.tup (.k (.s "take") (.k (.v 1) .o))) (.k (.tup (.k (.s "do") .o)) (.k (.tup (.k (.s "do") (.k (.v 1) (.k (.v 1) (.k (.v 1) (.k (.v 1) (.k (.v 1) (.k (.v 1) (.k (.v 1) .o))))))))) .o))))))))) (.seq (.set 2 (.bin .add (.v 2) (.lst (.k (.tup (.k (.s "again") (.k (.n 6) (.k (.v 1) .o)))) (.k (.tup (.k (.s "again") (.k (.cst (.bl true)) (.k (.v 1) .o)))) (.k (.tup (.k (.s "again") (.k (.neg (.n 1)) (.k (.v 1) .o)))) (.k (.tup (.k (.s "again") (.k (.n 2) .o))) (.k (.tup (.k (.s "own") (.k (.n 0) .o))) (.k (.tup (.k (.s "hole") (.k (.n 0) .o))) .o))))))))) (.seq (.set 2 (.bin .add (.v 2) (.lst (.k (.tup (.k (.s "free") (.k (.n 0) .o))) (.k (.lst (.k (.s "num") (.k (.n 1) .o))) (.k (.s "num") (.k (.cst .non) (.k (.tup .o) (.k (.tup (.k (.s "let") (.k (.s "ab") (.k (.v 1) (.k (.tup (.k (.s "say") (.k (.tup (.k (.s "set") (.k (.s "ab") (.k (.v 1) .o)))) .o))) .o))))) .o))))))))) (.seq (.set 2 (.bin .add (.v 2) (.lst (.k (.tup (.k (.s "call") (.k (.s "ab") (.k (.v 1) (.k (.v 1) (.k (.v 1) (.k (.v 1) (.k (.v 1) (.k (.v 1) (.k (.v 1) .o)))))))))) (.k (.tup (.k (.s "call") (.k (.s "Ab") .o))) (.k (.tup (.k (.s "call") .o)) (.k (.tup (.k (.s "nums") (.k (.n 1) .o))) (.k (.n 7) (.k (.tup (.k (.s "take") (.k (.n 0) .o))) .o))))))))) (.seq (.set 2 (.bin .add (.v 2) (.lst (.k (.tup (.k (.s "call") (.k (.lst (.k (.s "ab") .o)) .o))) (.k (.tup (.k (.s "name") (.k (.lst (.k (.s "ab") .o)) .o))) (.k (.tup (.k (.s "set") (.k (.lst .o) (.k (.v 1) .o)))) (.k (.tup (.k (.s "let") (.k (.lst (.k (.s "a") .o)) (.k (.v 1) (.k (.v 1) .o))))) (.k (.tup (.k (.s "call") (.k (.cst .non) (.k (.v 1) .o)))) .o)))))))) (.ret (.ix (.v 2) (.call 0 (.k (.v 0) (.k (.b1 .len (.v 2)) .o))))))))))))
abbrev Zar (s0:PSp):Gm:=gm [("_law_draw",s0)] []
theorem Zj2 {s0:PSp}:okL (Zar s0) Zaq 3 2 (top 48):=(by decide+kernel:okL (Zar TT1) Zaq 3 2 (top 48))
def Z11:IS:=.ret (.tup (.k (.bin .add (.bin .add (.slc (.ix (.v 0) (.n 0)) .o (.v 1)) (.tup (.k (.v 2) .o))) (.slc (.ix (.v 0) (.n 0)) (.bin .add (.v 1) (.n 1)) .o)) (.k (.ix (.v 0) (.n 1)) .o)))
abbrev Z12:Gm:=gm [] []
theorem Z44:okL (Z12) Z11 3 3 (top 49):=(by decide+kernel:okL (Z12) Z11 3 3 (top 49))
def Z1s:IS:=.seq (.asg (.k (.nm 2) (.k (.nm 3) .o)) (.v 1)) (.seq (.set 4 (.lst (.k (.lst (.k (.v 2) (.k (.v 3) .o))) (.k (.tup (.k (.b1 .list (.v 2)) (.k (.v 3) .o))) (.k (.tup (.k (.v 2) .o)) (.k (.tup (.k (.v 2) (.k (.v 3) (.k (.v 3) .o)))) (.k (.cst .non) (.k (.s "program") .o)))))))) (.seq (.set 4 (.bin .add (.v 4) (.lst (.k (.v 2) (.k (.tup (.k (.v 3) (.k (.v 2) .o))) (.k (.tup (.k (.cst .non) (.k (.v 3) .o))) (.k (.tup (.k (.v 2) (.k (.cst .non) .o))) (.k (.tup (.k (.v 2) (.k (.lst (.k (.v 3) .o)) .o))) (.k (.n 4) .o))))))))) (.ret (.ix (.v 4) (.call 0 (.k (.v 0) (.k (.b1 .len (.v 4)) .o)))))))
abbrev Z1t (s0:PSp):Gm:=gm [("_law_draw",s0)] []
theorem Z6c {s0:PSp}:okL (Z1t s0) Z1s 5 2 (top 50):=(by decide+kernel:okL (Z1t TT1) Z1s 5 2 (top 50))
def Z0v:IS:=.seq (.asg (.k (.nm 3) (.k (.nm 4) (.k (.nm 5) .o))) (.ix (.ix (.v 1) (.n 0)) (.v 2))) (.seq (.set 6 (.call 0 (.k (.v 0) (.k (.n 4) .o)))) (.cut (.ife (.cmp .eq (.v 6) (.n 0)) (.set 3 (.ix (.lst (.k (.s "") (.k (.s "say") (.k (.s "Ab") (.k (.s "abcdefghi") (.k (.n 5) (.k (.cst .non) (.k (.tup (.k (.s "a") .o)) (.k (.s "a1") (.k (.s "own") (.k (.lst (.k (.s "a") .o)) (.k (.lst .o) .o)))))))))))) (.call 0 (.k (.v 0) (.k (.n 11) .o))))) .skip) (.cut (.ife (.cmp .eq (.v 6) (.n 1)) (.seq (.set 7 (.bin .mul (.slc (.bin .add (.v 4) (.tup (.k (.s "ab") .o))) .o (.n 1)) (.n 2))) (.seq (.set 8 (.lst (.k (.b1 .list (.v 4)) (.k (.bin .add (.slc (.v 4) .o (.n 5)) (.tup (.k (.s "let") .o))) (.k (.v 7) (.k (.tup (.k (.s "a") (.k (.s "b") (.k (.s "c") (.k (.s "d") (.k (.s "e") (.k (.s "f") (.k (.s "g") .o)))))))) (.k (.tup (.k (.s "a") (.k (.n 3) .o))) (.k (.cst .non) .o)))))))) (.seq (.set 8 (.bin .add (.v 8) (.lst (.k (.s "ab") (.k (.bin .add (.slc (.v 4) .o (.n 5)) (.tup (.k (.s "") .o))) (.k (.bin .add (.slc (.v 4) .o (.n 5)) (.tup (.k (.lst (.k (.s "a") .o)) .o))) (.k (.tup (.k (.lst (.k (.s "a") .o)) .o)) (.k (.tup (.k (.cst .non) .o)) .o)))))))) (.seq (.set 8 (.bin .add (.v 8) (.lst (.k (.bin .add (.slc (.bin .add (.v 4) (.tup (.k (.s "ab") (.k (.s "abc") .o)))) .o (.n 3)) (.slc (.v 7) .o (.n 1))) (.k (.bin .add (.bin .add (.slc (.v 4) .o (.n 3)) (.tup (.k (.s "q") (.k (.s "r") .o)))) (.slc (.bin .add (.v 4) (.tup (.k (.s "q") .o))) (.neg (.n 1)) .o)) .o))))) (.set 4 (.ix (.v 8) (.call 0 (.k (.v 0) (.k (.b1 .len (.v 8)) .o))))))))) .skip) (.cut (.ife (.cmp .eq (.v 6) (.n 2)) (.set 5 (.call 1 (.k (.v 5) (.k (.call 0 (.k (.v 0) (.k (.call 4 (.k (.v 5) .o)) .o))) (.k (.call 2 (.k (.v 0) (.k (.call 3 (.k (.v 0) .o)) .o))) .o))))) .skip) (.seq (.set 9 (.tup (.k (.v 3) (.k (.v 4) (.k (.v 5) .o))))) (.cut (.ife (.cmp .eq (.v 6) (.n 3)) (.set 9 (.ix (.lst (.k (.tup (.k (.v 3) (.k (.v 4) .o))) (.k (.tup (.k (.v 3) (.k (.v 4) (.k (.v 5) (.k (.v 5) .o))))) (.k (.lst (.k (.v 3) (.k (.v 4) (.k (.v 5) .o)))) (.k (.cst .non) (.k (.v 3) .o)))))) (.call 0 (.k (.v 0) (.k (.n 5) .o))))) .skip) (.ret (.call 5 (.k (.v 1) (.k (.v 2) (.k (.v 9) .o)))))))))))
abbrev Z0w (s0 s1 s2 s3 s4 s5:PSp):Gm:=gm [("_law_draw",s0),("_law_spoilt",s1),("_law_odd",s2),("_law_leaf_small",s3),("_law_nodes",s4),("_law_put_function",s5)] []
theorem Z3d {s0 s1 s2 s3 s4 s5:PSp}:okL (Z0w s0 s1 s2 s3 s4 s5) Z0v 10 3 (top 51):=(by decide+kernel:okL (Z0w TT1 TT1 TT1 TT1 TT1 TT1) Z0v 10 3 (top 51))
def Z1f:IS:=.ret (.ix (.lst (.k (.tup (.k (.s "num") (.k (.n 4) .o))) (.k (.tup (.k (.s "take") .o)) (.k (.tup (.k (.s "name") (.k (.s "ab") .o))) .o)))) (.call 0 (.k (.v 0) (.k (.n 3) .o))))
abbrev Z1g (s0:PSp):Gm:=gm [("_law_draw",s0)] []
theorem Z5q {s0:PSp}:okL (Z1g s0) Z1f 1 1 (top 52):=(by decide+kernel:okL (Z1g TT1) Z1f 1 1 (top 52))
abbrev Z5r:IE:=.v 0
abbrev Z5s:IE:=.tup (.k (.s "num") (.k (.n 1) .o))
def Z45:IS:=.seq (.set 4 (.comp [] ["_law_one"] (.nm 0) (.v 3) (.cmp .nee (.ix (.v 0) (.n 1)) (.tup .o)) Z5r)) (.cut (.ife (.and (.cmp .ne (.v 4) (.lst .o)) (.cmp .gt (.call 0 (.k (.v 0) (.k (.n 3) .o))) (.n 0))) (.seq (.asg (.k (.nm 5) (.k (.nm 6) (.k (.nm 7) .o))) (.ix (.v 4) (.call 0 (.k (.v 0) (.k (.b1 .len (.v 4)) .o))))) (.seq (.set 8 (.comp [] ["_law_one"] (.nm 0) (.v 6) .tt Z5s)) (.seq (.lput (.v 2) (.v 8) (.call 0 (.k (.v 0) (.k (.b1 .len (.v 8)) .o)))) (.set 2 (.b1 .tuple (.bin .add (.lst (.k (.s "call") (.k (.v 5) .o))) (.v 8))))))) .skip) (.seq (.set 9 (.tup (.k (.s "num") (.k (.n 1) .o)))) (.seq (.set 2 (.ix (.lst (.k (.v 2) (.k (.tup (.k (.s "let") (.k (.s "zq") (.k (.v 9) (.k (.v 2) .o))))) (.k (.tup (.k (.s "again") (.k (.n 2) (.k (.v 2) .o)))) (.k (.tup (.k (.s "pick") (.k (.v 9) (.k (.v 9) (.k (.v 2) .o))))) (.k (.v 2) (.k (.v 2) .o))))))) (.call 0 (.k (.v 0) (.k (.n 6) .o))))) (.ret (.call 1 (.k (.v 1) (.k (.call 0 (.k (.v 0) (.k (.call 2 (.k (.v 1) .o)) .o))) (.k (.v 2) .o))))))))
abbrev Z46 (s0 s1 s2:PSp):Gm:=gm [("_law_draw",s0),("_law_spoilt",s1),("_law_nodes",s2)] []
theorem Zas {s0 s1 s2:PSp}:okB (Z46 s0 s1 s2) Z45 ["_law_feed_here","_law_e","_law_bad","_law_ahead","_law_some","_law_name_here","_law_params","_law_body","_law_ones","_law_one"] 10 4 (top 53)=true:=(by decide+kernel:okB (Z46 TT1 TT1 TT1) Z45 ["_law_feed_here","_law_e","_law_bad","_law_ahead","_law_some","_law_name_here","_law_params","_law_body","_law_ones","_law_one"] 10 4 (top 53)=true)
abbrev Z6d:IE:=.ix (.v 0) (.n 0)
abbrev Z6e:IE:=.tup (.k (.s "num") (.k (.n 1) .o))
def Z1u:IS:=.seq (.asg (.k (.nm 2) (.k (.nm 3) .o)) (.v 1)) (.seq (.set 4 (.comp [] ["_law_one"] (.nm 0) (.v 2) .tt Z6d)) (.seq (.set 5 (.call 0 (.k (.v 0) (.k (.v 4) .o)))) (.seq (.set 6 (.call 1 (.k (.v 0) (.k (.n 4) .o)))) (.seq (.ife (.or (.cmp .eqe (.v 2) (.tup .o)) (.cmp .eq (.v 6) (.n 0))) (.ret (.tup (.k (.v 2) (.k (.call 2 (.k (.v 0) (.k (.v 3) (.k (.tup (.k (.s "call") (.k (.v 5) .o))) (.k (.v 2) .o))))) .o)))) .skip) (.seq (.set 7 (.call 1 (.k (.v 0) (.k (.b1 .len (.v 2)) .o)))) (.seq (.asg (.k (.nm 8) (.k (.nm 9) (.k (.nm 10) .o))) (.ix (.v 2) (.v 7))) (.seq (.set 11 (.comp [] ["_law_one"] (.nm 0) (.v 9) .tt Z6e)) (.seq (.ife (.cmp .eq (.v 6) (.n 1)) (.seq (.set 12 (.b1 .tuple (.bin .add (.lst (.k (.s "call") (.k (.v 8) .o))) (.v 11)))) (.ret (.call 3 (.k (.v 1) (.k (.v 7) (.k (.tup (.k (.v 8) (.k (.v 9) (.k (.call 2 (.k (.v 0) (.k (.v 10) (.k (.v 12) (.k (.slc (.v 2) .o (.v 7)) .o))))) .o)))) .o)))))) .skip) (.seq (.ife (.cmp .eq (.v 6) (.n 2)) (.seq (.set 13 (.tup (.k (.bin .add (.v 2) (.tup (.k (.tup (.k (.v 5) (.k (.tup .o) (.k (.tup (.k (.s "num") (.k (.n 1) .o))) .o)))) .o))) (.k (.v 3) .o)))) (.seq (.set 12 (.call 2 (.k (.v 0) (.k (.v 10) (.k (.tup (.k (.s "call") (.k (.v 5) .o))) (.k (.slc (.v 2) .o (.v 7)) .o)))))) (.ret (.call 3 (.k (.v 13) (.k (.v 7) (.k (.tup (.k (.v 8) (.k (.v 9) (.k (.v 12) .o)))) .o))))))) .skip) (.seq (.set 11 (.bin .add (.slc (.v 11) .o (.n 5)) (.lst (.k (.tup (.k (.s "take") .o)) .o)))) (.cut (.ife (.cmp .eq (.b1 .len (.v 9)) (.n 6)) (.set 11 (.slc (.v 11) .o (.n 5))) .skip) (.ret (.tup (.k (.v 2) (.k (.call 2 (.k (.v 0) (.k (.v 3) (.k (.b1 .tuple (.bin .add (.lst (.k (.s "call") (.k (.v 8) .o))) (.v 11))) (.k (.v 2) .o))))) .o)))))))))))))))
abbrev Z1v (s0 s1 s2 s3:PSp):Gm:=gm [("_law_name",s0),("_law_draw",s1),("_law_hidden",s2),("_law_put_function",s3)] []
theorem Z6f {s0 s1 s2 s3:PSp}:okL (Z1v s0 s1 s2 s3) Z1u 14 2 (top 54):=(by decide+kernel:okL (Z1v TT1 TT1 TT1 TT1) Z1u 14 2 (top 54))
abbrev Z85:IE:=.ix (.v 0) (.n 0)
abbrev Z3e:IE:=.v 1
def Z2c:IS:=.seq (.asg (.k (.nm 2) (.k (.nm 3) .o)) (.v 1)) (.seq (.set 4 (.call 0 (.k (.v 0) (.k (.comp [] ["_law_one"] (.nm 0) (.v 2) .tt Z85) .o)))) (.seq (.set 5 (.comp [2] ["_law_k"] (.nm 1) (.rng (.b1 .len (.v 2))) (.cmp .nee (.ix (.ix (.v 0) (.v 1)) (.n 1)) (.tup .o)) Z3e)) (.seq (.ife (.or (.cmp .eq (.v 5) (.lst .o)) (.cmp .eq (.call 1 (.k (.v 0) (.k (.n 3) .o))) (.n 0))) (.seq (.set 6 (.call 0 (.k (.v 0) (.k (.lst (.k (.v 4) .o)) .o)))) (.seq (.set 7 (.call 2 (.k (.v 0) (.k (.tup (.k (.s "take") .o)) (.k (.tup (.k (.s "set") (.k (.v 6) (.k (.tup (.k (.s "num") (.k (.n 2) .o))) .o)))) (.k (.v 2) .o)))))) (.ret (.tup (.k (.bin .add (.v 2) (.tup (.k (.tup (.k (.v 4) (.k (.tup (.k (.v 6) .o)) (.k (.v 7) .o)))) .o))) (.k (.v 3) .o)))))) .skip) (.seq (.set 8 (.ix (.v 5) (.call 1 (.k (.v 0) (.k (.b1 .len (.v 5)) .o))))) (.seq (.asg (.k (.nm 9) (.k (.nm 10) (.k (.nm 11) .o))) (.ix (.v 2) (.v 8))) (.seq (.set 7 (.tup (.k (.s "set") (.k (.ix (.v 10) (.call 1 (.k (.v 0) (.k (.b1 .len (.v 10)) .o)))) (.k (.tup (.k (.s "num") (.k (.n 2) .o))) .o))))) (.ret (.call 3 (.k (.v 1) (.k (.v 8) (.k (.tup (.k (.v 9) (.k (.v 10) (.k (.call 2 (.k (.v 0) (.k (.v 11) (.k (.v 7) (.k (.slc (.v 2) .o (.v 8)) .o))))) .o)))) .o)))))))))))
abbrev Z2d (s0 s1 s2 s3:PSp):Gm:=gm [("_law_name",s0),("_law_draw",s1),("_law_hidden",s2),("_law_put_function",s3)] []
theorem Z86 {s0 s1 s2 s3:PSp}:okB (Z2d s0 s1 s2 s3) Z2c ["_law_feed_here","_law_program_here","_law_functions","_law_main","_law_fresh","_law_some","_law_param","_law_bad","_law_k","_law_name_here","_law_params","_law_body"] 12 2 (top 55)=true:=(by decide+kernel:okB (Z2d TT1 TT1 TT1 TT1) Z2c ["_law_feed_here","_law_program_here","_law_functions","_law_main","_law_fresh","_law_some","_law_param","_law_bad","_law_k","_law_name_here","_law_params","_law_body"] 12 2 (top 55)=true)
def Z87:IS:=.seq (.asg (.k (.nm 2) (.k (.nm 3) .o)) (.v 1)) (.seq (.set 4 (.call 0 (.k (.v 0) (.k (.n 6) .o)))) (.seq (.ife (.cmp .eq (.v 4) (.n 0)) (.ret (.call 1 (.k (.v 0) (.k (.v 1) .o)))) .skip) (.seq (.ife (.cmp .eq (.v 4) (.n 1)) (.seq (.set 5 (.call 2 (.k (.v 0) (.k (.call 3 (.k (.v 0) .o)) .o)))) (.ret (.tup (.k (.v 2) (.k (.call 4 (.k (.v 3) (.k (.call 0 (.k (.v 0) (.k (.call 5 (.k (.v 3) .o)) .o))) (.k (.v 5) .o)))) .o))))) .skip) (.seq (.ife (.and (.cmp .lt (.v 4) (.n 4)) (.cmp .nee (.v 2) (.tup .o))) (.ret (.call 6 (.k (.v 0) (.k (.v 1) (.k (.call 0 (.k (.v 0) (.k (.b1 .len (.v 2)) .o))) .o))))) .skip) (.seq (.ife (.cmp .eq (.v 4) (.n 4)) (.ret (.call 7 (.k (.v 0) (.k (.v 1) .o)))) .skip) (.seq (.ife (.and (.cmp .eq (.v 4) (.n 5)) (.and (.cmp .nee (.v 2) (.tup .o)) (.cmp .eq (.call 0 (.k (.v 0) (.k (.n 3) .o))) (.n 0)))) (.seq (.set 6 (.ix (.v 2) (.call 0 (.k (.v 0) (.k (.b1 .len (.v 2)) .o))))) (.ret (.tup (.k (.bin .add (.v 2) (.tup (.k (.tup (.k (.ix (.v 6) (.n 0)) (.k (.tup .o) (.k (.tup (.k (.s "take") .o)) .o)))) .o))) (.k (.v 3) .o))))) .skip) (.ret (.call 8 (.k (.v 0) (.k (.v 1) .o))))))))))
abbrev Z88 (s0 s1 s2 s3 s4 s5 s6 s7 s8:PSp):Gm:=gm [("_law_draw",s0),("_law_bent_pair",s1),("_law_odd",s2),("_law_leaf_small",s3),("_law_spoilt",s4),("_law_nodes",s5),("_law_bent_function",s6),("_law_bent_set",s7),("_law_bent_call",s8)] []
theorem Zg8 {s0 s1 s2 s3 s4 s5 s6 s7 s8:PSp}:okL (Z88 s0 s1 s2 s3 s4 s5 s6 s7 s8) Z87 7 2 (top 56):=(by decide+kernel:okL (Z88 TT1 TT1 TT1 TT1 TT1 TT1 TT1 TT1 TT1) Z87 7 2 (top 56))
abbrev Zkr:IS:=.ife (.cmp .isnt (.call 2 (.k (.call 3 (.k (.v 1) (.k (.v 2) .o))) .o)) (.cst (.bl false))) (.ret (.cst (.bl false))) .skip
def Zno:IS:=.seq (.set 1 (.call 0 (.k (.v 0) .o))) (.seq (.set 2 (.call 1 (.k (.v 1) (.k (.n 40) .o)))) (.seq (.ife (.cmp .isnt (.call 2 (.k (.v 2) .o)) (.cst (.bl true))) (.ret (.cst (.bl false))) .skip) (.cut (.for (.nm 3) (.rng (.n 6)) Zkr) (.ret (.cmp .is (.call 2 (.k (.v 2) .o)) (.cst (.bl true)))))))
abbrev Znp (s0 s1 s2 s3:PSp):Gm:=gm [("_law_feed",s0),("_law_program",s1),("is_program",s2),("_law_bent",s3)] []
theorem Zrr {s0 s1 s2 s3:PSp}:okL (Znp s0 s1 s2 s3) Zno 4 1 (top 57):=(by decide+kernel:okL (Znp TT1 TT1 TT1 TT1) Zno 4 1 (top 57))
abbrev ti (i:Int):Tv:=.at (.int i)
abbrev ts (x:Str):Tv:=.at (.str x)
abbrev fi (i:Int):Sl:=.fz (.at (.int i))
abbrev fs (x:Str):Sl:=.fz (.at (.str x))
def Az (x:Str):Prop:=∀c∈x.cps.toList,97<=c/\c<=122
inductive spSpelled (args:List Sl)(k:(Sl->List Sl->Prop)):Prop
 |mk (a b:Int) (_:args = [fi a,fi b]) (_:0<=b) (_:b<=20) (_:∀x:Str,(x.length:Int)=b->Az x->(1<=b->x.cps.toList[0]? = some (97+(a % 26).toNat))->k (fs x) [fi a,fi b]):spSpelled args k
theorem Az.app {x y:Str}(hx:Az x)(hy:Az y):Az (x++y):=fun c hc=>by
 have e:(x++y).cps.toList=x.cps.toList++y.cps.toList:=by show(x.cps++y.cps).toList=_;simp
 rw[e] at hc
 rcases mem_append.mp hc with h|h
 ·exact hx c h
 ·exact hy c h
def abc:Str:="abcdefghijklmnopqrstuvwxyz"
theorem Znq:∀c∈abc.cps.toList,97<=c/\c<=122:=by decide+kernel
theorem Znr:abc.cps.toList.length=26:=by decide+kernel
theorem Zrs:Az "":=fun c hc=>by
 have:("":Str).cps.toList = []:=by decide+kernel
 rw[this] at hc;cases hc
theorem Zrt:∀j<26,abc.cps.toList[j]? = some (97+j):=by decide+kernel
def Fst (a0 a:Int)(x:Str):Prop:=(x.length=0/\a=a0)∨(1<=x.length/\x.cps.toList[0]? = some (97+(a0 % 26).toNat))
theorem Z4h {a0 b:Int}(hb:b<=20){P:PD}(hP:∀(a:Int) (x:Str) (s:Option Sl),(x.length:Int)=b->Az x->Fst a0 a x->P.nx ⟨[some (fi a),some (fi b),some (fs x),s],[],[]⟩):
  ∀(l:List Tv) (a:Int) (x:Str) (s:Option Sl),(x.length:Int)+l.length=b->Az x->Fst a0 a x->Z2n (bd (.nm 3)) (nrm (Z0j Z1q (.seq (.set 2 (.bin .add (.var 2) (.ix (.cst (.str "abcdefghijklmnopqrstuvwxyz")) (.bin .mod (.var 0) (.cst (.int 26)))))) (.set 0 (.bin .fdiv (.var 0) (.cst (.int 26))))))) P l ⟨[some (fi a),some (fi b),some (fs x),s],[],[]⟩
 |[],a,x,s,h,hx,hf=>hP a x s (by simpa using h) hx hf
 |t::l,a,x,s,h,hx,hf=>by
  have h26:(0:Int)<26:=by decide
  have e:Z8i abc.cps.toList (a % 26)=some (97+(a % 26).toNat):=by
   obtain⟨j,hj⟩:=Int.eq_ofNat_of_zero_le (Int.emod_nonneg a (by decide:(26:Int)≠0))
   have:=Int.emod_lt_of_pos a h26
   rw[hj]
   exact Zrt j (by lia)
  generalize hcd:97+(a % 26).toNat=c at e
  have hc:c∈abc.cps.toList:=by
   obtain⟨c',e',hc'⟩:=Z0r (l:=abc.cps.toList) (i:=a % 26) (Int.emod_nonneg _ (by decide)) (by rw[Znr];exact Int.emod_lt_of_pos _ h26)
   rw[e] at e';cases e';exact hc'
  have hl:(t::l).length=l.length+1:=rfl
  rw[hl] at h
  have hc1:Az ⟨#[c]⟩:=fun d hd=>by rw[show d=c by simpa using hd];exact Znq c hc
  have e1:(x++(⟨#[c]⟩:Str)).length=x.length+1:=Z24
  refine⟨h26,bx (o:=(Z8i abc.cps.toList (a % 26)).map fun c=>.at (.str ⟨#[c]⟩)) (t:=ts ⟨#[c]⟩) (by rw[e];rfl) ⟨by show x.length+1<=16777216;lia,⟨by decide,by decide⟩,?_⟩⟩
  refine Z4h hb hP l _ _ _ (by rw[e1];lia) (hx.app hc1) (.inr ⟨by rw[e1];lia,?_⟩)
  have ea:(x++(⟨#[c]⟩:Str)).cps.toList=x.cps.toList ++ [c]:=by show(x.cps ++ #[c]).toList=_;simp
  have el:x.cps.toList.length=x.length:=by simp [Str.length]
  rw[ea]
  rcases hf with ⟨h0,rfl⟩|⟨h0,h1⟩
  ·rw[List.getElem?_append_right (by lia),el,h0,hcd];rfl
  ·rw[List.getElem?_append_left (by lia)];exact h1
theorem Zdq:∀args k,spSpelled args k->nrm (Z0j Z1q Z2w) (Z02 args k) (Z09 4 args):=by
 rintro args k ⟨a,b,rfl,h0,h1,q⟩
 refine⟨fun M=>∃(a':Int) (x:Str) (s:Option Sl),M=⟨[some (fi a'),some (fi b),some (fs x),s],[],[]⟩/\(x.length:Int)=b/\Az x/\Fst a a' x,?_,?_⟩
 ·refine⟨⟨by lia,by lia⟩,Z4h (a0:=a) h1 ?_ _ a "" none ?_ Zrs (.inl ⟨by decide+kernel,rfl⟩)⟩
  ·exact fun a x s e hx hf=>⟨a,x,s,rfl,e,hx,hf⟩
  ·unfold Z8j
   rw[length_map,length_range]
   show(0:Int)+_=_
   lia
 ·rintro M ⟨a',x,s,rfl,e,hx,hf⟩
  exact q x e hx fun hb=>hf.elim (fun z=>by lia) (·.2)
def Z05 (ns:List Int)(n:Nat)(z:Int):Ob:=.dic [(.inr "cells",.lst (ns.map ti)),(.inr "at",ti n),(.inr "left",ti z)]
inductive spDraw (args:List Sl)(k:(Sl->List Sl->Prop)):Prop
 |mk (ns n z m:_) (_:args = [.own (Z05 ns n z),fi m]) (_:ns.length<=63) (_:n<=1000000000000) (_:0<m) (_:m<=1000000000000) (_:∀r n' z',0<=r->r<m->n'<=n+1->k (fi r) [.own (Z05 ns n' z'),fi m]):spDraw args k
theorem Zns:∀args k,spDraw args k->nrm (Z0j Z7y Z7x) (Z02 args k) (Z09 6 args):=by
 rintro args k ⟨ns,n,z,m,rfl,hl,hn,hm,hm2,q⟩
 have cD:∀z,Zls z m:=fun z=>⟨hm,by lia⟩
 have cM:CMul (n:Int) n:=Z26 (by lia) (by lia)
 have l3:∀(a b c:Key×Tv),[a,b,c].length<16777216:=fun _ _ _=>by show 3<16777216;decide
 have md:∀(i j:Int),0<j->0<=i % j/\i % j<j:=fun i j h=>⟨Int.emod_nonneg _ (by lia),Int.emod_lt_of_pos _ h⟩
 refine Z0k (fun g=>?_) (fun g=>?_)
 ·exact⟨hm,cD z,l3 _ _ _,q _ n _ (md _ _ hm).1 (md _ _ hm).2 (by lia)⟩
 refine⟨l3 _ _ _,cM,fun M=>∃c,M=⟨[some (.out 0),some (fi m),none,some (fi n),some (fi c),none],[.own (Z05 ns (n+1) z)],[]⟩,Z0k (fun g=>?_) (fun g=>⟨_,rfl⟩),?_⟩
 ·have h0:ns ≠ []:=fun z=>by rw[z] at g;exact absurd g (by decide)
  have h1:0<(ns.length:Int):=by have:=length_pos_iff.mpr h0;lia
  have h2:=md n ns.length h1
  have h3:((ns.map ti).length:Int)=ns.length:=by rw[length_map]
  obtain⟨t,e,ht⟩:=Z0r (l:=ns.map ti) (i:=(n:Int) % ((ns.map ti).length:Nat)) (by rw[h3];exact h2.1) (by rw[h3];exact h2.2)
  obtain⟨c,_,rfl⟩:=mem_map.mp ht
  exact⟨by show(0:Int)<((ns.map ti).length:Nat);rw[h3];exact h1,bx e ⟨_,rfl⟩⟩
 ·rintro M ⟨c,rfl⟩
  refine⟨⟨by decide,by decide,by decide⟩,Z0k (fun g=>?_) (fun g=>?_)⟩
  ·exact⟨cD c,l3 _ _ _,hm,q _ (n+1) _ (md _ _ hm).1 (md _ _ hm).2 (by lia)⟩
  ·have p:∀{i:Int},0<=i->i<2147483647->CMul i i:=fun h h'=>Z26 (by lia) (by lia)
   refine⟨by show(0:Int)<_;decide,Z26 (by decide) (by decide),Z9f (by decide) (by decide),by show(0:Int)<_;decide,?_⟩
   have h2:=md ((c % 2147483647+104729*(n:Int)+1)*48271) 2147483629 (by decide)
   refine⟨p h2.1 (by lia),Z26 (by decide) (by decide),by show(0:Int)<_;decide,Z9f (by decide) (by decide),by show(0:Int)<_;decide,p (md _ _ (by decide)).1 (Int.lt_trans (md _ 2147483629 (by decide)).2 (by decide)),by show(0:Int)<_;decide,⟨by decide,by decide⟩,hm,?_⟩
   exact q _ (n+1) _ (md _ _ hm).1 (md _ _ hm).2 (by lia)
inductive spValue (args:List Sl)(k:(Sl->List Sl->Prop)):Prop
 |mk (ns n z:_) (_:args = [.own (Z05 ns n z)]) (_:ns.length<=63) (_:n+3<=1000000000000) (_:∀r n' z',0<=r->r<=999999999->n'<=n+3->k (fi r) [.own (Z05 ns n' z')]):spValue args k
theorem Zj3:∀args k,spValue args k->nrm (Z0j (Z5j spDraw) Z5i) (Z02 args k) (Z09 2 args):=by
 rintro args k ⟨ns,n,z,rfl,hl,hn,q⟩
 refine⟨rfl,ns,n,z,6,rfl,hl,by lia,by decide,by decide,fun w n1 z1 hw0 hw hn1=>?_⟩
 refine Z0k (fun g=>?_) (fun g=>?_)
 ·refine⟨rfl,ns,n1,z1,3,rfl,hl,by lia,by decide,by decide,fun r n2 z2 h0 h1 h2=>?_⟩
  exact q _ n2 z2 (by lia) (by lia) (by lia)
 refine Z0k (fun g2=>?_) (fun g2=>?_)
 ·refine⟨rfl,ns,n1,z1,40000,rfl,hl,by lia,by decide,by decide,fun r n2 z2 h0 h1 h2=>?_⟩
  refine⟨Z26 (by lia) (by lia),rfl,ns,n2,z2,25000,rfl,hl,by lia,by decide,by decide,fun r' n3 z3 h3 h4 h5=>?_⟩
  exact q _ n3 z3 (by lia) (by lia) (by lia)
 ·have w0:w≠0:=fun z=>g (by rw[z];decide)
  have w1:w≠1:=fun z=>g2 (by rw[z];decide)
  refine⟨Z26 (by decide) (by decide),rfl,ns,n1,z1,_,rfl,hl,by lia,by lia,by lia,fun r n2 z2 h0 h1 h2=>?_⟩
  exact q _ n2 z2 (by lia) (by lia) (by lia)
def Z0p:Tv->Bool
 | .tup _=>true
 |_=>false
def okTy (t:Tv):Prop:=∃n,tyN t=some n
inductive spParts (args:List Sl)(k:(Sl->List Sl->Prop)):Prop
 |mk (l:_) (_:args = [.fz (.tup l)]) (_:l.length<=16777216) (_:(∀t∈l,okTy t)) (_:k (.own (.lst ((l.drop 1).filter Z0p))) [.fz (.tup l)]):spParts args k
theorem Z0x {k:List Tv->Ms->Prop}:∀(ts ys:List Tv) (s:Option Sl),(∀t∈ts,okTy t)->(∀s',k (ys++ts.filter Z0p) ⟨[s'],[],[]⟩)->Z03 (bd (.nm 0)) (sem Z1i (.isi "tuple" (.var 0))).t (sem Z1i (.var 0)).e k ts ys ⟨[s],[],[]⟩
 |[],ys,s,_,q=>by have:=q s;rw[filter_nil,append_nil] at this;exact this
 |t::ts,ys,s,h,q=>by
  have h2:∀t∈ts,okTy t:=fun x hx=>h x (mem_cons_of_mem _ hx)
  obtain⟨n,hn⟩:=h t mem_cons_self
  cases t with
  |tup l=>exact Z0x ts (ys ++ [.tup l]) _ h2 fun s'=>by simpa [filter_cons,Z0p] using q s'
  | «at» v => cases v <;> first | (cases hn; done) | exact Z0x ts ys _ h2 fun s' => by simpa [filter_cons, Z0p] using q s'
  |lst l=>exact Z0x ts ys _ h2 fun s'=>by simpa [filter_cons,Z0p] using q s'
  |dic l=>exact Z0x ts ys _ h2 fun s'=>by simpa [filter_cons,Z0p] using q s'
  |scr l=>cases hn
  |ktp l=>cases hn
  |fnv a=>cases hn
theorem Zwb {α : Type}(l:List α):Z0o l (some 1) none=l.drop 1:=by
 unfold Z0o
 cases l with
 |nil=>rfl
 |cons a l=>
  show(List.drop (min (1:Int).toNat (l.length+1)) (a::l)).take (l.length+1-min (1:Int).toNat (l.length+1))=l
  have:min (1:Int).toNat (l.length+1)=1:=by show min 1 (l.length+1)=1;lia
  rw[this];simp
theorem Zj4:∀args k,spParts args k->nrm (Z0j Z1i Z3c) (Z02 args k) (Z09 1 args):=by
 rintro args k ⟨l,rfl,hl,ht,q⟩
 have e:=Zwb l
 refine⟨?_,rfl,?_⟩
 ·show(Z0o l (some 1) none).length<=_
  rw[e,length_drop];lia
 ·show Z03 _ _ _ _ (Z0o l (some 1) none) _ _
  rw[e]
  exact Z0x _ _ _ (fun t h=>ht t (List.mem_of_mem_drop h)) fun s'=>q
theorem Zg9 (hd:List V)(ks:List Tv)(h:∀k∈ks,Z0p k=true):(hd.map Tv.at++ks).filter Z0p=ks:=by
 rw[filter_append,List.filter_eq_nil_iff.mpr (fun t ht=>by obtain⟨v,_,rfl⟩:=mem_map.mp ht;simp [Z0p]),nil_append,List.filter_eq_self.mpr h]
def Zks (s:Sl)(l:List Tv):Prop:=s = .own (.lst l)∨s = .fz (.lst l)
inductive spWith (args:List Sl)(k:(Sl->List Sl->Prop)):Prop
 |mk (l s ks:_) (_:args = [.fz (.tup l),s]) (_:Zks s ks) (_:l.length+ks.length<=16777216) (_:(∀t∈l,okTy t)) (_:k (.fz (.tup (l.filter (fun t => !Z0p t)++ks))) args):spWith args k
theorem Z1a {k:List Tv->Ms->Prop}:∀(l ys:List Tv) (s:Option Sl),(∀t∈l,okTy t)->(∀s',k (ys++l.filter fun t => !Z0p t) ⟨[s'],[],[]⟩)->Z03 (bd (.nm 0)) (sem Z2k (.not (.isi "tuple" (.var 0)))).t (sem Z2k (.var 0)).e k l ys ⟨[s],[],[]⟩
 |[],ys,s,_,q=>by have:=q s;rw[filter_nil,append_nil] at this;exact this
 |t::l,ys,s,h,q=>by
  have h2:∀t∈l,okTy t:=fun x hx=>h x (mem_cons_of_mem _ hx)
  obtain⟨n,hn⟩:=h t mem_cons_self
  cases t with
  |tup u=>exact Z1a l ys _ h2 fun s'=>by simpa [filter_cons,Z0p] using q s'
  | «at» v => cases v <;> first | (cases hn; done) | exact Z1a l (ys ++ [_]) _ h2 fun s' => by simpa [filter_cons, Z0p] using q s'
  |lst u=>exact Z1a l (ys ++ [_]) _ h2 fun s'=>by simpa [filter_cons,Z0p] using q s'
  |dic u=>exact Z1a l (ys ++ [_]) _ h2 fun s'=>by simpa [filter_cons,Z0p] using q s'
  |scr u=>cases hn
  |ktp u=>cases hn
  |fnv u=>cases hn
theorem Znt:∀args k,spWith args k->nrm (Z0j Z2k Z4u) (Z02 args k) (Z09 2 args):=by
 rintro args k ⟨l,s,ks,rfl,hs,hl,ht,q⟩
 have hf:(l.filter fun t => !Z0p t).length<=l.length:=length_filter_le _ _
 rcases hs with rfl|rfl
 ·refine⟨by lia,rfl,Z1a l [] _ ht fun s'=>⟨?_,q⟩⟩
  show([]++l.filter fun t => !Z0p t).length+ks.length<=_
  rw[nil_append];lia
 ·refine⟨by lia,rfl,Z1a l [] _ ht fun s'=>⟨?_,q⟩⟩
  show([]++l.filter fun t => !Z0p t).length+ks.length<=_
  rw[nil_append];lia
def wordsL:List Str:=["num","name","op","pick","let","set","say","take","do","again","call","own","hole"]
def Nm (x:Str):Prop:=1<=x.length/\x.length<=8/\Az x
inductive spName (args:List Sl)(k:(Sl->List Sl->Prop)):Prop
 |mk (ns:List Int) (n:Nat) (z:Int) (s:Sl) (xs ds:List Str) (_:args = [.own (Z05 ns n z),s]) (_:Zks s (xs.map ts)) (_:ns.length<=63) (_:n+10<=1000000000000) (_:xs.length<=16777216) (_:ds.length<=40) (_:(∀x∈xs,x∈ds)) (_:(∀x∈xs,Nm x)) (_:∀x n' z',Nm x->x∉xs->x∉wordsL->n'<=n+10->k (fs x) [.own (Z05 ns n' z'),s]):spName args k
inductive spNames (args:List Sl)(k:(Sl->List Sl->Prop)):Prop
 |mk (ns n z m:_) (_:args = [.own (Z05 ns n z),fi m]) (_:ns.length<=63) (_:0<=m) (_:m<=40) (_:n+1000<=1000000000000) (_:∀(xs:List Str) n' z',(xs.length:Int)=m->xs.Nodup->(∀x∈xs,Nm x/\x∉wordsL)->n'<=n+1000->k (.own (.lst (xs.map ts))) [.own (Z05 ns n' z'),fi m]):spNames args k
theorem Z72 {ns:List Int}{n0:Nat}{m:Int}(hl:ns.length<=63)(hm:m<=40)(hn0:n0+1000<=1000000000000){P:PD}(hP:∀(xs:List Str) (n:Nat) (z:Int) (s:Option Sl),(xs.length:Int)=m->xs.Nodup->(∀x∈xs,Nm x/\x∉wordsL)->n<=n0+10*xs.length->P.nx ⟨[some (.out 0),some (fi m),some (.own (.lst (xs.map ts))),s],[.own (Z05 ns n z)],[]⟩):
  ∀(l:List Tv) (xs:List Str) (n:Nat) (z:Int) (s:Option Sl),(xs.length:Int)+l.length=m->xs.Nodup->(∀x∈xs,Nm x/\x∉wordsL)->n<=n0+10*xs.length →
   Z2n (bd (.nm 3)) (nrm (Z0j (Z3b spName) (.exp (.mth .app (.var 2) (.cons (.call 0 (.cons (.var 0) (.cons (.var 2) .nil))) .nil))))) P l ⟨[some (.out 0),some (fi m),some (.own (.lst (xs.map ts))),s],[.own (Z05 ns n z)],[]⟩
 |[],xs,n,z,s,h,nd,hx,hn=>hP xs n z s (by simpa using h) nd hx hn
 |t::l,xs,n,z,s,h,nd,hx,hn=>by
  have h':(xs.length:Int)+(l.length+1:Nat)=m:=h
  refine⟨rfl,rfl,ns,n,z,_,xs,xs,rfl,.inl rfl,hl,by lia,by lia,by lia,fun _ h=>h,fun x hxx=>(hx x hxx).1,fun x n' z' hN hni hw hn'=>⟨?_,?_⟩⟩
  ·show(xs.map ts).length<16777216
   rw[length_map];lia
  ·have e:xs.map ts ++ [ts x]=(xs ++ [x]).map ts:=by simp
   show Z2n _ _ _ l ⟨[_,_,some (.own (.lst (xs.map ts ++ [ts x]))),_],_,_⟩
   rw[e]
   refine Z72 hl hm hn0 hP l (xs ++ [x]) n' z' _ (by simp;lia) (nodup_append.mpr ⟨nd,by simp,fun a ha b hb=>by simp at hb;rw[hb];exact fun z=>hni (z▸ha)⟩) (fun y hy=>?_) (by simp;lia)
   rcases mem_append.mp hy with q|q
   ·exact hx y q
   ·simp at q;rw[q];exact⟨hN,hw⟩
theorem Zj5:∀args k,spNames args k->nrm (Z0j (Z3b spName) Z5k) (Z02 args k) (Z09 4 args):=by
 rintro args k ⟨ns,n,z,m,rfl,hl,h0,h1,hn,q⟩
 refine⟨fun M=>∃(xs:List Str) (n':Nat) (z':Int) (s:Option Sl),M=⟨[some (.out 0),some (fi m),some (.own (.lst (xs.map ts))),s],[.own (Z05 ns n' z')],[]⟩/\(xs.length:Int)=m/\xs.Nodup/\(∀x∈xs,Nm x/\x∉wordsL)/\n'<=n+10*xs.length,?_,?_⟩
 ·refine⟨⟨by lia,by lia⟩,Z72 hl h1 hn ?_ _ [] n z none ?_ nodup_nil (fun x hx=>by cases hx) (by simp)⟩
  ·exact fun xs n' z' s a b c d=>⟨xs,n',z',s,rfl,a,b,c,d⟩
  ·unfold Z8j
   rw[length_map,length_range]
   show(0:Int)+_=_
   lia
 ·rintro M ⟨xs,n',z',s,rfl,a,b,c,d⟩
  exact q xs n' z' a b c (by lia)
inductive Tree (α : Type) where
 |nd (a : α) (ks:List (Tree α))
mutual
def Tree.tv {α : Type}(f : α -> List V):Tree α -> Tv
 | .nd a ks=>.tup ((f a).map Tv.at++Tree.tvL f ks)
def Tree.tvL {α : Type}(f : α -> List V):List (Tree α)->List Tv
 |[]=>[]
 |k::ks=>Tree.tv f k::Tree.tvL f ks
end
mutual
def Tree.cnt {α : Type}:Tree α -> Nat
 | .nd _ ks=>1+Tree.cntL ks
def Tree.cntL {α : Type}:List (Tree α)->Nat
 |[]=>0
 |k::ks=>Tree.cnt k+Tree.cntL ks
end
mutual
def Tree.all {α : Type}:Tree α -> List (Tree α)
 | .nd a ks=>.nd a ks::Tree.allL ks
def Tree.allL {α : Type}:List (Tree α)->List (Tree α)
 |[]=>[]
 |k::ks=>Tree.all k++Tree.allL ks
end
theorem Z0h {α : Type}(f : α -> List V):∀ks:List (Tree α),Tree.tvL f ks=ks.map (Tree.tv f)
 |[]=>rfl
 |k::ks=>by rw[Tree.tvL,Z0h f ks];rfl
mutual
theorem Tree.all_len {α : Type}:∀t:Tree α,t.all.length=t.cnt
 | .nd a ks=>by rw[Tree.all,Tree.cnt,length_cons,Tree.allL_len ks];lia
theorem Tree.allL_len {α : Type}:∀ks:List (Tree α),(Tree.allL ks).length=Tree.cntL ks
 |[]=>rfl
 |k::ks=>by rw[Tree.allL,Tree.cntL,length_append,Tree.all_len k,Tree.allL_len ks]
end
inductive Wd where
 |num (i:Int)|name (x:Str)|take|op (s:Str)|pick|lt (x:Str)|st (x:Str)|say|do|again (m:Int)|call (f:Str)
def Wd.hd:Wd->List V
 | .num i=>[.str "num",.int i]
 | .name x=>[.str "name",.str x]
 | .take=>[.str "take"]
 | .op s=>[.str "op",.str s]
 | .pick=>[.str "pick"]
 | .lt x=>[.str "let",.str x]
 | .st x=>[.str "set",.str x]
 | .say=>[.str "say"]
 | .do=>[.str "do"]
 | .again m=>[.str "again",.int m]
 | .call f=>[.str "call",.str f]
abbrev E:=Tree Wd
abbrev E.tv (e:E):Tv:=Tree.tv Wd.hd e
abbrev E.tvL (ks:List E):List Tv:=Tree.tvL Wd.hd ks
def signsL:List Str:=["+","-","*","/","<","="]
structure Rl where
 X:Str->Prop
 A:Str->Nat->Prop
def Ar (R:Rl):Wd->Nat->Prop
 | .num i,m=>m=0/\0<=i/\i<=999999999
 | .name x,m=>m=0/\R.X x
 | .take,m=>m=0
 | .op s,m=>m=2/\s∈signsL
 | .pick,m=>m=3
 | .lt x,m=>m=2/\R.X x
 | .st x,m=>m=1/\R.X x
 | .say,m=>m=1
 | .do,m=>1<=m/\m<=6
 | .again j,m=>m=1/\0<=j/\j<=5
 | .call f,m=>m<=7/\Nm f/\R.A f m
inductive Ex (R:Rl):Nat->E->Prop where
 |mk {n:Nat} {w:Wd} {ks:List E} (h:Ar R w ks.length) (hk:∀k∈ks,Ex R n k):Ex R (n+1) (.nd w ks)
theorem Ar.mono {R R':Rl}(hX:∀x,R.X x->R'.X x)(hA:∀f m,R.A f m->R'.A f m){w:Wd}{m:Nat}(h:Ar R w m):Ar R' w m:=by
 cases w with
 |name x=>exact⟨h.1,hX _ h.2⟩
 |lt x=>exact⟨h.1,hX _ h.2⟩
 |st x=>exact⟨h.1,hX _ h.2⟩
 |call f=>exact⟨h.1,h.2.1,hA _ _ h.2.2⟩
 |_=>exact h
theorem Ex.mono {R R':Rl}(hX:∀x,R.X x->R'.X x)(hA:∀f m,R.A f m->R'.A f m){n:Nat}{e:E}(h:Ex R n e):Ex R' n e:=by
 induction h with
 |mk h hk ih=>exact .mk (h.mono hX hA) ih
theorem Ex.up {R:Rl}{n:Nat}{e:E}(h:Ex R n e):∀{m:Nat},n<=m->Ex R m e:=by
 induction h with
 |mk h hk ih=>
  intro m hm
  obtain⟨j,rfl⟩:∃j,m=j+1:=⟨m-1,by lia⟩
  exact .mk h fun k z=>ih k z (by lia)
theorem Ar.le {R:Rl}{w:Wd}{m:Nat}(h:Ar R w m):m<=7:=by
 cases w with
 |num i=>have:=h.1;lia
 |name x=>have:=h.1;lia
 |take=>have:m=0:=h;lia
 |op s=>have:=h.1;lia
 |pick=>have:m=3:=h;lia
 |lt x=>have:=h.1;lia
 |st x=>have:=h.1;lia
 |say=>have:m=1:=h;lia
 | «do» => have := h.2; lia
 |again j=>have:=h.1;lia
 |call f=>exact h.1
theorem Zwv {α : Type}{l:List α}(h:l.length=1):∃a,l = [a]:=by
 match l,h with
 |[a],_=>exact⟨a,rfl⟩
theorem Zui {α : Type}{l:List α}(h:l.length=2):∃a b,l = [a,b]:=by
 match l,h with
 |[a,b],_=>exact⟨a,b,rfl⟩
theorem E.tp (e:E):Z0p e.tv=true:=by cases e;rfl
theorem E.okTy (e:E):okTy e.tv:=by cases e;exact⟨_,rfl⟩
theorem Z89 (w:Wd):(∀v∈w.hd,M22.okTy (.at v))/\1<=w.hd.length/\w.hd.length<=2:=by
 cases w <;> exact⟨fun v hv=>by
  simp only [Wd.hd,mem_cons,not_mem_nil,or_false] at hv
  first
   | (rcases hv with rfl|rfl <;> exact⟨_,rfl⟩)
   | (subst hv;exact⟨_,rfl⟩),by simp [Wd.hd],by simp [Wd.hd]⟩
theorem Znu (ks:List E):(E.tvL ks).filter (fun t => !Z0p t) = []:=by
 rw[E.tvL,Z0h]
 exact List.filter_eq_nil_iff.mpr fun t ht=>by obtain⟨k,_,rfl⟩:=mem_map.mp ht;simp [E.tp k]
theorem Z0f (ks:List E):(E.tvL ks).length=ks.length:=by rw[E.tvL,Z0h,length_map]
theorem Zj6 (w:Wd)(ks:List E):((w.hd.map Tv.at++E.tvL ks).drop 1).filter Z0p=E.tvL ks:=by
 have h:=(Z89 w).2.1
 have e:(w.hd.map Tv.at++E.tvL ks).drop 1=(w.hd.drop 1).map Tv.at++E.tvL ks:=by
  rw[List.drop_append_of_le_length (by rw[length_map];exact h),List.map_drop]
 rw[e]
 exact Zg9 _ _ fun k hk=>by rw[E.tvL,Z0h] at hk;obtain⟨k,_,rfl⟩:=mem_map.mp hk;exact E.tp k
theorem Znv (w:Wd)(ks:List E):(w.hd.map Tv.at++E.tvL ks).filter (fun t => !Z0p t)=w.hd.map Tv.at:=by
 rw[filter_append,Znu,append_nil]
 exact List.filter_eq_self.mpr fun t ht=>by obtain⟨k,_,rfl⟩:=mem_map.mp ht;rfl
theorem Zj7 (w:Wd)(ks:List E):∀t∈w.hd.map Tv.at++E.tvL ks,okTy t:=fun t ht=>by
 rcases mem_append.mp ht with h|h
 ·obtain⟨v,hv,rfl⟩:=mem_map.mp h;exact(Z89 w).1 v hv
 ·rw[E.tvL,Z0h] at h;obtain⟨k,_,rfl⟩:=mem_map.mp h;exact E.okTy k
inductive spPartsE (args:List Sl)(k:(Sl->List Sl->Prop)):Prop
 |mk (w:Wd) (ks:List E) (_:args = [.fz (Tree.tv Wd.hd (.nd w ks))]) (_:ks.length<=1000) (_:k (.own (.lst (E.tvL ks))) [.fz (Tree.tv Wd.hd (.nd w ks))]):spPartsE args k
theorem Zru {args:List Sl}{k:Sl->List Sl->Prop}(h:spPartsE args k):spParts args k:=by
 obtain⟨w,ks,rfl,hl,q⟩:=h
 have h2:=(Z89 w).2.2
 refine⟨w.hd.map Tv.at++E.tvL ks,rfl,?_,Zj7 w ks,?_⟩
 ·rw[length_append,length_map,Z0f];lia
 ·rw[Zj6];exact q
theorem Zga:∀args k,spPartsE args k->nrm (Z0j Z1i Z3c) (Z02 args k) (Z09 1 args):=fun args k h=>Zj4 args k (Zru h)
inductive spWithE (args:List Sl)(k:(Sl->List Sl->Prop)):Prop
 |mk (w:Wd) (ks:List E) (s:Sl) (js:List Tv) (_:args = [.fz (Tree.tv Wd.hd (.nd w ks)),s]) (_:Zks s js) (_:ks.length<=1000) (_:js.length<=1000) (_:k (.fz (.tup (w.hd.map Tv.at++js))) [.fz (Tree.tv Wd.hd (.nd w ks)),s]):spWithE args k
theorem Zuj {args:List Sl}{k:Sl->List Sl->Prop}(h:spWithE args k):spWith args k:=by
 obtain⟨w,ks,s,js,rfl,hs,hl,hj,q⟩:=h
 have h2:=(Z89 w).2.2
 refine⟨w.hd.map Tv.at++E.tvL ks,s,js,rfl,hs,?_,Zj7 w ks,?_⟩
 ·rw[length_append,length_map,Z0f];lia
 ·rw[Znv];exact q
theorem Zj8:∀args k,spWithE args k->nrm (Z0j Z2k Z4u) (Z02 args k) (Z09 2 args):=fun args k h=>Znt args k (Zuj h)
inductive spNodesE (R:Rl)(N:Nat)(args:List Sl)(k:(Sl->List Sl->Prop)):Prop
 |mk (e:E) (_:args = [.fz e.tv]) (_:Ex R N e) (_:k (fi e.cnt) [.fz e.tv]):spNodesE R N args k
theorem Z5t {R:Rl}{N:Nat}{k:List Tv->Ms->Prop}:∀(ks:List E) (ys:List Tv) (s:Option Sl),(∀t∈ks,Ex R N t)->(∀s',k (ys++ks.map fun t=>ti t.cnt) ⟨[s'],[],[]⟩)->Z03 (bd (.nm 0)) (sem (Z2b spPartsE (spNodesE R N)) .tt).t (sem (Z2b spPartsE (spNodesE R N)) (.call 1 (.cons (.var 0) .nil))).e k (E.tvL ks) ys ⟨[s],[],[]⟩
 |[],ys,s,_,q=>by have:=q s;rw[map_nil,append_nil] at this;exact this
 |t::ks,ys,s,h,q=>⟨rfl,t,rfl,h t mem_cons_self,Z5t ks (ys ++ [ti t.cnt]) _ (fun x hx=>h x (mem_cons_of_mem _ hx)) fun s'=>by simpa using q s'⟩
theorem Zj9 (ks:List E):((ks.map fun t=>ti t.cnt).map tvI).sum=(Tree.cntL ks:Nat):=by
 induction ks with
 |nil=>rfl
 |cons t ts ih=>
  rw[map_cons,map_cons,sum_cons,ih]
  show(t.cnt:Int)+_=((t.cnt+Tree.cntL ts:Nat):Int)
  lia
theorem Zgb (R:Rl)(N:Nat):∀args k,spNodesE R (N+1) args k->nrm (Z0j (Z2b spPartsE (spNodesE R N)) Z5p) (Z02 args k) (Z09 1 args):=by
 rintro args k ⟨e,rfl,h,q⟩
 cases h with
 | @mk _ w ks h hk=>
  have hl:=h.le
  refine⟨rfl,w,ks,rfl,by lia,?_⟩
  refine⟨by rw[Z0f];lia,rfl,Z5t ks [] _ hk fun s'=>?_⟩
  refine⟨fun t ht=>by obtain⟨u,_,rfl⟩:=mem_map.mp ht;exact⟨_,rfl⟩,?_⟩
  have q':∀i:Int,i=1+(Tree.cntL ks:Nat)->k (fi i) _:=fun i hi=>by
   have:((Tree.cnt (.nd w ks):Nat):Int)=i:=by
    rw[hi,Tree.cnt];lia
   rw[<- this];exact q
  exact q' _ (by rw[nil_append,Zj9])
def exB (B:List Str):Wd->List Str
 | .lt x=>B ++ [x]
 |_=>B
def rtH (b:List Str):Wd->Bool
 | .st x => !b.contains x
 |_=>true
mutual
def rt (b:List Str):E->Bool
 | .nd w ks=>rtH b w&&rtL b (exB b w) ks
def rtL (b c:List Str):List E->Bool
 |[]=>true
 |k::ks=>rt b k&&rtL c c ks
end
theorem Zgc {b:List Str}:∀{ks:List E},(∀k∈ks,rt b k=true)->rtL b b ks=true
 |[],_=>rfl
 |k::ks,h=>by rw[rtL,h k mem_cons_self,Zgc fun j hj=>h j (mem_cons_of_mem _ hj)];rfl
theorem Zja {b:List Str}{w:Wd}{ks:List E}(hw:rtH b w=true)(hx:exB b w=b)(h:∀k∈ks,rt b k=true):rt b (.nd w ks)=true:=by
 rw[rt,hw,hx,Zgc h];rfl
def mi (m:Int)(i:Nat):Int:=(m-1+i) % 8+1
def Z5u (x m:Int)(u:Str)(j:Nat):Prop:=(u.length:Int)=mi m j/\u.cps.toList[0]? = some (97+((x+j) % 26).toNat)
instance (x m:Int)(u:Str)(j:Nat):Decidable (Z5u x m u j):=by unfold Z5u;exact inferInstance
theorem Zgd {x m:Int}{u:Str}{i j:Nat}(hi:i<=60)(hj:j<i)(a:Z5u x m u i)(b:Z5u x m u j):False:=by
 obtain⟨a1,a2⟩:=a
 obtain⟨b1,b2⟩:=b
 unfold mi at a1 b1
 rw[a2] at b2
 have b3:=Option.some.inj b2
 have h1:0<=(x+i) % 26:=by lia
 have h2:0<=(x+j) % 26:=by lia
 omega
structure Left (x m:Int)(ex R:List Str)(i:Nat):Prop where
 few:R.length+i<=54
 all:∀u∈ex,u∈R∨∃j,j<i/\Z5u x m u j
theorem Left.zero {x m:Int}{ex:List Str}(h:ex.length<=53):Left x m ex ex 0:=⟨by lia,fun u hu=>.inl hu⟩
theorem Left.one {x m:Int}{ex:List Str}(h:ex.length<=53):Left x m ex ex 1:=⟨by lia,fun u hu=>.inl hu⟩
theorem Left.next {x m:Int}{ex R:List Str}{i:Nat}{t:Str}(h:Left x m ex R i)(ht:t∈ex)(k:Z5u x m t i):Left x m ex (R.filter fun u => !decide (Z5u x m u i)) (i+1):=by
 have hR:t∈R:=by
  rcases h.all t ht with z|⟨j,hj,kj⟩
  ·exact z
  ·exact(Zgd (by have:=h.few;lia) hj k kj).elim
 have hlt:(R.filter fun u => !decide (Z5u x m u i)).length<R.length:=by
  rw[List.length_filter_lt_length_iff_exists]
  exact⟨t,hR,by simp [k]⟩
 refine⟨by have:=h.few;lia,fun u hu=>?_⟩
 rcases h.all u hu with z|⟨j,hj,kj⟩
 ·by_cases q:Z5u x m u i
  ·exact .inr ⟨i,Nat.lt_succ_self _,q⟩
  ·exact .inl (mem_filter.mpr ⟨z,by simp [q]⟩)
 ·exact .inr ⟨j,by lia,kj⟩
theorem Z3f (t:Str)(xs:List Str):inV (.str t) ((xs.map ts).map unA)=true↔t∈xs:=by
 have e:(xs.map ts).map unA=xs.map V.str:=by rw[map_map];rfl
 rw[e]
 unfold inV
 rw[List.any_map,any_eq_true]
 constructor
 ·rintro⟨y,hy,e⟩
  have e':(y==t)=true:=e
  rw[<- beq_iff_eq.mp e']
  exact hy
 ·intro h
  exact⟨t,h,beq_self_eq_true t⟩
theorem Z1w (xs:List Str):flatL (xs.map ts):=fun t h=>by
 obtain⟨i,_,rfl⟩:=mem_map.mp h;exact⟨_,rfl,rfl⟩
theorem Zat {xs:List Str}(h:(true ^^ (xs.map ts).isEmpty)=true):xs ≠ []:=fun z=>by rw[z] at h;exact absurd h (by decide)
theorem Nm.ch {x:Str}{c:Nat}(hx:Az x)(h:c∈x.cps.toList):Az ⟨#[c]⟩:=fun d hd=>by
 have:d=c:=by simpa using hd
 rw[this];exact hx c h
theorem Z8a {x:Str}{lo hi:Option Int}(h:Az x):Az (Txt.slice x lo hi):=by
 unfold Txt.slice
 split
 ·exact h
 ·intro c hc
  have hc':=hc
  simp only [mem_filterMap] at hc'
  obtain⟨i,_,e⟩:=hc'
  exact h c (Array.mem_toList_iff.mpr (Array.mem_of_getElem? e))
theorem Zc1 {t:Str}(h:1<=t.length):∃c,Z8i t.cps.toList 0=some c/\c∈t.cps.toList:=
 Z0r (by decide) (by
  have hl:t.cps.toList.length=t.length:=by simp [Str.length]
  rw[hl];lia)
instance (x:Str):Decidable (Az x):=by unfold Az;exact inferInstance
theorem Zjb:∀w∈wordsL,1<=w.length/\w.length<=5/\Az w:=by decide+kernel
def smallL:List Str:=["a","b","c","d","x","y","z","n","v","aa","ab","tmp"]
theorem Zjc:∀w∈smallL,1<=w.length/\w.length<=8/\Az w:=by decide+kernel
theorem Nm.app {x y:Str}(h1:Az x)(h2:Az y)(h3:1<=x.length+y.length)(h4:x.length+y.length<=8):Nm (x++y):=⟨by rw[Z24];exact h3,by rw[Z24];exact h4,h1.app h2⟩
def Zjd (a1:Sl)(rest:List Sl)(ns:List Int)(n:Nat)(way m u:Int)(M:Ms):Prop:=∃(x:Str) (n':Nat) (z':Int) (o7 o8:Option Sl),M=⟨[some (.out 0),some a1,some (.own (.lst (wordsL.map ts))),some (fi way),some (fi m),some (fi u),some (fs x),o7,o8],.own (Z05 ns n' z')::rest,[]⟩/\Nm x/\n'<=n
def Zkt (a1:Sl)(rest:List Sl)(ns:List Int)(n:Nat)(z way m U:Int)(o7 o8:Option Sl)(ex:List Str)(j:Nat)(M:Ms):Prop:=∃(i:Nat) (R:List Str) (t:Str),j+i=100/\M=⟨[some (.out 0),some a1,some (.own (.lst (wordsL.map ts))),some (fi way),some (fi (mi m i)),some (fi (U+i)),some (fs t),o7,o8],.own (Z05 ns n z)::rest,[]⟩/\Nm t/\Left U m ex R i/\(0<i->Z5u U m t i)
theorem Zje {ns:List Int}{n n8:Nat}{z8 way m U:Int}{s:Sl}{xs ds:List Str}{k:Sl->List Sl->Prop}{a1:Sl}{rest:List Sl}{o7 o8:Option Sl}{x:Str}{f0:Ob}
  (hn:n+10<=1000000000000) (hd:ds.length<=40) (hcv:∀x∈xs,x∈ds) (hN:Nm x) (hn8:n8<=n+9) (hm:1<=m/\m<=8)
  (hA:(a1 = .out 1/\rest = [.own (.lst (xs.map ts))]/\s = .own (.lst (xs.map ts)))∨(a1 = .fz (.lst (xs.map ts))/\rest = []/\s = .fz (.lst (xs.map ts))))
  (q:∀x n' z',Nm x->x∉xs->x∉wordsL->n'<=n+10->k (fs x) [.own (Z05 ns n' z'),s]):
  nrm (Z0j (Z4t spDraw spSpelled) (.cut (.whl (.or (.cmp .isin (.var 6) (.var 1)) (.cmp .isin (.var 6) (.var 2))) (.seq (.set 5 (.bin .add (.var 5) (.cst (.int 1)))) (.seq (.set 4 (.bin .add (.bin .mod (.var 4) (.cst (.int 8))) (.cst (.int 1)))) (.set 6 (.call 1 (.cons (.var 5) (.cons (.var 4) .nil))))))) (.ret (.var 6)))) (Z02 [.own f0,s] k) ⟨[some (.out 0),some a1,some (.own (.lst (wordsL.map ts))),some (fi way),some (fi m),some (fi U),some (fs x),o7,o8],.own (Z05 ns n8 z8)::rest,[]⟩:=by
 have hex:(ds++wordsL).length<=53:=by
  rw[length_append]
  have:wordsL.length=13:=by decide+kernel
  lia
 rw[Z4e]
 refine⟨fun M=>∃(y:Str) (o4 o5:Option Sl),M=⟨[some (.out 0),some a1,some (.own (.lst (wordsL.map ts))),some (fi way),o4,o5,some (fs y),o7,o8],.own (Z05 ns n8 z8)::rest,[]⟩/\Nm y/\y∉xs/\y∉wordsL,?_,?_⟩
 ·refine⟨Zkt a1 rest ns n8 z8 way m U o7 o8 (ds++wordsL),⟨100,0,_,x,rfl,?_,hN,Left.zero hex,fun z=>absurd z (Nat.lt_irrefl _)⟩,?_⟩
  ·have e1:mi m 0=m:=by unfold mi;lia
   have e2:U+((0:Nat):Int)=U:=by lia
   rw[e1,e2]
  ·rintro j M ⟨i,R,t,hj,rfl,ht,hL,hK⟩
   have hi:i<=54:=by have:=hL.few;lia
   have e1:mi m i % 8+1=mi m (i+1):=by unfold mi;lia
   have e2:U+(i:Int)+1=U+((i+1:Nat):Int):=by lia
   have e3:1<=mi m (i+1)/\mi m (i+1)<=8:=by unfold mi;lia
   have fin:t∈ds++wordsL->∀t':Str,(t'.length:Int)=mi m i % 8+1->Az t'->(1<=mi m i % 8+1->t'.cps.toList[0]? = some (97+((U+i+1) % 26).toNat)) →
      ∃j',j'<j/\Zkt a1 rest ns n8 z8 way m U o7 o8 (ds++wordsL) j' ⟨[some (.out 0),some a1,some (.own (.lst (wordsL.map ts))),some (fi way),some (fi (mi m i % 8+1)),some (fi (U+i+1)),some (fs t'),o7,o8],.own (Z05 ns n8 z8)::rest,[]⟩:=by
    intro hin t' h1 h2 h3
    rw[e1] at h1 h3
    rw[e2] at h3
    have hk:Z5u U m t' (i+1):=⟨h1,h3 (by lia)⟩
    rw[e1,e2]
    by_cases hz:i=0
    ·subst hz
     exact⟨j-1,by lia,1,_,t',by lia,rfl,⟨by lia,by lia,h2⟩,Left.one hex,fun _=>hk⟩
    ·exact⟨j-1,by lia,i+1,_,t',by lia,rfl,⟨by lia,by lia,h2⟩,hL.next hin (hK (by lia)),fun _=>hk⟩
   have end':¬ (false ^^ inV (.str t) ((xs.map ts).map unA))=true->¬ (false ^^ inV (.str t) ((wordsL.map ts).map unA))=true->∃(y:Str) (o4 o5:Option Sl),(⟨[some (.out 0),some a1,some (.own (.lst (wordsL.map ts))),some (fi way),some (fi (mi m i)),some (fi (U+i)),some (fs t),o7,o8],.own (Z05 ns n8 z8)::rest,[]⟩:Ms)=⟨[some (.out 0),some a1,some (.own (.lst (wordsL.map ts))),some (fi way),o4,o5,some (fs y),o7,o8],.own (Z05 ns n8 z8)::rest,[]⟩/\Nm y/\y∉xs/\y∉wordsL:=fun g g2=>
    ⟨t,_,_,rfl,ht,fun z=>g (by rw[(Z3f t xs).mpr z];rfl),fun z=>g2 (by rw[(Z3f t wordsL).mpr z];rfl)⟩
   have i1:(false ^^ inV (.str t) ((xs.map ts).map unA))=true->t∈ds++wordsL:=fun g=>mem_append.mpr (.inl (hcv t ((Z3f t xs).mp (by simpa using g))))
   have i2:(false ^^ inV (.str t) ((wordsL.map ts).map unA))=true->t∈ds++wordsL:=fun g=>mem_append.mpr (.inr ((Z3f t wordsL).mp (by simpa using g)))
   rcases hA with ⟨rfl,rfl,rfl⟩|⟨rfl,rfl,rfl⟩
   all_goals
    refine⟨⟨Z1w xs,rfl⟩,Z0k (fun g=>?_) (fun g=>⟨⟨Z1w wordsL,rfl⟩,Z0k (fun g2=>?_) (fun g2=>end' g g2)⟩)⟩
    ·exact⟨by show(0:Int)<8;decide,rfl,_,_,rfl,by lia,by lia,fin (i1 g)⟩
    ·exact⟨by show(0:Int)<8;decide,rfl,_,_,rfl,by lia,by lia,fin (i2 g2)⟩
 ·rintro M ⟨y,o4,o5,rfl,h1,h2,h3⟩
  rcases hA with ⟨rfl,rfl,rfl⟩|⟨rfl,rfl,rfl⟩ <;> exact q y n8 z8 h1 h2 h3 (by lia)
theorem Znw:∀args k,spName args k->nrm (Z0j (Z4t spDraw spSpelled) Z7z) (Z02 args k) (Z09 9 args):=by
 rintro args k ⟨ns,n,z,s,xs,ds,rfl,hs,hl,hn,hxl6,hd,hcv,hx,q⟩
 rcases hs with rfl|rfl
 all_goals
  refine⟨by decide,rfl,ns,n,z,6,rfl,hl,by lia,by decide,by decide,fun way n1 z1 w0 w1 hn1=>?_⟩
  refine⟨rfl,ns,n1,z1,8,rfl,hl,by lia,by decide,by decide,fun m n2 z2 m0 m1 hn2=>?_⟩
  refine⟨rfl,ns,n2,z2,456976,rfl,hl,by lia,by decide,by decide,fun u n3 z3 u0 u1 hn3=>?_⟩
  refine⟨Z9f (by decide) (by decide),rfl,ns,n3,z3,456976,rfl,hl,by lia,by decide,by decide,fun v n4 z4 v0 v1 hn4=>?_⟩
  refine⟨rfl,_,_,rfl,by lia,by lia,fun x hxl hxa hxf=>?_⟩
  have hN:Nm x:=⟨by lia,by lia,hxa⟩
  generalize hU:u*456976+v=U
  have hU0:0<=U:=by lia
  refine⟨Zjd _ _ ns (n+6) way (1+m) U,Z0k (fun g=>?_) (fun g=>⟨x,n4,z4,none,none,rfl,hN,by lia⟩),?_⟩
  ·refine⟨rfl,ns,n4,z4,13,rfl,hl,by lia,by decide,by decide,fun r n5 z5 r0 r1 hn5=>?_⟩
   obtain⟨t,e,ht⟩:=Z0r (l:=wordsL.map ts) (i:=r) r0 r1
   obtain⟨wd,hw,rfl⟩:=mem_map.mp ht
   obtain⟨c,hc,hcm⟩:=Zc1 hN.1
   have w3:=Zjb wd hw
   have c1:(⟨#[c]⟩:Str).length=1:=rfl
   refine bx e (bx (o:=(Z8i x.cps.toList 0).map fun c=>.at (.str ⟨#[c]⟩)) (t:=ts ⟨#[c]⟩) (by rw[hc];rfl) ⟨?_,_,n5,z5,none,none,rfl,Nm.app w3.2.2 (Nm.ch hxa hcm) (by lia) (by lia),by lia⟩)
   show wd.length+1<=16777216
   lia
  rintro M ⟨x,n5,z5,o7,o8,rfl,hN,hn5⟩
  refine⟨Zjd _ _ ns (n+7) way (1+m) U,Z0k (fun g=>?_) (fun g=>⟨x,n5,z5,o7,o8,rfl,hN,by lia⟩),?_⟩
  ·refine⟨rfl,ns,n5,z5,12,rfl,hl,by lia,by decide,by decide,fun r n6 z6 r0 r1 hn6=>?_⟩
   obtain⟨t,e,ht⟩:=Z0r (l:=smallL.map ts) (i:=r) r0 r1
   obtain⟨wd,hw,rfl⟩:=mem_map.mp ht
   have w3:=Zjc wd hw
   exact bx e ⟨_,n6,z6,o7,o8,rfl,⟨w3.1,w3.2.1,w3.2.2⟩,by lia⟩
  rintro M ⟨x,n6,z6,o7,o8,rfl,hN,hn6⟩
  have tk:xs ≠ []->∀{r:Int},0<=r->r<((xs.map ts).length:Nat)->∃y,Z8i (xs.map ts) r=some (ts y)/\y∈xs:=fun _ r r0 r1=>by
   obtain⟨t,e,ht⟩:=Z0r (l:=xs.map ts) (i:=r) r0 r1
   obtain⟨y,hy,rfl⟩:=mem_map.mp ht
   exact⟨y,e,hy⟩
  have tl:xs ≠ []->(0:Int)<((xs.map ts).length:Nat):=fun h=>by rw[length_map];have:=length_pos_iff.mpr h;lia
  refine⟨Zjd _ _ ns (n+8) way (1+m) U,Z0k (fun g=>Z0k (fun g2=>?_) (fun g2=>⟨x,n6,z6,o7,o8,rfl,hN,by lia⟩)) (fun g=>⟨x,n6,z6,o7,o8,rfl,hN,by lia⟩),?_⟩
  ·have ne:=Zat g2
   refine⟨rfl,ns,n6,z6,_,rfl,hl,by lia,tl ne,by rw[length_map];lia,fun r n7 z7 r0 r1 hn7=>?_⟩
   obtain⟨y,e,hy⟩:=tk ne r0 r1
   have hy3:=hx y hy
   have h8:0<=U % 8/\U % 8<8:=⟨by lia,by lia⟩
   have c1:=Zlu (x:=y++x) (j:=1+U % 8) (by rw[Z24];have:=hy3.1;lia) (by lia)
   have c2:=Zki (x:=y++x) (j:=1+U % 8) (by lia)
   have l1:=hy3.2.1
   have l2:=hN.2.1
   refine bx e ⟨?_,by show(0:Int)<8;decide,?_,_,n7,z7,o7,o8,rfl,⟨by lia,by lia,Z8a (hy3.2.2.app hN.2.2)⟩,by lia⟩
   ·show y.length+x.length<=16777216
    lia
   ·show(Txt.slice (y++x) none (some (1+U % 8))).length<=16777216
    lia
  rintro M ⟨x,n7,z7,o7,o8,rfl,hN,hn7⟩
  refine⟨Zjd _ _ ns (n+9) way (1+m) U,Z0k (fun g=>Z0k (fun g2=>?_) (fun g2=>⟨x,n7,z7,o7,o8,rfl,hN,by lia⟩)) (fun g=>⟨x,n7,z7,o7,o8,rfl,hN,by lia⟩),?_⟩
  ·have ne:=Zat g2
   refine⟨rfl,ns,n7,z7,_,rfl,hl,by lia,tl ne,by rw[length_map];lia,fun r n8 z8 r0 r1 hn8=>?_⟩
   obtain⟨y,e,hy⟩:=tk ne r0 r1
   have hy3:=hx y hy
   have l1:=hy3.2.1
   have l0:=hy3.1
   obtain⟨c,hc,hcm⟩:=Zc1 hN.1
   have hy0:(0:Int)<(y.length:Nat):=by lia
   have h9:0<=U % (y.length:Nat)/\U % (y.length:Nat)<(y.length:Nat):=⟨Int.emod_nonneg _ (by lia),Int.emod_lt_of_pos _ hy0⟩
   generalize hJ:U % (y.length:Nat)=J at h9
   have c1:=Zki (x:=y) (j:=J) h9.1
   have c3:=Zi4 (x:=y) (i:=J+1) (by lia) (by lia)
   have hs1:=Txt.slice_le y none (some J)
   have c4:(⟨#[c]⟩:Str).length=1:=rfl
   refine bx e ⟨hy0,?_⟩
   subst hJ
   refine⟨?_,bx (o:=(Z8i x.cps.toList 0).map fun c=>.at (.str ⟨#[c]⟩)) (t:=ts ⟨#[c]⟩) (by rw[hc];rfl) ⟨?_,?_,?_,_,n8,z8,_,_,rfl,Nm.app ((Z8a hy3.2.2).app (Nm.ch hN.2.2 hcm)) (Z8a hy3.2.2) ?_ ?_,by lia⟩⟩
   ·show(Txt.slice y none (some (U % (y.length:Nat)))).length<=16777216
    lia
   ·show(Txt.slice y none (some (U % (y.length:Nat)))).length+1<=16777216
    lia
   ·show(Txt.slice y (some (U % (y.length:Nat)+1)) none).length<=16777216
    lia
   ·show(Txt.slice y none (some (U % (y.length:Nat)))++(⟨#[c]⟩:Str)).length+(Txt.slice y (some (U % (y.length:Nat)+1)) none).length<=16777216
    rw[Z24];lia
   ·rw[Z24];lia
   ·rw[Z24];lia
  rintro M ⟨x,n8,z8,o7,o8,rfl,hN,hn8⟩
  exact Zje hn hd hcv hN hn8 ⟨by lia,by lia⟩ (by simp) q
mutual
def Tree.inn {α : Type}:Tree α -> Nat
 | .nd _ ks=>(if ks.isEmpty then 0 else 1)+Tree.innL ks
def Tree.innL {α : Type}:List (Tree α)->Nat
 |[]=>0
 |k::ks=>Tree.inn k+Tree.innL ks
end
theorem Zc2 {α : Type}:∀a b:List (Tree α),Tree.innL (a++b)=Tree.innL a+Tree.innL b
 |[],b=>by simp [Tree.innL]
 |k::a,b=>by rw[cons_append,Tree.innL,Tree.innL,Zc2 a b];lia
theorem Ex.cnt_inn {R:Rl}{N:Nat}{e:E}(h:Ex R N e):e.cnt<=1+7*e.inn:=by
 induction h with
 | @mk n w ks h hk ih=>
  have key:∀l:List E,(∀k∈l,k.cnt<=1+7*k.inn)->Tree.cntL l<=l.length+7*Tree.innL l:=fun l=>by
   induction l with
   |nil=>intro _;simp [Tree.cntL,Tree.innL]
   |cons k l ih2=>
    intro hl
    have h1:=hl k mem_cons_self
    have h2:=ih2 fun j hj=>hl j (mem_cons_of_mem _ hj)
    rw[Tree.cntL,Tree.innL,length_cons];lia
  have h1:=key ks ih
  have h2:=h.le
  rw[Tree.cnt,Tree.inn]
  cases ks with
  |nil=>simp [Tree.cntL]
  |cons k ks=>simp only [isEmpty_cons,Bool.false_eq_true,if_false];lia
def Z3g (r:Int):Nat:=(r-6).toNat
structure Wo where
 names:List Str
 lets:List Str
 fs:List (Str×Nat)
 ws:List (Key×Tv)
 sd:List Tv
 room:Int
 toil:Int
def fnT (p:Str×Nat):Tv:=.tup [ts p.1,ti p.2]
def Z0s (W:Wo):Ob:=.dic [(.inr "names",.lst (W.names.map ts)),(.inr "lets",.lst (W.lets.map ts)),(.inr "functions",.lst (W.fs.map fnT)),(.inr "works",.dic W.ws),(.inr "seeds",.lst W.sd),(.inr "room",ti W.room),(.inr "toil",ti W.toil),(.inr "takes",.at (.bl true))]
structure WoOk (R:Rl)(W:Wo):Prop where
 n0:W.names ≠ []
 n1:W.names.length<=40
 l1:W.lets.length<=40
 f1:W.fs.length<=40
 nX:∀x∈W.names,R.X x
 lX:∀x∈W.lets,R.X x
 fA:∀p∈W.fs,R.A p.1 p.2/\Nm p.1/\p.2<=6/\∃i,Z07 W.ws (.inr p.1)=some (ti i)
def Wo.at (W:Wo)(r t:Int):Wo:={ W with room:=r,toil:=t }
theorem WoOk.at {R:Rl}{W:Wo}(h:WoOk R W)(r t:Int):WoOk R (W.at r t):=⟨h.n0,h.n1,h.l1,h.f1,h.nX,h.lX,h.fA⟩
theorem Z9m {xs:List Str}{r:Int}(r0:0<=r)(r1:r<((xs.map ts).length:Nat)):∃y,Z8i (xs.map ts) r=some (ts y)/\y∈xs:=by
 obtain⟨t,e,ht⟩:=Z0r (l:=xs.map ts) (i:=r) r0 r1
 obtain⟨y,hy,rfl⟩:=mem_map.mp ht
 exact⟨y,e,hy⟩
theorem Znx {xs:List Str}(h:¬ (false ^^ (xs.map ts).isEmpty)=true):xs ≠ []:=fun z=>h (by rw[z];rfl)
theorem Zc3 {xs:List Str}(h:xs ≠ []):(0:Int)<((xs.map ts).length:Nat):=by rw[length_map];have:=length_pos_iff.mpr h;lia
inductive spLeaf (R:Rl)(args:List Sl)(k:(Sl->List Sl->Prop)):Prop
 |mk (ns:List Int) (n:Nat) (z:Int) (W:Wo) (s:Sl) (bs:List Str) (_:args = [.own (Z05 ns n z),.own (Z0s W),s]) (_:Zks s (bs.map ts)) (_:ns.length<=63) (_:n+10<=1000000000000) (_:WoOk R W) (_:bs.length<=1000) (_:(∀x∈bs,R.X x)) (_:∀(e:E) n' z',Ex R 1 e->e.inn=0->(∀b,rt b e=true)->n'<=n+10->k (.fz (E.tv e)) [.own (Z05 ns n' z'),.own (Z0s W),s]):spLeaf R args k
theorem Zny (R:Rl):∀args k,spLeaf R args k->nrm (Z0j (Z82 spDraw spValue) Z81) (Z02 args k) (Z09 5 args):=by
 rintro args k ⟨ns,n,z,W,s,bs,rfl,hs,hl,hn,hW,hb,hbX,q⟩
 have hn1:=hW.n1
 have app:∀(a b c:List Str),a.map ts++b.map ts++c.map ts=(a++b++c).map ts:=fun a b c=>by simp
 have X3:∀x∈W.names++bs++bs,R.X x:=fun x hx=>by
  simp only [mem_append] at hx
  rcases hx with (h|h)|h
  ·exact hW.nX x h
  ·exact hbX x h
  ·exact hbX x h
 have lf:∀(w:Wd),Ar R w 0->Ex R 1 (.nd w []):=fun w h=>.mk h fun k hk=>by cases hk
 rcases hs with rfl|rfl
 all_goals
  refine⟨rfl,ns,n,z,6,rfl,hl,by lia,by decide,by decide,fun way n1 z1 w0 w1 hn1=>?_⟩
  refine Z0k (fun g=>q (.nd .take []) n1 z1 (lf _ rfl) rfl (fun _=>rfl) (by lia)) (fun g=>?_)
  refine⟨by show(W.names.map ts).length+(bs.map ts).length<=_;rw[length_map,length_map];lia,by show(W.names.map ts++bs.map ts).length+(bs.map ts).length<=_;rw[length_append,length_map,length_map];lia,?_⟩
  have num:∀{n2:Nat} {z2:Int} (i:Int),0<=i->i<=999999999->n2<=n+10->k (.fz (.tup [ts "num",ti i])) [.own (Z05 ns n2 z2),.own (Z0s W),_]:=fun i h0 h1 h2=>q (.nd (.num i) []) _ _ (lf _ ⟨rfl,h0,h1⟩) rfl (fun _=>rfl) h2
  rw[app]
  refine Z0k (fun g=>?_) (fun g=>Z0k (fun g2=>?_) (fun g2=>?_))
  ·exact⟨rfl,ns,n1,z1,rfl,hl,by lia,fun r n2 z2 r0 r1 h2=>num r r0 r1 (by lia)⟩
  ·exact⟨rfl,ns,n1,z1,rfl,hl,by lia,fun r n2 z2 r0 r1 h2=>num r r0 r1 (by lia)⟩
  ·have ne:=Znx g2
   refine⟨rfl,ns,n1,z1,_,rfl,hl,by lia,Zc3 ne,by rw[length_map];simp only [length_append];lia,fun r n2 z2 r0 r1 h2=>?_⟩
   obtain⟨y,e,hy⟩:=Z9m r0 r1
   exact bx e (q (.nd (.name y) []) n2 z2 (lf _ ⟨rfl,X3 y hy⟩) rfl (fun _=>rfl) (by lia))
def D (b:Nat):Nat:=20*8 ^ b
theorem Zrv (b:Nat):D (b+1)=8*D b:=by unfold D;rw[Nat.pow_succ];lia
theorem Znz (b:Nat):20<=D b:=by
 unfold D
 have:0<8 ^ b:=Nat.pos_of_ne_zero (by simp)
 lia
inductive spExpr (R:Rl)(b:Nat)(args:List Sl)(k:(Sl->List Sl->Prop)):Prop
 |mk (ns:List Int) (n:Nat) (z:Int) (W:Wo) (s:Sl) (bs:List Str) (β tm:Int) (_:args = [.own (Z05 ns n z),.own (Z0s W),s,fi β,fi tm]) (_:Zks s (bs.map ts)) (_:ns.length<=63) (_ : β = b) (_:1<=b) (_:n+D b<=1000000000000) (_:WoOk R W) (_:bs.length+b<=1000) (_:(∀x∈bs,R.X x)) (_:0<=tm) (_:tm*5 ^ b<=1000000000) (_:∀(e:E) n' z' r t,Ex R b e->e.inn+Z3g r<=Z3g W.room->rt bs e=true->n'<=n+D b->k (.fz (E.tv e)) [.own (Z05 ns n' z'),.own (Z0s (W.at r t)),s,fi β,fi tm]):spExpr R b args k
def kinds3:List Str:=["let","set","say"]
inductive spBound (R:Rl)(b:Nat)(args:List Sl)(k:(Sl->List Sl->Prop)):Prop
 |mk (ns:List Int) (n:Nat) (z:Int) (W:Wo) (s:Sl) (bs:List Str) (β tm:Int) (kd:Str) (_:args = [.own (Z05 ns n z),.own (Z0s W),s,fi β,fi tm,fs kd]) (_:Zks s (bs.map ts)) (_:kd∈kinds3) (_:ns.length<=63) (_ : β - 1=b) (_:1<=b) (_:n+10+2*D b<=1000000000000) (_:WoOk R W) (_:bs.length+b+1<=1000) (_:(∀x∈bs,R.X x)) (_:0<=tm) (_:tm*5 ^ b<=1000000000) (_:∀(e:E) n' z' r t,Ex R (b+1) e->e.inn+Z3g r<=1+Z3g W.room->rt bs e=true->n'<=n+10+2*D b->k (.fz (E.tv e)) [.own (Z05 ns n' z'),.own (Z0s (W.at r t)),s,fi β,fi tm,fs kd]):spBound R b args k
theorem Z5v {Γ : Gm}{bs:List Str}{a0:Sl}{rest:List Sl}{k:List Tv->Ms->Prop}(hA:(a0 = .out 0/\rest = [.own (.lst (bs.map ts))])∨(a0 = .fz (.lst (bs.map ts))/\rest = [])):
  ∀(l acc:List Str) (s:Option Sl),(∀(ys:List Str) s',(∀y∈ys,y∈acc∨(y∈l/\y∉bs))->ys.length<=acc.length+l.length->k (ys.map ts) ⟨[some a0,s'],rest,[]⟩)->Z03 (bd (.nm 1)) (sem Γ (.cmp .notin (.var 1) (.var 0))).t (sem Γ (.var 1)).e k (l.map ts) (acc.map ts) ⟨[some a0,s],rest,[]⟩
 |[],acc,s,q=>q acc s (fun y h=>.inl h) (by simp)
 |x::l,acc,s,q=>by
  have h1:x∉bs->∀s,Z03 (bd (.nm 1)) (sem Γ (.cmp .notin (.var 1) (.var 0))).t (sem Γ (.var 1)).e k (l.map ts) (acc.map ts ++ [ts x]) ⟨[some a0,s],rest,[]⟩:=fun hxb s=>by
   have e:acc.map ts ++ [ts x]=(acc ++ [x]).map ts:=by simp
   rw[e]
   refine Z5v hA l (acc ++ [x]) s fun ys s' h hl=>q ys s' (fun y hy=>?_) (by simp at hl ⊢;lia)
   rcases h y hy with z|z
   ·rcases mem_append.mp z with z|z
    ·exact .inl z
    ·simp at z;exact .inr ⟨z▸mem_cons_self,z▸hxb⟩
   ·exact .inr ⟨mem_cons_of_mem _ z.1,z.2⟩
  have h2:∀s,Z03 (bd (.nm 1)) (sem Γ (.cmp .notin (.var 1) (.var 0))).t (sem Γ (.var 1)).e k (l.map ts) (acc.map ts) ⟨[some a0,s],rest,[]⟩:=fun s=>
   Z5v hA l acc s fun ys s' h hl=>q ys s' (fun y hy=>(h y hy).elim .inl fun z=>.inr ⟨mem_cons_of_mem _ z.1,z.2⟩) (by simp at hl ⊢;lia)
  rcases hA with ⟨rfl,rfl⟩|⟨rfl,rfl⟩
  ·exact⟨⟨Z1w bs,rfl⟩,Z0k (fun g=>h1 (fun z=>by rw[(Z3f x bs).mpr z] at g;exact absurd g (by decide)) _) (fun g=>h2 _)⟩
  ·exact⟨⟨Z1w bs,rfl⟩,Z0k (fun g=>h1 (fun z=>by rw[(Z3f x bs).mpr z] at g;exact absurd g (by decide)) _) (fun g=>h2 _)⟩
theorem Zuk (bs:List Str)(y:Str):Zks (.own (.lst (bs.map ts ++ [ts y]))) ((bs ++ [y]).map ts):=.inl (by rw[map_append];rfl)
theorem Zjf (R:Rl)(b:Nat):∀args k,spBound R b args k->nrm (Z0j (Z5m spDraw (spExpr R b)) Z5l) (Z02 args k) (Z09 9 args):=by
 rintro args k ⟨ns,n,z,W,s,bs,β,tm,kd,rfl,hs,hkd,hl,hβ,hb,hn,hW,hbs,hbX,ht0,ht1,q⟩
 have hn1:=hW.n1
 have hl1:=hW.l1
 have D0:=Znz b
 have app:∀(a b:List Str),a.map ts++b.map ts=(a++b).map ts:=fun a b=>by simp
 have X2:∀x∈W.names++W.lets,R.X x:=fun x hx=>(mem_append.mp hx).elim (hW.nX x) (hW.lX x)
 have e1:∀{w:Wd} {e:E},Ar R w 1->Ex R b e->Ex R (b+1) (.nd w [e]):=fun h he=>.mk h fun k hk=>by simp at hk;subst hk;exact he
 have e2:∀{w:Wd} {e e':E},Ar R w 2->Ex R b e->Ex R b e'->Ex R (b+1) (.nd w [e,e']):=fun h he he'=>.mk h fun k hk=>by simp at hk;rcases hk with rfl|rfl <;> assumption
 have hkd':kd="let"∨kd="set"∨kd="say":=by simpa [kinds3] using hkd
 rcases hs with rfl|rfl
 all_goals
  refine⟨by rw[length_map];lia,rfl,Z5v (bs:=bs) (by first|exact .inl ⟨rfl,rfl⟩|exact .inr ⟨rfl,rfl⟩) W.names [] none fun ys s' hy hyl=>?_⟩
  have hyX:∀y∈ys,R.X y:=fun y h=>by
   rcases hy y h with z|z
   ·cases z
   ·exact hW.nX y z.1
  have hyl':ys.length<=40:=by simp at hyl;lia
  have hyb:∀y∈ys,y∉bs:=fun y h=>by
   rcases hy y h with z|z
   ·cases z
   ·exact z.2
  rcases hkd' with rfl|rfl|rfl
  ·refine⟨by show(W.names.map ts).length+(W.lets.map ts).length<=_;rw[length_map,length_map];lia,?_⟩
   rw[app]
   have ne:W.names++W.lets ≠ []:=fun h=>hW.n0 (List.append_eq_nil_iff.mp h).1
   refine⟨rfl,ns,n,z,_,rfl,hl,by lia,Zc3 ne,by rw[length_map,length_append];lia,fun r n1 z1 r0 r1 hn2=>?_⟩
   obtain⟨y,e,hy⟩:=Z9m r0 r1
   refine bx e ⟨rfl,ns,n1,z1,W,_,bs,_,tm,rfl,by first|exact .inl rfl|exact .inr rfl,hl,hβ,hb,by lia,hW,by lia,hbX,ht0,ht1,fun e1 n2 z2 r2 t2 he1 hi1 hr1 hn3=>?_⟩
   refine⟨by show(bs.map ts).length+1<=_;rw[length_map];lia,rfl,ns,n2,z2,W.at r2 t2,_,bs ++ [y],_,tm,rfl,Zuk bs y,hl,hβ,hb,by lia,hW.at _ _,by rw[length_append];show bs.length+1+b<=_;lia,fun x hx=>(mem_append.mp hx).elim (hbX x) fun h=>by simp at h;exact h▸X2 y hy,ht0,ht1,fun e3 n3 z3 r3 t3 he3 hi3 hr3 hn4=>?_⟩
   exact q (.nd (.lt y) [e1,e3]) n3 z3 r3 t3 (e2 ⟨rfl,X2 y hy⟩ he1 he3) (by have hi3':e3.inn+Z3g r3<=Z3g r2:=hi3;simp only [Tree.inn,Tree.innL,isEmpty_cons,Bool.false_eq_true,if_false];lia) (by simp only [rt,rtL,rtH,exB,hr1,hr3];rfl) (by lia)
  ·refine Z0k (fun g=>?_) (fun g=>?_)
   ·have ne:=Zat g
    refine⟨rfl,ns,n,z,_,rfl,hl,by lia,Zc3 ne,by rw[length_map];lia,fun r n1 z1 r0 r1 hn2=>?_⟩
    obtain⟨y,e,hy⟩:=Z9m r0 r1
    refine bx e ⟨rfl,ns,n1,z1,W,_,bs,_,tm,rfl,by first|exact .inl rfl|exact .inr rfl,hl,hβ,hb,by lia,hW,by lia,hbX,ht0,ht1,fun e3 n2 z2 r2 t2 he1 hi1 hr1 hn3=>?_⟩
    exact q (.nd (.st y) [e3]) n2 z2 r2 t2 (e1 ⟨rfl,hyX y hy⟩ he1) (by simp only [Tree.inn,Tree.innL,isEmpty_cons,Bool.false_eq_true,if_false];lia) (Zja (w:=.st y) (by simpa [rtH] using hyb y hy) rfl fun k hk=>by simp at hk;subst hk;exact hr1) (by lia)
   ·refine⟨rfl,ns,n,z,W,_,bs,_,tm,rfl,by first|exact .inl rfl|exact .inr rfl,hl,hβ,hb,by lia,hW,by lia,hbX,ht0,ht1,fun e3 n2 z2 r2 t2 he1 hi1 hr1 hn3=>?_⟩
    exact q (.nd .say [e3]) n2 z2 r2 t2 (e1 rfl he1) (by simp only [Tree.inn,Tree.innL,isEmpty_cons,Bool.false_eq_true,if_false];lia) (by simp only [rt,rtL,rtH,exB,hr1];rfl) (by lia)
  ·refine⟨rfl,ns,n,z,W,_,bs,_,tm,rfl,by first|exact .inl rfl|exact .inr rfl,hl,hβ,hb,by lia,hW,by lia,hbX,ht0,ht1,fun e3 n2 z2 r2 t2 he1 hi1 hr1 hn3=>?_⟩
   exact q (.nd .say [e3]) n2 z2 r2 t2 (e1 rfl he1) (by simp only [Tree.inn,Tree.innL,isEmpty_cons,Bool.false_eq_true,if_false];lia) (by simp only [rt,rtL,rtH,exB,hr1];rfl) (by lia)
theorem Z5w {R:Rl}{b:Nat}{bs:List Str}{ns:List Int}{a2:Sl}{rest:List Sl}{tm bl:Sl}{we:TW}{k:List Tv->Ms->Prop}
  (hw:∀(n:Nat) (z:Int) (W:Wo) (s:Option Sl) (k':Ev->Ms->Prop),n+D b<=1000000000000->WoOk R W->(∀(e:E) n' z' r' t',Ex R b e->e.inn+Z3g r'<=Z3g W.room->rt bs e=true->n'<=n+D b->k' (.fz (E.tv e)) ⟨[some (.out 0),some (.out 1),some a2,some tm,some bl,s],.own (Z05 ns n' z') :: .own (Z0s (W.at r' t'))::rest,[]⟩)->we ⟨[some (.out 0),some (.out 1),some a2,some tm,some bl,s],.own (Z05 ns n z) :: .own (Z0s W)::rest,[]⟩ k'):
  ∀(l:List Tv) (es:List E) (n:Nat) (z:Int) (W:Wo) (s:Option Sl),n+l.length*D b<=1000000000000->WoOk R W->(∀e∈es,Ex R b e/\rt bs e=true) →
   (∀(es':List E) n' z' r' t' s',es'.length=es.length+l.length->(∀e∈es',Ex R b e/\rt bs e=true)->Tree.innL es'+Z3g r'<=Tree.innL es+Z3g W.room->n'<=n+l.length*D b->k (E.tvL es') ⟨[some (.out 0),some (.out 1),some a2,some tm,some bl,s'],.own (Z05 ns n' z') :: .own (Z0s (W.at r' t'))::rest,[]⟩) →
   Z03 (bd (.nm 5)) (fun M k=>k true M) we k l (E.tvL es) ⟨[some (.out 0),some (.out 1),some a2,some tm,some bl,s],.own (Z05 ns n z) :: .own (Z0s W)::rest,[]⟩
 |[],es,n,z,W,s,hn,hW,he,q=>q es n z W.room W.toil s rfl he (Nat.le_refl _) (by simp)
 |t::l,es,n,z,W,s,hn,hW,he,q=>by
  have hm:(t::l).length*D b=l.length*D b+D b:=by rw[length_cons,Nat.succ_mul]
  rw[hm] at hn
  refine hw n z W _ _ (by lia) hW fun e n' z' r' t' h1 hi hr9 h2=>?_
  have e1:E.tvL es ++ [E.tv e]=E.tvL (es ++ [e]):=by simp only [E.tvL,Z0h,map_append];rfl
  show Z03 _ _ _ _ l (E.tvL es ++ [E.tv e]) _
  rw[e1]
  refine Z5w hw l (es ++ [e]) n' z' (W.at r' t') _ (by lia) (hW.at _ _) (fun x hx=>(mem_append.mp hx).elim (he x) fun h=>by simp at h;exact h▸⟨h1,hr9⟩) fun es' n2 z2 r2 t2 s2 hl2 h3 hi2 h4=>q es' n2 z2 r2 t2 s2 (by rw[hl2,length_append,length_cons];simp;lia) h3 (by have hi2':Tree.innL es'+Z3g r2<=Tree.innL (es ++ [e])+Z3g r':=hi2;rw[Zc2] at hi2';simp only [Tree.innL] at hi2';lia) (by rw[hm];lia)
inductive spCalled (R:Rl)(b:Nat)(args:List Sl)(k:(Sl->List Sl->Prop)):Prop
 |mk (ns:List Int) (n:Nat) (z:Int) (W:Wo) (s:Sl) (bs:List Str) (β tm:Int) (_:args = [.own (Z05 ns n z),.own (Z0s W),s,fi β,fi tm]) (_:Zks s (bs.map ts)) (_:ns.length<=63) (_ : β - 1=b) (_:1<=b) (_:n+20+6*D b<=1000000000000) (_:WoOk R W) (_:bs.length+b+1<=1000) (_:(∀x∈bs,R.X x)) (_:0<=tm) (_:tm*5 ^ b<=1000000000) (_:∀(e:E) n' z' r t,Ex R (b+1) e->e.inn+Z3g r<=1+Z3g W.room->rt bs e=true->n'<=n+20+6*D b->k (.fz (E.tv e)) [.own (Z05 ns n' z'),.own (Z0s (W.at r t)),s,fi β,fi tm]):spCalled R b args k
theorem Zrw {tm:Int}{b:Nat}(h0:0<=tm)(h:tm*5 ^ b<=1000000000):tm<=1000000000:=by
 have h5:(1:Int)<=5 ^ b:=by
  have:0<5 ^ b:=Nat.pos_of_ne_zero (by simp)
  have e:((5 ^ b:Nat):Int)=(5:Int) ^ b:=by simp
  lia
 have:=Int.mul_le_mul_of_nonneg_left h5 h0
 lia
theorem Zge (R:Rl)(b:Nat):∀args k,spCalled R b args k->nrm (Z0j (Z41 (spLeaf R) spDraw (spExpr R b)) Z40) (Z02 args k) (Z09 8 args):=by
 rintro args k ⟨ns,n,z,W,s,bs,β,tm,rfl,hs,hl,hβ,hb,hn,hW,hbs,hbX,ht0,ht1,q⟩
 have D0:=Znz b
 have tm1:=Zrw ht0 ht1
 have hf1:=hW.f1
 rcases hs with rfl|rfl
 all_goals
  have leaf:∀(n1:Nat) (z1:Int),n1<=n+1->∀(e:E) n' z',Ex R 1 e->e.inn=0->(∀b,rt b e=true)->n'<=n1+10->k (.fz (E.tv e)) [.own (Z05 ns n' z'),.own (Z0s W),_,fi β,fi tm]:=fun n1 z1 h1 e n' z' he hi hr hn'=>q e n' z' W.room W.toil (he.up (by lia)) (by lia) (hr _) (by lia)
  refine Z0k (fun g=>?_) (fun g=>?_)
  ·exact⟨rfl,ns,n,z,W,_,bs,rfl,by first|exact .inl rfl|exact .inr rfl,hl,by lia,hW,by lia,hbX,leaf n z (by lia)⟩
  have ne:W.fs ≠ []:=fun h=>g (by rw[h];rfl)
  have flen:((W.fs.map fnT).length:Int)=W.fs.length:=by rw[length_map]
  have fpos:=length_pos_iff.mpr ne
  refine⟨rfl,ns,n,z,_,rfl,hl,by lia,by lia,by lia,fun r n1 z1 r0 r1 hn1=>?_⟩
  obtain⟨t,e,ht⟩:=Z0r (l:=W.fs.map fnT) (i:=r) r0 r1
  obtain⟨p,hp,rfl⟩:=mem_map.mp ht
  obtain⟨pA,pN,p6,i,pi⟩:=hW.fA p hp
  refine bx e (bx pi ⟨Z26 (by lia) (by lia),⟨Z26 (by decide) (by decide),Z0k (fun g=>?_) (fun g=>?_)⟩⟩)
  ·exact⟨rfl,ns,n1,z1,W,_,bs,rfl,by first|exact .inl rfl|exact .inr rfl,hl,by lia,hW,by lia,hbX,leaf n1 z1 (by lia)⟩
  have rl:(Z8j (((p.2:Nat):Int).toNat)).length=p.2:=by unfold Z8j;rw[length_map,length_range];lia
  have e6:p.2*D b<=6*D b:=Nat.mul_le_mul_right _ p6
  refine⟨by show 8<16777216;decide,⟨by lia,by lia⟩,by rw[rl];lia,rfl,Z5w (R:=R) (b:=b) (bs:=bs) (ns:=ns) (tm:=fi tm) (bl:=fi β) (fun n z W s k' hn hW q'=>?_) _ [] n1 z1 (W.at W.room (W.toil-tm*i)) none (by rw[rl];lia) (hW.at _ _) (fun e h=>by cases h) (fun es n2 z2 r2 t2 s2 hl2 he hi2 hn2=>?_)⟩
  ·exact⟨rfl,ns,n,z,W,_,bs,_,tm,rfl,by first|exact .inl rfl|exact .inr rfl,hl,hβ,hb,hn,hW,by lia,hbX,ht0,ht1,q'⟩
  ·rw[rl] at hl2 hn2
   have hl2':es.length=p.2:=by simpa using hl2
   refine⟨by show 2+(E.tvL es).length<=_;rw[Z0f];lia,?_⟩
   exact q (.nd (.call p.1) es) n2 z2 r2 t2 (.mk ⟨by lia,pN,by rw[hl2'];exact pA⟩ fun e h=>(he e h).1) (by have hi2':Tree.innL es+Z3g r2<=0+Z3g W.room:=hi2;rw[Tree.inn];split <;> lia) (Zja rfl rfl fun e h=>(he e h).2) (by lia)
def kindsL:List Str:=["op","op","do","pick","let","set","say","do","again","call","pick","op","leaf","let"]
def signS:Str:="+-*/<="
theorem Zgf:∀c∈signS.cps.toList,(⟨#[c]⟩:Str)∈signsL:=by decide+kernel
theorem Zgg:signS.cps.toList.length=6:=by decide+kernel
theorem xf {b:Bool}(h:(false ^^ b)=true):b=true:=by simpa using h
theorem Z1c {l:List Tv}{r:Int}{P:Tv->Prop}(h:∀t∈l,P t)(r0:0<=r)(r1:r<l.length):∃t,Z8i l r=some t/\P t:=by
 obtain⟨t,e,ht⟩:=Z0r r0 r1
 exact⟨t,e,h t ht⟩
def Zwc (R:Rl)(a2:Sl)(rest:List Sl)(ns:List Int)(n:Nat)(β tm:Int)(kd:Str)(W:Wo)(M:Ms):Prop:=∃(w:Wd) (m n':Nat) (z':Int),M=⟨[some (.out 0),some (.out 1),some a2,some (fi β),some (fi tm),some (.own (.lst (kindsL.map ts))),some (fs kd),some (fi m),some (.own (.lst (w.hd.map Tv.at)))],.own (Z05 ns n' z') :: .own (Z0s W)::rest,[]⟩/\Ar R w m/\m<=6/\(∀b,rtH b w=true/\exB b w=b)/\n'<=n
theorem Zo0 (R:Rl)(b:Nat):∀args k,spExpr R (b+1) args k->nrm (Z0j (Z84 spDraw (spLeaf R) (spCalled R b) (spBound R b) (spExpr R b)) Z83) (Z02 args k) (Z09 9 args):=by
 rintro args k ⟨ns,n,z,W,s,bs,β,tm,rfl,hs,hl,hβ,hb,hn,hW,hbs,hbX,ht0,ht1,q⟩
 have D0:=Znz b
 have D1:=Zrv b
 have tm1:=Zrw ht0 ht1
 have p5:tm*5 ^ b<=1000000000:=by
  have h5:(0:Int)<=5 ^ b:=by
   have e:((5 ^ b:Nat):Int)=(5:Int) ^ b:=by simp
   rw[<- e];exact Int.natCast_nonneg _
  have:=Int.mul_nonneg ht0 h5
  have e:tm*5 ^ (b+1)=5*(tm*5 ^ b):=by rw[Int.pow_succ];rw[<- Int.mul_assoc];lia
  lia
 have W1:=hW.at (W.room-1) (W.toil-tm)
 rcases hs with rfl|rfl
 all_goals
  refine⟨by show 8<16777216;decide,by show 8<16777216;decide,rfl,ns,n,z,14,rfl,hl,by lia,by decide,by decide,fun r n1 z1 r0 r1 hn1=>?_⟩
  obtain⟨t,e,ht⟩:=Z0r (l:=kindsL.map ts) (i:=r) r0 r1
  obtain⟨kd,hkd,rfl⟩:=mem_map.mp ht
  refine bx e ?_
  have leaf:∀(e:E) n' z',Ex R 1 e->e.inn=0->(∀b,rt b e=true)->n'<=n1+10->k (.fz (E.tv e)) [.own (Z05 ns n' z'),.own (Z0s (W.at (W.room-1) (W.toil-tm))),_,fi β,fi tm]:=fun e n' z' he hi hr hn'=>q e n' z' _ _ (he.up (by lia)) (by unfold Z3g;lia) (hr _) (by lia)
  refine Z0k (fun g=>?_) (fun g=>Z0k (fun _=>?_) (fun gr=>⟨Z26 (by decide) (by decide),Z0k (fun _=>?_) (fun _=>Z0k (fun _=>?_) (fun gl=>?_))⟩))
  ·exact⟨rfl,ns,n1,z1,W.at (W.room-1) (W.toil-tm),_,bs,rfl,by first|exact .inl rfl|exact .inr rfl,hl,by lia,W1,by lia,hbX,leaf⟩
  ·exact⟨rfl,ns,n1,z1,W.at (W.room-1) (W.toil-tm),_,bs,rfl,by first|exact .inl rfl|exact .inr rfl,hl,by lia,W1,by lia,hbX,leaf⟩
  ·exact⟨rfl,ns,n1,z1,W.at (W.room-1) (W.toil-tm),_,bs,rfl,by first|exact .inl rfl|exact .inr rfl,hl,by lia,W1,by lia,hbX,leaf⟩
  ·exact⟨rfl,ns,n1,z1,W.at (W.room-1) (W.toil-tm),_,bs,rfl,by first|exact .inl rfl|exact .inr rfl,hl,by lia,W1,by lia,hbX,leaf⟩
  have hr6:¬W.room-1<6:=fun h=>gr (decide_eq_true h)
  have cl:Z3g W.room=1+Z3g (W.room-1):=by unfold Z3g;lia
  have b1:1<=b:=by
   rcases Nat.eq_zero_or_pos b with h|h
   ·exact absurd (by simp;lia) g
   ·exact h
  refine Z0k (fun _=>?_) (fun _=>⟨⟨Z1w kinds3,rfl⟩,Z0k (fun g3=>?_) (fun _=>Z0k (fun _=>?_) (fun _=>?_))⟩)
  ·exact⟨rfl,ns,n1,z1,W.at (W.room-1) (W.toil-tm),_,bs,β,tm,rfl,by first|exact .inl rfl|exact .inr rfl,hl,by lia,b1,by lia,W1,by lia,hbX,ht0,p5,fun e n' z' r t he hi hr hn'=>q e n' z' r t he (by rw[cl];exact hi) hr (by lia)⟩
  ·have h3:kd∈kinds3:=(Z3f kd kinds3).mp (xf g3)
   exact⟨rfl,ns,n1,z1,W.at (W.room-1) (W.toil-tm),_,bs,β,tm,kd,rfl,by first|exact .inl rfl|exact .inr rfl,h3,hl,by lia,b1,by lia,W1,by lia,hbX,ht0,p5,fun e n' z' r t he hi hr hn'=>q e n' z' r t he (by rw[cl];exact hi) hr (by lia)⟩
  ·
   refine⟨rfl,ns,n1,z1,6,rfl,hl,by lia,by decide,by decide,fun r2 n2 z2 r20 r21 hn2=>?_⟩
   obtain⟨t,e,m,rfl,m0,m5⟩:=Z1c (l:=[ti 2,ti 3,ti 0,ti 1,ti 5,ti 2]) (P:=fun t=>∃m:Int,t=ti m/\0<=m/\m<=5) (by
    intro t ht
    simp only [mem_cons,not_mem_nil,or_false] at ht
    rcases ht with rfl|rfl|rfl|rfl|rfl|rfl <;> exact⟨_,rfl,by decide,by decide⟩) r20 r21
   refine bx e ⟨fun M=>∃m:Int,0<=m/\m<=5/\M=⟨[some (.out 0),some (.out 1),_,some (fi β),some (fi tm),some (.own (.lst (kindsL.map ts))),some (fs kd),some (fi m),none],.own (Z05 ns n2 z2) :: .own (Z0s (W.at (W.room-1) (W.toil-tm)))::_,[]⟩,⟨Z26 (by decide) (by decide),Z9f (by lia) (by lia),Z0k (fun _=>⟨1,by decide,by decide,rfl⟩) (fun _=>⟨m,m0,m5,rfl⟩)⟩,?_⟩
   rintro M ⟨m,m0,m5,rfl⟩
   have t0:0<=tm*m:=Int.mul_nonneg ht0 m0
   have t5:tm*m*5 ^ b<=1000000000:=by
    have h5:(0:Int)<=5 ^ b:=by
     have e:((5 ^ b:Nat):Int)=(5:Int) ^ b:=by simp
     rw[<- e];exact Int.natCast_nonneg _
    have h1:tm*m<=tm*5:=Int.mul_le_mul_of_nonneg_left m5 ht0
    have h2:=Int.mul_le_mul_of_nonneg_right h1 h5
    have e:tm*5 ^ (b+1)=tm*5*5 ^ b:=by rw[Int.pow_succ,Int.mul_assoc,Int.mul_comm 5 (5 ^ b)]
    lia
   refine⟨Z9f (by lia) (by lia),rfl,ns,n2,z2,W.at (W.room-1) (W.toil-tm),_,bs,β - 1,tm*m,rfl,by first|exact .inl rfl|exact .inr rfl,hl,by lia,b1,by lia,W1,by lia,hbX,t0,t5,fun e n' z' r t he hi hr9 hn'=>?_⟩
   exact q (.nd (.again m) [e]) n' z' r t (.mk ⟨rfl,m0,m5⟩ fun k hk=>by simp at hk;subst hk;exact he) (by have hi':e.inn+Z3g r<=Z3g (W.room-1):=hi;simp only [Tree.inn,Tree.innL,isEmpty_cons,Bool.false_eq_true,if_false];lia) (Zja rfl rfl fun k hk=>by simp at hk;subst hk;exact hr9) (by lia)
  ·refine⟨rfl,ns,n1,z1,6,rfl,hl,by lia,by decide,by decide,fun r2 n2 z2 r20 r21 hn2=>?_⟩
   obtain⟨t,e,m,rfl,m1,m6⟩:=Z1c (l:=[ti 2,ti 3,ti 1,ti 2,ti 4,ti 6]) (P:=fun t=>∃m:Nat,t=ti m/\1<=m/\m<=6) (by
    intro t ht
    simp only [mem_cons,not_mem_nil,or_false] at ht
    rcases ht with rfl|rfl|rfl|rfl|rfl|rfl
    ·exact⟨2,rfl,by decide,by decide⟩
    ·exact⟨3,rfl,by decide,by decide⟩
    ·exact⟨1,rfl,by decide,by decide⟩
    ·exact⟨2,rfl,by decide,by decide⟩
    ·exact⟨4,rfl,by decide,by decide⟩
    ·exact⟨6,rfl,by decide,by decide⟩) r20 r21
   refine bx e ⟨Zwc R _ _ ns (n+2) β tm kd (W.at (W.room-1) (W.toil-tm)),Z0k (fun _=>⟨.pick,3,n2,z2,rfl,rfl,by decide,fun _=>⟨rfl,rfl⟩,by lia⟩) (fun _=>⟨.do,m,n2,z2,rfl,⟨m1,m6⟩,m6,fun _=>⟨rfl,rfl⟩,by lia⟩),?_⟩
   rintro M ⟨w,m,n3,z3,rfl,hAr,hm6,hw9,hn3⟩
   refine⟨Zwc R _ _ ns (n+3) β tm kd (W.at (W.room-1) (W.toil-tm)),Z0k (fun _=>?_) (fun _=>⟨w,m,n3,z3,rfl,hAr,hm6,hw9,by lia⟩),?_⟩
   ·refine⟨rfl,ns,n3,z3,6,rfl,hl,by lia,by decide,by decide,fun r3 n4 z4 r30 r31 hn4=>?_⟩
    obtain⟨c,ec,hc⟩:=Z0r (l:=signS.cps.toList) (i:=r3) r30 (by rw[Zgg];exact r31)
    exact bx (o:=(Z8i signS.cps.toList r3).map fun c=>.at (.str ⟨#[c]⟩)) (t:=ts ⟨#[c]⟩) (by rw[ec];rfl) ⟨.op ⟨#[c]⟩,2,n4,z4,rfl,⟨rfl,Zgf c hc⟩,by decide,fun _=>⟨rfl,rfl⟩,by lia⟩
   rintro M ⟨w,m,n4,z4,rfl,hAr,hm6,hw9,hn4⟩
   have rl:(Z8j (((m:Nat):Int).toNat)).length=m:=by unfold Z8j;rw[length_map,length_range];lia
   have e6:m*D b<=6*D b:=Nat.mul_le_mul_right _ hm6
   refine⟨⟨by lia,by lia⟩,by rw[rl];lia,rfl,Z5w (R:=R) (b:=b) (bs:=bs) (ns:=ns) (tm:=fi tm) (bl:=fi β) (fun n z W s k' hn hW q'=>?_) _ [] n4 z4 (W.at (W.room-1) (W.toil-tm)) none (by rw[rl];lia) W1 (fun e h=>by cases h) (fun es n5 z5 r5 t5 s5 hl5 he hi5 hn5=>?_)⟩
   ·exact⟨rfl,ns,n,z,W,_,bs,_,tm,rfl,by first|exact .inl rfl|exact .inr rfl,hl,by lia,b1,hn,hW,by lia,hbX,ht0,p5,q'⟩
   ·rw[rl] at hl5 hn5
    have hl5':es.length=m:=by simpa using hl5
    have h2:=(Z89 w).2.2
    refine⟨by show(w.hd.map Tv.at).length+(E.tvL es).length<=_;rw[Z0f,length_map];lia,?_⟩
    exact q (.nd w es) n5 z5 r5 t5 (.mk (by rw[hl5'];exact hAr) fun e h=>(he e h).1) (by have hi5':Tree.innL es+Z3g r5<=0+Z3g (W.room-1):=hi5;rw[Tree.inn];split <;> lia) (Zja (hw9 _).1 (hw9 _).2 fun e h=>(he e h).2) (by lia)
def Zww (s:Sl)(l:List (Key×Tv)):Prop:=s = .own (.dic l)∨s = .fz (.dic l)
inductive spWorld (args:List Sl)(k:(Sl->List Sl->Prop)):Prop
 |mk (s1 s2:Sl) (names lets:List Str) (fs:List (Str×Nat)) (ws:List (Key×Tv)) (r t:Int) (_:args = [s1,s2,.own (.lst (fs.map fnT)),.own (.dic ws),fi r,fi t]) (_:((s1 = .own (.lst (names.map ts))/\s2 = .own (.lst (lets.map ts)))∨(s1 = .fz (.lst (names.map ts))/\s2 = .fz (.lst (lets.map ts))))) (_:k (.own (Z0s ⟨names,lets,fs,ws,[],r,t⟩)) [.fz (.lst (names.map ts)),.fz (.lst (lets.map ts)),.fz (.lst (fs.map fnT)),.fz (.dic ws),fi r,fi t]):spWorld args k
theorem Zjg:∀args k,spWorld args k->nrm (Z0j Z5o Z5n) (Z02 args k) (Z09 6 args):=by
 rintro args k ⟨s1,s2,names,lets,fs,ws,r,t,rfl,h1,q⟩
 rcases h1 with ⟨rfl,rfl⟩|⟨rfl,rfl⟩ <;> exact⟨rfl,q⟩
inductive spWork (R:Rl)(N:Nat)(args:List Sl)(k:(Sl->List Sl->Prop)):Prop
 |mk (e:E) (s:Sl) (ws:List (Key×Tv)) (_:args = [.fz (E.tv e),s]) (_:Zww s ws) (_:Ex R N e) (_:(∀(f:Str) (m:Nat),R.A f m->∃i,Z07 ws (.inr f)=some (ti i))) (_:∀i,k (fi i) [.fz (E.tv e),s]):spWork R N args k
theorem Z9n {R:Rl}{N:Nat}{ws:List (Key×Tv)}{a0:Sl}{rest:List Sl}{k:List Tv->Ms->Prop}(hA:(a0 = .out 0/\rest = [.own (.dic ws)])∨(a0 = .fz (.dic ws)/\rest = []))(hw:∀(f:Str) (m:Nat),R.A f m->∃i,Z07 ws (.inr f)=some (ti i)):
  ∀(ks:List E) (acc:List Int) (s:Option Sl),(∀e∈ks,Ex R N e)->(∀(is:List Int) (s':Option Sl),k (is.map ti) ⟨[some a0,s'],rest,[]⟩)->Z03 (bd (.nm 1)) (sem (Z1r spPartsE (spWork R N)) .tt).t (sem (Z1r spPartsE (spWork R N)) (.call 1 (.cons (.var 1) (.cons (.var 0) .nil)))).e k (E.tvL ks) (acc.map ti) ⟨[some a0,s],rest,[]⟩
 |[],acc,s,_,q=>q acc s
 |e::ks,acc,s,h,q=>by
  have h1:∀i s,Z03 (bd (.nm 1)) (sem (Z1r spPartsE (spWork R N)) .tt).t (sem (Z1r spPartsE (spWork R N)) (.call 1 (.cons (.var 1) (.cons (.var 0) .nil)))).e k (E.tvL ks) (acc.map ti ++ [ti i]) ⟨[some a0,s],rest,[]⟩:=fun i s=>by
   have e1:acc.map ti ++ [ti i]=(acc ++ [i]).map ti:=by simp
   rw[e1]
   exact Z9n hA hw ks (acc ++ [i]) s (fun x hx=>h x (mem_cons_of_mem _ hx)) q
  have he:=h e mem_cons_self
  rcases hA with ⟨rfl,rfl⟩|⟨rfl,rfl⟩
  ·exact⟨rfl,e,_,ws,rfl,.inl rfl,he,hw,fun i=>h1 i _⟩
  ·exact⟨rfl,e,_,ws,rfl,.inr rfl,he,hw,fun i=>h1 i _⟩
theorem Zo1 (R:Rl)(N:Nat):∀args k,spWork R (N+1) args k->nrm (Z0j (Z1r spPartsE (spWork R N)) Z80) (Z02 args k) (Z09 3 args):=by
 rintro args k ⟨e,s,ws,rfl,hs,he,hw,q⟩
 cases he with
 | @mk _ w ks h hk=>
  have hl:=h.le
  rcases hs with rfl|rfl
  all_goals
   refine⟨rfl,w,ks,rfl,by lia,by rw[Z0f];lia,rfl,Z9n (ws:=ws) (by first|exact .inl ⟨rfl,rfl⟩|exact .inr ⟨rfl,rfl⟩) hw ks [] none hk fun is s'=>?_⟩
   refine⟨fun t ht=>by obtain⟨u,_,rfl⟩:=mem_map.mp ht;exact⟨_,rfl⟩,?_⟩
   cases w with
   |again m=>exact⟨Z26 (by have:=h.2.1;lia) (by have:=h.2.2;lia),q _⟩
   |call f=>obtain⟨i,hi⟩:=hw f _ h.2.2;exact bx hi (q _)
   |_=>exact q _
structure Fd where
 nm:Str
 ps:List Str
 bd:E
def Fd.tv (f:Fd):Tv:=.tup [ts f.nm,.tup (f.ps.map ts),E.tv f.bd]
def Rp (pool:List Str)(fs:List Fd):Rl:=⟨fun x=>x∈pool,fun g m=>∃f∈fs,f.nm=g/\f.ps.length=m⟩
def NW (x:Str):Prop:=Nm x/\x∉wordsL
structure FdOk (pool:List Str)(fs:List Fd)(f:Fd):Prop where
 nm:NW f.nm
 nd:f.ps.Nodup
 l6:f.ps.length<=6
 sub:∀x∈f.ps,x∈pool
 bd:Ex (Rp pool fs) 4 f.bd
 bc:f.bd.cnt<=30
 rt:rt f.ps f.bd=true
def FoL (pool:List Str)(fs:List Fd):Prop:=∀(i:Nat) (f:Fd),fs[i]? = some f->FdOk pool (fs.take i) f
structure PgOk (pool:List Str)(fs:List Fd)(main:E):Prop where
 pl:pool.length<=6
 pn:∀x∈pool,NW x
 fl:fs.length<=3
 fo:FoL pool fs
 nd:(fs.map Fd.nm).Nodup
 mn:Ex (Rp pool fs) 7 main
 mc:main.cnt<=240
 mr:rt [] main=true
def pgT (fs:List Fd)(main:E):Tv:=.tup [.tup (fs.map Fd.tv),E.tv main]
def kn (fs:List Fd):List (Str×Nat):=fs.map fun f=>(f.nm,f.ps.length)
def Zgh:PSp:=fun args k=>∃R b,b<=7/\spExpr R b args k
def Zgi:PSp:=fun args k=>∃R,spWork R 4 args k
inductive spProg (args:List Sl)(k:(Sl->List Sl->Prop)):Prop
 |mk (ns:List Int) (n:Nat) (z r:Int) (_:args = [.own (Z05 ns n z),fi r]) (_:r<=40) (_:ns.length<=63) (_:n+100000000<=1000000000000) (_:∀pool fs main n' z',PgOk pool fs main->n'<=n+100000000->k (.fz (pgT fs main)) [.own (Z05 ns n' z'),fi r]):spProg args k
def rf:Nat->Nat->List Tv
 |_,0=>[]
 |i,j+1=>ti i::rf (i+1) j
theorem Zku:∀(j i:Nat),(List.range' i j).map (fun(a:Nat)=>ti (a:Int))=rf i j
 | 0,i=>rfl
 |j+1,i=>by rw[List.range'_succ,map_cons,Zku j (i+1)];rfl
theorem Zau (n:Nat):Z8j n=rf 0 n:=by unfold Z8j;rw[List.range_eq_range'];exact Zku n 0
theorem Z1j (l:List (Key×Tv))(k k':Key)(t:Tv):Z07 (Z6w l k t) k'=if k=k' then some t else Z07 l k':=by
 unfold Z6w
 split
 ·next h=>
  have:∀l:List (Key×Tv),l.any (fun p=>decide (p.1=k))=true->Z07 (l.map fun p=>if p.1=k then (p.1,t) else p) k'=if k=k' then some t else Z07 l k':=fun l=>by
   induction l with
   |nil=>intro h;cases h
   |cons p l ih=>
    obtain⟨a,b⟩:=p
    intro h
    by_cases ha:a=k
    ·subst ha
     by_cases hk:a=k'
     ·simp [Z07,hk]
     ·have:∀l:List (Key×Tv),Z07 (l.map fun p=>if p.1=a then (p.1,t) else p) k'=Z07 l k':=fun l=>by
       induction l with
       |nil=>rfl
       |cons q l ih2=>
        obtain⟨c,d⟩:=q
        by_cases hc:c=a
        ·subst hc;simp [Z07,hk];exact ih2
        ·simp only [map_cons,hc,if_false,Z07];rw[ih2]
      simp only [map_cons,if_true,Z07,hk,if_false]
      exact this l
    ·have h':l.any (fun p=>decide (p.1=k))=true:=by simpa [ha] using h
     simp only [map_cons,ha,if_false,Z07]
     by_cases hk:a=k'
     ·subst hk;rw[if_pos rfl,if_neg (fun z=>ha z.symm),if_pos rfl]
     ·rw[if_neg hk,if_neg hk];exact ih h'
  exact this l (by simpa using h)
 ·next h=>
  have h':∀p∈l,p.1≠k:=fun p hp z=>h (by simp only [any_eq_true];exact⟨p,hp,by simp [z]⟩)
  clear h
  induction l with
  |nil=>simp [Z07]
  |cons p l ih=>
   obtain⟨a,b⟩:=p
   have ha:=h' (a,b) mem_cons_self
   have ih:=ih fun q hq=>h' q (mem_cons_of_mem _ hq)
   simp only [cons_append,Z07]
   by_cases hk:a=k'
   ·subst hk;rw[if_pos rfl,if_neg (fun z=>ha z.symm),if_pos rfl]
   ·rw[if_neg hk,if_neg hk];exact ih
theorem Z5x {α : Type}(l:List α)(a:Nat):Z0o l (some (a:Int)) none=l.drop a:=by
 unfold Z0o
 rw[HT.sIx_nat]
 show(l.drop (min a l.length)).take (l.length-min a l.length)=l.drop a
 rcases Nat.le_total a l.length with h|h
 ·rw[Nat.min_eq_left h,take_of_length_le (by rw[length_drop];exact Nat.le_refl _)]
 ·rw[Nat.min_eq_right h,drop_eq_nil_of_le h];simp
theorem Z0y {α : Type}(l:List α)(a:Nat):Z0o l none (some (a:Int))=l.take a:=by
 unfold Z0o
 rw[HT.sIx_nat]
 show(l.drop 0).take (min a l.length-0)=l.take a
 rw[drop_zero,Nat.sub_zero]
 rcases Nat.le_total a l.length with h|h
 ·rw[Nat.min_eq_left h]
 ·rw[Nat.min_eq_right h,take_of_length_le (Nat.le_refl _),take_of_length_le h]
theorem Zgj {l:List Str}(h:l.Nodup)(a:Nat):(l.drop a++l.take a).Nodup:=by
 have e:(l.take a++l.drop a).Perm (l.drop a++l.take a):=List.perm_append_comm
 rw[take_append_drop] at e
 exact e.nodup_iff.mp h
theorem Z30 {Γ : Gm}{k:List Tv->Ms->Prop}:∀(l:List Fd) (acc:List Str) (s:Option Sl),(∀s',k ((acc++l.map Fd.nm).map ts) ⟨[s'],[],[]⟩)->Z03 (bd (.nm 0)) (sem Γ .tt).t (sem Γ (.ix (.var 0) (.cst (.int 0)))).e k (l.map Fd.tv) (acc.map ts) ⟨[s],[],[]⟩
 |[],acc,s,q=>by have:=q s;rw[map_nil,append_nil] at this;exact this
 |f::l,acc,s,q=>by
  have e1:acc.map ts ++ [ts f.nm]=(acc ++ [f.nm]).map ts:=by simp
  show Z03 _ _ _ _ (l.map Fd.tv) (acc.map ts ++ [ts f.nm]) _
  rw[e1]
  exact Z30 l (acc ++ [f.nm]) _ fun s'=>by simpa using q s'
structure PInv (P:List Str)(fs:List Fd)(ws:List (Key×Tv)):Prop where
 fo:FoL P fs
 nd:(fs.map Fd.nm).Nodup
 wk:∀f∈fs,∃i,Z07 ws (.inr f.nm)=some (ti i)
 wl:ws.length<=fs.length
theorem PInv.at {P:List Str}{fs:List Fd}{ws:List (Key×Tv)}(h:PInv P fs ws){f:Fd}(hf:f∈fs):NW f.nm/\f.ps.length<=6:=by
 obtain⟨i,hi⟩:=List.getElem?_of_mem hf
 exact⟨(h.fo i f hi).nm,(h.fo i f hi).l6⟩
theorem Z4v (l:List (Key×Tv))(k:Key)(t:Tv):(Z6w l k t).length<=l.length+1:=by
 unfold Z6w
 split
 ·rw[length_map];lia
 ·rw[length_append];simp
theorem PInv.add {P:List Str}{fs:List Fd}{ws:List (Key×Tv)}{f:Fd}(h:PInv P fs ws)(hn:f.nm∉fs.map Fd.nm)(hf:FdOk P fs f)(i:Int):PInv P (fs ++ [f]) (Z6w ws (.inr f.nm) (ti i)) where
 fo:=fun j g hg=>by
  rcases Nat.lt_or_ge j fs.length with z|z
  ·rw[List.getElem?_append_left z] at hg
   rw[List.take_append_of_le_length (Nat.le_of_lt z)]
   exact h.fo j g hg
  ·rw[List.getElem?_append_right z] at hg
   obtain⟨hj,e⟩:=List.getElem?_eq_some_iff.mp hg
   have hj':j-fs.length=0:=by simp at hj;lia
   have e2:j=fs.length:=by lia
   subst e2
   simp at e
   subst e
   rw[List.take_left];exact hf
 nd:=by
  rw[map_append]
  exact nodup_append.mpr ⟨h.nd,by simp,fun a ha b hb=>by simp at hb;rw[hb];exact fun z=>hn (z▸ha)⟩
 wk:=fun g hg=>by
  rw[Z1j]
  by_cases e:(Sum.inr f.nm:Key) = .inr g.nm
  ·rw[if_pos e];exact⟨i,rfl⟩
  ·rw[if_neg e]
   rcases mem_append.mp hg with z|z
   ·exact h.wk g z
   ·simp at z;subst z;exact absurd rfl e
 wl:=by have:=Z4v ws (.inr f.nm) (ti i);have:=h.wl;rw[length_append];simp;lia
theorem PInv.wo {P names lets:List Str}{fs:List Fd}{ws:List (Key×Tv)}{sd:List Tv}{r t:Int}(h:PInv P fs ws)(hf:fs.length<=3)(hn:names ≠ [])(hn1:names.length<=40)(hl1:lets.length<=40)(hN:∀x∈names,x∈P)(hL:∀x∈lets,x∈P):WoOk (Rp P fs) ⟨names,lets,kn fs,ws,sd,r,t⟩ where
 n0:=hn
 n1:=hn1
 l1:=hl1
 f1:=by show(kn fs).length<=40;unfold kn;rw[length_map];lia
 nX:=hN
 lX:=hL
 fA:=fun p hp=>by
  obtain⟨f,hf,rfl⟩:=mem_map.mp hp
  have h2:=h.at hf
  exact⟨⟨f,hf,rfl,rfl⟩,h2.1.1,h2.2,h.wk f hf⟩
theorem PInv.A {P:List Str}{fs:List Fd}{ws:List (Key×Tv)}(h:PInv P fs ws):∀(f:Str) (m:Nat),(Rp P fs).A f m->∃i,Z07 ws (.inr f)=some (ti i):=fun f m ⟨g,hg,e,_⟩=>e▸h.wk g hg
abbrev gP:Gm:=Z2z spNames spDraw spName spWorld Zgh Zgi
theorem Z9o {ns:List Int}{r:Int}{names:List Str}{y x0:Str}{n0:Nat}(hl:ns.length<=63)(hn0:n0+1000000<=1000000000000)(hN2:2<=names.length)(hN5:names.length<=5)(hNN:∀x∈names ++ [y],NW x)(hPd:(names ++ [y]).Nodup)(hx0:x0∈names){Q:PD}
  (hQ:∀(fs:List Fd) (ws:List (Key×Tv)) (n:Nat) (z:Int) (nf lf:Sl) (o7 o8 o9 o10 o11 o12 o13:Option Sl),PInv (names ++ [y]) fs ws->fs.length<=3->n<=n0+fs.length*100000->((nf = .own (.lst (names.map ts))/\lf = .own (.lst ([y,x0].map ts)))∨(nf = .fz (.lst (names.map ts))/\lf = .fz (.lst ([y,x0].map ts)))) →
   Q.nx ⟨[some (.out 0),some (fi r),some nf,some lf,some (.own (.lst (fs.map Fd.tv))),some (.own (.lst ((kn fs).map fnT))),some (.own (.dic ws)),o7,o8,o9,o10,o11,o12,o13],[.own (Z05 ns n z)],[]⟩):
  ∀(j i:Nat) (fs:List Fd) (ws:List (Key×Tv)) (n:Nat) (z:Int) (nf lf:Sl) (o7 o8 o9 o10 o11 o12 o13:Option Sl),i+j<=3->fs.length=i->PInv (names ++ [y]) fs ws->n<=n0+i*100000->((nf = .own (.lst (names.map ts))/\lf = .own (.lst ([y,x0].map ts)))∨(nf = .fz (.lst (names.map ts))/\lf = .fz (.lst ([y,x0].map ts)))) →
   Z2n (bd (.nm 7)) (nrm (Z0j gP Z4g)) Q (rf i j) ⟨[some (.out 0),some (fi r),some nf,some lf,some (.own (.lst (fs.map Fd.tv))),some (.own (.lst ((kn fs).map fnT))),some (.own (.dic ws)),o7,o8,o9,o10,o11,o12,o13],[.own (Z05 ns n z)],[]⟩
 | 0,i,fs,ws,n,z,nf,lf,o7,o8,o9,o10,o11,o12,o13,h3,hi,hI,hn,hA=>hQ fs ws n z nf lf o7 o8 o9 o10 o11 o12 o13 hI (by lia) (by rw[hi];exact hn) hA
 |j+1,i,fs,ws,n,z,nf,lf,o7,o8,o9,o10,o11,o12,o13,h3,hi,hI,hn,hA=>by
  have hlf:(fs.map Fd.tv).length<=16777216:=by rw[length_map];lia
  have nmN:∀x∈fs.map Fd.nm,Nm x:=fun x hx=>by obtain⟨f,hf,rfl⟩:=mem_map.mp hx;exact(hI.at hf).1.1
  have i3:i*100000<=200000:=by lia
  have eP:names.map ts++Z0o ([y,x0].map ts) none (some 1)=(names ++ [y]).map ts:=by rw[show Z0o ([y,x0].map ts) none (some 1)=([y,x0].map ts).take 1 from Z0y _ 1];simp
  obtain⟨nf',hnf⟩:∃s,s=nf:=⟨_,rfl⟩
  obtain⟨lf',hlf2⟩:∃s,s=lf:=⟨_,rfl⟩
  rcases hA with ⟨rfl,rfl⟩|⟨rfl,rfl⟩
  all_goals
   refine⟨hlf,rfl,Z30 fs [] none fun s'=>⟨rfl,ns,n,z,_,fs.map Fd.nm,fs.map Fd.nm,rfl,.inl rfl,hl,by lia,by rw[length_map];lia,by rw[length_map];lia,fun _ h=>h,nmN,fun x n1 z1 hx hxn hxw hn1=>?_⟩⟩
   refine⟨by rw[length_map];show names.length+1<=16777216;lia,?_⟩
   rw[eP]
   refine⟨fun M=>∃(x:Str) (n:Nat) (z:Int),M=⟨[some (.out 0),some (fi r),some _,some _,some (.own (.lst (fs.map Fd.tv))),some (.own (.lst ((kn fs).map fnT))),some (.own (.dic ws)),some (fi i),some (M22.fs x),some (.own (.lst ((names ++ [y]).map ts))),o10,o11,o12,o13],[.own (Z05 ns n z)],[]⟩/\NW x/\x∉fs.map Fd.nm/\n<=n0+i*100000+20,
    ⟨rfl,ns,n1,z1,2,rfl,hl,by lia,by decide,by decide,fun d n2 z2 d0 d1 hn2=>Z0k (fun g=>?_) (fun g=>⟨x,n2,z2,rfl,⟨hx,hxw⟩,hxn,by lia⟩)⟩,?_⟩
   ·obtain⟨p,e,hp⟩:=Z9m (xs:=names ++ [y]) (r:=(i:Int)) (by lia) (by rw[length_map,length_append];simp;lia)
    refine bx e ⟨hlf,rfl,Z30 fs [] none fun s'=>⟨⟨Z1w _,rfl⟩,Z0k (fun g2=>bx e ⟨p,n2,z2,rfl,hNN p hp,?_,by lia⟩) (fun g2=>⟨x,n2,z2,rfl,⟨hx,hxw⟩,hxn,by lia⟩)⟩⟩
    intro hm
    rw[nil_append,(Z3f p _).mpr hm] at g2
    exact absurd g2 (by decide)
   rintro M ⟨x,n3,z3,rfl,hx,hxn,hn3⟩
   refine⟨rfl,ns,n3,z3,_,rfl,hl,by lia,Zc3 (by simp),by rw[length_map,length_append];simp;lia,fun a n4 z4 a0 a1 hn4=>?_⟩
   obtain⟨a,rfl⟩:=Int.eq_ofNat_of_zero_le a0
   have eR:Z0o ((names ++ [y]).map ts) (some (a:Int)) none++Z0o ((names ++ [y]).map ts) none (some (a:Int))=((names ++ [y]).drop a++(names ++ [y]).take a).map ts:=by rw[Z5x,Z0y,<- List.map_drop,<- map_take,<- map_append]
   have lR:(Z0o ((names ++ [y]).map ts) (some (a:Int)) none).length+(Z0o ((names ++ [y]).map ts) none (some (a:Int))).length<=16777216:=by rw[Z5x,Z0y,length_drop,length_take,length_map,length_append];simp;lia
   refine⟨fun M=>∃(ps:List Str) (n5:Nat) (z5:Int) (o10:Option Sl),M=⟨[some (.out 0),some (fi r),some nf',some lf',some (.own (.lst (fs.map Fd.tv))),some (.own (.lst ((kn fs).map fnT))),some (.own (.dic ws)),some (fi i),some (M22.fs x),some (.own (.lst ((names ++ [y]).map ts))),o10,some (.own (.lst (ps.map ts))),o12,o13],[.own (Z05 ns n5 z5)],[]⟩/\ps.Nodup/\ps.length<=6/\(∀x∈ps,x∈names ++ [y])/\n5<=n0+i*100000+30,⟨lR,rfl,ns,n4,z4,8,rfl,hl,by lia,by decide,by decide,fun r8 n5 z5 r80 r81 hn5=>?_⟩,?_⟩
   ·obtain⟨t,e8,m,rfl,m6⟩:=Z1c (l:=[ti 1,ti 2,ti 0,ti 3,ti 1,ti 2,ti 2,ti 6]) (P:=fun t=>∃m:Nat,t=ti m/\m<=6) (by
     intro t ht
     simp only [mem_cons,not_mem_nil,or_false] at ht
     rcases ht with rfl|rfl|rfl|rfl|rfl|rfl|rfl|rfl
     ·exact⟨1,rfl,by decide⟩
     ·exact⟨2,rfl,by decide⟩
     ·exact⟨0,rfl,by decide⟩
     ·exact⟨3,rfl,by decide⟩
     ·exact⟨1,rfl,by decide⟩
     ·exact⟨2,rfl,by decide⟩
     ·exact⟨2,rfl,by decide⟩
     ·exact⟨6,rfl,by decide⟩) r80 r81
    have eQ:Z0o (Z0o ((names ++ [y]).map ts) (some (a:Int)) none++Z0o ((names ++ [y]).map ts) none (some (a:Int))) none (some (m:Int))=(((names ++ [y]).drop a++(names ++ [y]).take a).take m).map ts:=by rw[eR,Z0y,<- map_take]
    have hps:(((names ++ [y]).drop a++(names ++ [y]).take a).take m).Nodup:=(Zgj hPd a).sublist (take_sublist _ _)
    have hpl:(((names ++ [y]).drop a++(names ++ [y]).take a).take m).length<=6:=by rw[length_take];lia
    have hpm:∀x∈((names ++ [y]).drop a++(names ++ [y]).take a).take m,x∈names ++ [y]:=fun x hx=>by
     rcases mem_append.mp (mem_of_mem_take hx) with h|h
     ·exact List.mem_of_mem_drop h
     ·exact mem_of_mem_take h
    generalize ((names ++ [y]).drop a++(names ++ [y]).take a).take m=ps at eQ hps hpl hpm
    exact bx e8 ⟨ps,n5,z5,_,(by rw[<- eQ];subst hnf;subst hlf2;rfl),hps,hpl,hpm,by lia⟩
   rintro M ⟨ps,n5,z5,o10,rfl,hps,hpl,hpm,hn5⟩
   rw[hnf,hlf2]
   have hD:D 4=81920:=by decide
   have W:=hI.wo (sd:=[]) (r:=9) (t:=120) (names:=names) (lets:=[y,x0]) (by lia) (fun h=>by rw[h] at hN2;simp at hN2) (by lia) (by simp) (fun x hx=>mem_append_left _ hx) (fun x hx=>by
    simp only [mem_cons,not_mem_nil,or_false] at hx
    rcases hx with rfl|rfl
    ·simp
    ·exact mem_append_left _ hx0)
   refine⟨rfl,_,_,names,[y,x0],kn fs,ws,9,120,rfl,by first|exact .inl ⟨rfl,rfl⟩|exact .inr ⟨rfl,rfl⟩,?_⟩
   refine⟨rfl,Rp (names ++ [y]) fs,4,by decide,ns,n5,z5,⟨names,[y,x0],kn fs,ws,[],9,120⟩,_,ps,4,1,rfl,.inl rfl,hl,rfl,by decide,by lia,W,by lia,hpm,by decide,by decide,fun e n6 z6 r6 t6 he hi6 hr6 hn6=>?_⟩
   have lf1:(fs.map Fd.tv).length<16777216:=by rw[length_map];lia
   have lf2:((kn fs).map fnT).length+1<=16777216:=by rw[length_map];unfold kn;rw[length_map];lia
   have lf3:ws.length<16777216:=by have:=hI.wl;lia
   refine⟨rfl,lf1,lf2,rfl,Rp (names ++ [y]) fs,e,_,ws,rfl,.inl rfl,he,hI.A,fun i'=>⟨lf3,?_⟩⟩
   have G:=Z9o (r:=r) hl hn0 hN2 hN5 hNN hPd hx0 hQ j (i+1) (fs ++ [⟨x,ps,e⟩]) (Z6w ws (.inr x) (ti i')) n6 z6 (.fz (.lst (names.map ts))) (.fz (.lst ([y,x0].map ts))) (some (fi i)) (some (M22.fs x)) (some (.own (.lst ((names ++ [y]).map ts)))) o10 (some (.own (.lst (ps.map ts)))) (some (.own (Z0s ((⟨names,[y,x0],kn fs,ws,[],9,120⟩:Wo).at r6 t6)))) (some (.fz (E.tv e))) (by lia) (by rw[length_append];simp;lia) (hI.add (f:=⟨x,ps,e⟩) hxn ⟨hx,hps,hpl,hpm,he,by have h9:e.inn+Z3g r6<=3:=hi6;have:=he.cnt_inn;show e.cnt<=30;lia,hr6⟩ i') (by lia) (.inr ⟨rfl,rfl⟩)
   have e1:(fs ++ [(⟨x,ps,e⟩:Fd)]).map Fd.tv=fs.map Fd.tv ++ [.tup [ts x,.tup (ps.map ts),E.tv e]]:=by simp [Fd.tv]
   have e2:(kn (fs ++ [(⟨x,ps,e⟩:Fd)])).map fnT=(kn fs).map fnT ++ [.tup [ts x,ti (ps.map ts).length]]:=by simp [kn,fnT]
   rw[e1,e2] at G
   exact G
theorem Zdr:∀args k,spProg args k->nrm (Z0j gP Z2y) (Z02 args k) (Z09 14 args):=by
 rintro args k ⟨ns,n,z,r,rfl,hr32,hl,hn,q⟩
 have hD4:D 4=81920:=by decide
 have hD7:D 7=41943040:=by decide
 refine⟨rfl,ns,n,z,4,rfl,hl,by lia,by decide,by decide,fun r4 n1 z1 r40 r41 hn1=>?_⟩
 refine⟨rfl,ns,n1,z1,_,rfl,hl,by lia,by lia,by lia,fun xs n2 z2 hlen hnd hxs hn2=>?_⟩
 refine⟨rfl,ns,n2,z2,_,xs,xs,rfl,.inl rfl,hl,by lia,by lia,by lia,fun _ h=>h,fun x hx=>(hxs x hx).1,fun y n3 z3 hy hyn hyw hn3=>?_⟩
 obtain⟨x0,e0,hx0⟩:=Z9m (xs:=xs) (r:=0) (by decide) (by rw[length_map];lia)
 have hPd:(xs ++ [y]).Nodup:=nodup_append.mpr ⟨hnd,by simp,fun a ha b hb=>by simp at hb;rw[hb];exact fun z=>hyn (z▸ha)⟩
 have hNN:∀x∈xs ++ [y],NW x:=fun x hx=>by
  rcases mem_append.mp hx with h|h
  ·exact hxs x h
  ·simp at h;exact h▸⟨hy,hyw⟩
 refine bx e0 ?_
 refine⟨fun M=>∃(fs:List Fd) (ws:List (Key×Tv)) (n':Nat) (z:Int) (nf lf:Sl) (o7 o8 o9 o10 o11 o12 o13:Option Sl),M=⟨[some (.out 0),some (fi r),some nf,some lf,some (.own (.lst (fs.map Fd.tv))),some (.own (.lst ((kn fs).map fnT))),some (.own (.dic ws)),o7,o8,o9,o10,o11,o12,o13],[.own (Z05 ns n' z)],[]⟩/\PInv (xs ++ [y]) fs ws/\fs.length<=3/\n'<=n+500000/\((nf = .own (.lst (xs.map ts))/\lf = .own (.lst ([y,x0].map ts)))∨(nf = .fz (.lst (xs.map ts))/\lf = .fz (.lst ([y,x0].map ts)))),?_,?_⟩
 ·refine⟨rfl,ns,n3,z3,4,rfl,hl,by lia,by decide,by decide,fun r5 n4 z4 r50 r51 hn4=>?_⟩
  obtain⟨t,e,m,rfl,m3⟩:=Z1c (l:=[ti 1,ti 0,ti 2,ti 3]) (P:=fun t=>∃m:Nat,t=ti m/\m<=3) (by
   intro t ht
   simp only [mem_cons,not_mem_nil,or_false] at ht
   rcases ht with rfl|rfl|rfl|rfl
   ·exact⟨1,rfl,by decide⟩
   ·exact⟨0,rfl,by decide⟩
   ·exact⟨2,rfl,by decide⟩
   ·exact⟨3,rfl,by decide⟩) r50 r51
  refine bx e ⟨⟨by lia,by lia⟩,?_⟩
  show Z2n _ _ _ (Z8j ((m:Int).toNat)) _
  rw[show Z8j ((m:Int).toNat)=rf 0 m from Zau m]
  refine Z9o (n0:=n4) (names:=xs) (y:=y) (x0:=x0) hl (by lia) (by lia) (by lia) hNN hPd hx0 ?_ m 0 [] [] n4 z4 _ _ none none none none none none none (by lia) rfl ⟨fun i f hf=>(by simp at hf),nodup_nil,fun f hf=>(by cases hf),Nat.le_refl _⟩ (by lia) (.inl ⟨rfl,rfl⟩)
  exact fun fs ws n' z' nf lf o7 o8 o9 o10 o11 o12 o13 h1 h2 h3 h4=>⟨fs,ws,n',z',nf,lf,o7,o8,o9,o10,o11,o12,o13,rfl,h1,h2,by lia,h4⟩
 ·rintro M ⟨fs,ws,n5,z5,nf,lf,o7,o8,o9,o10,o11,o12,o13,rfl,hI,hf3,hn5,hA⟩
  have W:=fun(sd:List Tv)=>hI.wo (sd:=sd) (r:=r) (t:=1400) (names:=xs) (lets:=[y,x0]) hf3 (fun h=>by rw[h] at hx0;cases hx0) (by lia) (by simp) (fun x hx=>mem_append_left _ hx) (fun x hx=>by
    simp only [mem_cons,not_mem_nil,or_false] at hx
    rcases hx with rfl|rfl
    ·simp
    ·exact mem_append_left _ hx0)
  have pl:(xs ++ [y]).length<=6:=by rw[length_append];simp;lia
  rcases hA with ⟨rfl,rfl⟩|⟨rfl,rfl⟩
  all_goals
   refine⟨rfl,_,_,xs,[y,x0],kn fs,ws,r,1400,rfl,by first|exact .inl ⟨rfl,rfl⟩|exact .inr ⟨rfl,rfl⟩,?_⟩
   refine⟨rfl,Rp (xs ++ [y]) fs,7,by decide,ns,n5,z5,⟨xs,[y,x0],kn fs,ws,[],r,1400⟩,_,[],7,1,rfl,.inl rfl,hl,rfl,by decide,by lia,W [],by decide,fun x hx=>(by cases hx),by decide,by decide,fun e n8 z8 r8 t8 he hi8 hr8 hn8=>?_⟩
   have h9:e.inn+Z3g r8<=Z3g r:=hi8
   have h10:=he.cnt_inn
   have h11:Z3g r<=34:=by unfold Z3g;lia
   exact q (xs ++ [y]) fs e n8 z8 ⟨pl,hNN,hf3,hI.fo,hI.nd,he,by lia,hr8⟩ (by lia)
abbrev fb (b:Bool):Sl:=.fz (.at (.bl b))
abbrev tb (b:Bool):Tv:=.at (.bl b)
def Sm (t:Tv):Prop:=okTy t/\∀x,t = .at (.str x)->x.length<=1000
inductive spIs (f:Tv->Bool)(args:List Sl)(k:(Sl->List Sl->Prop)):Prop
 |mk (t:_) (_:args = [.fz t]) (_:Sm t) (_:k (fb (f t)) [.fz t]):spIs f args k
def Z3h:Tv->Bool
 | .at (.int _)=>true
 |_=>false
theorem Zjh:∀args k,spIs Z3h args k->nrm (Z0j Z3t Z3s) (Z02 args k) (Z09 1 args):=by
 rintro args k ⟨t,rfl,⟨⟨n,hn⟩,_⟩,q⟩
 cases t with
 | «at» v => cases v <;> first | exact q | cases hn
 |_=>first|exact q|cases hn
def Zgk (m:Int):Tv->Bool
 | .at (.int i)=>decide (0<=i)&&decide (i<=m)
 |_=>false
theorem Zgl {Γ : Gm}{m:Int}{x:Str}(h1 : Γ.fns = [(("is_whole":Str),spIs Z3h)])(h2 : Γ.gl = [(x,.at (.int m))]):∀args k,spIs (Zgk m) args k->nrm (Z0j Γ (.ret (.and (.call 0 (.cons (.var 0) .nil)) (.chn .le .le (.cst (.int 0)) (.var 0) (.glb 0))))) (Z02 args k) (Z09 1 args):=by
 obtain⟨bl,fns,kt,gl,fv⟩ := Γ
 cases h1;cases h2
 rintro args k ⟨t,rfl,ht,q⟩
 refine⟨rfl,t,rfl,ht,?_⟩
 obtain⟨⟨n,hn⟩,_⟩:=ht
 have go:∀{b:Bool} (t:Tv),k (fb (Zgk m t)) [.fz t]->Zgk m t=b->k (fb b) [.fz t]:=fun t q e=>e▸q
 cases t with
 | «at» v =>
  cases v with
  |int i=>
   refine Z0k (fun g=>?_) (fun g=>?_)
   ·refine go _ q ?_
    show(decide (0<=i)&&decide (i<=m))=decide (i<=m)
    rw[show decide (0<=i)=true from g];rfl
   ·refine go _ q ?_
    show(decide (0<=i)&&decide (i<=m))=false
    rw[show decide (0<=i)=false from by simpa using g];rfl
  |_=>first|exact q|cases hn
 |_=>first|exact q|cases hn
theorem Zav:∀args k,spIs (Zgk 999999999) args k->nrm (Z0j (Z3w (spIs Z3h)) Z3v) (Z02 args k) (Z09 1 args):=Zgl rfl rfl
theorem Zji:∀args k,spIs (Zgk 5) args k->nrm (Z0j (Z3y (spIs Z3h)) Z3x) (Z02 args k) (Z09 1 args):=Zgl rfl rfl
def Zgm:Tv->Bool
 | .at (.str x)=>signsL.contains x
 |_=>false
theorem Z8b (t:Str)(xs:List Str):inV (.str t) ((xs.map ts).map unA)=xs.contains t:=by
 rw[Bool.eq_iff_iff,Z3f,contains_iff_mem]
theorem Zo2:∀args k,spIs Zgm args k->nrm (Z0j Z5d Z5c) (Z02 args k) (Z09 1 args):=by
 rintro args k ⟨t,rfl,⟨⟨n,hn⟩,_⟩,q⟩
 cases t with
 | «at» v =>
  cases v with
  |str x=>
   refine⟨⟨Z1w signsL,rfl⟩,?_⟩
   have e:(false ^^ inV (.str x) ((signsL.map ts).map unA))=Zgm (.at (.str x)):=by rw[Z8b,Bool.false_xor];rfl
   show k (fb (false ^^ inV (.str x) ((signsL.map ts).map unA))) _
   rw[e];exact q
  |_=>first|exact q|cases hn
 |_=>first|exact q|cases hn
def azB (c:Nat):Bool:=decide (97<=c)&&decide (c<=122)
def Z9p (x:Str):Bool:=decide (1<=x.length)&&decide (x.length<=8) && !wordsL.contains x&&x.cps.toList.all azB
def nameT:Tv->Bool
 | .at (.str x)=>Z9p x
 |_=>false
theorem nameB_iff {x:Str}:Z9p x=true↔NW x:=by
 unfold Z9p NW Nm Az azB
 simp only [Bool.and_eq_true,decide_eq_true_eq,Bool.not_eq_true',all_eq_true,List.contains_eq_mem,decide_eq_false_iff_not]
 constructor
 ·rintro⟨⟨⟨a,b⟩,c⟩,d⟩;exact⟨⟨a,b,d⟩,c⟩
 ·rintro⟨⟨a,b,d⟩,c⟩;exact⟨⟨⟨a,b⟩,c⟩,d⟩
theorem Zkv (a b:Nat):([a] < [b])↔a<b:=by simp [List.cons_lt_cons_iff]
theorem Zwd (c:Nat):decide ((⟨#[c]⟩:Str).cps.toList<("a":Str).cps.toList)=decide (c<97):=by
 rw[show("a":Str).cps.toList = [97] from by decide+kernel]
 exact decide_eq_decide.mpr (Zkv _ _)
theorem Zwx (c:Nat):decide (("z":Str).cps.toList<(⟨#[c]⟩:Str).cps.toList)=decide (122<c):=by
 rw[show("z":Str).cps.toList = [122] from by decide+kernel]
 exact decide_eq_decide.mpr (Zkv _ _)
theorem Z9q {Γ : Gm}{k:List Tv->Ms->Prop}:∀(l:List Nat) (ys:List Bool) (s:Option Sl),(∀s',k ((ys++l.map azB).map tb) ⟨[s'],[],[]⟩)->Z03 (bd (.nm 0)) (sem Γ .tt).t (sem Γ Z3u).e k (l.map fun c=>.at (.str ⟨#[c]⟩)) (ys.map tb) ⟨[s],[],[]⟩
 |[],ys,s,q=>by have:=q s;rw[map_nil,append_nil] at this;exact this
 |c::l,ys,s,q=>by
  have h1:∀b s,b=azB c->Z03 (bd (.nm 0)) (sem Γ .tt).t (sem Γ Z3u).e k (l.map fun c=>.at (.str ⟨#[c]⟩)) (ys.map tb ++ [tb b]) ⟨[s],[],[]⟩:=fun b s e=>by
   have e1:ys.map tb ++ [tb b]=(ys ++ [b]).map tb:=by simp
   rw[e1]
   exact Z9q l (ys ++ [b]) s fun s'=>by simpa [e] using q s'
  refine Z0k (fun g=>h1 _ _ ?_) (fun g=>h1 _ _ ?_)
  ·have g2:(!decide ((⟨#[c]⟩:Str).cps.toList<("a":Str).cps.toList))=true:=g
   rw[Zwd] at g2
   show(!decide (("z":Str).cps.toList<(⟨#[c]⟩:Str).cps.toList))=azB c
   rw[Zwx]
   unfold azB
   have g':97<=c:=by simpa using g2
   rw[decide_eq_true g',Bool.true_and]
   by_cases h:c<=122
   ·rw[decide_eq_true h,decide_eq_false (by lia)];rfl
   ·rw[decide_eq_false h,decide_eq_true (by lia)];rfl
  ·have g2:¬ (!decide ((⟨#[c]⟩:Str).cps.toList<("a":Str).cps.toList))=true:=g
   rw[Zwd] at g2
   unfold azB
   have g':¬ 97<=c:=by simpa using g2
   rw[decide_eq_false g',Bool.false_and]
theorem Zgn:∀args k,spIs nameT args k->nrm (Z0j Z5b Z5a) (Z02 args k) (Z09 1 args):=by
 rintro args k ⟨t,rfl,⟨⟨n,hn⟩,hx⟩,q⟩
 have go:∀{b:Bool} (t:Tv),k (fb (nameT t)) [.fz t]->nameT t=b->k (fb b) [.fz t]:=fun t q e=>e▸q
 cases t with
 | «at» v =>
  cases v with
  |str x=>
   have hl:=hx x rfl
   have e0:∀{b:Bool},Z9p x=b->k (fb b) [.fz (.at (.str x))]:=fun e=>go _ q e
   refine Z0k (fun g=>?_) (fun g=>?_)
   ·have g1:1<=x.length:=by have:=of_decide_eq_true g;lia
    refine Z0k (fun g2=>?_) (fun g2=>?_)
    ·refine e0 ?_
     have h8:¬x.length<=8:=fun h=>by rw[show decide ((x.length:Int)<=8)=true from decide_eq_true (by lia)] at g2;cases g2
     unfold Z9p
     rw[decide_eq_false h8,Bool.and_false,Bool.false_and,Bool.false_and]
    ·have h8:x.length<=8:=by
      have h:(!decide ((x.length:Int)<=8))≠true:=g2
      simp at h;lia
     refine⟨⟨Z1w wordsL,rfl⟩,Z0k (fun g3=>?_) (fun g3=>?_)⟩
     ·refine e0 ?_
      have g4:(false ^^ inV (.str x) ((wordsL.map ts).map unA))=true:=g3
      rw[Z8b,Bool.false_xor] at g4
      unfold Z9p
      rw[g4];simp
     ·have g4:¬ (false ^^ inV (.str x) ((wordsL.map ts).map unA))=true:=g3
      rw[Z8b,Bool.false_xor] at g4
      have hc:(chT x).length<=16777216:=by simp [chT];have:x.cps.size=x.length:=rfl;lia
      refine⟨hc,rfl,Z9q x.cps.toList [] none fun s'=>?_⟩
      refine⟨fun t ht=>by obtain⟨b,_,rfl⟩:=mem_map.mp ht;exact⟨b,rfl⟩,?_⟩
      refine e0 ?_
      unfold Z9p
      rw[decide_eq_true g1,decide_eq_true h8,show wordsL.contains x=false from by simpa using g4]
      show(true&&true && !false&&x.cps.toList.all azB)=((([]++x.cps.toList.map azB).map tb).map tvB).all id
      simp [all_map,Function.comp_def,tvB]
   ·refine e0 ?_
    have g1:¬ 1<=x.length:=fun h=>g (decide_eq_true (by lia))
    unfold Z9p
    rw[decide_eq_false g1];simp
  |_=>first|exact q|cases hn
 |_=>first|exact q|cases hn
inductive Ft where
 |val|nam|sgn|tms
def ftT:Ft->Tv->Bool
 | .val=>Zgk 999999999
 | .nam=>nameT
 | .sgn=>Zgm
 | .tms=>Zgk 5
def rulesL:List (Str×(Option Ft×Nat×Nat)):=[("num",some .val,0,0),("name",some .nam,0,0),("op",some .sgn,2,2),("pick",none,3,3),("let",some .nam,2,2),("set",some .nam,1,1),("say",none,1,1),("take",none,0,0),("do",none,1,6),("again",some .tms,1,1),("call",some .nam,0,6)]
def Z6g (w:Str):Option (Option Ft×Nat×Nat):=rulesL.lookup w
def ftV (a:Ft->Addr):Option Ft->Tv
 |none=>.at .non
 |some f=>.fnv (a f)
def Zo3 (a:Ft->Addr):Option (Option Ft×Nat×Nat)->Tv
 |none=>.at .non
 |some (o,lo,hi)=>.ktp [ftV a o,ti lo,ti hi]
def Z8k (lo hi:Nat)(r:List Tv):Bool:=decide (lo<=r.length)&&decide (r.length<=hi)&&r.all Z0p
def Zjj:Option (Option Ft×Nat×Nat)->List Tv->Bool
 |none,_=>false
 |some (none,lo,hi),r=>Z8k lo hi r
 |some (some f,lo,hi),[]=>false
 |some (some f,lo,hi),x::r=>ftT f x&&Z8k lo hi r
def Z6h:Tv->Bool
 | .tup (.at (.str w)::r)=>Zjj (Z6g w) r
 |_=>false
inductive spRule (a:Ft->Addr)(args:List Sl)(k:(Sl->List Sl->Prop)):Prop
 |mk (w:_) (_:args = [fs w]) (_:k (.fz (Zo3 a (Z6g w))) [fs w]):spRule a args k
def Zrx (a:Ft->Addr)(f:Addr):PSp:=fun args k=>∃i,a i=f/\spIs (ftT i) args k
def Kn1 (t:Tv):Prop:=okTy t/\∀l,t = .tup l->l.length<=1000/\∀x∈l,Sm x
inductive spNode (a:Ft->Addr)(aR:Addr)(args:List Sl)(k:(Sl->List Sl->Prop)):Prop
 |mk (t:_) (_:args = [.fz t,.fz (.fnv aR)]) (_:Kn1 t) (_:k (fb (Z6h t)) [.fz t,.fz (.fnv aR)]):spNode a aR args k
abbrev gN (a:Ft->Addr)(aR:Addr):Gm:=Z5f (fun f=>f=aR,fun _=>spRule a) (fun f=>∃i,f=a i,Zrx a)
theorem Zgo {Γ : Gm}{k:List Tv->Ms->Prop}:∀(l:List Tv) (ys:List Bool) (s:Option Sl),(∀t∈l,okTy t)->(∀s',k ((ys++l.map Z0p).map tb) ⟨[s'],[],[]⟩)->Z03 (bd (.nm 0)) (sem Γ .tt).t (sem Γ Z3z).e k l (ys.map tb) ⟨[s],[],[]⟩
 |[],ys,s,_,q=>by have:=q s;rw[map_nil,append_nil] at this;exact this
 |t::l,ys,s,h,q=>by
  have h2:∀t∈l,okTy t:=fun x hx=>h x (mem_cons_of_mem _ hx)
  obtain⟨n,hn⟩:=h t mem_cons_self
  have h1:∀b s,b=Z0p t->Z03 (bd (.nm 0)) (sem Γ .tt).t (sem Γ Z3z).e k l (ys.map tb ++ [tb b]) ⟨[s],[],[]⟩:=fun b s e=>by
   have e1:ys.map tb ++ [tb b]=(ys ++ [b]).map tb:=by simp
   rw[e1]
   exact Zgo l (ys ++ [b]) s h2 fun s'=>by simpa [e] using q s'
  cases t with
  | «at» v => cases v <;> first | exact h1 _ _ rfl | cases hn
  |_=>first|exact h1 _ _ rfl|cases hn
theorem Zry (x:Tv)(l:List Tv):Z0o (x::l) (some 1) none=l:=by rw[Zwb];rfl
theorem Zo4 (a:Ft->Addr)(aR:Addr):∀args k,spNode a aR args k->nrm (Z0j (gN a aR) Z5e) (Z02 args k) (Z09 7 args):=by
 rintro args k ⟨t,rfl,⟨⟨n,hn⟩,hk⟩,q⟩
 have no:Z6h t=false->k (fb false) [.fz t,.fz (.fnv aR)]:=fun e=>e▸q
 cases t with
 |tup l=>
  obtain⟨hl,hs⟩:=hk l rfl
  cases l with
  |nil=>exact no rfl
  |cons x l=>
   have hl':l.length+1<=1000:=hl
   have h0:=hs x mem_cons_self
   have hl0:¬ (((x::l).length:Nat):Int)=0:=by rw[length_cons];lia
   have ne:¬decide ((((x::l).length:Nat):Int)=0)=true:=fun h=>hl0 (of_decide_eq_true h)
   cases x with
   | «at» v =>
    cases v with
    |str w=>
     refine⟨aR,rfl,rfl,rfl,w,rfl,?_⟩
     cases hw:Z6g w with
     |none=>exact no (by show Zjj (Z6g w) l=false;rw[hw];rfl)
     |some p=>
      obtain⟨o,lo,hi⟩:=p
      have hn':Z6h (.tup (.at (.str w)::l))=Zjj (some (o,lo,hi)) l:=by show Zjj (Z6g w) l=_;rw[hw]
      refine⟨fun M=>∃(r:List Tv) (o3:Option Sl),M=⟨[some (.fz (.tup (.at (.str w)::l))),some (.fz (.fnv aR)),some (.fz (Zo3 a (some (o,lo,hi)))),o3,some (fi lo),some (fi hi),some (.fz (.tup r))],[],[]⟩/\r.length<=1000/\(∀x∈r,okTy x)/\Z6h (.tup (.at (.str w)::l))=Z8k lo hi r,?_,?_⟩
      ·show Z0j (gN a aR) _ _ ⟨[_,_,_,_,_,_,some (.fz (.tup (Z0o (.at (.str w)::l) (some 1) none)))],_,_⟩
       rw[Zry]
       cases o with
       |none=>exact⟨l,_,rfl,by lia,fun x hx=>(hs x (mem_cons_of_mem _ hx)).1,hn'⟩
       |some f=>
        cases l with
        |nil=>exact no hn'
        |cons y l=>
         have hy:=hs y (mem_cons_of_mem _ mem_cons_self)
         have hl2:l.length+2<=1000:=hl'
         refine⟨a f,rfl,⟨f,rfl⟩,rfl,f,rfl,y,rfl,hy,?_⟩
         have hn2:Z6h (.tup (.at (.str w)::y::l))=(ftT f y&&Z8k lo hi l):=hn'
         cases hf:ftT f y with
         |false=>exact no (by rw[hn2,hf];rfl)
         |true=>
          have ec:=Zry y l
          exact⟨Z0o (y::l) (some 1) none,_,rfl,by rw[ec];lia,by rw[ec];exact fun x hx=>(hs x (mem_cons_of_mem _ (mem_cons_of_mem _ hx))).1,by rw[ec,hn2,hf];rfl⟩
      ·rintro M ⟨r,o3,rfl,hr,hro,hnr⟩
       have yes:∀{b:Bool},Z8k lo hi r=b->k (fb b) [.fz (.tup (.at (.str w)::l)),.fz (.fnv aR)]:=fun e=>by rw[<- e,<- hnr];exact q
       refine Z0k (fun g=>?_) (fun g=>?_)
       ·have g1:lo<=r.length:=by have:=of_decide_eq_true g;lia
        refine Z0k (fun g2=>?_) (fun g2=>?_)
        ·have g3:r.length<=hi:=by have:=of_decide_eq_true g2;lia
         refine⟨by show r.length<=16777216;lia,rfl,Zgo r [] none hro fun s'=>?_⟩
         refine⟨fun t ht=>by obtain⟨b,_,rfl⟩:=mem_map.mp ht;exact⟨b,rfl⟩,?_⟩
         refine yes ?_
         unfold Z8k
         rw[decide_eq_true g1,decide_eq_true g3]
         show(true&&true&&r.all Z0p)=((([]++r.map Z0p).map tb).map tvB).all id
         simp [all_map,Function.comp_def,tvB]
        ·refine yes ?_
         have g3:¬r.length<=hi:=fun h=>g2 (decide_eq_true (by lia))
         unfold Z8k
         rw[decide_eq_false g3];simp
       ·refine yes ?_
        have g1:¬lo<=r.length:=fun h=>g (decide_eq_true (by lia))
        unfold Z8k
        rw[decide_eq_false g1];simp
    |_=>first|exact no rfl | (obtain⟨⟨m,hm⟩,_⟩:=h0;cases hm)
   |_=>first|exact no rfl | (obtain⟨⟨m,hm⟩,_⟩:=h0;cases hm)
 | «at» v => cases v <;> first | exact no rfl | cases hn
 |_=>first|exact no rfl|cases hn
mutual
def okN:Tv->Bool
 | .tup l=>Z6h (.tup l)&&Zjk l
 |_=>false
def Zjk:List Tv->Bool
 |[]=>true
 |t::l=>(!Z0p t||okN t)&&Zjk l
end
mutual
def wt:Tv->Nat
 | .tup l=>1+wtL l
 |_=>1
def wtL:List Tv->Nat
 |[]=>0
 |t::l=>(if Z0p t then wt t else 0)+wtL l
end
theorem Zrz (t:Tv):1<=wt t:=by cases t <;> simp [wt]
inductive Kn:Tv->Prop where
 |mk {t:Tv} (h:Kn1 t) (r:∀l,t = .tup l->∀x∈l,Z0p x=true->Kn x):Kn t
theorem Z4w:∀l:List Tv,Zjk l=(l.filter Z0p).all okN
 |[]=>rfl
 |t::l=>by
  rw[Zjk,Z4w l,filter_cons]
  cases h:Z0p t <;> simp [h]
def wtS (l:List Tv):Nat:=(l.map wt).sum
theorem Z2e:∀l:List Tv,wtL l=wtS (l.filter Z0p)
 |[]=>rfl
 |t::l=>by
  rw[wtL,Z2e l,filter_cons]
  cases h:Z0p t <;> simp [h,wtS]
theorem Zaw:∀l:List Tv,l.length<=wtS l
 |[]=>Nat.le_refl _
 |t::l=>by have:=Zaw l;have:=Zrz t;simp only [wtS,map_cons,sum_cons,length_cons] at *;lia
theorem Zax (a b:List Tv):wtS (a++b)=wtS a+wtS b:=by simp [wtS]
inductive spPartsT (args:List Sl)(k:(Sl->List Sl->Prop)):Prop
 |mk (l:_) (_:args = [.fz (.tup l)]) (_:l.length<=16777216) (_:(∀t∈l,okTy t)) (_:k (.fz (.tup (l.filter Z0p))) [.fz (.tup l)]):spPartsT args k
theorem Zgp:∀args k,spPartsT args k->nrm (Z0j Z7t Z7s) (Z02 args k) (Z09 1 args):=by
 rintro args k ⟨l,rfl,hl,ht,q⟩
 refine⟨hl,rfl,Z0x l [] none ht fun s'=>?_⟩
 rw[nil_append]
 exact q
inductive spTree (a:Ft->Addr)(aR:Addr)(args:List Sl)(k:(Sl->List Sl->Prop)):Prop
 |mk (t:_) (_:args = [.fz t,.fz (.fnv aR)]) (_:Kn t) (_:wt t<=1000000) (_:k (fb (okN t)) [.fz t,.fz (.fnv aR)]):spTree a aR args k
abbrev gT (a:Ft->Addr)(aR:Addr):Gm:=Z5h (spNode a aR) spPartsT
def Zul (aR:Addr)(t:Tv)(m:Nat)(M:Ms):Prop:=∃(td:List Tv) (o3:Option Sl),M=⟨[some (.fz t),some (.fz (.fnv aR)),some (.own (.lst td.reverse)),o3],[],[]⟩/\okN t=td.all okN/\(∀x∈td,Kn x)/\wtS td=m/\m<=1000000
theorem bxx {α β : Type}{o:Option (α × β)}{a : α}{b : β}{k : α -> β -> Prop}(e:o=some (a,b))(h:k a b):Zez o k:=by rw[e];exact h
theorem Zo5 (a:Ft->Addr)(aR:Addr):∀args k,spTree a aR args k->nrm (Z0j (gT a aR) Z5g) (Z02 args k) (Z09 4 args):=by
 rintro args k ⟨t,rfl,ht,hw,q⟩
 refine⟨fun M=>okN t=true/\∃(o2 o3:Option Sl),M=⟨[some (.fz t),some (.fz (.fnv aR)),o2,o3],[],[]⟩,⟨Zul aR t,⟨_,[t],none,rfl,by simp,fun x hx=>by rw[mem_singleton.mp hx];exact ht,rfl,by simp [wtS];exact hw⟩,?_⟩,?_⟩
 ·rintro m M ⟨td,o3,rfl,hi,hk,hm,hm2⟩
  match td,hi,hk,hm with
  |[],hi,hk,hm=>exact⟨hi,_,_,rfl⟩
  |x::td,hi,hk,hm=>
   rw[reverse_cons]
   refine Z0k (fun g=>?_) (fun g=>absurd (by simp) g)
   have pe:Zmb (.lst (td.reverse ++ [x])) []=some (True,.lst td.reverse,x):=by unfold Zmb;simp
   generalize td.reverse ++ [x]=l at pe g
   refine⟨rfl,bxx pe ⟨trivial,?_⟩⟩
   have hx:=hk x mem_cons_self
   have hk':∀y∈td,Kn y:=fun y hy=>hk y (mem_cons_of_mem _ hy)
   obtain⟨h1,h2⟩:=hx
   refine⟨rfl,x,rfl,h1,?_⟩
   have hi':okN t=(okN x&&td.all okN):=by rw[hi,all_cons]
   cases hn:Z6h x with
   |false=>
    have:okN t=false:=by
     rw[hi']
     cases x <;> simp [okN,hn]
    show k (fb false) _
    rw[<- this];exact q
   |true=>
    cases x with
    |tup r=>
     cases r with
     |nil=>cases hn
     |cons y r=>
      obtain⟨w,rfl⟩:∃w,y = .at (.str w):=by
       cases y with
       | «at» v => cases v <;> first | exact ⟨_, rfl⟩ | cases hn
       |_=>cases hn
      obtain⟨hl,hs⟩:=h1.2 _ rfl
      refine⟨rfl,rfl,_,rfl,by lia,fun z hz=>(hs z hz).1,?_⟩
      have wx:wt (.tup (.at (.str w)::r))=1+wtS (r.filter Z0p):=by rw[wt,wtL,Z2e];simp [Z0p]
      have hm':wt (.tup (.at (.str w)::r))+wtS td=m:=hm
      have l1:=Zaw (r.filter Z0p)
      have l2:=Zaw td
      refine⟨by show td.reverse.length+(r.filter Z0p).length<=_;rw[length_reverse];lia,wtS ((r.filter Z0p).reverse++td),?_,(r.filter Z0p).reverse++td,some (.fz (.tup (.at (.str w)::r))),?_,?_,fun z hz=>?_,rfl,?_⟩
      ·rw[Zax]
       have:wtS (r.filter Z0p).reverse=wtS (r.filter Z0p):=by simp [wtS,List.sum_reverse]
       lia
      ·rw[List.reverse_append,List.reverse_reverse];rfl
      ·rw[hi',okN,hn,Zjk,Z4w,List.all_append,List.all_reverse]
       simp [Z0p]
      ·rcases mem_append.mp hz with z1|z1
       ·have z2:=mem_filter.mp (List.mem_reverse.mp z1)
        exact h2 _ rfl z (mem_cons_of_mem _ z2.1) z2.2
       ·exact hk' z z1
      ·rw[Zax]
       have:wtS (r.filter Z0p).reverse=wtS (r.filter Z0p):=by simp [wtS,List.sum_reverse]
       lia
    |_=>cases hn
 ·rintro M ⟨h,o2,o3,rfl⟩
  show k (fb true) _
  rw[<- h];exact q
def R0:Rl:=⟨NW,fun f m=>NW f/\m<=6⟩
theorem Zjl {w:Str}{p:Option Ft×Nat×Nat}(h:Z6g w=some p):(w,p)∈rulesL:=PySem.mem_of_lookup h
def Zum (r:List Tv):Prop:=∃n ks,r=E.tvL ks/\∀k∈ks,Ex R0 n k
theorem mkE {w:Wd}{r:List Tv}(hr:Zum r)(ha:Ar R0 w r.length):∃n e,Tv.tup (w.hd.map Tv.at++r)=E.tv e/\Ex R0 n e:=by
 obtain⟨n,ks,rfl,hk⟩:=hr
 rw[Z0f] at ha
 exact⟨n+1,.nd w ks,rfl,.mk ha hk⟩
theorem Z13 {lo hi:Nat}{r:List Tv}(h:Z8k lo hi r=true):lo<=r.length/\r.length<=hi/\r.all Z0p=true:=by
 simpa [Z8k,and_assoc] using h
theorem Zgq {m:Int}{t:Tv}(h:Zgk m t=true):∃i,t=ti i/\0<=i/\i<=m:=by
 cases t with
 | «at» v => cases v <;> first | exact ⟨_, rfl, by simpa [Zgk] using h⟩ | cases h
 |_=>cases h
theorem Z3i {t:Tv}(h:nameT t=true):∃x,t=ts x/\NW x:=by
 cases t with
 | «at» v => cases v <;> first | exact ⟨_, rfl, nameB_iff.mp h⟩ | cases h
 |_=>cases h
theorem Zjm {t:Tv}(h:Zgm t=true):∃x,t=ts x/\x∈signsL:=by
 cases t with
 | «at» v => cases v <;> first | exact ⟨_, rfl, contains_iff_mem.mp h⟩ | cases h
 |_=>cases h
theorem Zs0 {w:Str}{r:List Tv}(h:Zjj (Z6g w) r=true)(ih:∀r',(r'=r∨∃x,r=x::r')->r'.all Z0p=true->Zum r'):∃n e,Tv.tup (.at (.str w)::r)=E.tv e/\Ex R0 n e:=by
 cases hk:Z6g w with
 |none=>rw[hk] at h;cases h
 |some p=>
  have hm:=Zjl hk
  rw[hk] at h
  obtain⟨o,lo,hi⟩:=p
  have none':o=none->Z8k lo hi r=true:=fun e=>by subst e;exact h
  have some':∀f,o=some f->∃x r',r=x::r'/\ftT f x=true/\Z8k lo hi r'=true:=fun f e=>by
   subst e
   cases r with
   |nil=>cases h
   |cons x r'=>have h':(ftT f x&&Z8k lo hi r')=true:=h;rw[Bool.and_eq_true] at h';exact⟨x,r',rfl,h'.1,h'.2⟩
  simp only [rulesL,mem_cons,not_mem_nil,or_false,Prod.mk.injEq] at hm
  rcases hm with ⟨rfl,rfl,rfl,rfl⟩|⟨rfl,rfl,rfl,rfl⟩|⟨rfl,rfl,rfl,rfl⟩|⟨rfl,rfl,rfl,rfl⟩|⟨rfl,rfl,rfl,rfl⟩|⟨rfl,rfl,rfl,rfl⟩|⟨rfl,rfl,rfl,rfl⟩|⟨rfl,rfl,rfl,rfl⟩|⟨rfl,rfl,rfl,rfl⟩|⟨rfl,rfl,rfl,rfl⟩|⟨rfl,rfl,rfl,rfl⟩
  ·obtain⟨x,r',rfl,h1,h2⟩:=some' _ rfl
   obtain⟨i,rfl,h3,h4⟩:=Zgq h1
   obtain⟨h5,h6,h7⟩:=Z13 h2
   exact mkE (w:=.num i) (ih r' (.inr ⟨_,rfl⟩) h7) ⟨by lia,h3,h4⟩
  ·obtain⟨x,r',rfl,h1,h2⟩:=some' _ rfl
   obtain⟨i,rfl,h3⟩:=Z3i h1
   obtain⟨h5,h6,h7⟩:=Z13 h2
   exact mkE (w:=.name i) (ih r' (.inr ⟨_,rfl⟩) h7) ⟨by lia,h3⟩
  ·obtain⟨x,r',rfl,h1,h2⟩:=some' _ rfl
   obtain⟨i,rfl,h3⟩:=Zjm h1
   obtain⟨h5,h6,h7⟩:=Z13 h2
   exact mkE (w:=.op i) (ih r' (.inr ⟨_,rfl⟩) h7) ⟨by lia,h3⟩
  ·obtain⟨h5,h6,h7⟩:=Z13 (none' rfl)
   exact mkE (w:=.pick) (ih r (.inl rfl) h7) (show r.length=3 by lia)
  ·obtain⟨x,r',rfl,h1,h2⟩:=some' _ rfl
   obtain⟨i,rfl,h3⟩:=Z3i h1
   obtain⟨h5,h6,h7⟩:=Z13 h2
   exact mkE (w:=.lt i) (ih r' (.inr ⟨_,rfl⟩) h7) ⟨by lia,h3⟩
  ·obtain⟨x,r',rfl,h1,h2⟩:=some' _ rfl
   obtain⟨i,rfl,h3⟩:=Z3i h1
   obtain⟨h5,h6,h7⟩:=Z13 h2
   exact mkE (w:=.st i) (ih r' (.inr ⟨_,rfl⟩) h7) ⟨by lia,h3⟩
  ·obtain⟨h5,h6,h7⟩:=Z13 (none' rfl)
   exact mkE (w:=.say) (ih r (.inl rfl) h7) (show r.length=1 by lia)
  ·obtain⟨h5,h6,h7⟩:=Z13 (none' rfl)
   exact mkE (w:=.take) (ih r (.inl rfl) h7) (show r.length=0 by lia)
  ·obtain⟨h5,h6,h7⟩:=Z13 (none' rfl)
   exact mkE (w:=.do) (ih r (.inl rfl) h7) ⟨h5,h6⟩
  ·obtain⟨x,r',rfl,h1,h2⟩:=some' _ rfl
   obtain⟨i,rfl,h3,h4⟩:=Zgq h1
   obtain⟨h5,h6,h7⟩:=Z13 h2
   exact mkE (w:=.again i) (ih r' (.inr ⟨_,rfl⟩) h7) ⟨by lia,h3,h4⟩
  ·obtain⟨x,r',rfl,h1,h2⟩:=some' _ rfl
   obtain⟨i,rfl,h3⟩:=Z3i h1
   obtain⟨h5,h6,h7⟩:=Z13 h2
   exact mkE (w:=.call i) (ih r' (.inr ⟨_,rfl⟩) h7) ⟨by lia,h3.1,h3,h6⟩
mutual
theorem toE:∀t:Tv,okN t=true->∃n e,t=E.tv e/\Ex R0 n e
 | .tup [],h=>by cases h
 | .tup (y :: []),h=>by
  rw[okN,Bool.and_eq_true] at h
  have key:∀w,Zjj (Z6g w) []=true->∃n e,Tv.tup [.at (.str w)]=E.tv e/\Ex R0 n e:=fun w hw=>Zs0 hw fun r' hr _=>by
   rcases hr with rfl|⟨x,hx⟩
   ·exact⟨0,[],rfl,fun k hk=>by cases hk⟩
   ·cases hx
  cases y with
  | «at» v => cases v <;> first | exact key _ h.1 | cases h.1
  |_=>cases h.1
 | .tup (y::x::r),h=>by
  rw[okN,Bool.and_eq_true,Zjk,Zjk,Bool.and_eq_true,Bool.and_eq_true] at h
  have i1:=Zwe r h.2.2.2
  have i2:Z0p x=true->∃n e,x=E.tv e/\Ex R0 n e:=fun hx=>toE x (by have:=h.2.2.1;simpa [hx] using this)
  have key:∀w,Zjj (Z6g w) (x::r)=true->∃n e,Tv.tup (.at (.str w)::x::r)=E.tv e/\Ex R0 n e:=fun w hw=>Zs0 hw fun r' hr ha=>by
   rcases hr with rfl|⟨z,hz⟩
   ·rw[all_cons,Bool.and_eq_true] at ha
    obtain⟨n,e,e1,e2⟩:=i2 ha.1
    obtain⟨m,ks,e3,e4⟩:=i1 ha.2
    refine⟨n+m,e::ks,by rw[e1,e3];rfl,fun k hk=>?_⟩
    rcases mem_cons.mp hk with rfl|hk
    ·exact e2.up (by lia)
    ·exact(e4 k hk).up (by lia)
   ·cases hz;exact i1 ha
  cases y with
  | «at» v => cases v <;> first | exact key _ h.1 | cases h.1
  |_=>cases h.1
 | .at v,h=>by cases h
 | .lst l,h=>by cases h
 | .dic l,h=>by cases h
 | .scr l,h=>by cases h
 | .ktp l,h=>by cases h
 | .fnv a,h=>by cases h
theorem Zwe:∀l:List Tv,Zjk l=true->l.all Z0p=true->Zum l
 |[],_,_=>⟨0,[],rfl,fun k hk=>by cases hk⟩
 |t::l,h,ha=>by
  rw[Zjk,Bool.and_eq_true] at h
  rw[all_cons,Bool.and_eq_true] at ha
  obtain⟨n,e,e1,e2⟩:=toE t (by have:=h.1;simpa [ha.1] using this)
  obtain⟨m,ks,e3,e4⟩:=Zwe l h.2 ha.2
  refine⟨n+m,e::ks,by rw[e1,e3];rfl,fun k hk=>?_⟩
  rcases mem_cons.mp hk with rfl|hk
  ·exact e2.up (by lia)
  ·exact(e4 k hk).up (by lia)
end
inductive spHeadP (args:List Sl)(k:(Sl->List Sl->Prop)):Prop
 |mk (w:Wd) (ks:List E) (_:args = [.fz (Tree.tv Wd.hd (.nd w ks))]) (_:ks.length<=1000) (_:k (.fz (.tup (w.hd.map Tv.at))) [.fz (Tree.tv Wd.hd (.nd w ks))]):spHeadP args k
theorem Zo6:∀args k,spHeadP args k->nrm (Z0j Zft Zfs) (Z02 args k) (Z09 1 args):=by
 rintro args k ⟨w,ks,rfl,hl,q⟩
 have h2:=(Z89 w).2.2
 have ll:(w.hd.map Tv.at++E.tvL ks).length<=16777216:=by rw[length_append,length_map,Z0f];lia
 refine⟨ll,rfl,Z1a (w.hd.map Tv.at++E.tvL ks) [] none (Zj7 w ks) fun s'=>?_⟩
 rw[nil_append,Znv]
 exact q
inductive spPartsP (args:List Sl)(k:(Sl->List Sl->Prop)):Prop
 |mk (w:Wd) (ks:List E) (_:args = [.fz (Tree.tv Wd.hd (.nd w ks))]) (_:ks.length<=1000) (_:k (.fz (.tup (E.tvL ks))) [.fz (Tree.tv Wd.hd (.nd w ks))]):spPartsP args k
theorem Zgr:∀args k,spPartsP args k->nrm (Z0j Z7t Z7s) (Z02 args k) (Z09 1 args):=by
 rintro args k ⟨w,ks,rfl,hl,q⟩
 have h2:=(Z89 w).2.2
 have ll:(w.hd.map Tv.at++E.tvL ks).length<=16777216:=by rw[length_append,length_map,Z0f];lia
 have e:(w.hd.map Tv.at++E.tvL ks).filter Z0p=E.tvL ks:=Zg9 _ _ fun k hk=>by rw[E.tvL,Z0h] at hk;obtain⟨k,_,rfl⟩:=mem_map.mp hk;exact E.tp k
 refine⟨ll,rfl,Z0x (w.hd.map Tv.at++E.tvL ks) [] none (Zj7 w ks) fun s'=>?_⟩
 rw[nil_append,e]
 exact q
abbrev nD (e:E):Str×E:=("node",e)
abbrev oD (e:E):Str×E:=("opened",e)
abbrev cD (e:E):Str×E:=("closed",e)
def Zdw (me:E):Wd->List (List (Str×E))->List (Str×E)
 | .lt _,[a,b]=>a++(oD me::(b ++ [cD me]))
 |_,l=>l.flatten
mutual
def stp:E->List (Str×E)
 | .nd w ks=>nD (.nd w ks)::Zdw (.nd w ks) w (Z6i ks)
def Z6i:List E->List (List (Str×E))
 |[]=>[]
 |k::ks=>stp k::Z6i ks
end
def inr (me:E):Wd->List E->List (Str×E)
 | .lt _,[a,b]=>[nD a,oD me,nD b,cD me]
 |_,ks=>ks.map nD
def wkk (p:Str×E):List (Str×E):=if p.1="node" then stp p.2 else [p]
theorem Z5y (e:E):wkk (nD e)=stp e:=rfl
theorem Z3j:∀ks:List E,(Z6i ks).flatten=(ks.map nD).flatMap wkk
 |[]=>rfl
 |k::ks=>by rw[Z6i,flatten_cons,map_cons,flatMap_cons,Z3j ks];rfl
theorem Zay (e:E):wkk (oD e) = [oD e]:=if_neg (show ¬ ("opened":Str)="node" by decide+kernel)
theorem Z5z (e:E):wkk (cD e) = [cD e]:=if_neg (show ¬ ("closed":Str)="node" by decide+kernel)
theorem Zgs (w:Wd)(ks:List E):stp (.nd w ks)=nD (.nd w ks)::(inr (.nd w ks) w ks).flatMap wkk:=by
 rw[stp]
 congr 1
 cases w with
 |lt x=>
  match ks with
  |[a,b]=>
   simp only [Z6i,Zdw,inr,flatMap_cons,List.flatMap_nil,Z5y,Zay,Z5z]
   simp
  |[]=>rfl
  |[a]=>have:=Z3j [a];simp only [Z6i,Zdw,inr] at this ⊢;exact this
  |a::b::c::l=>have:=Z3j (a::b::c::l);simp only [Z6i,Zdw,inr] at this ⊢;exact this
 |_=>exact Z3j _
def dT (p:Str×E):Tv:=.tup [ts p.1,E.tv p.2]
mutual
theorem Zaz:∀e:E,(stp e).length<=3*e.cnt
 | .nd w ks=>by
  have h:=Zc4 ks
  rw[stp,Tree.cnt,length_cons]
  have:(Zdw (.nd w ks) w (Z6i ks)).length<=(Z6i ks).flatten.length+2:=by
   cases w with
   |lt x=>
    match Z6i ks with
    |[a,b]=>simp [Zdw];lia
    |[]=>simp [Zdw]
    |[a]=>simp [Zdw]
    |a::b::c::l=>simp [Zdw]
   |_=>exact Nat.le_add_right _ _
  lia
theorem Zc4:∀ks:List E,(Z6i ks).flatten.length<=3*Tree.cntL ks
 |[]=>Nat.zero_le _
 |k::ks=>by
  rw[Z6i,flatten_cons,length_append,Tree.cntL]
  have:=Zaz k
  have:=Zc4 ks
  lia
end
theorem Zs1 (p:Str×E):1<=(wkk p).length:=by
 obtain⟨d,e⟩:=p
 unfold wkk
 split
 ·cases e;rw[stp];simp
 ·simp
theorem Zc5:∀l:List (Str×E),l.length<=(l.flatMap wkk).length
 |[]=>Nat.le_refl _
 |p::l=>by
  rw[flatMap_cons,length_cons,length_append]
  have:=Zs1 p
  have:=Zc5 l
  lia
inductive spSteps (args:List Sl)(k:(Sl->List Sl->Prop)):Prop
 |mk (R:Rl) (N:Nat) (e:E) (_:args = [.fz (E.tv e)]) (_:Ex R N e) (_:e.cnt<=300000) (_:k (.own (.lst ((stp e).map dT))) [.fz (E.tv e)]):spSteps args k
def Dd (R:Rl)(p:Str×E):Prop:=(∃N,Ex R N p.2)/\(p.1="node"∨p.1="opened"∨p.1="closed")
theorem Zs2 {R:Rl}{w:Wd}{ks:List E}{N:Nat}(h:Ex R N (.nd w ks)):∀p∈inr (.nd w ks) w ks,Dd R p:=by
 have h0:=h
 cases h with
 | @mk n _ _ h hk=>
  have base:∀p∈ks.map nD,Dd R p:=fun p hp=>by
   obtain⟨k,z,rfl⟩:=mem_map.mp hp
   exact⟨⟨n,hk k z⟩,.inl rfl⟩
  cases w with
  |lt x=>
   obtain⟨a,b,rfl⟩:=Zui h.1
   intro p hp
   simp only [inr,mem_cons,not_mem_nil,or_false] at hp
   rcases hp with rfl|rfl|rfl|rfl
   ·exact⟨⟨n,hk _ (by simp)⟩,.inl rfl⟩
   ·exact⟨⟨_,h0⟩,.inr (.inl rfl)⟩
   ·exact⟨⟨n,hk _ (by simp)⟩,.inl rfl⟩
   ·exact⟨⟨_,h0⟩,.inr (.inr rfl)⟩
  |_=>exact base
abbrev gSt:Gm:=Zam spPartsP
def Zs3 (R:Rl)(e:E)(m:Nat)(M:Ms):Prop:=∃(dn td:List (Str×E)) (o3 o4 o5:Option Sl),M=⟨[some (.fz (E.tv e)),some (.own (.lst (dn.map dT))),some (.own (.lst (td.reverse.map dT))),o3,o4,o5],[],[]⟩/\dn++td.flatMap wkk=stp e/\(∀p∈td,Dd R p)/\m=(td.flatMap wkk).length
theorem Z73 {k:List Tv->Ms->Prop}:∀(ks:List E) (acc:List Tv) (s:Option Sl),(∀s,k (acc++ks.map fun t=>dT (nD t)) ⟨[s],[],[]⟩)->Z03 (bd (.nm 0)) (sem gSt .tt).t (sem gSt Zc0).e k (E.tvL ks) acc ⟨[s],[],[]⟩
 |[],acc,s,q=>by have:=q s;rw[map_nil,append_nil] at this;exact this
 |t::ks,acc,s,q=>by
  show Z03 _ _ _ _ (E.tvL ks) (acc ++ [dT (nD t)]) _
  exact Z73 ks (acc ++ [dT (nD t)]) _ fun s=>by simpa using q s
theorem Zjn:∀args k,spSteps args k->nrm (Z0j gSt Zal) (Z02 args k) (Z09 6 args):=by
 rintro args k ⟨R,N,e,rfl,he,hc,q⟩
 have hs:=Zaz e
 refine⟨fun M=>∃(o2 o3 o4 o5:Option Sl),M=⟨[some (.fz (E.tv e)),some (.own (.lst ((stp e).map dT))),o2,o3,o4,o5],[],[]⟩,⟨Zs3 R e,⟨_,[],[nD e],none,none,none,rfl,by simp [Z5y],fun p hp=>by rw[mem_singleton.mp hp];exact⟨⟨N,he⟩,.inl rfl⟩,rfl⟩,?_⟩,?_⟩
 ·rintro m M ⟨dn,td,o3,o4,o5,rfl,hi,ht,rfl⟩
  have l1:=congrArg List.length hi
  rw[length_append] at l1
  have l2:=Zc5 td
  match td,ht,hi,l1,l2 with
  |[],ht,hi,l1,l2=>
   rw[List.flatMap_nil,append_nil] at hi
   subst hi
   exact⟨_,_,_,_,rfl⟩
  | (d,.nd w ks)::td,ht,hi,l1,l2=>
   rw[show((d,Tree.nd w ks)::td).reverse.map dT=td.reverse.map dT ++ [dT (d,.nd w ks)] by simp]
   refine Z0k (fun g=>?_) (fun g=>absurd (by simp) g)
   have pe:Zmb (.lst (td.reverse.map dT ++ [dT (d,.nd w ks)])) []=some (True,.lst (td.reverse.map dT),dT (d,.nd w ks)):=by unfold Zmb;simp
   generalize td.reverse.map dT ++ [dT (d,.nd w ks)]=l at pe g
   refine⟨rfl,bxx pe ⟨trivial,?_⟩⟩
   obtain⟨⟨N',hN⟩,hd⟩:=ht (d,.nd w ks) mem_cons_self
   have ht':∀p∈td,Dd R p:=fun p hp=>ht p (mem_cons_of_mem _ hp)
   have hdl:(dn.map dT).length<16777216:=by rw[length_map];lia
   have side:∀(p:Str×E),wkk p = [p]->dn++(p::td).flatMap wkk=stp e->∀o5:Option Sl,∃m',m'<((p::td).flatMap wkk).length/\Zs3 R e m' ⟨[some (.fz (E.tv e)),some (.own (.lst (dn.map dT ++ [dT p]))),some (.own (.lst (td.reverse.map dT))),some (fs p.1),some (.fz (E.tv p.2)),o5],[],[]⟩:=fun p hp hi o5=>
    ⟨(td.flatMap wkk).length,by rw[flatMap_cons,hp];simp,dn ++ [p],td,some (fs p.1),some (.fz (E.tv p.2)),o5,by simp,by rw[<- hi,flatMap_cons,hp];simp,ht',rfl⟩
   rcases hd with hd|hd|hd
   ·simp only at hd
    subst hd
    have hcn:ks.length<=1000:=by cases hN with|mk h hk=>have:=h.le;lia
    refine⟨rfl,hdl,rfl,w,ks,rfl,hcn,by rw[Z0f];lia,rfl,Z73 ks [] none fun s5=>?_⟩
    have hdT:(ks.map fun t=>dT (nD t))=(ks.map nD).map dT:=by rw[map_map];rfl
    rw[nil_append,hdT]
    refine⟨fun M=>∃o3 o4:Option Sl,M=⟨[some (.fz (E.tv e)),some (.own (.lst (dn.map dT ++ [dT (nD (.nd w ks))]))),some (.own (.lst (td.reverse.map dT))),o3,o4,some (.own (.lst ((inr (.nd w ks) w ks).map dT)))],[],[]⟩,?_,?_⟩
    ·cases w with
     |lt x=>
      obtain⟨a,b,rfl⟩:∃a b,ks = [a,b]:=by cases hN with|mk h hk=>exact Zui h.1
      exact⟨_,_,rfl⟩
     |_=>exact⟨_,_,rfl⟩
    ·rintro M ⟨o3,o4,rfl⟩
     have hsp:=Zgs w ks
     have hin:dn++(nD (.nd w ks)::((inr (.nd w ks) w ks).flatMap wkk++td.flatMap wkk))=stp e:=by rw[<- hi,flatMap_cons,Z5y,hsp];rfl
     have l3:=congrArg List.length hin
     have l4:=Zc5 (inr (.nd w ks) w ks)
     have l5:=Zc5 td
     simp only [length_append,length_cons] at l3
     refine⟨rfl,?_,(((inr (.nd w ks) w ks)++td).flatMap wkk).length,?_,dn ++ [nD (.nd w ks)],inr (.nd w ks) w ks++td,o3,o4,some (.own (.lst ((inr (.nd w ks) w ks).map dT))),?_,?_,?_,rfl⟩
     ·simp only [length_map,length_reverse]
      lia
     ·rw[flatMap_cons,Z5y,hsp,List.flatMap_append]
      simp only [length_append,length_cons]
      lia
     ·rw[show(inr (.nd w ks) w ks++td).reverse.map dT=td.reverse.map dT++((inr (.nd w ks) w ks).map dT).reverse by simp,show(dn ++ [nD (.nd w ks)]).map dT=dn.map dT ++ [dT (nD (.nd w ks))] by simp]
      rfl
     ·rw[<- hin,List.flatMap_append];simp
     ·intro p hp
      rcases mem_append.mp hp with hp|hp
      ·exact Zs2 hN p hp
      ·exact ht' p hp
   ·simp only at hd
    subst hd
    exact⟨rfl,hdl,side (oD (.nd w ks)) (Zay _) hi _⟩
   ·simp only at hd
    subst hd
    exact⟨rfl,hdl,side (cD (.nd w ks)) (Z5z _) hi _⟩
 ·rintro M ⟨o2,o3,o4,o5,rfl⟩
  exact q
inductive spSetsB (args:List Sl)(k:(Sl->List Sl->Prop)):Prop
 |mk (R:Rl) (N:Nat) (e:E) (_:args = [.fz (E.tv e)]) (_:Ex R N e) (_:e.cnt<=300000) (_:k (fb (!rt [] e)) [.fz (E.tv e)]):spSetsB args k
abbrev gSb:Gm:=Z28 spSteps
def Zp1 (d:List (Key×Tv))(x:Str):Tv:=(Z07 d (.inr x)).getD (ti 0)
def CntOk (d:List (Key×Tv))(B:List Str):Prop:=∀x,Zp1 d x=ti (B.count x:Nat)
theorem CntOk.snoc {d:List (Key×Tv)}{B:List Str}{x:Str}(h:CntOk d B):CntOk (Z6w d (.inr x) (ti ((B.count x:Nat)+1))) (B ++ [x]):=fun y=>by
 unfold Zp1
 rw[Z1j,count_append]
 by_cases e:x=y
 ·subst e;rw[if_pos rfl];simp
 ·rw[if_neg (fun z=>e (by cases z;rfl))]
  have:=h y
  unfold Zp1 at this
  rw[this];simp [e]
theorem CntOk.drop {d:List (Key×Tv)}{B:List Str}{x:Str}(h:CntOk d (B ++ [x])):Z07 d (.inr x)=some (ti ((B.count x:Nat)+1))/\CntOk (Z6w d (.inr x) (ti ((B.count x:Nat)+1-1))) B:=by
 have hx:=h x
 unfold Zp1 at hx
 rw[count_append] at hx
 have e1:((B.count x + [x].count x:Nat):Int)=(B.count x:Nat)+1:=by simp
 rw[e1] at hx
 refine⟨?_,fun y=>?_⟩
 ·cases q:Z07 d (.inr x) with
  |none=>
   rw[q] at hx
   injection hx with hx;injection hx with hx
   lia
  |some t=>rw[q] at hx;rw[<- hx];rfl
 ·unfold Zp1
  rw[Z1j]
  by_cases e:x=y
  ·subst e;rw[if_pos rfl]
   show ti _=_
   congr 2;lia
  ·rw[if_neg (fun z=>e (by cases z;rfl))]
   have:=h y
   unfold Zp1 at this
   rw[this,count_append];simp [e]
abbrev stS (e0:E)(d:List (Key×Tv))(s2 s3:Option Sl):Ms:=⟨[some (.fz (E.tv e0)),some (.own (.dic d)),s2,s3],[],[]⟩
abbrev bdS:Pt:=.cons (.nm 2) (.cons (.nm 3) .nil)
abbrev lpS (P:PD)(l:List Tv)(M:Ms):Prop:=Z2n (bd bdS) (nrm (Z0j gSb Z39)) P l M
def SbGo (P:PD)(e0:E)(B:List Str)(ok:Bool)(l rest:List Tv)(n:Nat):Prop:=∀d s2 s3,CntOk d B->d.length+n<=1000000->(ok=true->∀d' s2 s3,CntOk d' B->d'.length<=d.length+n->lpS P rest (stS e0 d' s2 s3))->(ok=false->∀env,P.rt (.fz (tb true)) ⟨env,[],[]⟩)->lpS P (l++rest) (stS e0 d s2 s3)
theorem bzr {z r:Rz}{f:Rs->Prop}(e:z=r)(h:bz r f):bz z f:=e▸h
section
variable {P:PD}{e0:E}
theorem SbGo.app {B:List Str}{o1 o2:Bool}{l1 l2 rest:List Tv}{n1 n2:Nat}(h1:SbGo P e0 B o1 l1 (l2++rest) n1)(h2:SbGo P e0 B o2 l2 rest n2):SbGo P e0 B (o1&&o2) (l1++l2) rest (n1+n2):=fun d s2 s3 hc hl q r=>by
 rw[append_assoc]
 refine h1 d s2 s3 hc (by lia) (fun ho d' s2 s3 hc' hl'=>h2 d' s2 s3 hc' (by lia) (fun ho2 d2 s2 s3 hc2 hl2=>q (by rw[ho,ho2];rfl) d2 s2 s3 hc2 (by lia)) fun ho2=>r (by rw[ho2,Bool.and_false])) fun ho=>r (by rw[ho];rfl)
theorem Zgt {w:Wd}{ks:List E}{l:List Tv}{d:List (Key×Tv)}{s2 s3:Option Sl}(hw:∀x,w ≠ .st x)(q:lpS P l (stS e0 d (some (fs "node")) (some (.fz (E.tv (.nd w ks)))))):lpS P (dT (nD (.nd w ks))::l) (stS e0 d s2 s3):=by
 cases w with
 |st x=>exact absurd rfl (hw x)
 |_=>exact q
theorem Zs4 {x:Str}{ks:List E}{l:List Tv}{B:List Str}{d:List (Key×Tv)}{s2 s3:Option Sl}(hc:CntOk d B)(q:x∉B->lpS P l (stS e0 d (some (fs "node")) (some (.fz (E.tv (.nd (.st x) ks))))))(r:x∈B->∀env,P.rt (.fz (tb true)) ⟨env,[],[]⟩):lpS P (dT (nD (.nd (.st x) ks))::l) (stS e0 d s2 s3):=by
 have hx:(Z07 d (.inr x)).getD (ti 0)=ti (B.count x:Nat):=hc x
 refine⟨rfl,bzr (z:=C2.f .gt ((Z07 d (.inr x)).getD (ti 0)) (ti 0)) (r:=.ok (.v (tb (decide (0<((B.count x:Nat):Int)))))) (by rw[hx];rfl) ?_⟩
 by_cases hm:x∈B
 ·have:decide (0<((B.count x:Nat):Int))=true:=decide_eq_true (by have:=List.count_pos_iff.mpr hm;lia)
  rw[this]
  exact r hm _
 ·have:decide (0<((B.count x:Nat):Int))=false:=decide_eq_false (by have:=List.count_eq_zero.mpr hm;lia)
  rw[this]
  exact q hm
theorem Zo7 {x:Str}{ks:List E}{l:List Tv}{B:List Str}{d:List (Key×Tv)}{s2 s3:Option Sl}(hc:CntOk d B)(hl:d.length<=1000000)(q:∀s2 s3,lpS P l (stS e0 (Z6w d (.inr x) (ti ((B.count x:Nat)+1))) s2 s3)):lpS P (dT (oD (.nd (.lt x) ks))::l) (stS e0 d s2 s3):=by
 have hx:(Z07 d (.inr x)).getD (ti 0)=ti (B.count x:Nat):=hc x
 refine⟨rfl,bzr (z:=Zss ((Z07 d (.inr x)).getD (ti 0)) (ti 1)) (r:=.ok (.v (ti ((B.count x:Nat)+1)))) (by rw[hx];rfl) ?_⟩
 exact⟨by show d.length<16777216;lia,q _ _⟩
theorem Zgu {x:Str}{ks:List E}{l:List Tv}{B:List Str}{d:List (Key×Tv)}{s2 s3:Option Sl}(hc:CntOk d (B ++ [x]))(hl:d.length<=1000000)(q:∀s2 s3,lpS P l (stS e0 (Z6w d (.inr x) (ti ((B.count x:Nat)+1-1))) s2 s3)):lpS P (dT (cD (.nd (.lt x) ks))::l) (stS e0 d s2 s3):=
 ⟨by show d.length<16777216;lia,_,hc.drop.1,q _ _⟩
theorem Zgv {B:List Str}:∀(ks:List E) (rest:List Tv),(∀k∈ks,∀rest,SbGo P e0 B (rt B k) ((stp k).map dT) rest (2*k.cnt))->SbGo P e0 B (rtL B B ks) ((Z6i ks).flatten.map dT) rest (2*Tree.cntL ks)
 |[],rest,_=>fun d s2 s3 hc hl q _=>q rfl d s2 s3 hc (Nat.le_refl _)
 |k::ks,rest,h=>by
  have e1:((Z6i (k::ks)).flatten).map dT=(stp k).map dT++(Z6i ks).flatten.map dT:=by rw[Z6i,flatten_cons,map_append]
  rw[e1,rtL,Tree.cntL,Nat.mul_add]
  exact SbGo.app (h k mem_cons_self _) (Zgv ks rest fun j hj=>h j (mem_cons_of_mem _ hj))
theorem Zwy {R:Rl}{N:Nat}{e:E}(h:Ex R N e):∀B rest,SbGo P e0 B (rt B e) ((stp e).map dT) rest (2*e.cnt):=by
 induction h with
 | @mk n w ks h hk ih=>
  intro B rest
  have gen:(∀x,w ≠ .lt x)->(∀x,w ≠ .st x)->SbGo P e0 B (rt B (.nd w ks)) ((stp (.nd w ks)).map dT) rest (2*Tree.cnt (.nd w ks)):=fun h1 h2=>by
   have e1:rt B (.nd w ks)=rtL B B ks:=by
    rw[rt]
    cases w with
    |lt x=>exact absurd rfl (h1 x)
    |st x=>exact absurd rfl (h2 x)
    |_=>simp [rtH,exB]
   have e2:stp (.nd w ks)=nD (.nd w ks)::(Z6i ks).flatten:=by
    rw[stp]
    cases w with
    |lt x=>exact absurd rfl (h1 x)
    |_=>rfl
   rw[e1,e2,Tree.cnt]
   intro d s2 s3 hc hl q r
   refine Zgt h2 ?_
   exact Zgv ks rest (fun k hk=>ih k hk B) d _ _ hc (by lia) (fun ho d' s2 s3 hc' hl'=>q ho d' s2 s3 hc' (by lia)) r
  cases w with
  |lt x=>
   obtain⟨a,b,rfl⟩:=Zui h.1
   have e1:rt B (.nd (.lt x) [a,b])=(rt B a&&rt (B ++ [x]) b):=by simp [rt,rtL,rtH,exB]
   have e2:(stp (.nd (.lt x) [a,b])).map dT=dT (nD (.nd (.lt x) [a,b]))::((stp a).map dT++(dT (oD (.nd (.lt x) [a,b]))::((stp b).map dT ++ [dT (cD (.nd (.lt x) [a,b]))]))):=by simp [stp,Z6i,Zdw]
   have e3:Tree.cnt (.nd (.lt x) [a,b])=1+(a.cnt+b.cnt):=by simp [Tree.cnt,Tree.cntL]
   rw[e1,e2,e3]
   intro d s2 s3 hc hl q r
   refine Zgt (fun y z=>by cases z) ?_
   show lpS P (((stp a).map dT++(dT (oD (.nd (.lt x) [a,b]))::((stp b).map dT ++ [dT (cD (.nd (.lt x) [a,b]))])))++rest) _
   rw[append_assoc]
   refine ih a (by simp) B _ d _ _ hc (by lia) (fun ho d1 s2 s3 hc1 hl1=>?_) fun ho=>r (by rw[ho];rfl)
   refine Zo7 hc1 (by lia) fun s2 s3=>?_
   show lpS P (((stp b).map dT ++ [dT (cD (.nd (.lt x) [a,b]))])++rest) _
   rw[append_assoc]
   have lp:=Z4v d1 (.inr x) (ti ((B.count x:Nat)+1))
   refine ih b (by simp) (B ++ [x]) _ _ _ _ hc1.snoc (by lia) (fun ho2 d2 s2 s3 hc2 hl2=>?_) fun ho2=>r (by rw[ho,ho2];rfl)
   refine Zgu hc2 (by lia) fun s2 s3=>?_
   have lq:=Z4v d2 (.inr x) (ti ((B.count x:Nat)+1-1))
   exact q (by rw[ho,ho2];rfl) _ _ _ hc2.drop.2 (by lia)
  |st x=>
   obtain⟨a,rfl⟩:=Zwv h.1
   have e1:rt B (.nd (.st x) [a])=(!B.contains x&&rt B a):=by simp [rt,rtL,rtH,exB]
   have e2:(stp (.nd (.st x) [a])).map dT=dT (nD (.nd (.st x) [a]))::(stp a).map dT:=by simp [stp,Z6i,Zdw]
   have e3:Tree.cnt (.nd (.st x) [a])=1+a.cnt:=by simp [Tree.cnt,Tree.cntL]
   rw[e1,e2,e3]
   intro d s2 s3 hc hl q r
   refine Zs4 hc (fun hm=>?_) fun hm=>r (by simp [hm])
   exact ih a (by simp) B rest d _ _ hc (by lia) (fun ho d' s2 s3 hc' hl'=>q (by simp [hm,ho]) d' s2 s3 hc' (by lia)) fun ho=>r (by rw[ho,Bool.and_false])
  |_=>exact gen (fun x z=>by cases z) fun x z=>by cases z
theorem Zjo:∀args k,spSetsB args k->nrm (Z0j gSb Z27) (Z02 args k) (Z09 4 args):=by
 rintro args k ⟨R,N,e,rfl,he,hc,q⟩
 refine⟨fun M=>rt [] e=true/\∃o1 o2 o3,M=⟨[some (.fz (E.tv e)),o1,o2,o3],[],[]⟩,⟨rfl,R,N,e,rfl,he,hc,?_⟩,?_⟩
 ·show lpS _ ((stp e).map dT) (stS e [] none none)
  rw[<- append_nil ((stp e).map dT)]
  refine Zwy he [] [] [] none none (fun x=>rfl) (by simp;lia) (fun ho d' s2 s3 _ _=>⟨ho,_,_,_,rfl⟩) fun ho env=>?_
  rw[ho] at q
  exact q
 ·rintro M ⟨h,o1,o2,o3,rfl⟩
  show k (fb false) _
  rw[h] at q;exact q
end
theorem tvS (ks:List E):wtS (E.tvL ks)=(ks.map fun k=>wt k.tv).sum:=by rw[E.tvL,Z0h,wtS,map_map];rfl
theorem Zc6 (w:Wd)(ks:List E):(w.hd.map Tv.at++E.tvL ks).filter Z0p=E.tvL ks:=Zg9 _ _ fun k hk=>by rw[E.tvL,Z0h] at hk;obtain⟨k,_,rfl⟩:=mem_map.mp hk;exact E.tp k
mutual
theorem Zc7:∀e:E,wt e.tv=e.cnt
 | .nd w ks=>by
  show wt (.tup (w.hd.map Tv.at++E.tvL ks))=_
  rw[wt,Z2e,Zc6,tvS,Zs5 ks,Tree.cnt]
theorem Zs5:∀ks:List E,(ks.map fun k=>wt k.tv).sum=Tree.cntL ks
 |[]=>rfl
 |k::ks=>by rw[map_cons,sum_cons,Zc7 k,Zs5 ks,Tree.cntL]
end
theorem NW.len {x:Str}(h:NW x):x.length<=1000:=by have:=h.1.2.1;lia
theorem Zs6 {w:Wd}{m:Nat}(h:Ar R0 w m):∀v∈w.hd,Sm (.at v):=by
 have ok:∀x:Str,x.length<=1000->Sm (ts x):=fun x hx=>⟨⟨_,rfl⟩,fun y e=>by cases e;exact hx⟩
 have oi:∀i,Sm (ti i):=fun i=>⟨⟨_,rfl⟩,fun y e=>by cases e⟩
 have sg:∀s∈signsL,s.length<=1000:=by decide+kernel
 intro v hv
 cases w <;> simp only [Wd.hd,mem_cons,not_mem_nil,or_false] at hv <;> first
  | (rcases hv with rfl|rfl <;> first|exact ok _ (by decide+kernel)|exact oi _|exact ok _ h.2.len|exact ok _ (sg _ h.2)|exact ok _ h.2.2.1.len)
  | (subst hv;exact ok _ (by decide+kernel))
theorem Zs7 {w:Wd}{ks:List E}(h:Ar R0 w ks.length):Z6h (E.tv (.nd w ks))=true:=by
 have hf:∀{lo hi:Nat},lo<=ks.length->ks.length<=hi->Z8k lo hi (E.tvL ks)=true:=fun h1 h2=>by
  have:(E.tvL ks).all Z0p=true:=by
   rw[E.tvL,Z0h,all_map,all_eq_true]
   exact fun k _=>E.tp k
  simp [Z8k,Z0f,h1,h2,this]
 have nm:∀{x},NW x->nameT (ts x)=true:=fun h=>nameB_iff.mpr h
 have f2:∀{f:Ft} {x:Tv} {lo hi:Nat},ftT f x=true->lo<=ks.length->ks.length<=hi->Zjj (some (some f,lo,hi)) (x::E.tvL ks)=true:=fun h1 h2 h3=>by
  show(ftT _ _&&Z8k _ _ _)=true
  rw[h1,hf h2 h3];rfl
 cases w with
 |num i=>exact f2 (f:=.val) (by show(decide (0<=i)&&decide (i<=999999999))=true;simp [h.2.1,h.2.2]) (Nat.zero_le _) (by have:=h.1;lia)
 |name x=>exact f2 (f:=.nam) (nm h.2) (Nat.zero_le _) (by have:=h.1;lia)
 |take=>exact hf (lo:=0) (hi:=0) (Nat.zero_le _) (by have:ks.length=0:=h;lia)
 |op s=>exact f2 (f:=.sgn) (contains_iff_mem.mpr h.2) (by have:=h.1;lia) (by have:=h.1;lia)
 |pick=>exact hf (lo:=3) (hi:=3) (by have:ks.length=3:=h;lia) (by have:ks.length=3:=h;lia)
 |lt x=>exact f2 (f:=.nam) (nm h.2) (by have:=h.1;lia) (by have:=h.1;lia)
 |st x=>exact f2 (f:=.nam) (nm h.2) (by have:=h.1;lia) (by have:=h.1;lia)
 |say=>exact hf (lo:=1) (hi:=1) (by have:ks.length=1:=h;lia) (by have:ks.length=1:=h;lia)
 | «do» => exact hf h.1 h.2
 |again m=>exact f2 (f:=.tms) (by show(decide (0<=m)&&decide (m<=5))=true;simp [h.2.1,h.2.2]) (by have:=h.1;lia) (by have:=h.1;lia)
 |call f=>exact f2 (f:=.nam) (nm h.2.2.1) (Nat.zero_le _) h.2.2.2
theorem Zt0 {n:Nat}{e:E}(h:Ex R0 n e):okN e.tv=true:=by
 induction h with
 | @mk n w ks h hk ih=>
  show okN (.tup (w.hd.map Tv.at++E.tvL ks))=true
  rw[okN,Z4w,Zc6,Bool.and_eq_true]
  refine⟨Zs7 h,?_⟩
  rw[E.tvL,Z0h,all_map,all_eq_true]
  exact ih
theorem Zun {n:Nat}{e:E}(h:Ex R0 n e):Kn e.tv:=by
 induction h with
 | @mk n w ks h hk ih=>
  have hl:=h.le
  refine .mk ⟨⟨_,rfl⟩,fun l e=>?_⟩ fun l e x hx ht=>?_
  ·cases e
   have h2:=(Z89 w).2.2
   refine⟨by rw[length_append,length_map];have:=Z0f ks;unfold E.tvL at this;lia,fun x hx=>?_⟩
   rcases mem_append.mp hx with z|z
   ·obtain⟨v,hv,rfl⟩:=mem_map.mp z;exact Zs6 h v hv
   ·rw[Z0h] at z
    obtain⟨k,_,rfl⟩:=mem_map.mp z
    exact⟨E.okTy k,fun y e=>by cases k;cases e⟩
  ·cases e
   rcases mem_append.mp hx with z|z
   ·obtain⟨v,hv,rfl⟩:=mem_map.mp z;cases ht
   ·rw[Z0h] at z
    obtain⟨k,hk,rfl⟩:=mem_map.mp z
    exact ih k hk
inductive spExprQ (args:List Sl)(k:(Sl->List Sl->Prop)):Prop
 |mk (t:_) (_:args = [.fz t]) (_:Kn t) (_:wt t<=300000) (_:(okN t=false->k (fb false) [.fz t])) (_:∀e n,t=E.tv e->Ex R0 n e->k (fb (rt [] e)) [.fz t]):spExprQ args k
theorem Zgw (a:Ft->Addr)(aR:Addr):∀args k,spExprQ args k->nrm (Z0j (Z19 spSetsB (spTree a aR) aR) Z18) (Z02 args k) (Z09 1 args):=by
 rintro args k ⟨t,rfl,ht,hw,q1,q2⟩
 refine⟨rfl,t,rfl,ht,by lia,?_⟩
 cases h:okN t with
 |false=>exact q1 h
 |true=>
  obtain⟨n,e,rfl,he⟩:=toE t h
  rw[Zc7] at hw
  refine⟨rfl,R0,n,e,rfl,he,hw,?_⟩
  have:=q2 e n rfl he
  show k (fb (!(!rt [] e))) _
  rw[Bool.not_not];exact this
def flR (l:List (Str×E)):List E:=(l.filter fun p=>decide (p.1=("node":Str))).map (·.2)
theorem Z47 (a b:List (Str×E)):flR (a++b)=flR a++flR b:=by simp [flR]
theorem Zs8 (e:E):flR [oD e] = []:=by simp [flR];decide+kernel
theorem Zs9 (e:E):flR [cD e] = []:=by simp [flR];decide+kernel
theorem Zsa (e:E)(l:List (Str×E)):flR (nD e::l)=e::flR l:=by simp [flR]
theorem Zjp (me:E)(w:Wd)(L:List (List (Str×E))):flR (Zdw me w L)=flR L.flatten:=by
 cases w with
 |lt x=>
  match L with
  |[a,b]=>
   show flR (a++([oD me]++(b ++ [cD me])))=_
   rw[Z47,Z47,Z47,Zs8,Zs9]
   simp [flR]
  |[]=>rfl
  |[a]=>rfl
  |a::b::c::l=>rfl
 |_=>rfl
mutual
theorem Zkw:∀e:E,flR (stp e)=e.all
 | .nd w ks=>by rw[stp,Zsa,Zjp,Zgx ks,Tree.all]
theorem Zgx:∀ks:List E,flR (Z6i ks).flatten=Tree.allL ks
 |[]=>rfl
 |k::ks=>by rw[Z6i,flatten_cons,Z47,Zkw k,Zgx ks,Tree.allL]
end
theorem allL_mem {x:E}:∀{ks:List E},x∈Tree.allL ks↔∃k∈ks,x∈k.all
 |[]=>by simp [Tree.allL]
 |k::ks=>by rw[Tree.allL,mem_append,allL_mem];simp
theorem Zsb {R:Rl}{N:Nat}{e:E}(h:Ex R N e):∀x∈e.all,∃n,Ex R n x:=by
 induction h with
 | @mk n w ks h hk ih=>
  intro x hx
  rw[Tree.all] at hx
  rcases mem_cons.mp hx with rfl|hx
  ·exact⟨_,.mk h hk⟩
  ·obtain⟨k,hk,hx⟩:=allL_mem.mp hx;exact ih k hk x hx
theorem Zo8 {me:E}{w:Wd}{ks:List E}{p:Str×E}(h:p∈inr me w ks):(∃k∈ks,p=nD k)∨p=oD me∨p=cD me:=by
 have base:p∈ks.map nD->∃k∈ks,p=nD k:=fun hp=>by obtain⟨k,z,rfl⟩:=mem_map.mp hp;exact⟨k,z,rfl⟩
 cases w with
 |lt x=>
  match ks,h,base with
  |[a,b],h,_=>
   simp only [inr,mem_cons,not_mem_nil,or_false] at h
   rcases h with rfl|rfl|rfl|rfl
   ·exact .inl ⟨a,by simp,rfl⟩
   ·exact .inr (.inl rfl)
   ·exact .inl ⟨b,by simp,rfl⟩
   ·exact .inr (.inr rfl)
  |[],h,base=>exact .inl (base h)
  |[a],h,base=>exact .inl (base h)
  |a::b::c::l,h,base=>exact .inl (base h)
 |_=>exact .inl (base h)
theorem Zsc {R:Rl}{N:Nat}{e:E}(h:Ex R N e):∀p∈stp e,Dd R p:=by
 induction h with
 | @mk n w ks h hk ih=>
  intro p hp
  have hme:Ex R (n+1) (.nd w ks):=.mk h hk
  rw[Zgs] at hp
  rcases mem_cons.mp hp with rfl|hp
  ·exact⟨⟨_,hme⟩,.inl rfl⟩
  ·obtain⟨q,hq,hp⟩:=List.mem_flatMap.mp hp
   rcases Zo8 hq with ⟨k,hk,rfl⟩|rfl|rfl
   ·rw[Z5y] at hp;exact ih k hk p hp
   ·rw[Zay] at hp;rw[mem_singleton.mp hp];exact⟨⟨_,hme⟩,.inr (.inl rfl)⟩
   ·rw[Z5z] at hp;rw[mem_singleton.mp hp];exact⟨⟨_,hme⟩,.inr (.inr rfl)⟩
def flT:E->Tv
 | .nd w ks=>.tup [.tup (w.hd.map Tv.at),ti ks.length]
inductive spFlat (args:List Sl)(k:(Sl->List Sl->Prop)):Prop
 |mk (R:Rl) (N:Nat) (e:E) (_:args = [.fz (E.tv e)]) (_:Ex R N e) (_:e.cnt<=300000) (_:k (.own (.lst (e.all.map flT))) [.fz (E.tv e)]):spFlat args k
abbrev gF:Gm:=Zfw spSteps spPartsP spHeadP
theorem Z3k {R:Rl}{k:List Tv->Ms->Prop}:∀(l:List (Str×E)) (acc:List E) (s0 s1:Option Sl),(∀p∈l,Dd R p)->(∀s0 s1,k ((acc++flR l).map flT) ⟨[s0,s1],[],[]⟩)->Z03 (bd (.cons (.nm 0) (.cons (.nm 1) .nil))) (sem gF (.cmp .eq (.var 0) (.glb 0))).t (sem gF Zfu).e k (l.map dT) (acc.map flT) ⟨[s0,s1],[],[]⟩
 |[],acc,s0,s1,_,q=>by have:=q s0 s1;rw[show flR [] = [] from rfl,append_nil] at this;exact this
 | (d,.nd w ks)::l,acc,s0,s1,h,q=>by
  obtain⟨⟨n,hn⟩,hd⟩:=h _ mem_cons_self
  have h2:∀p∈l,Dd R p:=fun p hp=>h p (mem_cons_of_mem _ hp)
  have hl:ks.length<=1000:=by cases hn with|mk h hk=>have:=h.le;lia
  rcases hd with hd|hd|hd <;> simp only at hd <;> subst hd
  ·refine⟨rfl,w,ks,rfl,hl,rfl,w,ks,rfl,hl,?_⟩
   have e0:((E.tvL ks).length:Int)=ks.length:=by rw[Z0f]
   show Z03 _ _ _ _ (l.map dT) (acc.map flT ++ [.tup [.tup (w.hd.map Tv.at),ti (E.tvL ks).length]]) _
   rw[e0,show acc.map flT ++ [.tup [.tup (w.hd.map Tv.at),ti ks.length]]=(acc ++ [(Tree.nd w ks:E)]).map flT by simp [flT]]
   exact Z3k l _ _ _ h2 fun s0 s1=>by have:=q s0 s1;rw[Zsa] at this;simpa using this
  ·exact Z3k l acc _ _ h2 fun s0 s1=>by have:=q s0 s1;rw[show flR ((Str.ofString "opened",Tree.nd w ks)::l)=flR l from by rw[show(Str.ofString "opened",Tree.nd w ks)::l = [oD (.nd w ks)]++l from rfl,Z47,Zs8];rfl] at this;exact this
  ·exact Z3k l acc _ _ h2 fun s0 s1=>by have:=q s0 s1;rw[show flR ((Str.ofString "closed",Tree.nd w ks)::l)=flR l from by rw[show(Str.ofString "closed",Tree.nd w ks)::l = [cD (.nd w ks)]++l from rfl,Z47,Zs9];rfl] at this;exact this
theorem Zo9:∀args k,spFlat args k->nrm (Z0j gF Zfv) (Z02 args k) (Z09 1 args):=by
 rintro args k ⟨R,N,e,rfl,he,hc,q⟩
 have hs:=Zaz e
 refine⟨rfl,R,N,e,rfl,he,hc,by rw[length_map];lia,rfl,Z3k (stp e) [] none none (Zsc he) fun s0 s1=>?_⟩
 rw[nil_append,Zkw]
 exact q
def clP:E->Option (Str×Nat)
 | .nd (.call f) ks=>some (f,ks.length)
 |_=>none
def prT (p:Str×Nat):Tv:=.tup [ts p.1,ti p.2]
def CsOk (cs:List (Key×Tv)):Prop:=∀x t,Z07 cs (.inr x)=some t->∃i:Int,t=ti i
def okC (cs:List (Key×Tv))(p:Str×Nat):Bool:=match Z07 cs (.inr p.1) with
 |some (.at v)=>decide (v=V.int p.2)
 |_=>decide (V.int (-1)=V.int p.2)
def clB (cs:List (Key×Tv))(e:E):Bool:=(e.all.filterMap clP).all (okC cs)
inductive spCallsR (args:List Sl)(k:(Sl->List Sl->Prop)):Prop
 |mk (R:Rl) (N:Nat) (e:E) (cs:List (Key×Tv)) (_:args = [.fz (E.tv e),.own (.dic cs)]) (_:CsOk cs) (_:Ex R N e) (_:e.cnt<=300000) (_:k (fb (clB cs e)) [.fz (E.tv e),.own (.dic cs)]):spCallsR args k
abbrev gCr:Gm:=Z1n spFlat
theorem Z8c {k:List Tv->Ms->Prop}:∀(l:List E) (acc:List (Str×Nat)) (s0 s1:Option Sl),(∀s0 s1,k ((acc++l.filterMap clP).map prT) ⟨[s0,s1],[],[]⟩)->Z03 (bd (.cons (.nm 0) (.cons (.nm 1) .nil))) (sem gCr (.cmp .eq (.ix (.var 0) (.cst (.int 0))) (.cst (.str "call")))).t (sem gCr Z2o).e k (l.map flT) (acc.map prT) ⟨[s0,s1],[],[]⟩
 |[],acc,s0,s1,q=>by have:=q s0 s1;rw[List.filterMap_nil,append_nil] at this;exact this
 | .nd w ks::l,acc,s0,s1,q=>by
  have no:clP (.nd w ks)=none->∀s0 s1,k ((acc++l.filterMap clP).map prT) ⟨[s0,s1],[],[]⟩:=fun e s0 s1=>by have:=q s0 s1;rwa [List.filterMap_cons_none e] at this
  cases w with
  |call f=>
   have e1:acc.map prT ++ [.tup [ts f,ti ks.length]]=(acc ++ [(f,ks.length)]).map prT:=by simp [prT]
   show Z03 _ _ _ _ (l.map flT) (acc.map prT ++ [.tup [ts f,ti ks.length]]) _
   rw[e1]
   exact Z8c l _ _ _ fun s0 s1=>by have:=q s0 s1;rw[show(Tree.nd (.call f) ks::l:List E).filterMap clP=(f,ks.length)::l.filterMap clP from rfl] at this;simpa using this
  |_=>exact Z8c l acc _ _ (no rfl)
theorem Zc8 {cs:List (Key×Tv)}{k:List Tv->Ms->Prop}(hc:CsOk cs):∀(l:List (Str×Nat)) (acc:List Bool) (s1 s2:Option Sl),(∀s1 s2,k ((acc++l.map (okC cs)).map tb) ⟨[some (.out 0),s1,s2],[.own (.dic cs)],[]⟩)->Z03 (bd (.cons (.nm 1) (.cons (.nm 2) .nil))) (sem gCr .tt).t (sem gCr Z1e).e k (l.map prT) (acc.map tb) ⟨[some (.out 0),s1,s2],[.own (.dic cs)],[]⟩
 |[],acc,s1,s2,q=>by have:=q s1 s2;rw[map_nil,append_nil] at this;exact this
 | (f,n)::l,acc,s1,s2,q=>by
  have h1:∀b s1 s2,b=okC cs (f,n)->Z03 (bd (.cons (.nm 1) (.cons (.nm 2) .nil))) (sem gCr .tt).t (sem gCr Z1e).e k (l.map prT) (acc.map tb ++ [tb b]) ⟨[some (.out 0),s1,s2],[.own (.dic cs)],[]⟩:=fun b s1 s2 e=>by
   have e1:acc.map tb ++ [tb b]=(acc ++ [b]).map tb:=by simp
   rw[e1]
   exact Zc8 hc l _ _ _ fun s1 s2=>by have:=q s1 s2;rw[map_cons,<- e] at this;simpa using this
  refine⟨rfl,bzr (z:=C2.f .eq ((Z07 cs (.inr f)).getD (ti (-1))) (ti n)) (r:=.ok (.v (tb (okC cs (f,n))))) ?_ (h1 _ _ _ rfl)⟩
  unfold okC
  cases q2:Z07 cs (.inr f) with
  |none=>rfl
  |some t=>
   obtain⟨i,rfl⟩:=hc f t q2
   show Rz.ok (vB (false ^^ decide (V.int i=V.int n)))=Rz.ok (.v (tb (decide (V.int i=V.int n))))
   rw[Bool.false_xor];rfl
theorem Zgy:∀args k,spCallsR args k->nrm (Z0j gCr Z1m) (Z02 args k) (Z09 3 args):=by
 rintro args k ⟨R,N,e,cs,rfl,hc,he,hcn,q⟩
 have hl:=Tree.all_len e
 have hfl:(e.all.filterMap clP).length<=e.all.length:=List.length_filterMap_le _ _
 refine⟨rfl,R,N,e,rfl,he,hcn,by rw[length_map];lia,rfl,Z8c e.all [] none none fun s0 s1=>?_⟩
 refine⟨by rw[length_map,nil_append];lia,rfl,Zc8 hc _ [] none none fun s1 s2=>?_⟩
 refine⟨fun t ht=>by obtain⟨b,_,rfl⟩:=mem_map.mp ht;exact⟨b,rfl⟩,?_⟩
 have e2:((([]++(e.all.filterMap clP).map (okC cs)).map tb).map tvB).all id=clB cs e:=by
  unfold clB
  simp [all_map,Function.comp_def,tvB]
 show k (fb ((([]++([]++e.all.filterMap clP).map (okC cs)).map tb).map tvB |>.all id)) _
 rw[show([]++e.all.filterMap clP)=e.all.filterMap clP from rfl,e2]
 exact q
theorem Zgz (ns:List Str):(Stx.ofL ns).length=ns.length↔ns.Nodup:=by
 have le:∀(ns l:List Str),(ns.foldl Stx.addL l).length<=l.length+ns.length:=by
  intro ns
  induction ns with
  |nil=>intro l;exact Nat.le_refl _
  |cons a r ih=>
   intro l
   have h1:=ih (Stx.addL l a)
   have h2:=Stx.addL_len l a
   rw[foldl_cons,length_cons];lia
 have go:∀(ns l:List Str),(ns.foldl Stx.addL l).length=l.length+ns.length↔ns.Nodup/\∀x∈ns,x∉l:=by
  intro ns
  induction ns with
  |nil=>intro l;simp
  |cons a r ih=>
   intro l
   rw[foldl_cons,length_cons,nodup_cons]
   by_cases ha:a∈l
   ·have e:Stx.addL l a=l:=by unfold Stx.addL;rw[if_pos ha]
    rw[e]
    have:=le r l
    constructor
    ·intro h;lia
    ·rintro⟨_,h⟩;exact absurd ha (h a mem_cons_self)
   ·have e:Stx.addL l a=l ++ [a]:=by unfold Stx.addL;rw[if_neg ha]
    rw[e]
    have h1:=ih (l ++ [a])
    rw[length_append,length_singleton] at h1
    rw[show l.length+(r.length+1)=l.length+1+r.length by lia,h1]
    constructor
    ·rintro⟨h2,h3⟩
     refine⟨⟨fun z=>h3 a z (by simp),h2⟩,fun x hx=>?_⟩
     rcases mem_cons.mp hx with rfl|hx
     ·exact ha
     ·exact fun z=>h3 x hx (mem_append_left _ z)
    ·rintro⟨⟨h2,h3⟩,h4⟩
     refine⟨h3,fun x hx z=>?_⟩
     rcases mem_append.mp z with z|z
     ·exact h4 x (mem_cons_of_mem _ hx) z
     ·rw[mem_singleton.mp z] at hx;exact h2 hx
 have:=go ns []
 simpa [Stx.ofL] using this
def ParOk (t:Tv):Prop:=∃ps:List Str,t = .tup (ps.map ts)/\ps.length<=6/\(∀x∈ps,NW x)/\ps.Nodup
inductive spParams (args:List Sl)(k:(Sl->List Sl->Prop)):Prop
 |mk (t:_) (_:args = [.fz t]) (_:Kn1 t) (_:(ParOk t->k (fb true) [.fz t])) (_:(¬ParOk t->k (fb false) [.fz t])):spParams args k
abbrev gPa:Gm:=Z2v (spIs nameT)
theorem Zc9 {k:List Tv->Ms->Prop}:∀(l:List Tv) (acc:List Bool) (s:Option Sl),(∀t∈l,Sm t)->(∀s,k ((acc++l.map nameT).map tb) ⟨[s],[],[]⟩)->Z03 (bd (.nm 0)) (sem gPa .tt).t (sem gPa Z4f).e k l (acc.map tb) ⟨[s],[],[]⟩
 |[],acc,s,_,q=>by have:=q s;rw[map_nil,append_nil] at this;exact this
 |t::l,acc,s,h,q=>by
  refine⟨rfl,t,rfl,h t mem_cons_self,?_⟩
  show Z03 _ _ _ _ l (acc.map tb ++ [tb (nameT t)]) _
  rw[show acc.map tb ++ [tb (nameT t)]=(acc ++ [nameT t]).map tb by simp]
  exact Zc9 l _ _ (fun x hx=>h x (mem_cons_of_mem _ hx)) fun s=>by simpa using q s
theorem Z9r:∀{l:List Tv},l.all nameT=true->∃ps:List Str,l=ps.map ts/\∀x∈ps,NW x
 |[],_=>⟨[],rfl,fun x h=>by cases h⟩
 |t::l,h=>by
  rw[all_cons,Bool.and_eq_true] at h
  obtain⟨x,rfl,hx⟩:=Z3i h.1
  obtain⟨ps,rfl,hp⟩:=Z9r h.2
  exact⟨x::ps,rfl,fun y hy=>(mem_cons.mp hy).elim (fun e=>e▸hx) (hp y)⟩
theorem Z74 {ps:List Str}(h:∀x∈ps,NW x):(ps.map ts).all nameT=true:=by
 rw[all_map,all_eq_true]
 exact fun x hx=>nameB_iff.mpr (h x hx)
theorem Z48:∀{a b:List Str},a.map ts=b.map ts->a=b
 |[],[],_=>rfl
 |x::a,y::b,h=>by
  rw[map_cons,map_cons] at h
  injection h with h1 h2
  injection h1 with h1;injection h1 with h1
  rw[h1,Z48 h2]
theorem Zh0:∀args k,spParams args k->nrm (Z0j gPa Z2u) (Z02 args k) (Z09 1 args):=by
 rintro args k ⟨t,rfl,⟨⟨n,hn⟩,hs⟩,q1,q2⟩
 have no:(∀l,t ≠ .tup l)->k (fb false) [.fz t]:=fun h=>q2 fun⟨ps,e,_⟩=>h _ e
 cases t with
 |tup l=>
  obtain⟨hl,hx⟩:=hs l rfl
  refine Z0k (fun g=>?_) (fun g=>?_)
  ·have g':6<l.length:=by have:=of_decide_eq_true g;lia
   exact q2 fun⟨ps,e,h6,_⟩=>by cases e;rw[length_map] at g';lia
  ·have g':l.length<=6:=by
    have:¬ (6:Int)<(l.length:Nat):=fun h=>g (decide_eq_true h)
    lia
   refine⟨by lia,rfl,Zc9 l [] none hx fun s=>?_⟩
   refine⟨fun t ht=>by obtain⟨b,_,rfl⟩:=mem_map.mp ht;exact⟨b,rfl⟩,?_⟩
   have e2:((([]++l.map nameT).map tb).map tvB).all id=l.all nameT:=by simp [all_map,Function.comp_def,tvB]
   refine Z0k (fun g=>?_) (fun g=>?_)
   ·have g1:(!((([]++l.map nameT).map tb).map tvB).all id)=true:=g
    rw[e2] at g1
    exact q2 fun⟨ps,e,_,hp,_⟩=>by cases e;rw[Z74 hp] at g1;cases g1
   ·have g1:¬ (!((([]++l.map nameT).map tb).map tvB).all id)=true:=g
    rw[e2] at g1
    obtain⟨ps,rfl,hp⟩:=Z9r (by simpa using g1:l.all nameT=true)
    rw[length_map] at g'
    refine⟨_,⟨ps,rfl,by lia,rfl⟩,?_⟩
    have e3:((ps.map ts).length:Int)=ps.length:=by rw[length_map]
    show k (fb (false ^^ decide (V.int ((Stx.ofL ps).length:Nat)=V.int ((ps.map ts).length:Nat)))) _
    rw[e3,Bool.false_xor]
    by_cases hd:ps.Nodup
    ·rw[decide_eq_true (by rw[(Zgz ps).mpr hd])]
     exact q1 ⟨ps,rfl,by lia,hp,hd⟩
    ·rw[decide_eq_false (fun z=>hd ((Zgz ps).mp (by injection z with z;lia)))]
     exact q2 fun⟨qs,e,_,_,h4⟩=>hd (by injection e with e;rw[Z48 e];exact h4)
 | «at» v => cases v <;> first | exact no (fun _ z => by cases z) | cases hn
 |_=>first|exact no (fun _ z=>by cases z)|cases hn
def stP:E->Option Str
 | .nd (.st x) _=>some x
 |_=>none
def Zds (e:E):List Str:=e.all.filterMap stP
def Zoa (ps:List Str)(e:E):Bool:=ps.any fun p=>(Zds e).contains p
inductive FnRes (cs:List (Key×Tv)):Tv->Bool->Prop where
 |kind {t:Tv} (h:okTy t) (h2:Z0p t=false):FnRes cs t false
 |len {l:List Tv} (h:l.length≠3):FnRes cs (.tup l) false
 |name {n p b:Tv} (h:Sm n) (h2:nameT n=false):FnRes cs (.tup [n,p,b]) false
 |dup {x:Str} {p b:Tv} (h:NW x) (h2:(Z07 cs (.inr x)).isSome=true):FnRes cs (.tup [ts x,p,b]) false
 |pars {x:Str} {p b:Tv} (h:NW x) (h2:(Z07 cs (.inr x)).isSome=false) (h3:Kn1 p) (h4:¬ParOk p):FnRes cs (.tup [ts x,p,b]) false
 |body {x:Str} {p b:Tv} (h:NW x) (h2:(Z07 cs (.inr x)).isSome=false) (h3:ParOk p) (h4:Kn b) (h5:wt b<=300000) (h6:okN b=false):FnRes cs (.tup [ts x,p,b]) false
 |expr {x:Str} {ps:List Str} {e:E} {n:Nat} (h:NW x) (h2:(Z07 cs (.inr x)).isSome=false) (h3:ParOk (.tup (ps.map ts))) (h4:Ex R0 n e) (h5:e.cnt<=300000):FnRes cs (.tup [ts x,.tup (ps.map ts),E.tv e]) (rt [] e&&(clB cs e && !Zoa ps e))
inductive spFn (args:List Sl)(k:(Sl->List Sl->Prop)):Prop
 |mk (t:Tv) (cs:List (Key×Tv)) (r:Bool) (_:args = [.fz t,.own (.dic cs)]) (_:CsOk cs) (_:FnRes cs t r) (_:k (fb r) [.fz t,.own (.dic cs)]):spFn args k
abbrev gFn:Gm:=Z1p spExprQ spParams (spIs nameT) spFlat spCallsR
theorem Zb0 {k:List Tv->Ms->Prop}:∀(l:List E) (acc:List Str) (s0 s1:Option Sl),(∀s0 s1,k ((acc++l.filterMap stP).map ts) ⟨[s0,s1],[],[]⟩)->Z03 (bd (.cons (.nm 0) (.cons (.nm 1) .nil))) (sem gFn (.cmp .eq (.ix (.var 0) (.cst (.int 0))) (.cst (.str "set")))).t (sem gFn Z2p).e k (l.map flT) (acc.map ts) ⟨[s0,s1],[],[]⟩
 |[],acc,s0,s1,q=>by have:=q s0 s1;rw[List.filterMap_nil,append_nil] at this;exact this
 | .nd w ks::l,acc,s0,s1,q=>by
  have no:stP (.nd w ks)=none->∀s0 s1,k ((acc++l.filterMap stP).map ts) ⟨[s0,s1],[],[]⟩:=fun e s0 s1=>by have:=q s0 s1;rwa [List.filterMap_cons_none e] at this
  cases w with
  |st x=>
   have e1:acc.map ts ++ [ts x]=(acc ++ [x]).map ts:=by simp
   show Z03 _ _ _ _ (l.map flT) (acc.map ts ++ [ts x]) _
   rw[e1]
   exact Zb0 l _ _ _ fun s0 s1=>by have:=q s0 s1;rw[show(Tree.nd (.st x) ks::l:List E).filterMap stP=x::l.filterMap stP from rfl] at this;simpa using this
  |_=>exact Zb0 l acc _ _ (no rfl)
theorem Zca {ss:List Str}{k:List Tv->Ms->Prop}:∀(l:List Str) (acc:List Bool) (s:Option Sl),(∀s,k ((acc++l.map fun p=>ss.contains p).map tb) ⟨[some (.out 0),s],[.own (.lst (ss.map ts))],[]⟩)->Z03 (bd (.nm 1)) (sem gFn .tt).t (sem gFn Z2q).e k (l.map ts) (acc.map tb) ⟨[some (.out 0),s],[.own (.lst (ss.map ts))],[]⟩
 |[],acc,s,q=>by have:=q s;rw[map_nil,append_nil] at this;exact this
 |p::l,acc,s,q=>by
  refine⟨⟨Z1w ss,rfl⟩,?_⟩
  show Z03 _ _ _ _ (l.map ts) (acc.map tb ++ [tb (false ^^ inV (.str p) ((ss.map ts).map unA))]) _
  rw[Z8b,Bool.false_xor,show acc.map tb ++ [tb (ss.contains p)]=(acc ++ [ss.contains p]).map tb by simp]
  exact Zca l _ _ fun s=>by simpa using q s
def Zwz:List V->Wd
 |[.str s]=>if s="take" then .take else if s="pick" then .pick else if s="say" then .say else .do
 |[.str s,.int i]=>if s="num" then .num i else .again i
 |[.str s,.str x]=>if s="name" then .name x else if s="op" then .op x else if s="let" then .lt x else if s="set" then .st x else .call x
 |_=>.take
theorem Zh1 (w:Wd):Zwz w.hd=w:=by cases w <;> rfl
theorem Z75:∀{a b:List V},a.map Tv.at=b.map Tv.at->a=b
 |[],[],_=>rfl
 |x::a,y::b,h=>by
  rw[map_cons,map_cons] at h
  injection h with h1 h2
  injection h1 with h1
  rw[h1,Z75 h2]
theorem Zsd {w w':Wd}{ks ks':List E}(h:E.tv (.nd w ks)=E.tv (.nd w' ks')):w=w'/\E.tvL ks=E.tvL ks':=by
 have h1:w.hd.map Tv.at++E.tvL ks=w'.hd.map Tv.at++E.tvL ks':=by injection h
 have h2:=congrArg (fun l=>l.filter fun t => !Z0p t) h1
 simp only [Znv] at h2
 have h3:=Z75 h2
 have h4:w=w':=by rw[<- Zh1 w,h3,Zh1]
 subst h4
 exact⟨rfl,List.append_cancel_left h1⟩
mutual
theorem Zh2:∀e e':E,E.tv e=E.tv e'->e=e'
 | .nd w ks,.nd w' ks',h=>by
  obtain⟨rfl,h2⟩:=Zsd h
  rw[Zh3 ks ks' h2]
theorem Zh3:∀ks ks':List E,E.tvL ks=E.tvL ks'->ks=ks'
 |[],[],_=>rfl
 |[],_::_,h=>by injection h
 |_::_,[],h=>by injection h
 |k::ks,k'::ks',h=>by
  have h1:E.tv k=E.tv k':=by injection h
  have h2:E.tvL ks=E.tvL ks':=by injection h
  rw[Zh2 k k' h1,Zh3 ks ks' h2]
end
theorem ParOk.kn {t:Tv}(h:ParOk t):Kn1 t:=by
 obtain⟨ps,rfl,h6,hp,_⟩:=h
 refine⟨⟨_,rfl⟩,fun l e=>?_⟩
 cases e
 refine⟨by rw[length_map];lia,fun x hx=>?_⟩
 obtain⟨p,hm,rfl⟩:=mem_map.mp hx
 exact⟨⟨_,rfl⟩,fun y e=>by cases e;exact(hp p hm).len⟩
theorem Zb1:∀args k,spFn args k->nrm (Z0j gFn Z1o) (Z02 args k) (Z09 6 args):=by
 rintro args k ⟨t,cs,r,rfl,hc,hr,q⟩
 cases hr with
 |kind h h2=>
  obtain⟨n,hn⟩:=h
  cases t with
  |tup l=>cases h2
  | «at» v => cases v <;> first | exact q | cases hn
  |_=>first|exact q|cases hn
 | @len l h=>
  refine Z0k (fun g=>q) (fun g=>absurd (by
   show(true ^^ decide (V.int (l.length:Nat)=V.int 3))=true
   rw[decide_eq_false (fun z=>h (by injection z with z;lia))];rfl) g)
 | @name n p b h h2=>
  refine⟨rfl,n,rfl,h,?_⟩
  rw[h2];exact q
 | @dup x p b h h2=>
  refine⟨rfl,ts x,rfl,⟨⟨_,rfl⟩,fun y e=>by cases e;exact h.len⟩,?_⟩
  rw[show nameT (ts x)=true from nameB_iff.mpr h]
  exact Z0k (fun g=>q) (fun g=>absurd h2 g)
 | @pars x p b h h2 h3 h4=>
  refine⟨rfl,ts x,rfl,⟨⟨_,rfl⟩,fun y e=>by cases e;exact h.len⟩,?_⟩
  rw[show nameT (ts x)=true from nameB_iff.mpr h]
  exact Z0k (fun g=>absurd g (by rw[h2];simp)) (fun _=>⟨rfl,p,rfl,h3,(fun z=>absurd z h4),fun _=>q⟩)
 | @body x p b h h2 h3 h4 h5 h6=>
  refine⟨rfl,ts x,rfl,⟨⟨_,rfl⟩,fun y e=>by cases e;exact h.len⟩,?_⟩
  rw[show nameT (ts x)=true from nameB_iff.mpr h]
  exact Z0k (fun g=>absurd g (by rw[h2];simp)) (fun _=>⟨rfl,p,rfl,h3.kn,(fun _=>⟨rfl,b,rfl,h4,h5,(fun _=>q),fun e n he hn=>by rw[he,Zt0 hn] at h6;cases h6⟩),fun z=>absurd h3 z⟩)
 | @expr x ps e n h h2 h3 h4 h5=>
  refine⟨rfl,ts x,rfl,⟨⟨_,rfl⟩,fun y e=>by cases e;exact h.len⟩,?_⟩
  rw[show nameT (ts x)=true from nameB_iff.mpr h]
  refine Z0k (fun g=>absurd g (by rw[h2];simp)) (fun _=>⟨rfl,_,rfl,h3.kn,(fun _=>⟨rfl,E.tv e,rfl,Zun h4,by rw[Zc7];exact h5,(fun z=>by rw[Zt0 h4] at z;cases z),fun e' n' he' hn'=>?_⟩),fun z=>absurd h3 z⟩)
  rw[<- Zh2 e e' he']
  cases hrt:rt [] e with
  |false=>rw[hrt] at q;exact q
  |true=>
   have hl:=Tree.all_len e
   have hfl:(e.all.filterMap stP).length<=e.all.length:=List.length_filterMap_le _ _
   refine⟨rfl,R0,n,e,rfl,h4,h5,by rw[length_map];lia,rfl,Zb0 e.all [] none none fun s0 s1=>?_⟩
   refine⟨rfl,R0,n,e,cs,rfl,hc,h4,h5,?_⟩
   rw[hrt] at q
   cases hcl:clB cs e with
   |false=>rw[hcl] at q;exact q
   |true=>
    rw[hcl] at q
    obtain⟨ps',hp1,hp6,_⟩:=h3
    have hp7:ps.length<=6:=by injection hp1 with hp1;rw[Z48 hp1];exact hp6
    refine⟨by rw[length_map];lia,rfl,Zca (ss:=Zds e) ps [] none fun s=>?_⟩
    refine⟨fun t ht=>by obtain⟨b,_,rfl⟩:=mem_map.mp ht;exact⟨b,rfl⟩,?_⟩
    have e2:((([]++ps.map fun p=>(Zds e).contains p).map tb).map tvB).any id=Zoa ps e:=by unfold Zoa;simp [List.any_map,Function.comp_def,tvB]
    show k (fb (!((([]++ps.map fun p=>(Zds e).contains p).map tb).map tvB).any id)) _
    rw[e2];exact q
abbrev Zkx (cs:List (Key×Tv))(f:Fd):List (Key×Tv):=Z6w cs (.inr f.nm) (ti f.ps.length)
inductive FnsOk:List (Key×Tv)->List Fd->List (Key×Tv)->Prop where
 |nil {cs:List (Key×Tv)}:FnsOk cs [] cs
 |cons {cs cs':List (Key×Tv)} {f:Fd} {fs:List Fd} (h:FnRes cs (Fd.tv f) true) (r:FnsOk (Zkx cs f) fs cs'):FnsOk cs (f::fs) cs'
inductive PgRes:Tv->Bool->Prop where
 |kind {t:Tv} (h:okTy t) (h2:Z0p t=false):PgRes t false
 |len {l:List Tv} (h:l.length≠2):PgRes (.tup l) false
 |fst {a b:Tv} (h:okTy a) (h2:Z0p a=false):PgRes (.tup [a,b]) false
 |fns {pre:List Fd} {cs:List (Key×Tv)} {x:Tv} {post:List Tv} {b:Tv} (h:FnsOk [] pre cs) (hl:pre.length<=100) (h2:FnRes cs x false):PgRes (.tup [.tup (pre.map Fd.tv++x::post),b]) false
 |main {fs:List Fd} {cs:List (Key×Tv)} {b:Tv} (h:FnsOk [] fs cs) (hl:fs.length<=100) (h2:Kn b) (h3:wt b<=300000) (h4:okN b=false):PgRes (.tup [.tup (fs.map Fd.tv),b]) false
 |expr {fs:List Fd} {cs:List (Key×Tv)} {e:E} {n:Nat} (h:FnsOk [] fs cs) (hl:fs.length<=100) (h2:Ex R0 n e) (h3:e.cnt<=300000):PgRes (.tup [.tup (fs.map Fd.tv),E.tv e]) (rt [] e&&clB cs e)
inductive spPgB (args:List Sl)(k:(Sl->List Sl->Prop)):Prop
 |mk (t:Tv) (r:Bool) (_:args = [.fz t]) (_:PgRes t r) (_:k (fb r) [.fz t]):spPgB args k
abbrev gPg:Gm:=Z2a spFn spCallsR spExprQ
theorem CsOk.put {cs:List (Key×Tv)}(h:CsOk cs)(f:Fd):CsOk (Zkx cs f):=fun x t ht=>by
 rw[Z1j] at ht
 by_cases e:(Sum.inr f.nm:Key) = .inr x
 ·rw[if_pos e] at ht;cases ht;exact⟨_,rfl⟩
 ·rw[if_neg e] at ht;exact h x t ht
theorem Z3l:CsOk []:=fun x t h=>by cases h
theorem FnsOk.cs {cs cs':List (Key×Tv)}{fs:List Fd}(h:FnsOk cs fs cs'):CsOk cs->CsOk cs':=by
 induction h with
 |nil=>exact id
 | @cons cs cs' f fs h r ih=>exact fun hc=>ih (hc.put f)
abbrev lpP (P:PD)(l:List Tv)(M:Ms):Prop:=Z2n (bd (.nm 4)) (nrm (Z0j gPg Z3a)) P l M
theorem Zb2 {P:PD}{a b c:Sl}{rest:List Tv}{cs cs':List (Key×Tv)}{fs:List Fd}(h:FnsOk cs fs cs'):CsOk cs->cs.length+fs.length<=1000->(∀s,lpP P rest ⟨[some a,some b,some c,some (.own (.dic cs')),s],[],[]⟩)->∀s,lpP P (fs.map Fd.tv++rest) ⟨[some a,some b,some c,some (.own (.dic cs)),s],[],[]⟩:=by
 induction h with
 |nil=>exact fun _ _ q s=>q s
 | @cons cs cs' f fs h r ih=>
  intro hc hl q s
  rw[length_cons] at hl
  have lp:=Z4v cs (.inr f.nm) (ti f.ps.length)
  have e3:((f.ps.map ts).length:Int)=f.ps.length:=by rw[length_map]
  refine⟨rfl,Fd.tv f,cs,true,rfl,hc,h,?_⟩
  have go:=ih (hc.put f) (by show(Z6w _ _ _).length+_<=_;lia) q
  unfold Zkx at go
  rw[<- e3] at go
  exact⟨by show cs.length<16777216;lia,go _⟩
theorem Zh4:∀args k,spPgB args k->nrm (Z0j gPg Z29) (Z02 args k) (Z09 5 args):=by
 rintro args k ⟨t,r,rfl,hr,q⟩
 cases hr with
 |kind h h2=>
  obtain⟨n,hn⟩:=h
  cases t with
  |tup l=>cases h2
  | «at» v => cases v <;> first | exact q | cases hn
  |_=>first|exact q|cases hn
 | @len l h=>
  refine Z0k (fun g=>q) (fun g=>absurd (by
   show(true ^^ decide (V.int (l.length:Nat)=V.int 2))=true
   rw[decide_eq_false (fun z=>h (by injection z with z;lia))];rfl) g)
 | @fst a b h h2=>
  obtain⟨n,hn⟩:=h
  cases a with
  |tup l=>cases h2
  | «at» v => cases v <;> first | exact q | cases hn
  |_=>first|exact q|cases hn
 | @fns pre cs x post b h hl h2=>
  refine⟨fun M=>False,?_,fun M z=>z.elim⟩
  exact Zb2 (P:={ Z02 [.fz (.tup [.tup (pre.map Fd.tv++x::post),b])] k with nx:=fun _=>False }) (a:=.fz (.tup [.tup (pre.map Fd.tv++x::post),b])) (b:=.fz (.tup (pre.map Fd.tv++x::post))) (c:=.fz b) (rest:=x::post) h Z3l (by simp;lia) (fun s=>⟨rfl,x,cs,false,rfl,h.cs Z3l,h2,q⟩) none
 | @main fs cs b h hl h2 h3 h4=>
  refine⟨fun M=>∃s,M=⟨[some (.fz (.tup [.tup (fs.map Fd.tv),b])),some (.fz (.tup (fs.map Fd.tv))),some (.fz b),some (.own (.dic cs)),s],[],[]⟩,?_,?_⟩
  ·have:=Zb2 (P:={ Z02 [.fz (.tup [.tup (fs.map Fd.tv),b])] k with nx:=fun M=>∃s,M=⟨[some (.fz (.tup [.tup (fs.map Fd.tv),b])),some (.fz (.tup (fs.map Fd.tv))),some (.fz b),some (.own (.dic cs)),s],[],[]⟩ }) (a:=.fz (.tup [.tup (fs.map Fd.tv),b])) (b:=.fz (.tup (fs.map Fd.tv))) (c:=.fz b) (rest:=[]) h Z3l (by simp;lia) (fun s=>⟨s,rfl⟩) none
   rw[append_nil] at this
   exact this
  ·rintro M ⟨s,rfl⟩
   exact⟨rfl,b,rfl,h2,h3,(fun _=>q),fun e n he hn=>by rw[he,Zt0 hn] at h4;cases h4⟩
 | @expr fs cs e n h hl h2 h3=>
  refine⟨fun M=>∃s,M=⟨[some (.fz (.tup [.tup (fs.map Fd.tv),E.tv e])),some (.fz (.tup (fs.map Fd.tv))),some (.fz (E.tv e)),some (.own (.dic cs)),s],[],[]⟩,?_,?_⟩
  ·have:=Zb2 (P:={ Z02 [.fz (.tup [.tup (fs.map Fd.tv),E.tv e])] k with nx:=fun M=>∃s,M=⟨[some (.fz (.tup [.tup (fs.map Fd.tv),E.tv e])),some (.fz (.tup (fs.map Fd.tv))),some (.fz (E.tv e)),some (.own (.dic cs)),s],[],[]⟩ }) (a:=.fz (.tup [.tup (fs.map Fd.tv),E.tv e])) (b:=.fz (.tup (fs.map Fd.tv))) (c:=.fz (E.tv e)) (rest:=[]) h Z3l (by simp;lia) (fun s=>⟨s,rfl⟩) none
   rw[append_nil] at this
   exact this
  ·rintro M ⟨s,rfl⟩
   refine⟨rfl,E.tv e,rfl,Zun h2,by rw[Zc7];exact h3,(fun z=>by rw[Zt0 h2] at z;cases z),fun e' n' he' hn'=>?_⟩
   rw[<- Zh2 e e' he']
   cases hrt:rt [] e with
   |false=>rw[hrt] at q;exact q
   |true=>
    rw[hrt] at q
    exact⟨rfl,R0,n,e,cs,rfl,h.cs Z3l,h2,h3,q⟩
theorem FnsOk.snoc {cs cs':List (Key×Tv)}{fs:List Fd}{f:Fd}(h:FnsOk cs fs cs')(r:FnRes cs' (Fd.tv f) true):FnsOk cs (fs ++ [f]) (Zkx cs' f):=by
 induction h with
 |nil=>exact .cons r .nil
 |cons h _ ih=>exact .cons h (ih r)
def csF (fs:List Fd):List (Key×Tv):=fs.foldl Zkx []
theorem Zjq (fs:List Fd)(f:Fd):csF (fs ++ [f])=Zkx (csF fs) f:=by unfold csF;rw[foldl_append];rfl
theorem Zse {x y:Str}(h:x≠y):¬ (Sum.inr x:Key) = .inr y:=fun z=>h (by injection z)
theorem Zb3 {x:Str}:∀{fs:List Fd} {cs:List (Key×Tv)},(∀f∈fs,f.nm≠x)->Z07 (fs.foldl Zkx cs) (.inr x)=Z07 cs (.inr x)
 |[],cs,_=>rfl
 |f::fs,cs,h=>by
  rw[foldl_cons,Zb3 fun g hg=>h g (mem_cons_of_mem _ hg),Z1j,if_neg (Zse (h f mem_cons_self))]
theorem Zh5 {x:Str}:∀{fs:List Fd} {cs:List (Key×Tv)},(fs.map Fd.nm).Nodup->∀f∈fs,f.nm=x->Z07 (fs.foldl Zkx cs) (.inr x)=some (ti f.ps.length)
 |g::fs,cs,hn,f,hf,e=>by
  rw[map_cons,nodup_cons] at hn
  rw[foldl_cons]
  rcases mem_cons.mp hf with rfl|hf
  ·rw[Zb3 fun h hh z=>hn.1 (by rw[e,<- z];exact mem_map_of_mem hh),Z1j,if_pos (by rw[e])]
  ·exact Zh5 hn.2 f hf e
theorem Z1x {x:Str}{fs:List Fd}(hn:(fs.map Fd.nm).Nodup):((∀f∈fs,f.nm≠x)->Z07 (csF fs) (.inr x)=none)/\∀f∈fs,f.nm=x->Z07 (csF fs) (.inr x)=some (ti f.ps.length):=⟨fun h=>Zb3 h,Zh5 hn⟩
mutual
theorem Zky {b b':List Str}(hb:∀x∈b',x∈b):∀e:E,rt b e=true->rt b' e=true
 | .nd w ks,h=>by
  rw[rt,Bool.and_eq_true] at h ⊢
  refine⟨?_,?_⟩
  ·cases w with
   |st x=>
    have h1:¬x∈b:=by simpa [rtH] using h.1
    simpa [rtH] using fun z=>h1 (hb x z)
   |_=>rfl
  ·refine Zh6 hb (fun x hx=>?_) ks h.2
   cases w with
   |lt y=>rcases mem_append.mp hx with z|z;exact mem_append_left _ (hb x z);exact mem_append_right _ z
   |_=>exact hb x hx
theorem Zh6 {b b' c c':List Str}(hb:∀x∈b',x∈b)(hc:∀x∈c',x∈c):∀ks:List E,rtL b c ks=true->rtL b' c' ks=true
 |[],_=>rfl
 |k::ks,h=>by
  rw[rtL,Bool.and_eq_true] at h ⊢
  exact⟨Zky hb k h.1,Zh6 hc hc ks h.2⟩
end
mutual
theorem Zh7 {b:List Str}:∀(e:E),rt b e=true->∀x∈Zds e,x∉b
 | .nd w ks,h,x,hx=>by
  rw[rt,Bool.and_eq_true] at h
  unfold Zds at hx
  rw[Tree.all] at hx
  obtain⟨y,hy,e⟩:=mem_filterMap.mp hx
  rcases mem_cons.mp hy with rfl|hy
  ·cases w with
   |st z=>cases e;simpa [rtH] using h.1
   |_=>cases e
  ·have:=Zcb (b:=b) (c:=exB b w) ks h.2 x (mem_filterMap.mpr ⟨y,hy,e⟩)
   rcases this with z|z
   ·exact z
   ·exact fun q=>z (by cases w with
     |lt v=>exact mem_append_left _ q
     |_=>exact q)
theorem Zcb {b c:List Str}:∀(ks:List E),rtL b c ks=true->∀x∈(Tree.allL ks).filterMap stP,x∉b∨x∉c
 |[],_,x,hx=>by cases hx
 |k::ks,h,x,hx=>by
  rw[rtL,Bool.and_eq_true] at h
  rw[Tree.allL,List.filterMap_append] at hx
  rcases mem_append.mp hx with z|z
  ·exact .inl (Zh7 k h.1 x z)
  ·exact .inr ((Zcb ks h.2 x z).elim id id)
end
theorem Zh8 {pool:List Str}{fs:List Fd}{n:Nat}{e:E}(hp:∀x∈pool,NW x)(hf:∀f∈fs,NW f.nm/\f.ps.length<=6)(h:Ex (Rp pool fs) n e):Ex R0 n e:=
 h.mono (R':=R0) hp fun g m hA=>by obtain⟨f,hm,e1,e2⟩:=hA;subst e1 e2;exact hf f hm
theorem Zkz {pool:List Str}{fs:List Fd}{n:Nat}{e:E}(hn:(fs.map Fd.nm).Nodup)(h:Ex (Rp pool fs) n e):clB (csF fs) e=true:=by
 unfold clB
 rw[all_eq_true]
 intro p hp
 obtain⟨x,hx,e1⟩:=mem_filterMap.mp hp
 obtain⟨m,hm⟩:=Zsb h x hx
 cases hm with
 | @mk m w ks ha hk=>
  cases w with
  |call f=>
   cases e1
   obtain⟨g,hg,e2,e3⟩:=ha.2.2
   unfold okC
   rw[(Z1x hn).2 g hg e2,e3]
   exact decide_eq_true rfl
  |_=>cases e1
theorem Zjr {pool:List Str}{fs:List Fd}(h:FoL pool fs){f:Fd}(hf:f∈fs):NW f.nm/\f.ps.length<=6:=by
 obtain⟨i,hi⟩:=List.getElem?_of_mem hf
 exact⟨(h i f hi).nm,(h i f hi).l6⟩
theorem Zob {pool:List Str}{fs:List Fd}(hp:∀x∈pool,NW x)(ho:FoL pool fs)(hn:(fs.map Fd.nm).Nodup){i:Nat}{f:Fd}(hi:fs[i]? = some f):FnRes (csF (fs.take i)) (Fd.tv f) true:=by
 have k:=ho i f hi
 obtain⟨hl,hg'⟩:=List.getElem?_eq_some_iff.mp hi
 have hn1:((fs.take i).map Fd.nm).Nodup:=hn.sublist ((take_sublist i fs).map _)
 have hf1:∀g∈fs.take i,NW g.nm/\g.ps.length<=6:=fun g hg=>Zjr ho (mem_of_mem_take hg)
 have hno:∀g∈fs.take i,g.nm≠f.nm:=fun g hg e=>by
  have hd:f∈fs.drop i:=by rw[drop_eq_getElem_cons hl,<- hg'];exact mem_cons_self
  have hn':=hn
  rw[<- take_append_drop i fs,map_append] at hn'
  exact(nodup_append.mp hn').2.2 _ (mem_map_of_mem hg) _ (mem_map_of_mem hd) e
 have he:=Zh8 hp hf1 k.bd
 have h:=FnRes.expr (cs:=csF (fs.take i)) (x:=f.nm) (ps:=f.ps) k.nm (by rw[(Z1x hn1).1 hno];rfl) ⟨f.ps,rfl,k.l6,fun x hx=>hp x (k.sub x hx),k.nd⟩ he (by have:=k.bc;lia)
 have e1:rt [] f.bd=true:=Zky (fun x hx=>by cases hx) _ k.rt
 have e2:Zoa f.ps f.bd=false:=by
  unfold Zoa
  rw[List.any_eq_false]
  intro p hp' hc
  exact Zh7 _ k.rt p (contains_iff_mem.mp hc) hp'
 rw[e1,Zkz hn1 k.bd,e2] at h
 exact h
theorem Z4x {pool:List Str}{fs:List Fd}(hp:∀x∈pool,NW x)(ho:FoL pool fs)(hn:(fs.map Fd.nm).Nodup):∀i,i<=fs.length->FnsOk [] (fs.take i) (csF (fs.take i))
 | 0,_=>.nil
 |i+1,h=>by
  have hi:fs[i]? = some fs[i]:=List.getElem?_eq_getElem (by lia)
  have e:fs.take (i+1)=fs.take i ++ [fs[i]]:=by rw[List.take_add_one,hi];rfl
  rw[e,Zjq]
  exact(Z4x hp ho hn i (by lia)).snoc (Zob hp ho hn hi)
theorem Zh9 {pool:List Str}{fs:List Fd}{main:E}(h:PgOk pool fs main):PgRes (pgT fs main) true:=by
 have g:=Z4x h.pn h.fo h.nd fs.length (Nat.le_refl _)
 rw[take_length] at g
 have he:=Zh8 h.pn (fun f hf=>Zjr h.fo hf) h.mn
 have r:=PgRes.expr g (by have:=h.fl;lia) he (by have:=h.mc;lia)
 rw[h.mr,Zkz h.nd h.mn] at r
 exact r
def Exs (ks:List E):Prop:=∀k∈ks,∃n,Ex R0 n k
inductive Spl (bad:Tv):Tv->Prop where
 |here:Spl bad bad
 |kid {w:Wd} {a b:List E} {x:Tv} (hw:Ar R0 w (a.length+1+b.length)) (ha:Exs a) (hb:Exs b) (h:Spl bad x):Spl bad (.tup (w.hd.map Tv.at++(E.tvL a++x::E.tvL b)))
theorem Spl.trans {a b c:Tv}(h:Spl a b)(h2:Spl b c):Spl a c:=by
 induction h2 with
 |here=>exact h
 |kid hw ha hb _ ih=>exact .kid hw ha hb ih
theorem Zha {ks:List E}(h:Exs ks):∃n,∀k∈ks,Ex R0 n k:=by
 induction ks with
 |nil=>exact⟨0,fun k hk=>by cases hk⟩
 |cons k ks ih=>
  obtain⟨n,hn⟩:=h k mem_cons_self
  obtain⟨m,hm⟩:=ih fun j hj=>h j (mem_cons_of_mem _ hj)
  refine⟨n+m,fun j hj=>?_⟩
  rcases mem_cons.mp hj with rfl|hj
  ·exact hn.up (by lia)
  ·exact(hm j hj).up (by lia)
theorem Zoc {w:Wd}{l:List Tv}(h:Z6h (.tup (w.hd.map Tv.at++l))=true):l.all Z0p=true:=by
 have f1:∀{lo hi:Nat},Z8k lo hi l=true->l.all Z0p=true:=fun h=>(Z13 h).2.2
 have f2:∀{f:Ft} {x:Tv} {lo hi:Nat},Zjj (some (some f,lo,hi)) (x::l)=true->l.all Z0p=true:=fun {f x lo hi} h=>by
  have h':(ftT f x&&Z8k lo hi l)=true:=h
  rw[Bool.and_eq_true] at h'
  exact f1 h'.2
 cases w with
 |num i=>exact f2 (f:=.val) (lo:=0) (hi:=0) h
 |name x=>exact f2 (f:=.nam) (lo:=0) (hi:=0) h
 |take=>exact f1 (lo:=0) (hi:=0) h
 |op s=>exact f2 (f:=.sgn) (lo:=2) (hi:=2) h
 |pick=>exact f1 (lo:=3) (hi:=3) h
 |lt x=>exact f2 (f:=.nam) (lo:=2) (hi:=2) h
 |st x=>exact f2 (f:=.nam) (lo:=1) (hi:=1) h
 |say=>exact f1 (lo:=1) (hi:=1) h
 | «do» => exact f1 (lo := 1) (hi := 6) h
 |again m=>exact f2 (f:=.tms) (lo:=1) (hi:=1) h
 |call f=>exact f2 (f:=.nam) (lo:=0) (hi:=6) h
theorem Spl.bad {bad t:Tv}(h:Spl bad t)(hb:okN bad=false):okN t=false:=by
 induction h with
 |here=>exact hb
 | @kid w a b x hw ha hb' h ih=>
  rw[okN]
  cases hn:Z6h (.tup (w.hd.map Tv.at++(E.tvL a++x::E.tvL b))) with
  |false=>rfl
  |true=>
   have ht:=Zoc hn
   rw[Bool.true_and,Z4w]
   have hx:Z0p x=true:=all_eq_true.mp ht x (by simp)
   rw[List.all_eq_false]
   exact⟨x,mem_filter.mpr ⟨by simp,hx⟩,by rw[ih];simp⟩
theorem Spl.kn {bad t:Tv}(h:Spl bad t)(hb:Kn bad)(hs:Sm bad):Kn t/\Sm t:=by
 induction h with
 |here=>exact⟨hb,hs⟩
 | @kid w a b x hw ha hb' h ih=>
  have hl:=hw.le
  have h2:=(Z89 w).2.2
  have sm:∀(ks:List E),∀y∈E.tvL ks,Sm y:=fun ks y hy=>by
   rw[E.tvL,Z0h] at hy
   obtain⟨k,_,rfl⟩:=mem_map.mp hy
   exact⟨E.okTy k,fun z e=>by cases k;cases e⟩
  have kn:∀(ks:List E),Exs ks->∀y∈E.tvL ks,Kn y:=fun ks h y hy=>by
   rw[E.tvL,Z0h] at hy
   obtain⟨k,hk,rfl⟩:=mem_map.mp hy
   obtain⟨n,hn⟩:=h k hk
   exact Zun hn
  refine⟨.mk ⟨⟨_,rfl⟩,fun l e=>?_⟩ fun l e y hy ht=>?_,⟨_,rfl⟩,fun z e=>by cases e⟩
  ·cases e
   refine⟨by simp only [length_append,length_map,length_cons,Z0f];lia,fun y hy=>?_⟩
   simp only [mem_append,mem_cons] at hy
   rcases hy with z|z|rfl|z
   ·obtain⟨v,hv,rfl⟩:=mem_map.mp z;exact Zs6 hw v hv
   ·exact sm a y z
   ·exact ih.2
   ·exact sm b y z
  ·cases e
   simp only [mem_append,mem_cons] at hy
   rcases hy with z|z|rfl|z
   ·obtain⟨v,hv,rfl⟩:=mem_map.mp z;cases ht
   ·exact kn a ha y z
   ·exact ih.1
   ·exact kn b hb' y z
theorem Zod (a b:List E)(x:E):E.tvL a++E.tv x::E.tvL b=E.tvL (a++x::b):=by simp only [E.tvL,Z0h,map_append,map_cons]
theorem Spl.ex {t:Tv}{be:E}(h:Spl (E.tv be) t){n:Nat}(hb:Ex R0 n be):∃m e,t=E.tv e/\Ex R0 m e/\be∈e.all/\((∀B,rt B be=false)->∀B,rt B e=false):=by
 induction h with
 |here=>exact⟨n,be,rfl,hb,by cases be;rw[Tree.all];exact mem_cons_self,fun h=>h⟩
 | @kid w a b x hw ha hb' h ih=>
  obtain⟨m,e,rfl,h1,h2,h3⟩:=ih
  obtain⟨i,hi⟩:=Zha ha
  obtain⟨j,hj⟩:=Zha hb'
  refine⟨i+m+j+1,.nd w (a++e::b),by rw[Zod];rfl,.mk (by rw[length_append,length_cons,show a.length+(b.length+1)=a.length+1+b.length by lia];exact hw) fun k hk=>?_,?_,fun hr B=>?_⟩
  ·simp only [mem_append,mem_cons] at hk
   rcases hk with z|rfl|z
   ·exact(hi k z).up (by lia)
   ·exact h1.up (by lia)
   ·exact(hj k z).up (by lia)
  ·rw[Tree.all]
   exact mem_cons_of_mem _ (allL_mem.mpr ⟨e,by simp,h2⟩)
  ·have go:∀(a:List E) (b' c:List Str),rtL b' c (a++e::b)=false:=fun a=>by
    induction a with
    |nil=>intro b' c;rw[nil_append,rtL,h3 hr];rfl
    |cons k a ih=>intro b' c;rw[cons_append,rtL,ih];simp
   rw[rt,go];simp
theorem Zcc (a b:List Tv)(x:Tv):Z8i (a++x::b) (a.length:Int)=some x:=by
 show(a++x::b)[a.length]? = _
 rw[List.getElem?_append_right (Nat.le_refl _),Nat.sub_self];rfl
theorem Zcd (a b:List Tv)(x y:Tv):(a++x::b).set a.length y=a++y::b:=by
 have h:=List.set_append_right (s:=a) (t:=x::b) a.length y (Nat.le_refl _)
 rw[h,Nat.sub_self];rfl
theorem Zjs (a b:List Tv)(x:Tv):ixN (a++x::b).length (a.length:Int)=some a.length:=by
 rw[length_append,length_cons]
 unfold ixN
 rw[if_pos (by lia),if_pos (by lia)];simp
inductive spSpoilt (N:Nat)(args:List Sl)(k:(Sl->List Sl->Prop)):Prop
 |mk (e:E) (i:Int) (bad:Tv) (_:args = [.fz (E.tv e),fi i,.fz bad]) (_:Ex R0 N e) (_:0<=i) (_:i<e.cnt) (_:∀t,Spl bad t->wt t<=e.cnt+wt bad->k (.fz t) [.fz (E.tv e),fi i,.fz bad]):spSpoilt N args k
abbrev gS (N:Nat):Gm:=Z43 spPartsE (spNodesE R0 N) (spSpoilt N) spWithE
theorem Zce {N:Nat}{e:E}{bad:Tv}{P:PD}:
  ∀(rest:List E) (pre:List Tv) (i:Int) (s4 s5:Option Sl),i<0->(∀e∈rest,Ex R0 N e) →
   (∀(i':Int) s4 s5,P.nx ⟨[some (.fz (E.tv e)),some (fi i'),some (.fz bad),some (.own (.lst (pre++E.tvL rest))),s4,s5],[],[]⟩) →
   Z2n (bd (.nm 4)) (nrm (Z0j (gS N) Z2x)) P (rf pre.length rest.length) ⟨[some (.fz (E.tv e)),some (fi i),some (.fz bad),some (.own (.lst (pre++E.tvL rest))),s4,s5],[],[]⟩
 |[],pre,i,s4,s5,_,_,q=>q i s4 s5
 |t::rest,pre,i,s4,s5,hi,hr,q=>by
  have ht:=hr t mem_cons_self
  have eg:=Zcc pre (E.tvL rest) (E.tv t)
  refine bx eg ⟨rfl,t,rfl,ht,?_⟩
  refine⟨fun M=>M=⟨[some (.fz (E.tv e)),some (fi i),some (.fz bad),some (.own (.lst (pre++E.tv t::E.tvL rest))),some (fi pre.length),some (fi t.cnt)],[],[]⟩,Z0k (fun g1=>absurd (of_decide_eq_true g1) (by lia)) (fun _=>rfl),?_⟩
  rintro M rfl
  have e1:pre++E.tv t::E.tvL rest=(pre ++ [E.tv t])++E.tvL rest:=by simp
  have e2:pre.length+1=(pre ++ [E.tv t]).length:=by simp
  have:=Zce (e:=e) (bad:=bad) rest (pre ++ [E.tv t]) (i-t.cnt) (some (fi pre.length)) (some (fi t.cnt)) (by lia) (fun e he=>hr e (mem_cons_of_mem _ he)) fun i' s4 s5=>by rw[<- e1];exact q i' s4 s5
  rw[<- e1,<- e2] at this
  exact this
def Hit (bad:Tv)(N n c:Nat)(l:List Tv):Prop:=∃(a:List E) (x:Tv) (b:List E),l=E.tvL a++x::E.tvL b/\a.length+1+b.length=n/\(∀e∈a,Ex R0 N e)/\(∀e∈b,Ex R0 N e)/\Spl bad x/\Tree.cntL a+wt x+Tree.cntL b<=c+wt bad
theorem Z8d:∀a b:List E,Tree.cntL (a++b)=Tree.cntL a+Tree.cntL b
 |[],b=>by simp [Tree.cntL]
 |k::a,b=>by rw[cons_append,Tree.cntL,Z8d a b,Tree.cntL];lia
theorem Z60 (a b:List E):E.tvL (a++b)=E.tvL a++E.tvL b:=by simp only [E.tvL,Z0h,map_append]
theorem Zhb {N:Nat}{e:E}{bad:Tv}{P:PD}:
  ∀(rest done:List E) (i:Int) (s4 s5:Option Sl),0<=i->i<Tree.cntL rest->(∀e∈rest,Ex R0 N e)->(∀e∈done,Ex R0 N e) →
   (∀(l:List Tv) (i':Int) s4 s5,Hit bad N (done.length+rest.length) (Tree.cntL done+Tree.cntL rest) l->P.nx ⟨[some (.fz (E.tv e)),some (fi i'),some (.fz bad),some (.own (.lst l)),s4,s5],[],[]⟩) →
   Z2n (bd (.nm 4)) (nrm (Z0j (gS N) Z2x)) P (rf (E.tvL done).length rest.length) ⟨[some (.fz (E.tv e)),some (fi i),some (.fz bad),some (.own (.lst (E.tvL done++E.tvL rest))),s4,s5],[],[]⟩
 |[],done,i,s4,s5,h0,h1,_,_,q=>by simp only [Tree.cntL] at h1;lia
 |t::rest,done,i,s4,s5,h0,h1,hr,hd,q=>by
  have ht:=hr t mem_cons_self
  have hr':∀e∈rest,Ex R0 N e:=fun e he=>hr e (mem_cons_of_mem _ he)
  have eg:=Zcc (E.tvL done) (E.tvL rest) (E.tv t)
  have h1':i<t.cnt+Tree.cntL rest:=by simp only [Tree.cntL] at h1;lia
  refine bx eg ⟨rfl,t,rfl,ht,?_⟩
  refine⟨fun M=>∃t':Tv,(t'=E.tv t/\(t.cnt:Int)<=i∨Spl bad t'/\wt t'<=t.cnt+wt bad/\i<t.cnt)/\M=⟨[some (.fz (E.tv e)),some (fi i),some (.fz bad),some (.own (.lst (E.tvL done++t'::E.tvL rest))),some (fi (E.tvL done).length),some (fi t.cnt)],[],[]⟩,Z0k (fun g1=>Z0k (fun g2=>?_) (fun g2=>⟨E.tv t,.inl ⟨rfl,by by_cases hh:i<(t.cnt:Int);exact absurd (decide_eq_true hh) g2;lia⟩,rfl⟩)) (fun g1=>absurd (decide_eq_true h0) g1),?_⟩
  ·have g2':=of_decide_eq_true g2
   refine bx eg ⟨rfl,t,i,bad,rfl,ht,h0,g2',fun t' hs hw=>⟨_,Zjs (E.tvL done) (E.tvL rest) (E.tv t),t',.inr ⟨hs,hw,g2'⟩,?_⟩⟩
   rw[<- Zcd (E.tvL done) (E.tvL rest) (E.tv t) t'];rfl
  ·rintro M ⟨t',hc,rfl⟩
   rcases hc with ⟨rfl,hc⟩|⟨hs,hw,hc⟩
   ·have e1:E.tvL done++E.tv t::E.tvL rest=E.tvL (done ++ [t])++E.tvL rest:=by rw[Z60,append_assoc];rfl
    have e2:(E.tvL done).length+1=(E.tvL (done ++ [t])).length:=by rw[Z0f,Z0f];simp
    have:=Zhb (e:=e) (bad:=bad) rest (done ++ [t]) (i-t.cnt) (some (fi (E.tvL done).length)) (some (fi t.cnt)) (by lia) (by lia) hr' (fun e he=>(mem_append.mp he).elim (hd e) fun z=>by simp at z;exact z▸ht) fun l i' s4 s5 hh=>q l i' s4 s5 (by
     rw[Z8d,length_append] at hh
     simp only [Tree.cntL,length_cons,length_nil] at hh ⊢
     rwa [show done.length+(rest.length+1)=done.length+(0+1)+rest.length by lia,show Tree.cntL done+(t.cnt+Tree.cntL rest)=Tree.cntL done+(t.cnt+0)+Tree.cntL rest by lia])
    rw[<- e1,<- e2] at this
    exact this
   ·have e1:E.tvL done++t'::E.tvL rest=(E.tvL done ++ [t'])++E.tvL rest:=by simp
    have e2:(E.tvL done).length+1=(E.tvL done ++ [t']).length:=by simp
    have:=Zce (e:=e) (bad:=bad) rest (E.tvL done ++ [t']) (i-t.cnt) (some (fi (E.tvL done).length)) (some (fi t.cnt)) (by lia) hr' fun i' s4 s5=>by
     rw[<- e1]
     exact q _ i' s4 s5 ⟨done,t',rest,rfl,by simp only [length_cons];lia,hd,hr',hs,by simp only [Tree.cntL];lia⟩
    rw[<- e1,<- e2] at this
    exact this
theorem Z9s (w:Wd)(a b:List E)(x:Tv):wt (.tup (w.hd.map Tv.at++(E.tvL a++x::E.tvL b)))<=1+(Tree.cntL a+wt x+Tree.cntL b):=by
 have h1:∀ks:List E,wtL (E.tvL ks)=Tree.cntL ks:=fun ks=>by
  have:=Zc7 (.nd .take ks)
  rw[show E.tv (.nd .take ks) = .tup (Wd.take.hd.map Tv.at++E.tvL ks) from rfl,wt,Z2e,Zc6,Tree.cnt] at this
  rw[Z2e,show(E.tvL ks).filter Z0p=E.tvL ks from Zc6 .take ks]
  lia
 have h2:∀l m:List Tv,wtL (l++m)=wtL l+wtL m:=fun l m=>by rw[Z2e,Z2e,Z2e,filter_append,Zax]
 have h3:∀l:List V,wtL (l.map Tv.at)=0:=fun l=>by
  induction l with
  |nil=>rfl
  |cons v l ih=>rw[map_cons,wtL,ih];rfl
 rw[wt,h2,h3,h2,wtL,h1,h1]
 split <;> lia
theorem Zhc (N:Nat):∀args k,spSpoilt (N+1) args k->nrm (Z0j (gS N) Z42) (Z02 args k) (Z09 6 args):=by
 rintro args k ⟨e,i,bad,rfl,he,h0,h1,q⟩
 refine Z0k (fun g=>q bad .here (by lia)) (fun g=>?_)
 have g':i≠0:=fun h=>by rw[h] at g;exact absurd g (by decide)
 cases he with
 | @mk _ w ks h hk=>
  have hle:=h.le
  rw[Tree.cnt] at h1
  refine⟨rfl,w,ks,rfl,by lia,fun M=>∃(l:List Tv) (i:Int) (s4 s5:Option Sl),Hit bad N ks.length (Tree.cntL ks) l/\M=⟨[some (.fz (E.tv (.nd w ks))),some (fi i),some (.fz bad),some (.own (.lst l)),s4,s5],[],[]⟩,?_,?_⟩
  ·have tl:=Z0f ks
   refine⟨⟨by lia,by lia⟩,?_⟩
   show Z2n _ _ _ (Z8j (E.tvL ks).length) _
   rw[tl,Zau]
   exact Zhb ks [] _ none none (by lia) (by lia) hk (fun e he=>by cases he) fun l i s4 s5 hh=>⟨l,i,s4,s5,by simpa [Tree.cntL] using hh,rfl⟩
  ·rintro M ⟨l,i',s4,s5,⟨a,x,b,rfl,hl,ha,hb,hs,hw⟩,rfl⟩
   have hll:(E.tvL a++x::E.tvL b).length=ks.length:=by rw[length_append,length_cons,Z0f,Z0f];lia
   refine⟨rfl,w,ks,_,_,rfl,.inl rfl,by lia,by lia,?_⟩
   refine q _ (.kid (by rw[hl];exact h) (fun k hk=>⟨_,ha k hk⟩) (fun k hk=>⟨_,hb k hk⟩) hs) ?_
   have:=Z9s w a b x
   rw[Tree.cnt];lia
def smE:List E:=[.nd (.num 4) [],.nd .take [],.nd (.name "ab") []]
inductive spLeafSm (args:List Sl)(k:(Sl->List Sl->Prop)):Prop
 |mk (ns n z:_) (_:args = [.own (Z05 ns n z)]) (_:ns.length<=63) (_:n+1<=1000000000000) (_:∀e∈smE,∀n' z',n'<=n+1->k (.fz (E.tv e)) [.own (Z05 ns n' z')]):spLeafSm args k
theorem Zhd:∀args k,spLeafSm args k->nrm (Z0j (Z1g spDraw) Z1f) (Z02 args k) (Z09 1 args):=by
 rintro args k ⟨ns,n,z,rfl,hl,hn,q⟩
 refine⟨rfl,ns,n,z,3,rfl,hl,by lia,by decide,by decide,fun r n1 z1 r0 r1 hn1=>?_⟩
 obtain⟨t,e,x,hx,rfl⟩:=Z1c (l:=E.tvL smE) (P:=fun t=>∃e∈smE,t=E.tv e) (fun t ht=>by rw[E.tvL,Z0h] at ht;obtain⟨e,he,rfl⟩:=mem_map.mp ht;exact⟨e,he,rfl⟩) r0 r1
 exact bx e (q x hx n1 z1 hn1)
inductive spPutF (args:List Sl)(k:(Sl->List Sl->Prop)):Prop
 |mk (l:List Tv) (m x:Tv) (i:Nat) (_:args = [.fz (.tup [.tup l,m]),fi i,.fz x]) (_:l.length<=1000) (_:k (.fz (.tup [.tup (l.take i ++ [x]++l.drop (i+1)),m])) args):spPutF args k
theorem Zoe:∀args k,spPutF args k->nrm (Z0j Z12 Z11) (Z02 args k) (Z09 3 args):=by
 rintro args k ⟨l,m,x,i,rfl,hl,q⟩
 have h1:Z0o l none (some (i:Int))=l.take i:=Z0y l i
 have h2:Z0o l (some (((i:Int)+1:Int))) none=l.drop (i+1):=Z5x l (i+1)
 refine⟨?_,?_,?_⟩
 ·show(Z0o l none (some (i:Int))).length+1<=16777216
  rw[h1,length_take];lia
 ·show(Z0o l none (some (i:Int)) ++ [x]).length+(Z0o l (some (((i:Int)+1:Int))) none).length<=16777216
  rw[h1,h2,length_append,length_take,length_drop];simp;lia
 ·show k (.fz (.tup [.tup (Z0o l none (some (i:Int)) ++ [x]++Z0o l (some (((i:Int)+1:Int))) none),m])) _
  rw[h1,h2];exact q
inductive spBentPair (args:List Sl)(k:(Sl->List Sl->Prop)):Prop
 |mk (pool:List Str) (fs:List Fd) (main:E) (ns:List Int) (n:Nat) (z:Int) (_:args = [.own (Z05 ns n z),.fz (pgT fs main)]) (_:PgOk pool fs main) (_:ns.length<=63) (_:n+1<=1000000000000) (_:∀t n' z',PgRes t false->n'<=n+1->k (.fz t) [.own (Z05 ns n' z'),.fz (pgT fs main)]):spBentPair args k
theorem PgOk.fns {pool:List Str}{fs:List Fd}{main:E}(h:PgOk pool fs main):FnsOk [] fs (csF fs):=by
 have g:=Z4x h.pn h.fo h.nd fs.length (Nat.le_refl _)
 rwa [take_length] at g
theorem Zl0 {x:Tv}{post:List Tv}{b:Tv}(h:okTy x)(h2:Z0p x=false):PgRes (.tup [.tup (x::post),b]) false:=
 .fns (pre:=[]) .nil (by decide) (.kind h h2)
def Zsf (F m:Tv):List Tv:=[.lst [F,m],.tup [.lst (match F with | .tup l=>l|_=>[]),m],.tup [F],.tup [F,m,m],.at .non,ts "program",F,.tup [m,F],.tup [.at .non,m],.tup [F,.at .non],.tup [F,.lst [m]],ti 4]
theorem Zjt {pool:List Str}{fs:List Fd}{main:E}(h:PgOk pool fs main):∀t∈Zsf (.tup (fs.map Fd.tv)) (E.tv main),PgRes t false:=by
 have hf:=h.fns
 have hl:fs.length<=100:=by have:=h.fl;lia
 intro t ht
 simp only [Zsf,mem_cons,not_mem_nil,or_false] at ht
 rcases ht with rfl|rfl|rfl|rfl|rfl|rfl|rfl|rfl|rfl|rfl|rfl|rfl
 ·exact .kind ⟨_,rfl⟩ rfl
 ·exact .fst ⟨_,rfl⟩ rfl
 ·exact .len (by show ¬ (1=2);decide)
 ·exact .len (by show ¬ (3=2);decide)
 ·exact .kind ⟨_,rfl⟩ rfl
 ·exact .kind ⟨_,rfl⟩ rfl
 ·match fs with
  |[f,g]=>exact Zl0 (x:=ts f.nm) ⟨_,rfl⟩ rfl
  |[]=>exact .len (by decide)
  |[_]=>exact .len (by show ¬ (1=2);decide)
  |_::_::_::l=>exact .len (by show ¬ ((l.map Fd.tv).length+1+1+1=2);lia)
 ·cases main with
  |nd w ks=>cases w <;> exact Zl0 (x:=.at (.str _)) ⟨_,rfl⟩ rfl
 ·exact .fst ⟨_,rfl⟩ rfl
 ·exact .main hf hl (.mk ⟨⟨_,rfl⟩,fun l e=>by cases e⟩ fun l e=>by cases e) (by decide) rfl
 ·exact .main hf hl (.mk ⟨⟨_,rfl⟩,fun l e=>by cases e⟩ fun l e=>by cases e) (by show 1<=300000;decide) rfl
 ·exact .kind ⟨_,rfl⟩ rfl
theorem Zb4:∀args k,spBentPair args k->nrm (Z0j (Z1t spDraw) Z1s) (Z02 args k) (Z09 5 args):=by
 rintro args k ⟨pool,fs,main,ns,n,z,rfl,hp,hl,hn,q⟩
 have hfl:=hp.fl
 have hlm:(fs.map Fd.tv).length=fs.length:=length_map ..
 refine⟨by show 6+6<=16777216;decide,rfl,ns,n,z,12,rfl,hl,by lia,by decide,by decide,fun r n1 z1 r0 r1 hn1=>?_⟩
 obtain⟨t,e,ht⟩:=Z1c (Zjt hp) r0 r1
 exact bx e (q t n1 z1 ht hn1)
def smb (t:Tv):Bool:=(tyN t).isSome&&match t with
 | .at (.str x)=>decide (x.length<=1000)
 |_=>true
mutual
def knb:Tv->Bool
 | .tup l=>decide (l.length<=1000)&&Zt1 l
 |t=>(tyN t).isSome
def Zt1:List Tv->Bool
 |[]=>true
 |t::l=>smb t&&(knb t&&Zt1 l)
end
theorem Z61 {t:Tv}(h:smb t=true):Sm t:=by
 unfold smb at h
 rw[Bool.and_eq_true] at h
 refine⟨Option.isSome_iff_exists.mp h.1,fun x e=>?_⟩
 subst e
 exact of_decide_eq_true h.2
mutual
theorem Zl1:∀t:Tv,knb t=true->Kn t
 | .tup l,h=>by
  rw[knb,Bool.and_eq_true] at h
  exact .mk ⟨⟨_,rfl⟩,fun l' e=>by cases e;exact⟨of_decide_eq_true h.1,fun x hx=>(Zb5 l h.2 x hx).1⟩⟩ fun l' e x hx _=>by cases e;exact(Zb5 l h.2 x hx).2
 | .at v,h=>.mk ⟨Option.isSome_iff_exists.mp h,fun l e=>by cases e⟩ fun l e=>by cases e
 | .lst l,h=>.mk ⟨Option.isSome_iff_exists.mp h,fun l e=>by cases e⟩ fun l e=>by cases e
 | .dic l,h=>.mk ⟨Option.isSome_iff_exists.mp h,fun l e=>by cases e⟩ fun l e=>by cases e
 | .scr l,h=>.mk ⟨Option.isSome_iff_exists.mp h,fun l e=>by cases e⟩ fun l e=>by cases e
 | .fnv a,h=>.mk ⟨Option.isSome_iff_exists.mp h,fun l e=>by cases e⟩ fun l e=>by cases e
theorem Zb5:∀l:List Tv,Zt1 l=true->∀x∈l,Sm x/\Kn x
 |[],_,x,hx=>by cases hx
 |t::l,h,x,hx=>by
  rw[Zt1,Bool.and_eq_true,Bool.and_eq_true] at h
  rcases mem_cons.mp hx with e|hx
  ·rw[e];exact⟨Z61 h.1,Zl1 t h.2.1⟩
  ·exact Zb5 l h.2.2 x hx
end
def Zt2 (e:E):E:=.nd (.lt "ab") [e,.nd .say [.nd (.st "ab") [e]]]
def Zuo (e:Tv):List Tv:=[.tup [ts "num",tb true],.tup [ts "num",ti (-1)],.tup [ts "num",ti 1000000000],.tup [ts "num"],.tup [ts "num",ts "1"],.tup [ts "name",ts "own"],.tup [ts "name",ts ""],.tup [ts "name",ts "abcdefghi"],.tup [ts "name",ts "aB"],.tup [ts "name",ti 3],.tup [ts "op",ts "**",e,e],.tup [ts "op",ts "+",e],.tup [ts "op",ts "+",e,e,e],.tup [ts "pick",e,e],.tup [ts "let",ts "do",e,e],.tup [ts "let",ts "a",e],.tup [ts "set",ts "call",e],.tup [ts "set",ts "a",e,e],.tup [ts "say"],.tup [ts "say",e,e],.tup [ts "take",e],.tup [ts "do"],.tup [ts "do",e,e,e,e,e,e,e],.tup [ts "again",ti 6,e],.tup [ts "again",tb true,e],.tup [ts "again",ti (-1),e],.tup [ts "again",ti 2],.tup [ts "own",ti 0],.tup [ts "hole",ti 0],.tup [ts "free",ti 0],.lst [ts "num",ti 1],ts "num",.at .non,.tup [],.tup [ts "let",ts "ab",e,.tup [ts "say",.tup [ts "set",ts "ab",e]]],.tup [ts "call",ts "ab",e,e,e,e,e,e,e],.tup [ts "call",ts "Ab"],.tup [ts "call"],.tup [ts "nums",ti 1],ti 7,.tup [ts "take",ti 0],.tup [ts "call",.lst [ts "ab"]],.tup [ts "name",.lst [ts "ab"]],.tup [ts "set",.lst [],e],.tup [ts "let",.lst [ts "a"],e,e],.tup [ts "call",.at .non,e]]
structure Bad (t:Tv):Prop where
 kn:Kn t
 sm:Sm t
 wt:wt t<=1000
 no:okN t=false∨∃(be:E) (n:Nat),t=E.tv be/\Ex R0 n be/\∀B,rt B be=false
theorem Zsg:(E.tvL smE).all (fun e=>(Zuo e).zipIdx.all fun(t,i)=>knb t&&(smb t&&(decide (wt t<=1000)&&(i==34 || !okN t))))=true:=by decide+kernel
theorem Zof:NW "ab":=nameB_iff.mp (by decide+kernel)
theorem Zsh {e:E}(h:Ex R0 1 e):Ex R0 4 (Zt2 e)/\∀B,rt B (Zt2 e)=false:=by
 refine⟨.mk ⟨rfl,Zof⟩ fun k hk=>?_,fun B=>?_⟩
 ·simp only [mem_cons,not_mem_nil,or_false] at hk
  rcases hk with rfl|rfl
  ·exact h.up (by lia)
  ·refine .mk rfl fun k hk=>?_
   simp only [mem_cons,not_mem_nil,or_false] at hk
   rw[hk]
   refine .mk ⟨rfl,Zof⟩ fun k hk=>?_
   simp only [mem_cons,not_mem_nil,or_false] at hk
   rw[hk];exact h
 ·simp [Zt2,rt,rtL,rtH,exB]
theorem Zup:∀e∈smE,Ex R0 1 e:=by
 intro e he
 simp only [smE,mem_cons,not_mem_nil,or_false] at he
 rcases he with rfl|rfl|rfl
 ·exact .mk ⟨rfl,by decide,by decide⟩ fun k hk=>by cases hk
 ·exact .mk rfl fun k hk=>by cases hk
 ·exact .mk ⟨rfl,Zof⟩ fun k hk=>by cases hk
theorem Zog {e:E}(he:e∈smE):∀t∈Zuo (E.tv e),Bad t:=by
 intro t ht
 obtain⟨i,hi,rfl⟩:=List.mem_iff_getElem.mp ht
 have h:=all_eq_true.mp (all_eq_true.mp Zsg (E.tv e) (by rw[E.tvL,Z0h];exact mem_map_of_mem he)) ((Zuo (E.tv e))[i],i) (List.mem_zipIdx_iff_getElem?.mpr (List.getElem?_eq_getElem hi))
 simp only [Bool.and_eq_true] at h
 obtain⟨h1,h2,h3,h4⟩:=h
 refine⟨Zl1 _ h1,Z61 h2,of_decide_eq_true h3,?_⟩
 rw[Bool.or_eq_true] at h4
 rcases h4 with h4|h4
 ·have e34:i=34:=by simpa using h4
  subst e34
  exact .inr ⟨Zt2 e,4,rfl,Zsh (Zup e he)⟩
 ·exact .inl (by simpa using h4)
inductive spOdd (args:List Sl)(k:(Sl->List Sl->Prop)):Prop
 |mk (ns n z e:_) (_:args = [.own (Z05 ns n z),.fz (E.tv e)]) (_:e∈smE) (_:ns.length<=63) (_:n+1<=1000000000000) (_:∀t n' z',Bad t->n'<=n+1->k (.fz t) [.own (Z05 ns n' z'),.fz (E.tv e)]):spOdd args k
theorem Zsi:∀args k,spOdd args k->nrm (Z0j (Zar spDraw) Zaq) (Z02 args k) (Z09 3 args):=by
 rintro args k ⟨ns,n,z,e,rfl,he,hl,hn,q⟩
 have le:∀{a:Nat},Nat.ble a 16777216=true->a<=16777216:=fun h=>Nat.le_of_ble_eq_true h
 refine⟨⟨by decide,by decide,by decide⟩,le rfl,le rfl,le rfl,le rfl,le rfl,le rfl,le rfl,rfl,ns,n,z,46,rfl,hl,by lia,by decide,by decide,fun r n1 z1 r0 r1 hn1=>?_⟩
 obtain⟨t,e1,ht⟩:=Z1c (Zog he) r0 r1
 exact bx e1 (q t n1 z1 ht hn1)
theorem Z76 {pool:List Str}{fs:List Fd}{main:E}(hp:PgOk pool fs main){i:Nat}{f:Fd}(hi:fs[i]? = some f):(Z07 (csF (fs.take i)) (.inr f.nm)).isSome=false:=by
 obtain⟨hl,hg'⟩:=List.getElem?_eq_some_iff.mp hi
 have hn:=hp.nd
 have hn1:((fs.take i).map Fd.nm).Nodup:=hn.sublist ((take_sublist i fs).map _)
 have hno:∀g∈fs.take i,g.nm≠f.nm:=fun g hg e=>by
  have hd:f∈fs.drop i:=by rw[drop_eq_getElem_cons hl,<- hg'];exact mem_cons_self
  have hn':=hn
  rw[<- take_append_drop i fs,map_append] at hn'
  exact(nodup_append.mp hn').2.2 _ (mem_map_of_mem hg) _ (mem_map_of_mem hd) e
 rw[(Z1x hn1).1 hno];rfl
theorem Z62 {pool:List Str}{fs:List Fd}{main:E}(hp:PgOk pool fs main){i:Nat}{f:Fd}(hi:fs[i]? = some f):ParOk (.tup (f.ps.map ts)):=by
 have k:=hp.fo i f hi
 exact⟨f.ps,rfl,k.l6,fun x hx=>hp.pn x (k.sub x hx),k.nd⟩
theorem Bad.spl {bad t:Tv}(h:Bad bad)(s:Spl bad t):Kn t/\(okN t=false∨∃(e:E) (n:Nat),t=E.tv e/\Ex R0 n e/\rt [] e=false):=by
 refine⟨(s.kn h.kn h.sm).1,?_⟩
 rcases h.no with h1|⟨be,n,rfl,h2,h3⟩
 ·exact .inl (s.bad h1)
 ·obtain⟨m,e,rfl,h4,_,h5⟩:=s.ex h2
  exact .inr ⟨e,m,rfl,h4,h5 h3 []⟩
theorem Zju {pool:List Str}{fs:List Fd}{main:E}(hp:PgOk pool fs main){i:Nat}{f:Fd}(hi:fs[i]? = some f){bad t:Tv}(h:Bad bad)(s:Spl bad t)(hw:wt t<=300000):FnRes (csF (fs.take i)) (.tup [ts f.nm,.tup (f.ps.map ts),t]) false:=by
 have k:=hp.fo i f hi
 obtain⟨hk,h1|⟨e,n,rfl,h2,h3⟩⟩:=h.spl s
 ·exact .body k.nm (Z76 hp hi) (Z62 hp hi) hk hw h1
 ·have r:=FnRes.expr (cs:=csF (fs.take i)) k.nm (Z76 hp hi) (Z62 hp hi) h2 (by rw[Zc7] at hw;exact hw)
  rw[h3] at r
  exact r
theorem Zjv {pool:List Str}{fs:List Fd}{main:E}(hp:PgOk pool fs main){bad t:Tv}(h:Bad bad)(s:Spl bad t)(hw:wt t<=300000):PgRes (.tup [.tup (fs.map Fd.tv),t]) false:=by
 have hl:fs.length<=100:=by have:=hp.fl;lia
 obtain⟨hk,h1|⟨e,n,rfl,h2,h3⟩⟩:=h.spl s
 ·exact .main hp.fns hl hk hw h1
 ·have r:=PgRes.expr hp.fns hl h2 (by rw[Zc7] at hw;exact hw)
  rw[h3] at r
  exact r
theorem Zdt {pool:List Str}{fs:List Fd}{main:E}(hp:PgOk pool fs main){i:Nat}{x m:Tv}(hi:i<=fs.length)(h:FnRes (csF (fs.take i)) x false)(post:List Tv):PgRes (.tup [.tup ((fs.map Fd.tv).take i ++ [x]++post),m]) false:=by
 have g:=Z4x hp.pn hp.fo hp.nd i hi
 have r:=PgRes.fns (post:=post) (b:=m) g (by rw[length_take];have:=hp.fl;lia) h
 rw[append_assoc,<- map_take]
 exact r
theorem Zcf {cs:List (Key×Tv)}{f:Str}{ks:List E}{e:E}(h:okC cs (f,ks.length)=false)(hm : .nd (.call f) ks∈e.all):clB cs e=false:=by
 unfold clB
 rw[List.all_eq_false]
 exact⟨(f,ks.length),mem_filterMap.mpr ⟨_,hm,rfl⟩,by rw[h];decide⟩
theorem Zoh {ps:List Str}{p:Str}{ks:List E}{e:E}(h:p∈ps)(hm : .nd (.st p) ks∈e.all):Zoa ps e=true:=by
 unfold Zoa
 rw[any_eq_true]
 exact⟨p,h,contains_iff_mem.mpr (mem_filterMap.mpr ⟨_,hm,rfl⟩)⟩
theorem Z9t {pool:List Str}{fs:List Fd}{main:E}(hp:PgOk pool fs main){f:Str}{ks:List E}{t:Tv}{n:Nat}(h:okC (csF fs) (f,ks.length)=false)(hb:Ex R0 n (.nd (.call f) ks))(s:Spl (E.tv (.nd (.call f) ks)) t)(hw:wt t<=300000):PgRes (.tup [.tup (fs.map Fd.tv),t]) false:=by
 obtain⟨m,e,rfl,h4,h5,_⟩:=s.ex hb
 have r:=PgRes.expr hp.fns (by have:=hp.fl;lia) h4 (by rw[Zc7] at hw;exact hw)
 rw[Zcf h h5,Bool.and_false] at r
 exact r
theorem Z9u {pool:List Str}{fs:List Fd}{main:E}(hp:PgOk pool fs main){i:Nat}{g:Fd}(hi:fs[i]? = some g){f:Str}{ks:List E}{t:Tv}{n:Nat}(h:okC (csF (fs.take i)) (f,ks.length)=false)(hb:Ex R0 n (.nd (.call f) ks))(s:Spl (E.tv (.nd (.call f) ks)) t)(hw:wt t<=300000):FnRes (csF (fs.take i)) (.tup [ts g.nm,.tup (g.ps.map ts),t]) false:=by
 obtain⟨m,e,rfl,h4,h5,_⟩:=s.ex hb
 have r:=FnRes.expr (cs:=csF (fs.take i)) (hp.fo i g hi).nm (Z76 hp hi) (Z62 hp hi) h4 (by rw[Zc7] at hw;exact hw)
 rw[Zcf h h5,Bool.false_and,Bool.and_false] at r
 exact r
theorem Zcg {cs:List (Key×Tv)}{x:Str}{ps:List Str}(hx:NW x)(hn:(Z07 cs (.inr x)).isSome=false)(hps:ParOk (.tup (ps.map ts))){p:Str}{ks:List E}{t:Tv}{n:Nat}(hpp:p∈ps)(hb:Ex R0 n (.nd (.st p) ks))(s:Spl (E.tv (.nd (.st p) ks)) t)(hw:wt t<=300000):FnRes cs (.tup [ts x,.tup (ps.map ts),t]) false:=by
 obtain⟨m,e,rfl,h4,h5,_⟩:=s.ex hb
 have r:=FnRes.expr (cs:=cs) hx hn hps h4 (by rw[Zc7] at hw;exact hw)
 rw[Zoh hpp h5,Bool.not_true,Bool.and_false,Bool.and_false] at r
 exact r
theorem nob {cs:List (Key×Tv)}{f:Str}{n:Nat}(h:Z07 cs (.inr f)=none):okC cs (f,n)=false:=by
 unfold okC
 rw[h]
 exact decide_eq_false fun e=>by injection e with e;lia
theorem mis {cs:List (Key×Tv)}{f:Str}{n m:Nat}(h:Z07 cs (.inr f)=some (ti m))(hn:m≠n):okC cs (f,n)=false:=by
 unfold okC
 rw[h]
 exact decide_eq_false fun e=>by injection e with e;lia
abbrev oneE:E:=.nd (.num 1) []
theorem Zhe:Ex R0 1 oneE:=.mk ⟨rfl,by decide,by decide⟩ fun k hk=>by cases hk
theorem Zuq:NW "zq":=nameB_iff.mp (by decide+kernel)
theorem Z3m (n:Nat):Exs (List.replicate n oneE):=fun k hk=>by rw[eq_of_mem_replicate hk];exact⟨1,Zhe⟩
def FnG (g:Fd):Prop:=NW g.nm/\g.ps.length<=6
def Zoi (b:Tv):List Tv:=[b,.tup [ts "let",ts "zq",E.tv oneE,b],.tup [ts "again",ti 2,b],.tup [ts "pick",E.tv oneE,E.tv oneE,b],b,b]
theorem Zoj {b:Tv}:∀t∈Zoi b,Spl b t/\wt t<=wt b+5:=by
 intro t ht
 have one:Exs [oneE]:=Z3m 1
 have two:Exs [oneE,oneE]:=Z3m 2
 have no:Exs []:=Z3m 0
 have self:Spl b b/\wt b<=wt b+5:=⟨.here,by lia⟩
 simp only [Zoi,mem_cons,not_mem_nil,or_false] at ht
 rcases ht with rfl|rfl|rfl|rfl|rfl|rfl
 ·exact self
 ·refine⟨.kid (w:=.lt "zq") (a:=[oneE]) (b:=[]) ⟨rfl,Zuq⟩ one no .here,?_⟩
  have:=Z9s (.lt "zq") [oneE] [] b
  refine Nat.le_trans this ?_
  simp [Tree.cntL,Tree.cnt];lia
 ·refine⟨.kid (w:=.again 2) (a:=[]) (b:=[]) ⟨rfl,by decide,by decide⟩ no no .here,?_⟩
  have:=Z9s (.again 2) [] [] b
  refine Nat.le_trans this ?_
  simp [Tree.cntL];lia
 ·refine⟨.kid (w:=.pick) (a:=[oneE,oneE]) (b:=[]) rfl two no .here,?_⟩
  have:=Z9s .pick [oneE,oneE] [] b
  refine Nat.le_trans this ?_
  simp [Tree.cntL,Tree.cnt];lia
 ·exact self
 ·exact self
inductive spHid (args:List Sl)(k:(Sl->List Sl->Prop)):Prop
 |mk (ns:List Int) (n:Nat) (z:Int) (e:E) (bad:Tv) (gs:List Fd) (_:args = [.own (Z05 ns n z),.fz (E.tv e),.fz bad,.fz (.tup (gs.map Fd.tv))]) (_:ns.length<=63) (_:n+10<=1000000000000) (_:Ex R0 8 e) (_:e.cnt<=100000) (_:gs.length<=3) (_:(∀g∈gs,FnG g)) (_:∀t n' z',Spl bad t->wt t<=e.cnt+wt bad+20->n'<=n+10->k (.fz t) [.own (Z05 ns n' z'),.fz (E.tv e),.fz bad,.fz (.tup (gs.map Fd.tv))]):spHid args k
abbrev gH:Gm:=Z46 spDraw (spSpoilt 8) (spNodesE R0 8)
theorem Z63 {k:List Tv->Ms->Prop}:∀(l acc:List Fd) (s:Option Sl),(∀s,k ((acc++l.filter fun g => !g.ps.isEmpty).map Fd.tv) ⟨[s],[],[]⟩)->Z03 (bd (.nm 0)) (sem gH (.cmp .nee (.ix (.var 0) (.cst (.int 1))) (.tup .nil))).t (sem gH Z5r).e k (l.map Fd.tv) (acc.map Fd.tv) ⟨[s],[],[]⟩
 |[],acc,s,q=>by have:=q s;rw[filter_nil,append_nil] at this;exact this
 |⟨nm,[],b⟩::l,acc,s,q=>Z63 l acc _ fun s=>by have:=q s;rwa [List.filter_cons_of_neg (by simp)] at this
 |⟨nm,p::ps,b⟩::l,acc,s,q=>by
  have e1:acc.map Fd.tv ++ [Fd.tv (Fd.mk nm (p::ps) b)]=(acc ++ [Fd.mk nm (p::ps) b]).map Fd.tv:=by simp
  show Z03 _ _ _ _ (l.map Fd.tv) (acc.map Fd.tv ++ [Fd.tv ⟨nm,p::ps,b⟩]) _
  rw[e1]
  exact Z63 l _ _ fun s=>by have:=q s;rw[List.filter_cons_of_pos (by simp)] at this;simpa using this
theorem Z9v {k:List Tv->Ms->Prop}:∀(l:List Str) (m:Nat) (s:Option Sl),(∀s,k (E.tvL (List.replicate (m+l.length) oneE)) ⟨[s],[],[]⟩)->Z03 (bd (.nm 0)) (sem gH .tt).t (sem gH Z5s).e k (l.map ts) (E.tvL (List.replicate m oneE)) ⟨[s],[],[]⟩
 |[],m,s,q=>q s
 |x::l,m,s,q=>by
  have e1:E.tvL (List.replicate m oneE) ++ [E.tv oneE]=E.tvL (List.replicate (m+1) oneE):=by rw[List.replicate_succ',Z60];rfl
  show Z03 _ _ _ _ (l.map ts) (E.tvL (List.replicate m oneE) ++ [E.tv oneE]) _
  rw[e1]
  exact Z9v l (m+1) _ fun s=>by have:=q s;rwa [length_cons,show m+(l.length+1)=m+1+l.length by lia] at this
theorem Zjw {m i:Nat}(h:i<m)(b:Tv):(E.tvL (List.replicate m oneE)).set i b=E.tvL (List.replicate i oneE)++b::E.tvL (List.replicate (m-i-1) oneE):=by
 have e1:List.replicate m oneE=List.replicate i oneE++oneE::List.replicate (m-i-1) oneE:=by
  rw[show(oneE::List.replicate (m-i-1) oneE)=List.replicate (m-i-1+1) oneE from rfl,List.replicate_append_replicate]
  congr 1;lia
 rw[e1,Z60]
 have h2:=Zcd (E.tvL (List.replicate i oneE)) (E.tvL (List.replicate (m-i-1) oneE)) (E.tv oneE) b
 rw[Z0f,length_replicate] at h2
 exact h2
theorem Z3n (n:Nat):Tree.cntL (List.replicate n oneE)=n:=by
 induction n with
 |zero=>rfl
 |succ n ih=>rw[replicate_succ,Tree.cntL,ih];simp [Tree.cnt,Tree.cntL];lia
theorem Zjx {g:Fd}(hg:FnG g){i:Nat}(h:i<g.ps.length)(b:Tv):Spl b (.tup ([ts "call",ts g.nm]++(E.tvL (List.replicate g.ps.length oneE)).set i b))/\wt (.tup ([ts "call",ts g.nm]++(E.tvL (List.replicate g.ps.length oneE)).set i b))<=wt b+10:=by
 have h6:=hg.2
 rw[Zjw h]
 refine⟨.kid (w:=.call g.nm) ?_ (Z3m _) (Z3m _) .here,?_⟩
 ·rw[length_replicate,length_replicate]
  exact⟨by lia,hg.1.1,hg.1,by lia⟩
 ·have:=Z9s (.call g.nm) (List.replicate i oneE) (List.replicate (g.ps.length-i-1) oneE) b
  refine Nat.le_trans this ?_
  rw[Z3n,Z3n];lia
theorem Zhf:∀args k,spHid args k->nrm (Z0j gH Z45) (Z02 args k) (Z09 10 args):=by
 rintro args k ⟨ns,n,z,e,bad,gs,rfl,hl,hn,he,hec,hgl,hg,q⟩
 refine⟨by rw[length_map];lia,rfl,Z63 gs [] none fun s0=>?_⟩
 refine⟨fun M=>∃(b:Tv) (n':Nat) (z':Int) (s4 s5 s6 s7 s8:Option Sl),Spl bad b/\wt b<=wt bad+10/\n'<=n+3/\M=⟨[some (.out 0),some (.fz (E.tv e)),some (.fz b),some (.fz (.tup (gs.map Fd.tv))),s4,s5,s6,s7,s8,none],[.own (Z05 ns n' z')],[]⟩,?_,?_⟩
 ·refine Z0k (fun g1=>?_) (fun g1=>?_)
  ·refine⟨rfl,ns,n,z,3,rfl,hl,by lia,by decide,by decide,fun r n1 z1 r0 r1 hn1=>?_⟩
   refine Z0k (fun g2=>?_) (fun g2=>⟨bad,n1,z1,_,_,_,_,_,.here,by lia,by lia,rfl⟩)
   have ne:(gs.filter fun g => !g.ps.isEmpty) ≠ []:=fun h=>by rw[h] at g1;exact absurd g1 (by decide)
   have hfl:(gs.filter fun g => !g.ps.isEmpty).length<=gs.length:=length_filter_le ..
   have hfp:=length_pos_iff.mpr ne
   refine⟨rfl,ns,n1,z1,_,rfl,hl,by lia,by rw[length_map,nil_append];lia,by rw[length_map,nil_append];lia,fun r' n2 z2 r0' r1' hn2=>?_⟩
   obtain⟨t,et,g,hgm,rfl⟩:=Z1c (l:=(gs.filter (fun g:Fd => !g.ps.isEmpty)).map Fd.tv) (P:=fun t=>∃g:Fd,g∈(gs.filter (fun g:Fd => !g.ps.isEmpty))/\t=Fd.tv g) (fun t ht=>by obtain⟨g,h,rfl⟩:=mem_map.mp ht;exact⟨g,h,rfl⟩) r0' r1'
   obtain⟨hgm,hgp⟩:=mem_filter.mp hgm
   have hG:=hg g hgm
   have h6:=hG.2
   have hp:0<g.ps.length:=length_pos_iff.mpr fun h=>by rw[h] at hgp;cases hgp
   refine bx et ?_
   refine⟨by rw[length_map];lia,rfl,Z9v g.ps 0 none fun s1=>?_⟩
   rw[Nat.zero_add]
   have hol:(E.tvL (List.replicate g.ps.length oneE)).length=g.ps.length:=by rw[Z0f,length_replicate]
   refine⟨rfl,ns,n2,z2,_,rfl,hl,by lia,by rw[hol];lia,by rw[hol];lia,fun r3 n3 z3 r30 r31 hn3=>?_⟩
   obtain⟨i,rfl⟩:=Int.eq_ofNat_of_zero_le r30
   rw[hol] at r31
   have hi:i<g.ps.length:=by lia
   have hix:ixN (E.tvL (List.replicate g.ps.length oneE)).length (i:Int)=some i:=by
    rw[hol];unfold ixN
    rw[if_pos (by lia),if_pos (by lia)];simp
   have hc:=Zjx hG hi bad
   refine⟨_,hix,?_,⟨_,n3,z3,_,_,_,_,_,hc.1,hc.2,by lia,rfl⟩⟩
   show 2+((E.tvL (List.replicate g.ps.length oneE)).set i bad).length<=16777216
   rw[length_set,hol];lia
  ·exact⟨bad,n,z,_,_,_,_,_,.here,by lia,by lia,rfl⟩
 ·rintro M ⟨b,n1,z1,s4,s5,s6,s7,s8,hs,hw,hn1,rfl⟩
  refine⟨rfl,ns,n1,z1,6,rfl,hl,by lia,by decide,by decide,fun r n2 z2 r0 r1 hn2=>?_⟩
  obtain⟨t,e1,ht,hwt⟩:=Z1c (l:=Zoi b) (P:=fun t=>Spl b t/\wt t<=wt b+5) Zoj r0 r1
  refine bx e1 ?_
  have hc:1<=e.cnt:=by cases e;rw[Tree.cnt];lia
  refine⟨rfl,e,rfl,he,?_⟩
  refine⟨rfl,ns,n2,z2,_,rfl,hl,by lia,by lia,by lia,fun r' n3 z3 r0' r1' hn3=>?_⟩
  exact⟨rfl,e,r',t,rfl,he,r0',r1',fun t' hs' hw'=>q t' n3 z3 (hs.trans (ht.trans hs')) (by lia) (by lia)⟩
theorem eqv {r m:Int}:(false ^^ decide (V.int r=V.int m))=true↔r=m:=by
 rw[Bool.false_xor,decide_eq_true_iff]
 exact⟨fun e=>by injection e,fun e=>by rw[e]⟩
def nameL:List Tv:=[ts "",ts "say",ts "Ab",ts "abcdefghi",ti 5,.at .non,.tup [ts "a"],ts "a1",ts "own",.lst [ts "a"],.lst []]
theorem Zjy:nameL.all (fun t=>smb t && !nameT t)=true:=by decide+kernel
theorem Zhg:∀t∈nameL,Sm t/\nameT t=false:=fun t ht=>by
 have h:=all_eq_true.mp Zjy t ht
 rw[Bool.and_eq_true] at h
 exact⟨Z61 h.1,by simpa using h.2⟩
def Zdu (P:List Tv):List Tv:=(List.replicate (Int.toNat 2) (Z0o (P ++ [ts "ab"]) none (some 1))).flatten
def Zur (P:List Tv):List Tv:=[.lst P,.tup (Z0o P none (some 5) ++ [ts "let"]),.tup (Zdu P),.tup [ts "a",ts "b",ts "c",ts "d",ts "e",ts "f",ts "g"],.tup [ts "a",ti 3],.at .non,ts "ab",.tup (Z0o P none (some 5) ++ [ts ""]),.tup (Z0o P none (some 5) ++ [.lst [ts "a"]]),.tup [.lst [ts "a"]],.tup [.at .non],.tup (Z0o (P ++ [ts "ab",ts "abc"]) none (some 3)++Z0o (Zdu P) none (some 1)),.tup (Z0o P none (some 3) ++ [ts "q",ts "r"]++Z0o (P ++ [ts "q"]) (some (-1)) none)]
theorem Z49 {l:List Tv}{t:Tv}(ht:t∈l)(h:nameT t=false):¬ParOk (.tup l):=fun⟨ps,e,_,hp,_⟩=>by
 cases e
 have:=all_eq_true.mp (Z74 hp) t ht
 rw[h] at this;cases this
theorem Zsj {l:List Tv}(h:ParOk (.tup l)):l.Nodup:=by
 obtain⟨ps,e,_,_,hd⟩:=h
 cases e
 exact List.pairwise_map.mpr (hd.imp fun ne e=>ne (by injection e with e;injection e))
theorem Z64 {t:Tv}{a b c:List Tv}:¬ParOk (.tup (a++t::(b++t::c))):=fun h=>by
 have:=Zsj h
 rw[nodup_append] at this
 have h2:=(nodup_cons.mp this.2.1).1
 exact h2 (by simp)
theorem Z8e {l:List Tv}(hl:l.length<=1000)(h:∀t∈l,Sm t):Kn1 (.tup l):=⟨⟨_,rfl⟩,fun l' e=>by cases e;exact⟨hl,h⟩⟩
theorem Zus {ps:List Str}(h:∀x∈ps,NW x):∀t∈ps.map ts,Sm t:=fun t ht=>by
 obtain⟨x,hx,rfl⟩:=mem_map.mp ht
 exact⟨⟨_,rfl⟩,fun y e=>by cases e;have:=(h x hx).1.2.1;lia⟩
theorem Zch (P:List Tv)(x:Tv):Z0o (P ++ [x]) (some (-1)) none = [x]:=by
 have h0:HT.sIx (P ++ [x]).length 0 (some (-1))=P.length:=by
  unfold HT.sIx
  simp
  lia
 have h1:HT.sIx (P ++ [x]).length (P ++ [x]).length none=(P ++ [x]).length:=rfl
 unfold Z0o
 rw[h0,h1,length_append,List.drop_left]
 simp
theorem Zok {ps:List Str}(h6:ps.length<=6)(h:∀x∈ps,NW x):∀t∈Zur (ps.map ts),Kn1 t/\¬ParOk t:=by
 have S:=Zus h
 have hl:(ps.map ts).length<=6:=by rw[length_map];exact h6
 generalize ps.map ts=P at S hl ⊢
 have c5:Z0o P none (some 5)=P.take 5:=Z0y P 5
 have c3:Z0o P none (some 3)=P.take 3:=Z0y P 3
 have c31:Z0o (P ++ [ts "ab",ts "abc"]) none (some 3)=(P ++ [ts "ab",ts "abc"]).take 3:=Z0y _ 3
 have c1:∀l:List Tv,Z0o l none (some 1)=l.take 1:=fun l=>Z0y l 1
 have cc:∀{t:Tv} {l:List Tv},smb t=true->l.all smb=true->t∈l->Sm t:=fun _ h2 ht=>Z61 (all_eq_true.mp h2 _ ht)
 have T:∀(m:Nat) {r:List Tv},r.all smb=true->r.length<=10->Kn1 (.tup (P.take m++r)):=fun m r hr hl2=>Z8e (by rw[length_append,length_take];lia) fun t ht=>by
  rcases mem_append.mp ht with z|z
  ·exact S t (mem_of_mem_take z)
  ·exact Z61 (all_eq_true.mp hr t z)
 have C:∀{r:List Tv},r.all smb=true->r.length<=10->Kn1 (.tup r):=fun hr hl2=>Z8e (by lia) fun t ht=>Z61 (all_eq_true.mp hr t ht)
 have no:∀{t:Tv},okTy t->Z0p t=false->Kn1 t/\¬ParOk t:=fun h1 h2=>⟨⟨h1,fun l e=>by rw[e] at h2;cases h2⟩,fun⟨ps,e,_⟩=>by rw[e] at h2;cases h2⟩
 intro t ht
 unfold Zur Zdu at ht
 rw[c5,c3,c31,Zch,c1,c1] at ht
 simp only [mem_cons,not_mem_nil,or_false] at ht
 rcases ht with rfl|rfl|rfl|rfl|rfl|rfl|rfl|rfl|rfl|rfl|rfl|rfl|rfl
 ·exact no ⟨_,rfl⟩ rfl
 ·exact⟨T 5 rfl (by decide),Z49 (t:=ts "let") (by simp) (by decide+kernel)⟩
 ·match P,S with
  |[],_=>exact⟨C (r:=[ts "ab",ts "ab"]) rfl (by decide),Z64 (t:=ts "ab") (a:=[]) (b:=[]) (c:=[])⟩
  |p::P,S=>
   have hp:=S p mem_cons_self
   exact⟨Z8e (l:=[p,p]) (by simp) (fun t ht=>by simp at ht;rw[ht];exact hp),Z64 (t:=p) (a:=[]) (b:=[]) (c:=[])⟩
 ·exact⟨C rfl (by decide),fun⟨ps,e,h6,_⟩=>by injection e with e;have:=congrArg List.length e;rw[length_map] at this;have h7:7=ps.length:=this;lia⟩
 ·exact⟨C rfl (by decide),Z49 (t:=ti 3) (by simp) rfl⟩
 ·exact no ⟨_,rfl⟩ rfl
 ·exact no ⟨_,rfl⟩ rfl
 ·exact⟨T 5 rfl (by decide),Z49 (t:=ts "") (by simp) (by decide+kernel)⟩
 ·exact⟨T 5 rfl (by decide),Z49 (t:=.lst [ts "a"]) (by simp) rfl⟩
 ·exact⟨C rfl (by decide),Z49 (t:=.lst [ts "a"]) (by simp) rfl⟩
 ·exact⟨C rfl (by decide),Z49 (t:=.at .non) (by simp) rfl⟩
 ·match P,S,hl with
  |[],_,_=>exact⟨C (r:=[ts "ab",ts "abc",ts "ab"]) rfl (by decide),Z64 (t:=ts "ab") (a:=[]) (b:=[ts "abc"]) (c:=[])⟩
  |p::P,S,hl=>
   have hp:=S p mem_cons_self
   refine⟨Z8e (l:=p::((P ++ [ts "ab",ts "abc"]).take 2 ++ [p])) (by simp) (fun t ht=>?_),Z64 (t:=p) (a:=[]) (b:=(P ++ [ts "ab",ts "abc"]).take 2) (c:=[])⟩
   simp only [mem_cons,mem_append,not_mem_nil,or_false] at ht
   rcases ht with rfl|ht|rfl
   ·exact hp
   ·rcases mem_append.mp (mem_of_mem_take ht) with z|z
    ·exact S t (mem_cons_of_mem _ z)
    ·exact Z61 (all_eq_true.mp (show[ts "ab",ts "abc"].all smb=true from rfl) t z)
   ·exact hp
 ·have e:P.take 3 ++ [ts "q",ts "r"] ++ [ts "q"]=P.take 3 ++ [ts "q",ts "r",ts "q"]:=by simp
  rw[e]
  exact⟨T 3 rfl (by decide),Z64 (t:=ts "q") (a:=P.take 3) (b:=[ts "r"]) (c:=[])⟩
def Zut (x p b:Tv):List Tv:=[.tup [x,p],.tup [x,p,b,b],.lst [x,p,b],.at .non,x]
theorem Zjz {cs:List (Key×Tv)}{f:Str}{p b:Tv}:∀t∈Zut (ts f) p b,FnRes cs t false:=by
 intro t ht
 simp only [Zut,mem_cons,not_mem_nil,or_false] at ht
 rcases ht with rfl|rfl|rfl|rfl|rfl
 ·exact .len (by show ¬ (2=3);decide)
 ·exact .len (by show ¬ (4=3);decide)
 ·exact .kind ⟨_,rfl⟩ rfl
 ·exact .kind ⟨_,rfl⟩ rfl
 ·exact .kind ⟨_,rfl⟩ rfl
inductive spBentFn (args:List Sl)(k:(Sl->List Sl->Prop)):Prop
 |mk (pool:List Str) (fs:List Fd) (main:E) (f:Fd) (i:Nat) (ns:List Int) (n:Nat) (z:Int) (_:args = [.own (Z05 ns n z),.fz (pgT fs main),fi i]) (_:PgOk pool fs main) (_:fs[i]? = some f) (_:ns.length<=63) (_:n+10<=1000000000000) (_:∀t n' z',PgRes t false->n'<=n+10->k (.fz t) [.own (Z05 ns n' z'),.fz (pgT fs main),fi i]):spBentFn args k
abbrev gBF:Gm:=Z0w spDraw (spSpoilt 8) spOdd spLeafSm (spNodesE R0 8) spPutF
theorem Zhh:∀args k,spBentFn args k->nrm (Z0j gBF Z0v) (Z02 args k) (Z09 10 args):=by
 rintro args k ⟨pool,fs,main,f,i,ns,n,z,rfl,hp,hi,hl,hn,q⟩
 have ho:=hp.fo i f hi
 have hfl:=hp.fl
 obtain⟨hil,hfe⟩:=List.getElem?_eq_some_iff.mp hi
 have hlm:(fs.map Fd.tv).length=fs.length:=length_map ..
 have eg:Z8i (fs.map Fd.tv) (i:Int)=some (Fd.tv f):=by
  show(fs.map Fd.tv)[i]? = _
  rw[List.getElem?_map,hi];rfl
 have hEx:Ex R0 8 f.bd:=(Zh8 hp.pn (fun g hg=>Zjr hp.fo (mem_of_mem_take hg)) ho.bd).up (by lia)
 have hnw:=ho.nm
 have hnew:=Z76 hp hi
 have hpar:=Z62 hp hi
 have h6:=ho.l6
 have hpn:∀x∈f.ps,NW x:=fun x hx=>hp.pn x (ho.sub x hx)
 refine bx eg ?_
 refine⟨rfl,ns,n,z,4,rfl,hl,by lia,by decide,by decide,fun r n1 z1 r0 r1 hn1=>?_⟩
 refine⟨fun M=>∃(x:Tv) (n':Nat) (z':Int),M=⟨[some (.out 0),some (.fz (pgT fs main)),some (fi i),some (.fz x),some (.fz (.tup (f.ps.map ts))),some (.fz (E.tv f.bd)),some (fi r),none,none,none],[.own (Z05 ns n' z')],[]⟩/\(r=0->Sm x/\nameT x=false)/\(r≠0->x=ts f.nm)/\n'<=n+2,?_,?_⟩
 ·refine Z0k (fun g=>?_) (fun g=>⟨_,n1,z1,rfl,fun h=>absurd (eqv.mpr h) g,fun _=>rfl,by lia⟩)
  refine⟨rfl,ns,n1,z1,11,rfl,hl,by lia,by decide,by decide,fun r' n2 z2 r0' r1' hn2=>?_⟩
  obtain⟨t,e,ht⟩:=Z1c Zhg r0' r1'
  exact bx e ⟨t,n2,z2,rfl,fun _=>ht,fun h=>absurd (eqv.mp g) h,by lia⟩
 rintro M ⟨x,n2,z2,rfl,hx0,hx1,hn2⟩
 refine⟨fun M=>∃(p:Tv) (s7 s8:Option Sl) (n':Nat) (z':Int),M=⟨[some (.out 0),some (.fz (pgT fs main)),some (fi i),some (.fz x),some (.fz p),some (.fz (E.tv f.bd)),some (fi r),s7,s8,none],[.own (Z05 ns n' z')],[]⟩/\(r=1->Kn1 p/\¬ParOk p)/\(r≠1->p = .tup (f.ps.map ts))/\n'<=n+3,?_,?_⟩
 ·refine Z0k (fun g=>?_) (fun g=>⟨_,_,_,n2,z2,rfl,fun h=>absurd (eqv.mpr h) g,fun _=>rfl,by lia⟩)
  have hpl:(f.ps.map ts).length<=6:=by rw[length_map];exact h6
  generalize hP:f.ps.map ts=Q at hpl ⊢
  have le:∀{a:Nat},a<=100->a<=16777216:=fun h=>by lia
  have cl:∀(l:List Tv) (m:Nat),(Z0o l none (some (m:Int))).length<=l.length:=fun l m=>by rw[Z0y,length_take];lia
  have lap:∀(l:List Tv) (t:Tv),(l ++ [t]).length=l.length+1:=fun l t=>by simp
  refine⟨by show Q.length+1<=_;lia,⟨?_,⟨by decide,by decide⟩,?_⟩,?_⟩
  ·have e:Z0o (Q ++ [ts "ab"]) none (some 1)=(Q ++ [ts "ab"]).take 1:=Z0y _ 1
   show Z0o (Q ++ [ts "ab"]) none (some 1) ≠ []
   rw[e];cases Q <;> simp
  ·have:=cl (Q ++ [ts "ab"]) 1
   rw[lap] at this
   exact Nat.le_trans this (by lia)
  have c5:=cl Q 5
  have c3:=cl Q 3
  refine⟨by show(Z0o Q none (some 5)).length+1<=_;exact Nat.le_trans (Nat.succ_le_succ c5) (by lia),?_⟩
  refine⟨by show(Z0o Q none (some 5)).length+1<=_;exact Nat.le_trans (Nat.succ_le_succ c5) (by lia),?_⟩
  refine⟨by show(Z0o Q none (some 5)).length+1<=_;exact Nat.le_trans (Nat.succ_le_succ c5) (by lia),?_⟩
  refine⟨by show 6+5<=_;decide,?_⟩
  refine⟨by show Q.length+2<=_;lia,?_⟩
  refine⟨?_,?_⟩
  ·have h1:=cl (Q ++ [ts "ab",ts "abc"]) 3
   have h2:=cl (Zdu Q) 1
   have h3:(Zdu Q).length<=2*(Q.length+1):=by
    have:=cl (Q ++ [ts "ab"]) 1
    rw[lap] at this
    unfold Zdu
    show(List.replicate 2 _).flatten.length<=_
    simp only [replicate_succ,replicate_zero,flatten_cons,List.flatten_nil,length_append,length_nil]
    have h4:(Z0o (Q ++ [ts "ab"]) none (some 1)).length<=Q.length+1:=this
    lia
   have h5:(Q ++ [ts "ab",ts "abc"]).length=Q.length+2:=by simp
   rw[h5] at h1
   exact Nat.le_trans (Nat.add_le_add h1 (Nat.le_trans h2 h3)) (by lia)
  refine⟨by show(Z0o Q none (some 3)).length+2<=_;exact Nat.le_trans (Nat.add_le_add_right c3 2) (by lia),?_⟩
  refine⟨by show Q.length+1<=_;lia,?_⟩
  refine⟨?_,?_⟩
  ·show(Z0o Q none (some 3) ++ [ts "q",ts "r"]).length+(Z0o (Q ++ [ts "q"]) (some (-1)) none).length<=_
   rw[Zch,length_append]
   exact Nat.le_trans (Nat.add_le_add_right (Nat.add_le_add_right c3 2) 1) (by lia)
  refine⟨by show 11+2<=_;decide,?_⟩
  refine⟨rfl,ns,n2,z2,13,rfl,hl,by lia,by decide,by decide,fun r' n3 z3 r0' r1' hn3=>?_⟩
  obtain⟨t,e,ht⟩:=Z1c (l:=Zur Q) (P:=fun t=>Kn1 t/\¬ParOk t) (by rw[<- hP];exact Zok h6 hpn) r0' r1'
  exact bx e ⟨t,_,_,n3,z3,rfl,fun _=>ht,fun h=>absurd (eqv.mp g) h,by lia⟩
 rintro M ⟨p,s7,s8,n3,z3,rfl,hp0,hp1,hn3⟩
 refine⟨fun M=>∃(b:Tv) (n':Nat) (z':Int),M=⟨[some (.out 0),some (.fz (pgT fs main)),some (fi i),some (.fz x),some (.fz p),some (.fz b),some (fi r),s7,s8,none],[.own (Z05 ns n' z')],[]⟩/\(r≠3->FnRes (csF (fs.take i)) (.tup [x,p,b]) false)/\n'<=n+6,?_,?_⟩
 ·refine Z0k (fun g=>?_) (fun g=>⟨_,n3,z3,rfl,fun h3=>?_,by lia⟩)
  ·have r2:=eqv.mp g
   refine⟨rfl,f.bd,rfl,hEx,?_⟩
   refine⟨rfl,ns,n3,z3,_,rfl,hl,by lia,by cases f.bd;rw[Tree.cnt];lia,by have:=ho.bc;lia,fun r' n4 z4 r0' r1' hn4=>?_⟩
   refine⟨rfl,ns,n4,z4,rfl,hl,by lia,fun e he n5 z5 hn5=>?_⟩
   refine⟨rfl,ns,n5,z5,e,rfl,he,hl,by lia,fun t n6 z6 hB hn6=>?_⟩
   refine⟨rfl,f.bd,r',t,rfl,hEx,r0',r1',fun t' hs hw=>?_⟩
   refine⟨t',n6,z6,rfl,fun _=>?_,by lia⟩
   rw[hx1 (by lia),hp1 (by lia)]
   exact Zju hp hi hB hs (by have:=ho.bc;have:=hB.wt;lia)
  ·have r2:r≠2:=fun h=>g (eqv.mpr h)
   by_cases h0:r=0
   ·exact .name (hx0 h0).1 (hx0 h0).2
   ·have h1:r=1:=by lia
    rw[hx1 h0]
    exact .pars hnw hnew (hp0 h1).1 (hp0 h1).2
 rintro M ⟨b,n4,z4,rfl,hb,hn4⟩
 refine⟨fun M=>∃(o:Tv) (n':Nat) (z':Int),M=⟨[some (.out 0),some (.fz (pgT fs main)),some (fi i),some (.fz x),some (.fz p),some (.fz b),some (fi r),s7,s8,some (.fz o)],[.own (Z05 ns n' z')],[]⟩/\FnRes (csF (fs.take i)) o false/\n'<=n+7,?_,?_⟩
 ·refine Z0k (fun g=>?_) (fun g=>⟨_,n4,z4,rfl,hb fun h=>g (eqv.mpr h),by lia⟩)
  have r3:=eqv.mp g
  refine⟨rfl,ns,n4,z4,5,rfl,hl,by lia,by decide,by decide,fun r' n5 z5 r0' r1' hn5=>?_⟩
  rw[hx1 (by lia)]
  obtain⟨t,e,ht⟩:=Z1c (l:=Zut (ts f.nm) p b) Zjz r0' r1'
  exact bx e ⟨t,n5,z5,rfl,ht,by lia⟩
 rintro M ⟨o,n5,z5,rfl,ho',hn5⟩
 exact⟨rfl,fs.map Fd.tv,E.tv main,o,i,rfl,by lia,q _ n5 z5 (Zdt hp (by lia) ho' _) (by lia)⟩
theorem Z65 {pool:List Str}{fs:List Fd}{main:E}(hp:PgOk pool fs main):∀g∈fs,FnG g:=fun g hg=>Zjr hp.fo hg
theorem Zuu {pool:List Str}{fs:List Fd}{main:E}(hp:PgOk pool fs main){x:Str}(h:x∉fs.map Fd.nm)(i:Nat):Z07 (csF (fs.take i)) (.inr x)=none:=
 (Z1x (hp.nd.sublist ((take_sublist i fs).map _))).1 fun g hg e=>h (mem_map.mpr ⟨g,mem_of_mem_take hg,e⟩)
theorem Zsk {pool:List Str}{fs:List Fd}{main:E}(hp:PgOk pool fs main){x:Str}(h:x∉fs.map Fd.nm):Z07 (csF fs) (.inr x)=none:=
 (Z1x hp.nd).1 fun g hg e=>h (mem_map.mpr ⟨g,hg,e⟩)
theorem Z66 {pool:List Str}{fs:List Fd}{main:E}(hp:PgOk pool fs main):Ex R0 8 main:=(Zh8 hp.pn (Z65 hp) hp.mn).up (by lia)
theorem Zol {pool:List Str}{fs:List Fd}{main:E}(hp:PgOk pool fs main){i:Nat}{f:Fd}(hi:fs[i]? = some f):Ex R0 8 f.bd:=(Zh8 hp.pn (fun g hg=>Z65 hp g (mem_of_mem_take hg)) (hp.fo i f hi).bd).up (by lia)
theorem Zk0 {fs:List Fd}{i:Nat}{f:Fd}(hi:fs[i]? = some f):Z8i (fs.map Fd.tv) (i:Int)=some (Fd.tv f):=by
 show(fs.map Fd.tv)[i]? = _
 rw[List.getElem?_map,hi];rfl
theorem Zb6 {fs:List Fd}{r:Int}(h0:0<=r)(h1:r<(fs.map Fd.tv).length):∃(i:Nat) (f:Fd),r=(i:Int)/\fs[i]? = some f/\i<fs.length:=by
 obtain⟨i,rfl⟩:=Int.eq_ofNat_of_zero_le h0
 rw[length_map] at h1
 have h:i<fs.length:=by lia
 exact⟨i,_,rfl,List.getElem?_eq_getElem h,h⟩
theorem Zhi (fs:List Fd)(i:Nat):Z0o (fs.map Fd.tv) none (some (i:Int))=(fs.take i).map Fd.tv:=by rw[Z0y,map_take]
theorem Zom {a b c:Sl}{l m:List Tv}(h:l=m) : [a,b,c,Sl.fz (.tup l)] = [a,b,c,Sl.fz (.tup m)]:=by rw[h]
theorem Z9w {Γ : Gm}{k:List Tv->Ms->Prop}:∀(l:List Str) (m:Nat) (s:Option Sl),(∀s,k (E.tvL (List.replicate (m+l.length) oneE)) ⟨[s],[],[]⟩)->Z03 (bd (.nm 0)) (sem Γ .tt).t (sem Γ (.tup (.cons (.cst (.str "num")) (.cons (.cst (.int 1)) .nil)))).e k (l.map ts) (E.tvL (List.replicate m oneE)) ⟨[s],[],[]⟩
 |[],m,s,q=>q s
 |x::l,m,s,q=>by
  have e1:E.tvL (List.replicate m oneE) ++ [E.tv oneE]=E.tvL (List.replicate (m+1) oneE):=by rw[List.replicate_succ',Z60];rfl
  show Z03 _ _ _ _ (l.map ts) (E.tvL (List.replicate m oneE) ++ [E.tv oneE]) _
  rw[e1]
  exact Z9w l (m+1) _ fun s=>by have:=q s;rwa [length_cons,show m+(l.length+1)=m+1+l.length by lia] at this
theorem Z8f {Γ : Gm}{k:List Tv->Ms->Prop}:∀(l:List Fd) (acc:List Str) (s:Option Sl),(∀s,k ((acc++l.map Fd.nm).map ts) ⟨[s],[],[]⟩)->Z03 (bd (.nm 0)) (sem Γ .tt).t (sem Γ (.ix (.var 0) (.cst (.int 0)))).e k (l.map Fd.tv) (acc.map ts) ⟨[s],[],[]⟩
 |[],acc,s,q=>by have:=q s;rw[map_nil,append_nil] at this;exact this
 |f::l,acc,s,q=>by
  have e1:acc.map ts ++ [ts f.nm]=(acc ++ [f.nm]).map ts:=by simp
  show Z03 _ _ _ _ (l.map Fd.tv) (acc.map ts ++ [ts f.nm]) _
  rw[e1]
  exact Z8f l _ _ fun s=>by simpa using q s
theorem Z8g {f:Str}(hf:NW f){n:Nat}(h:n<=6):Ex R0 2 (.nd (.call f) (List.replicate n oneE)):=
 .mk ⟨by rw[length_replicate];lia,hf.1,hf,by rw[length_replicate];lia⟩ fun k hk=>by rw[eq_of_mem_replicate hk];exact Zhe
theorem Zb7 (f:Str)(n:Nat):wt (E.tv (.nd (.call f) (List.replicate n oneE)))=n+1:=by
 rw[Zc7,Tree.cnt,Z3n];lia
def Z8h (n:Nat):List E:=List.replicate (min 5 n) oneE ++ [.nd .take []]
theorem Zon {f:Str}(hf:NW f){n:Nat}:Ex R0 2 (.nd (.call f) (Z8h n)):=by
 refine .mk ⟨by simp [Z8h];lia,hf.1,hf,by simp [Z8h];lia⟩ fun k hk=>?_
 rcases mem_append.mp hk with z|z
 ·rw[eq_of_mem_replicate z];exact Zhe
 ·rw[mem_singleton.mp z];exact .mk rfl fun k hk=>by cases hk
theorem Zhj (n:Nat):(E.tvL (List.replicate n oneE)).take 5=E.tvL (List.replicate (min 5 n) oneE):=by
 simp only [E.tvL,Z0h]
 rw[<- map_take,List.take_replicate]
inductive spBentC (args:List Sl)(k:(Sl->List Sl->Prop)):Prop
 |mk (pool:List Str) (fs:List Fd) (main:E) (ns:List Int) (n:Nat) (z:Int) (_:args = [.own (Z05 ns n z),.fz (pgT fs main)]) (_:PgOk pool fs main) (_:ns.length<=63) (_:n+1000<=1000000000000) (_:∀t n' z',PgRes t false->n'<=n+1000->k (.fz t) [.own (Z05 ns n' z'),.fz (pgT fs main)]):spBentC args k
abbrev gBC:Gm:=Z1v spName spDraw spHid spPutF
theorem Zb8:∀args k,spBentC args k->nrm (Z0j gBC Z1u) (Z02 args k) (Z09 14 args):=by
 rintro args k ⟨pool,fs,main,ns,n,z,rfl,hp,hl,hn,q⟩
 have hfl:=hp.fl
 have hmc:=hp.mc
 have hlm:(fs.map Fd.tv).length=fs.length:=length_map ..
 refine⟨by lia,rfl,Z8f fs [] none fun s0=>?_⟩
 rw[nil_append]
 refine⟨rfl,ns,n,z,_,fs.map Fd.nm,fs.map Fd.nm,rfl,.inl rfl,hl,by lia,by rw[length_map];lia,by rw[length_map];lia,fun _ h=>h,fun x hx=>?_,fun x n1 z1 hN hni hw hn1=>?_⟩
 ·obtain⟨g,hg,rfl⟩:=mem_map.mp hx
  exact(Z65 hp g hg).1.1
 have hx:NW x:=⟨hN,hw⟩
 have hfr:okC (csF fs) (x,0)=false:=nob (Zsk hp hni)
 refine⟨rfl,ns,n1,z1,4,rfl,hl,by lia,by decide,by decide,fun way n2 z2 w0 w1 hn2=>?_⟩
 have fst:∀t,Spl (E.tv (.nd (.call x) [])) t->wt t<=main.cnt+wt (E.tv (.nd (.call x) []))+20->PgRes (.tup [.tup (fs.map Fd.tv),t]) false:=fun t hs hw4=>
  Z9t hp hfr (Z8g hx (n:=0) (by lia)) hs (by have:=Zb7 x 0;simp only [replicate_zero] at this;lia)
 refine Z0k (fun g=>⟨rfl,ns,n2,z2,main,E.tv (.nd (.call x) []),fs,rfl,hl,by lia,Z66 hp,by lia,hfl,Z65 hp,fun t n4 z4 hs hw4 hn4=>q _ n4 z4 (fst t hs hw4) (by lia)⟩) (fun g=>Z0k (fun g2=>⟨rfl,ns,n2,z2,main,E.tv (.nd (.call x) []),fs,rfl,hl,by lia,Z66 hp,by lia,hfl,Z65 hp,fun t n4 z4 hs hw4 hn4=>q _ n4 z4 (fst t hs hw4) (by lia)⟩) (fun g2=>?_))
 have hpos:0<fs.length:=by
  cases fs with
  |nil=>exact absurd rfl g
  |cons _ _=>exact Nat.succ_pos _
 refine⟨rfl,ns,n2,z2,_,rfl,hl,by lia,by lia,by lia,fun r n3 z3 r0 r1 hn3=>?_⟩
 obtain⟨i,f,rfl,hi,hil⟩:=Zb6 r0 r1
 have ho:=hp.fo i f hi
 have h6:=ho.l6
 have hbc:=ho.bc
 have hfm:f∈fs:=mem_of_getElem? hi
 refine bx (Zk0 hi) ?_
 have hol:∀n,(E.tvL (List.replicate n oneE)).length=n:=fun n=>by rw[Z0f,length_replicate]
 refine⟨by rw[length_map];lia,rfl,Z9w f.ps 0 none fun s1=>?_⟩
 rw[Nat.zero_add]
 have hgs:∀g∈fs.take i,FnG g:=fun g hg=>Z65 hp g (mem_of_mem_take hg)
 have hgl:(fs.take i).length<=3:=by rw[length_take];lia
 refine Z0k (fun ga=>?_) (fun ga=>Z0k (fun gb=>?_) (fun gb=>?_))
 ·refine⟨by rw[hol];show 2+_<=_;lia,rfl,ns,n3,z3,f.bd,E.tv (.nd (.call f.nm) (List.replicate f.ps.length oneE)),fs.take i,Zom (Zhi fs i),hl,by lia,Zol hp hi,by lia,hgl,hgs,fun t n4 z4 hs hw4 hn4=>?_⟩
  have hno:okC (csF (fs.take i)) (f.nm,(List.replicate f.ps.length oneE).length)=false:=nob (by have:=Z76 hp hi;exact Option.not_isSome_iff_eq_none.mp (by rw[this];decide))
  have hb:=Z9u hp hi hno (Z8g ho.nm h6) hs (by have:=Zb7 f.nm f.ps.length;lia)
  exact⟨rfl,fs.map Fd.tv,E.tv main,_,i,rfl,by lia,q _ n4 z4 (Zdt hp (by lia) hb _) (by lia)⟩
 ·refine⟨by show(fs.map Fd.tv).length+1<=_;rw[hlm];lia,rfl,ns,n3,z3,f.bd,E.tv (.nd (.call x) []),fs.take i,Zom (Zhi fs i),hl,by lia,Zol hp hi,by lia,hgl,hgs,fun t n4 z4 hs hw4 hn4=>?_⟩
  have hno:okC (csF (fs.take i)) (x,([]:List E).length)=false:=nob (Zuu hp hni i)
  have hb:=Z9u hp hi hno (Z8g hx (n:=0) (by lia)) hs (by have:=Zb7 x 0;simp only [replicate_zero] at this;lia)
  refine⟨rfl,fs.map Fd.tv ++ [.tup [ts x,.tup [],E.tv oneE]],E.tv main,_,i,rfl,by rw[length_append,hlm];show fs.length+1<=1000;lia,q _ n4 z4 ?_ (by lia)⟩
  rw[List.take_append_of_le_length (by lia)]
  exact Zdt hp (by lia) hb _
 ·have c5:Z0o (E.tvL (List.replicate f.ps.length oneE)) none (some 5)=E.tvL (List.replicate (min 5 f.ps.length) oneE):=(Z0y _ 5).trans (Zhj _)
  refine⟨by show(Z0o _ none (some 5)).length+1<=_;rw[c5,hol];lia,?_⟩
  refine⟨fun M=>∃js:List E,M=⟨[some (.out 0),some (.fz (pgT fs main)),some (.fz (.tup (fs.map Fd.tv))),some (.fz (E.tv main)),some (.own (.lst ((fs.map Fd.nm).map ts))),some (.fz (ts x)),some (fi way),some (fi i),some (.fz (ts f.nm)),some (.fz (.tup (f.ps.map ts))),some (.fz (E.tv f.bd)),some (.own (.lst (E.tvL js))),none,none],[.own (Z05 ns n3 z3)],[]⟩/\js.length≠f.ps.length/\Ex R0 2 (.nd (.call f.nm) js)/\js.length<=6/\Tree.cntL js<=6,?_,?_⟩
  ·have hmo:Z0o (E.tvL (List.replicate f.ps.length oneE)) none (some 5) ++ [E.tv (.nd .take [])]=E.tvL (Z8h f.ps.length):=by rw[c5];unfold Z8h;rw[Z60];rfl
   have hml:(Z8h f.ps.length).length=min 5 f.ps.length+1:=by simp [Z8h]
   refine Z0k (fun gc=>?_) (fun gc=>?_)
   ·have h6':f.ps.length=6:=by have:=eqv.mp gc;rw[length_map] at this;lia
    refine⟨List.replicate 5 oneE,?_,by rw[length_replicate];lia,Z8g ho.nm (by decide),by simp,by rw[Z3n];lia⟩
    have e5:Z0o (Z0o (E.tvL (List.replicate f.ps.length oneE)) none (some 5) ++ [E.tv (.nd .take [])]) none (some 5)=E.tvL (List.replicate 5 oneE):=by
     rw[c5,h6'];rfl
    show _=(⟨[_,_,_,_,_,_,_,_,_,_,_,_,_,_],_,_⟩:Ms)
    rw[<- e5];rfl
   ·have h6':f.ps.length≠6:=fun h=>gc (eqv.mpr (by rw[length_map,h];rfl))
    refine⟨Z8h f.ps.length,?_,by rw[hml];lia,Zon ho.nm,by rw[hml];lia,by rw[Z8h,Z8d,Z3n];simp [Tree.cntL,Tree.cnt];lia⟩
    rw[<- hmo];rfl
  ·rintro M ⟨js,rfl,hjn,hje,hjl,hjc⟩
   have hjt:(E.tvL js).length=js.length:=Z0f js
   refine⟨by rw[hjt];show 2+_<=_;lia,rfl,ns,n3,z3,main,E.tv (.nd (.call f.nm) js),fs,rfl,hl,by lia,Z66 hp,by lia,hfl,Z65 hp,fun t n4 z4 hs hw4 hn4=>?_⟩
   have hwj:wt (E.tv (.nd (.call f.nm) js))=1+Tree.cntL js:=by rw[Zc7,Tree.cnt]
   exact q _ n4 z4 (Z9t hp (mis ((Z1x hp.nd).2 f hfm rfl) hjn.symm) hje hs (by lia)) (by lia)
theorem Zl2 {p:Str}(hp:NW p):Ex R0 2 (.nd (.st p) [.nd (.num 2) []]):=.mk ⟨rfl,hp⟩ fun k hk=>by
 rw[mem_singleton.mp hk]
 exact .mk ⟨rfl,by decide,by decide⟩ fun k hk=>by cases hk
def Zoo (fs:List Fd)(i:Nat):Bool:=match fs[i]? with
 |some f => !f.ps.isEmpty
 |none=>false
abbrev tk (i:Nat):Tv:=ti (i:Int)
abbrev gBS:Gm:=Z2d spName spDraw spHid spPutF
theorem Zb9 {fs:List Fd}{k:List Tv->Ms->Prop}:∀(j i:Nat) (acc:List Nat) (s:Option Sl),i+j=fs.length->(∀s,k ((acc++(List.range' i j).filter (Zoo fs)).map tk) ⟨[some (.fz (.tup (fs.map Fd.tv))),s],[],[]⟩)->Z03 (bd (.nm 1)) (sem gBS (.cmp .nee (.ix (.ix (.var 0) (.var 1)) (.cst (.int 1))) (.tup .nil))).t (sem gBS Z3e).e k (rf i j) (acc.map tk) ⟨[some (.fz (.tup (fs.map Fd.tv))),s],[],[]⟩
 | 0,i,acc,s,_,q=>by have:=q s;rw[List.range'_zero,filter_nil,append_nil] at this;exact this
 |j+1,i,acc,s,h,q=>by
  have hi:fs[i]? = some fs[i]:=List.getElem?_eq_getElem (by lia)
  generalize hf:fs[i]=f at hi
  refine bx (Zk0 hi) ?_
  have q':∀s,k ((acc++(if Zoo fs i=true then [i] else [])++(List.range' (i+1) j).filter (Zoo fs)).map tk) ⟨[some (.fz (.tup (fs.map Fd.tv))),s],[],[]⟩:=fun s=>by
   have:=q s
   rw[List.range'_succ,filter_cons] at this
   split at this <;> simp_all
  have hp:Zoo fs i = !f.ps.isEmpty:=by unfold Zoo;rw[hi]
  obtain⟨nm,ps,b⟩:=f
  cases ps with
  |nil=>
   refine Zb9 j (i+1) acc _ (by lia) fun s=>?_
   have:=q' s
   rw[hp] at this
   simpa using this
  |cons p ps=>
   show Z03 _ _ _ _ (rf (i+1) j) (acc.map tk ++ [tk i]) _
   rw[show acc.map tk ++ [tk i]=(acc ++ [i]).map tk by simp]
   refine Zb9 j (i+1) (acc ++ [i]) _ (by lia) fun s=>?_
   have:=q' s
   rw[hp] at this
   simpa using this
def spBentS:PSp:=spBentC
theorem Zdv:∀args k,spBentS args k->nrm (Z0j gBS Z2c) (Z02 args k) (Z09 12 args):=by
 rintro args k ⟨pool,fs,main,ns,n,z,rfl,hp,hl,hn,q⟩
 have hfl:=hp.fl
 have hmc:=hp.mc
 have hlm:(fs.map Fd.tv).length=fs.length:=length_map ..
 refine⟨by lia,rfl,Z8f fs [] none fun s0=>?_⟩
 rw[nil_append]
 refine⟨rfl,ns,n,z,_,fs.map Fd.nm,fs.map Fd.nm,rfl,.inl rfl,hl,by lia,by rw[length_map];lia,by rw[length_map];lia,fun _ h=>h,fun x hx=>?_,fun x n1 z1 hN hni hw hn1=>?_⟩
 ·obtain⟨g,hg,rfl⟩:=mem_map.mp hx
  exact(Z65 hp g hg).1.1
 have hx:NW x:=⟨hN,hw⟩
 refine⟨⟨by lia,by lia⟩,by unfold Z8j;rw[length_map,length_range];lia,rfl,?_⟩
 show Z03 _ _ _ _ (Z8j (fs.map Fd.tv).length) _ _
 rw[hlm,Zau]
 refine Zb9 fs.length 0 [] none (by lia) fun s1=>?_
 rw[nil_append]
 generalize hks:(List.range' 0 fs.length).filter (Zoo fs)=ks
 have hkl:ks.length<=fs.length:=by rw[<- hks];exact Nat.le_trans (length_filter_le ..) (by rw[List.length_range'];lia)
 have hkm:(ks.map tk).length=ks.length:=length_map ..
 refine Z0k (fun g=>?a) (fun g=>⟨rfl,ns,n1,z1,3,rfl,hl,by lia,by decide,by decide,fun r n2 z2 r0 r1 hn2=>Z0k (fun g2=>?b) (fun g2=>?c)⟩)
 case c=>
  have hpos:0<ks.length:=by
   cases ks with
   |nil=>exact absurd rfl g
   |cons _ _=>exact Nat.succ_pos _
  refine⟨rfl,ns,n2,z2,_,rfl,hl,by lia,by lia,by lia,fun r' n3 z3 r0' r1' hn3=>?_⟩
  obtain⟨t,e,i,him,rfl⟩:=Z1c (l:=ks.map tk) (P:=fun t=>∃i,i∈ks/\t=tk i) (fun t ht=>by obtain⟨i,h,rfl⟩:=mem_map.mp ht;exact⟨i,h,rfl⟩) r0' r1'
  refine bx e ?_
  rw[<- hks] at him
  obtain⟨him,hip⟩:=mem_filter.mp him
  have hil:i<fs.length:=by have:=List.mem_range'_1.mp him;lia
  have hi:fs[i]? = some fs[i]:=List.getElem?_eq_getElem hil
  generalize hf:fs[i]=f at hi
  have ho:=hp.fo i f hi
  have h6:=ho.l6
  have hbc:=ho.bc
  have hpp:0<f.ps.length:=by
   unfold Zoo at hip;rw[hi] at hip
   exact length_pos_iff.mpr fun h=>by simp [h] at hip
  refine bx (Zk0 hi) ?_
  have hpl:(f.ps.map ts).length=f.ps.length:=length_map ..
  refine⟨rfl,ns,n3,z3,_,rfl,hl,by lia,by lia,by lia,fun r4 n4 z4 r40 r41 hn4=>?_⟩
  obtain⟨t,e,p,hpm,rfl⟩:=Z1c (l:=f.ps.map ts) (P:=fun t=>∃p,p∈f.ps/\t=ts p) (fun t ht=>by obtain⟨p,h,rfl⟩:=mem_map.mp ht;exact⟨p,h,rfl⟩) r40 r41
  refine bx e ?_
  have hpn:NW p:=hp.pn p (ho.sub p hpm)
  refine⟨rfl,ns,n4,z4,f.bd,E.tv (.nd (.st p) [.nd (.num 2) []]),fs.take i,Zom (Zhi fs i),hl,by lia,Zol hp hi,by lia,by rw[length_take];lia,fun g hg=>Z65 hp g (mem_of_mem_take hg),fun t n5 z5 hs hw5 hn5=>?_⟩
  have hb:=Zcg (cs:=csF (fs.take i)) ho.nm (Z76 hp hi) (Z62 hp hi) hpm (Zl2 hpn) hs (by rw[Zc7] at hw5;simp [Tree.cnt,Tree.cntL] at hw5;lia)
  exact⟨rfl,fs.map Fd.tv,E.tv main,_,i,rfl,by lia,q _ n5 z5 (Zdt hp (by lia) hb _) (by lia)⟩
 all_goals
  refine⟨rfl,ns,_,_,_,[x],[x],rfl,.inl rfl,hl,by lia,by simp,by simp,fun _ h=>h,fun y hy=>by rw[mem_singleton.mp hy];exact hN,fun y n3 z3 hN3 hni3 hw3 hn3=>?_⟩
  have hy:NW y:=⟨hN3,hw3⟩
  have hte:Ex R0 8 (.nd .take []):=.mk rfl fun k hk=>by cases hk
  refine⟨rfl,ns,n3,z3,.nd .take [],E.tv (.nd (.st y) [.nd (.num 2) []]),fs,rfl,hl,by lia,hte,by decide,hfl,Z65 hp,fun t n4 z4 hs hw4 hn4=>?_⟩
  refine⟨by rw[hlm];show fs.length+1<=_;lia,?_⟩
  have hpo:ParOk (.tup ([y].map ts)):=⟨[y],rfl,by simp,fun v hv=>by rw[mem_singleton.mp hv];exact hy,by simp⟩
  have hb:=Zcg (cs:=csF fs) hx (by rw[Zsk hp hni];rfl) hpo (mem_singleton.mpr rfl) (Zl2 hy) hs (by rw[Zc7] at hw4;simp [Tree.cnt,Tree.cntL] at hw4;lia)
  have hr:=Zdt (m:=E.tv main) hp (Nat.le_refl _) (by rw[take_length];exact hb) []
  rw[append_nil,take_of_length_le (by lia)] at hr
  exact q _ n4 z4 hr (by lia)
inductive spBent (args:List Sl)(k:(Sl->List Sl->Prop)):Prop
 |mk (pool:List Str) (fs:List Fd) (main:E) (ns:List Int) (n:Nat) (z:Int) (_:args = [.own (Z05 ns n z),.fz (pgT fs main)]) (_:PgOk pool fs main) (_:ns.length<=63) (_:n+1000000<=1000000000000) (_:∀t n' z',PgRes t false->n'<=n+1000000->k (.fz t) [.own (Z05 ns n' z'),.fz (pgT fs main)]):spBent args k
abbrev gBt:Gm:=Z88 spDraw spBentPair spOdd spLeafSm (spSpoilt 8) (spNodesE R0 8) spBentFn spBentS spBentC
theorem Zop:∀args k,spBent args k->nrm (Z0j gBt Z87) (Z02 args k) (Z09 7 args):=by
 rintro args k ⟨pool,fs,main,ns,n,z,rfl,hp,hl,hn,q⟩
 have hfl:=hp.fl
 have hmc:=hp.mc
 have hlm:(fs.map Fd.tv).length=fs.length:=length_map ..
 refine⟨rfl,ns,n,z,6,rfl,hl,by lia,by decide,by decide,fun way n1 z1 w0 w1 hn1=>?_⟩
 refine Z0k (fun g=>⟨rfl,pool,fs,main,ns,n1,z1,rfl,hp,hl,by lia,fun t n2 z2 ht hn2=>q t n2 z2 ht (by lia)⟩) (fun g=>?_)
 refine Z0k (fun g=>?_) (fun g=>?_)
 ·refine⟨rfl,ns,n1,z1,rfl,hl,by lia,fun e he n2 z2 hn2=>?_⟩
  refine⟨rfl,ns,n2,z2,e,rfl,he,hl,by lia,fun t n3 z3 hB hn3=>?_⟩
  refine⟨rfl,main,rfl,Z66 hp,?_⟩
  refine⟨rfl,ns,n3,z3,_,rfl,hl,by lia,by cases main;rw[Tree.cnt];lia,by lia,fun r n4 z4 r0 r1 hn4=>?_⟩
  exact⟨rfl,main,r,t,rfl,Z66 hp,r0,r1,fun t' hs hw=>q _ n4 z4 (Zjv hp hB hs (by have:=hB.wt;lia)) (by lia)⟩
 have dup:∀f∈fs,PgRes (.tup [.tup (fs.map Fd.tv ++ [.tup [ts f.nm,.tup [],E.tv (.nd .take [])]]),E.tv main]) false:=fun f hf=>by
  have hd:FnRes (csF fs) (.tup [ts f.nm,.tup [],E.tv (.nd .take [])]) false:=.dup (Z65 hp f hf).1 (by rw[(Z1x hp.nd).2 f hf rfl];rfl)
  have hr:=Zdt (m:=E.tv main) hp (Nat.le_refl _) (by rw[take_length];exact hd) []
  rwa [append_nil,take_of_length_le (by lia)] at hr
 refine Z0k (fun g=>Z0k (fun g2=>?f) (fun g2=>?r1)) (fun g=>Z0k (fun h=>absurd h (by decide)) fun _=>?r2)
 case f=>
  have hpos:0<fs.length:=by
   cases fs with
   |nil=>exact absurd g2 (by decide)
   |cons _ _=>exact Nat.succ_pos _
  refine⟨rfl,ns,n1,z1,_,rfl,hl,by lia,by lia,by lia,fun r n2 z2 r0 r1 hn2=>?_⟩
  obtain⟨i,f,rfl,hi,hil⟩:=Zb6 r0 r1
  exact⟨rfl,pool,fs,main,f,i,ns,n2,z2,rfl,hp,hi,hl,by lia,fun t n3 z3 ht hn3=>q t n3 z3 ht (by lia)⟩
 all_goals
  refine Z0k (fun g3=>⟨rfl,pool,fs,main,ns,n1,z1,rfl,hp,hl,by lia,fun t n3 z3 ht hn3=>q t n3 z3 ht (by lia)⟩) (fun g3=>?_)
  refine Z0k (fun g4=>Z0k (fun g5=>?_) (fun g5=>⟨rfl,pool,fs,main,ns,n1,z1,rfl,hp,hl,by lia,fun t n3 z3 ht hn3=>q t n3 z3 ht (by lia)⟩)) (fun g4=>⟨rfl,pool,fs,main,ns,n1,z1,rfl,hp,hl,by lia,fun t n3 z3 ht hn3=>q t n3 z3 ht (by lia)⟩)
  refine⟨rfl,ns,n1,z1,3,rfl,hl,by lia,by decide,by decide,fun r n2 z2 r0 r1 hn2=>?_⟩
  refine Z0k (fun g6=>?_) (fun g6=>⟨rfl,pool,fs,main,ns,n2,z2,rfl,hp,hl,by lia,fun t n3 z3 ht hn3=>q t n3 z3 ht (by lia)⟩)
  have hpos:0<fs.length:=by
   cases fs with
   |nil=>exact absurd g5 (by decide)
   |cons _ _=>exact Nat.succ_pos _
  refine⟨rfl,ns,n2,z2,_,rfl,hl,by lia,by lia,by lia,fun r' n3 z3 r0' r1' hn3=>?_⟩
  obtain⟨i,f,rfl,hi,hil⟩:=Zb6 r0' r1'
  refine bx (Zk0 hi) ?_
  exact⟨by rw[hlm];show fs.length+1<=_;lia,q _ n3 z3 (dup f (mem_of_getElem? hi)) (by lia)⟩
inductive spFeed (args:List Sl)(k:(Sl->List Sl->Prop)):Prop
 |mk (ns:List Int) (_:args = [.fz (.scr (ns.map ti))]) (_:ns.length<=16777216) (_:k (.own (Z05 (ns.take 63) 0 0)) [.fz (.scr (ns.map ti))]):spFeed args k
theorem Zoq:∀args k,spFeed args k->nrm (Z0j Z7w Z7v) (Z02 args k) (Z09 1 args):=by
 rintro args k ⟨ns,rfl,hl,q⟩
 have e:Z0o (ns.map ti) none (some 63)=(ns.take 63).map ti:=by
  unfold Z0o
  have h0:HT.sIx (ns.map ti).length 0 none=0:=rfl
  have h1:HT.sIx (ns.map ti).length (ns.map ti).length (some 63)=min 63 ns.length:=by
   rw[length_map]
   unfold HT.sIx
   simp
  rw[h0,h1,drop_zero,Nat.sub_zero,<- map_take]
  rw[show min 63 ns.length=min 63 ns.length from rfl,List.take_eq_take_min,List.take_eq_take_min (i:=63)]
  simp
 have q':k (.own (.dic [(.inr "cells",.lst (Z0o (ns.map ti) none (some 63))),(.inr "at",ti 0),(.inr "left",ti 0)])) [.fz (.scr (ns.map ti))]:=by rw[e];exact q
 have hcl:(Z0o (ns.map ti) none (some 63)).length<=16777216:=by rw[e,length_map,length_take];lia
 first
  |exact q'
  |exact⟨hcl,q'⟩
  |exact⟨rfl,q'⟩
  |exact⟨hcl,rfl,q'⟩
def spLaw:PSp:=fun args k=>∃ns:List Int,args = [.fz (.scr (ns.map ti))]/\ns.length<=16777216/\k (fb true) [.fz (.scr (ns.map ti))]
abbrev Zwf:Gm:=Znp spFeed spProg spPgB spBent
theorem Zci {ns0 ns:List Int}{pool:List Str}{fs:List Fd}{main:E}{P:PD}(hp:PgOk pool fs main)(hl:ns.length<=63)(q:∀n z s3,P.nx ⟨[some (.fz (.scr (ns0.map ti))),some (.own (Z05 ns n z)),some (.fz (pgT fs main)),s3],[],[]⟩):∀(j i n:Nat) (z:Int) (s3:Option Sl),n+j*1000000<=1000000000000->Z2n (bd (.nm 3)) (nrm (Z0j Zwf Zkr)) P (rf i j) ⟨[some (.fz (.scr (ns0.map ti))),some (.own (Z05 ns n z)),some (.fz (pgT fs main)),s3],[],[]⟩
 | 0,i,n,z,s3,_=>q n z s3
 |j+1,i,n,z,s3,hn=>by
  refine⟨rfl,pool,fs,main,ns,n,z,rfl,hp,hl,by lia,fun t n1 z1 ht hn1=>?_⟩
  exact⟨rfl,t,false,rfl,ht,Zci hp hl q j (i+1) n1 z1 _ (by lia)⟩
theorem Zsl:∀args k,spLaw args k->nrm (Z0j Zwf Zno) (Z02 args k) (Z09 4 args):=by
 rintro args k ⟨ns,rfl,hl,q⟩
 refine⟨rfl,ns,rfl,hl,?_⟩
 generalize hns:ns.take 63=cs
 have hcs:cs.length<=63:=by rw[<- hns,length_take];lia
 refine⟨rfl,cs,0,0,40,rfl,by decide,hcs,by decide,fun pool fs main n1 z1 hp hn1=>?_⟩
 refine⟨rfl,_,true,rfl,Zh9 hp,?_⟩
 refine⟨fun M=>∃(n:Nat) (z:Int) (s3:Option Sl),M=⟨[some (.fz (.scr (ns.map ti))),some (.own (Z05 cs n z)),some (.fz (pgT fs main)),s3],[],[]⟩,?_,?_⟩
 ·refine⟨⟨by decide,by decide⟩,?_⟩
  refine Zci (ns0:=ns) hp hcs ?_ 6 0 n1 z1 none (by lia)
  exact fun n z s3=>⟨n,z,s3,rfl⟩
 ·rintro M ⟨n,z,s3,rfl⟩
  refine⟨rfl,_,true,rfl,Zh9 hp,?_⟩
  exact q
end M22
namespace M22
open PySem PySem.Spec PyProof.Rows L2
def Zx0 (a:Ft->Addr):Option Ft->V
 |none=>.non
 |some f=>.ref (a f)
inductive RulesR (K:W.Frag)(a:Ft->Addr):List (Str×V)->List (Str×(Option Ft×Nat×Nat))->Prop where
 |nil:RulesR K a [] []
 |cons {x:Str} {r:Addr} {o:Option Ft} {lo hi:Nat} {kvs:List (Str×V)} {rs:List (Str×(Option Ft×Nat×Nat))} (h:∀H,SqT K H r [Zx0 a o,.int lo,.int hi]) (q:RulesR K a kvs rs):RulesR K a ((x,.ref r)::kvs) ((x,(o,lo,hi))::rs)
theorem RulesR.get {K:W.Frag}{a:Ft->Addr}{kvs:List (Str×V)}{rs:List (Str×(Option Ft×Nat×Nat))}(h:RulesR K a kvs rs)(G:Hp)(x:Str):IsT K G ((getT kvs x).getD .non) (Zo3 a (rs.lookup x)):=by
 induction h with
 |nil=>exact .at rfl
 | @cons y r o lo hi kvs rs h q ih=>
  by_cases e:x=y
  ·subst e
   have e1:getT ((x,.ref r)::kvs) x=some (.ref r):=by unfold getT Zet Z67;simp
   rw[e1,List.lookup_cons_self]
   refine .ktp (h G) (.cons ?_ (.cons (.at rfl) (.cons (.at rfl) .nil)))
   cases o with
   |none=>exact .at rfl
   |some f=>exact .fnv
  ·have e1:getT ((y,.ref r)::kvs) x=getT kvs x:=by
    unfold getT Zet Z67
    rw[map_cons,List.find?_cons_of_neg (by simpa using fun z=>e z.symm)]
   have e2:((y,(o,lo,hi))::rs).lookup x=rs.lookup x:=by
    rw[lookup_cons,show(x==y)=false from beq_false_of_ne e]
   rw[e1,e2]
   exact ih
structure RulesAt (K:W.Frag)(w:World)(mg:Str->Option Value):Prop where
 ex:∃(a:Ft->Addr) (aR:Addr) (kvs:List (Str×V)),mg "RULES"=some (.ref aR)/\KDict K w aR kvs/\RulesR K a kvs rulesL/\(∀i j,a i=a j->i=j)/\mg "is_value"=some (.ref (a .val))/\mg "is_name"=some (.ref (a .nam))/\mg "is_sign"=some (.ref (a .sgn))/\mg "is_times"=some (.ref (a .tms))
theorem Zsm:FnScope ["word"] ["word"] (Z0c (top 15)):=⟨rfl,rfl,rfl,by decide+kernel,rfl,by decide+kernel,by decide+kernel⟩
theorem Zor {P:Program}{w:World}{K:W.Frag}{mg:Str->Option Value}{base:Heap}{f aR:Addr}{fd:FuncData}{a:Ft->Addr}{kvs:List (Str×V)}(F:Fun K "expression_rule" "expression_rule" (top 15) f fd)(m:mg "RULES"=some (.ref aR))(d:KDict K w aR kvs)(r:RulesR K a kvs rulesL):FnOk P w K mg base CX0 1 f fd (Zda (top 15)) (spW K (spRule a)):=by
 have e:Zda (top 15)=(["word"]:List Str):=by decide+kernel
 rw[e]
 refine F.ok Zsm (fun vs H Q E h=>?_) (fun cdv A outer s H vs Q E hr h=>?_)
 ·obtain⟨G,args,as,K0,_,ao,_,⟨x,rfl,_⟩,_⟩:=h
  cases ao with|fz h r=>cases r;rfl
 ·obtain⟨G,args,as,K0,sg,ao,_,⟨x,rfl,q⟩,z⟩:=h
  cases ao with|fz h1 r1=>
  cases r1;cases h1
  refine⟨_,Z9z (Zk7 (Zi6 (Ze1 (v:=.ref aR) (by rfl) m rfl) (pv 0) ⟨rfl,rfl,rfl,rfl⟩)),?_⟩
  refine⟨aR,kvs,rfl,d,_,rfl,x,rfl,?_⟩
  exact z _ _ _ G H q ⟨Same.refl G,sg,fun _ _ h _=>h,fun _ _ h=>.inl h,fun _ o h=>⟨o,h⟩⟩ (.fz .nil) (r.get G x)
end M22
namespace M22
open PySem L2
theorem ex0 {R:Rl}{e:E}:¬Ex R 0 e:=fun h=>by cases h
theorem ln {a b:List Sl}(e:a=b):a.length=b.length:=congrArg _ e
abbrev Dx (K:W.Frag)(mg:Str->Option Value)(x:Str)(i:Nat):Prop:=At' K mg x (top i) (Zda (top i))
section
variable {P:Program}{w:World}{K:W.Frag}{mg:Str->Option Value}{base:Heap}
theorem Zhk (T:Tx K mg)(a:Dx K mg "_law_nodes" 45)(lp:Fk P w K mg base 1 ("_law_parts",spPartsE)):∀N R,Fs P w K mg base (N+1) "_law_nodes" (top 45) (spNodesE R N)
 | 0,R=>mkN a fun _ _ h=>by rcases h with ⟨_,_,h,_⟩;exact ex0 h
 |N+1,R=>mkF T a Zdp (Zgb R N) ⟨lp.up (by omega),(Zhk T a lp N R).up (Nat.le_refl _),trivial⟩ (fun _ _ h=>by rcases h with ⟨_,e,_⟩;exact ln e) trivial
theorem Zl3 (T:Tx K mg)(a:Dx K mg "_law_work" 38)(lp:Fk P w K mg base 1 ("_law_parts",spPartsE)):∀N R,Fs P w K mg base (N+1) "_law_work" (top 38) (spWork R N)
 | 0,R=>mkN a fun _ _ h=>by rcases h with ⟨_,_,_,_,_,h,_⟩;exact ex0 h
 |N+1,R=>mkF T a Zg2 (Zo1 R N) ⟨lp.up (by omega),(Zl3 T a lp N R).up (Nat.le_refl _),trivial⟩ (fun _ _ h=>by rcases h with ⟨_,_,_,e,_⟩;exact ln e) trivial
theorem Zcj (T:Tx K mg)(a:Dx K mg "_law_spoilt" 46)(lp:Fk P w K mg base 1 ("_law_parts",spPartsE))(hn:∀N R,Fs P w K mg base (N+1) "_law_nodes" (top 45) (spNodesE R N))(lw:Fk P w K mg base 1 ("_law_with",spWithE)):∀N,Fs P w K mg base (N+1) "_law_spoilt" (top 46) (spSpoilt N)
 | 0=>mkN a fun _ _ h=>by rcases h with ⟨_,_,_,_,h,_⟩;exact ex0 h
 |N+1=>mkF T a Zap (Zhc N) ⟨lp.up (by omega),(hn _ R0).up (by omega),(Zcj T a lp hn lw N).up (Nat.le_refl _),lw.up (by omega),trivial⟩ (fun _ _ h=>by rcases h with ⟨_,_,_,e,_⟩;exact ln e) trivial
theorem Zl4 (T:Tx K mg)(a:Dx K mg "_law_expr" 42)(ab:Dx K mg "_law_bound" 40)(ac:Dx K mg "_law_called" 41)(hd:Fk P w K mg base 1 ("_law_draw",spDraw))(hl:∀R,Fk P w K mg base 3 ("_law_leaf",spLeaf R))(R:Rl):∀b,Fs P w K mg base (2*b+5) "_law_expr" (top 42) (spExpr R b)
 | 0=>mkN a fun _ _ h=>by rcases h with ⟨_,_,_,_,_,_,_,_,_,_,_,_,h,_⟩;exact absurd h (by decide)
 |b+1=>by
  have ih:=Zl4 T a ab ac hd hl R b
  have hb:=mkF (k:=2*b+5) T ab Zdm (Zjf R b) ⟨hd.up (by omega),ih.up (Nat.le_refl _),trivial⟩ (fun _ _ h=>by rcases h with ⟨_,_,_,_,_,_,_,_,_,e,_⟩;exact ln e) trivial
  have hc:=mkF (k:=2*b+5) T ac Zao (Zge R b) ⟨(hl R).up (by omega),hd.up (by omega),ih.up (Nat.le_refl _),trivial⟩ (fun _ _ h=>by rcases h with ⟨_,_,_,_,_,_,_,_,e,_⟩;exact ln e) trivial
  exact mkF (k:=2*b+6) T a Zg5 (Zo0 R b) ⟨hd.up (by omega),(hl R).up (by omega),hc.up (Nat.le_refl _),hb.up (Nat.le_refl _),ih.up (by omega),trivial⟩ (fun _ _ h=>by rcases h with ⟨_,_,_,_,_,_,_,_,e,_⟩;exact ln e) trivial
theorem Zsn {G:Hp}:∀l:List Str,(l.all fun x=>decide (x.length<=16777216))=true->IsTs K G (l.map V.str) (l.map ts)
 |[],_=>.nil
 |x::l,h=>by
  rw[all_cons,Bool.and_eq_true] at h
  exact .cons (.at h.1) (Zsn l h.2)
structure SqAt (K:W.Frag)(mg:Str->Option Value)(x:Str)(l:List Str):Prop where
 ex:∃a,mg x=some (.ref a)/\∀H,SqT K H a (l.map V.str)
theorem SqAt.gl {x:Str}{l:List Str}(h:SqAt K mg x l)(hl:(l.all fun x=>decide (x.length<=16777216))=true):∃v u,mg x=some u/\RelV v u/\∀G,IsT K G v (.ktp (l.map ts)):=by
 obtain⟨a,h1,h2⟩:=h.ex
 exact⟨.ref a,_,h1,rfl,fun G=>.ktp (h2 G) (Zsn l hl)⟩
theorem Zck {x:Str}{n:Int}(h:∃tk,mg x=some (.int n tk)):∃v u,mg x=some u/\RelV v u/\∀G,IsT K G v (ti n):=by
 obtain⟨t,h⟩:=h
 exact⟨.int n,_,h,⟨t,rfl⟩,fun G=>.at rfl⟩
theorem Z77 {x y:Str}(h:∃tk,mg x=some (.str y tk))(hl:y.length<=16777216):∃v u,mg x=some u/\RelV v u/\∀G,IsT K G v (ts y):=by
 obtain⟨t,h⟩:=h
 exact⟨.str y,_,h,⟨t,rfl⟩,fun G=>.at (decide_eq_true hl)⟩
theorem Zuv {x:Str}{st:Stmt}{ps:List Str}{f f':Addr}{d:FuncData}(F:Fn K mg x st ps f d)(h:mg x=some (.ref f')):f=f':=by
 have e:=F.m.symm.trans h
 cases e;rfl
theorem Zk1 {x:Str}{st:Stmt}{g:Tv->Bool}{a:Ft->Addr}(i:Ft){j:Nat}(h:Fs P w K mg base j x st (spIs (ftT i)))(nd:∀i j,a i=a j->i=j)(hm:mg x=some (.ref (a i))):∃fd ps,FnOk P w K mg base CX0 j (a i) fd ps (spW K (Zrx a (a i)))/\PySem.W.keepIn K (.ref (a i))=true/\Binds K fd ps []:=by
 obtain⟨f,d,F,h⟩:=h
 cases (Zuv F hm)
 refine⟨d,_,h.imp fun vs H Q E ⟨G,args,as,K0,a1,b,c,⟨i',e,hp⟩,z⟩=>?_,F.F.kp,F.b⟩
 cases nd _ _ e
 exact⟨G,args,as,K0,a1,b,c,hp,z⟩
end
structure Defs (w:World)(K:W.Frag)(mg:Str->Option Value):Prop where
 T:Tx K mg
 nd:∃tk,mg "NODE"=some (.str "node" tk)
 op:∃tk,mg "OPENED"=some (.str "opened" tk)
 cl:∃tk,mg "CLOSED"=some (.str "closed" tk)
 gv:∃tk,mg "GREATEST_VALUE"=some (.int 999999999 tk)
 mt:∃tk,mg "MOST_TIMES"=some (.int 5 tk)
 mp:∃tk,mg "MOST_PARAMS"=some (.int 6 tk)
 lg:∃tk,mg "LONGEST_NAME"=some (.int 8 tk)
 wd:SqAt K mg "WORDS" wordsL
 sg:SqAt K mg "SIGNS" signsL
 rl:RulesAt K w mg
 a_is_whole:Dx K mg "is_whole" 9
 a_is_name:Dx K mg "is_name" 10
 a_is_value:Dx K mg "is_value" 11
 a_is_sign:Dx K mg "is_sign" 12
 a_is_times:Dx K mg "is_times" 13
 a_expression_rule:Dx K mg "expression_rule" 15
 a_is_node:Dx K mg "is_node" 16
 a_is_tree:Dx K mg "is_tree" 17
 a_sets_bound:Dx K mg "sets_bound" 18
 a_is_expression:Dx K mg "is_expression" 19
 a_head:Dx K mg "head" 20
 a_parts:Dx K mg "parts" 21
 a_steps:Dx K mg "steps" 22
 a_flat:Dx K mg "flat" 23
 a_calls_right:Dx K mg "calls_right" 26
 a_is_params:Dx K mg "is_params" 27
 a_is_function:Dx K mg "is_function" 28
 a_is_program:Dx K mg "is_program" 29
 a_l_feed:Dx K mg "_law_feed" 31
 a_l_draw:Dx K mg "_law_draw" 32
 a_l_value:Dx K mg "_law_value" 33
 a_l_spelled:Dx K mg "_law_spelled" 34
 a_l_name:Dx K mg "_law_name" 35
 a_l_names:Dx K mg "_law_names" 36
 a_l_parts:Dx K mg "_law_parts" 37
 a_l_work:Dx K mg "_law_work" 38
 a_l_leaf:Dx K mg "_law_leaf" 39
 a_l_bound:Dx K mg "_law_bound" 40
 a_l_called:Dx K mg "_law_called" 41
 a_l_expr:Dx K mg "_law_expr" 42
 a_l_world:Dx K mg "_law_world" 43
 a_l_with:Dx K mg "_law_with" 44
 a_l_nodes:Dx K mg "_law_nodes" 45
 a_l_spoilt:Dx K mg "_law_spoilt" 46
 a_l_program:Dx K mg "_law_program" 47
 a_l_odd:Dx K mg "_law_odd" 48
 a_l_put_function:Dx K mg "_law_put_function" 49
 a_l_bent_pair:Dx K mg "_law_bent_pair" 50
 a_l_bent_function:Dx K mg "_law_bent_function" 51
 a_l_leaf_small:Dx K mg "_law_leaf_small" 52
 a_l_hidden:Dx K mg "_law_hidden" 53
 a_l_bent_call:Dx K mg "_law_bent_call" 54
 a_l_bent_set:Dx K mg "_law_bent_set" 55
 a_l_bent:Dx K mg "_law_bent" 56
 a_law:Dx K mg "law" 57
section
variable {P:Program}{w:World}{K:W.Frag}{mg:Str->Option Value}{base:Heap}
theorem Zx1 {j k M:Nat}{x:Str}{st:Stmt}{sp:Rl->Nat->PSp}(h:∀N,N<=M->∀R,Fs P w K mg base j x st (sp R N))(e:j<=k):Fk P w K mg base k (x,fun a q=>∃R N,N<=M/\sp R N a q):=
 Fs.any (ι := Rl×{N // N<=M}) (sp:=fun i=>sp i.1 i.2.1) (R0,⟨0,Nat.zero_le _⟩) (fun i=>h i.2.1 i.2.2 i.1) (fun _ _ ⟨R,N,hN,z⟩=>⟨(R,⟨N,hN⟩),z⟩) e
end
theorem Zso {P:Program}{w:World}{K:W.Frag}{mg:Str->Option Value}{base:Heap}(D:Defs w K mg):Fs P w K mg base 21 "law" (top 57) spLaw:=by
 have T:=D.T
 have draw:Fs P w K mg base 1 "_law_draw" (top 32) spDraw:=mkF T D.a_l_draw Zfy Zns trivial (fun _ _ h=>by rcases h with ⟨_,_,_,_,e,_⟩;exact ln e) trivial
 have spelled:Fs P w K mg base 1 "_law_spelled" (top 34) spSpelled:=mkF T D.a_l_spelled Z9i Zdq trivial (fun _ _ h=>by rcases h with ⟨_,_,e,_⟩;exact ln e) trivial
 have value:Fs P w K mg base 2 "_law_value" (top 33) spValue:=mkF T D.a_l_value Zdg Zj3 ⟨draw.up,trivial⟩ (fun _ _ h=>by rcases h with ⟨_,_,_,e,_⟩;exact ln e) trivial
 have name:Fs P w K mg base 2 "_law_name" (top 35) spName:=mkF T D.a_l_name Zg0 Znw ⟨draw.up,spelled.up,trivial⟩ (fun _ _ h=>by rcases h with ⟨_,_,_,_,_,_,e,_⟩;exact ln e) trivial
 have names:Fs P w K mg base 3 "_law_names" (top 36) spNames:=mkF T D.a_l_names Zdi Zj5 ⟨name.up,trivial⟩ (fun _ _ h=>by rcases h with ⟨_,_,_,_,e,_⟩;exact ln e) trivial
 have lparts:Fs P w K mg base 1 "_law_parts" (top 37) spPartsE:=mkF T D.a_l_parts Zdk Zga trivial (fun _ _ h=>by rcases h with ⟨_,_,e,_⟩;exact ln e) trivial
 have lwith:Fs P w K mg base 1 "_law_with" (top 44) spWithE:=mkF T D.a_l_with Zg7 Zj8 trivial (fun _ _ h=>by rcases h with ⟨_,_,_,_,e,_⟩;exact ln e) trivial
 have world:Fs P w K mg base 1 "_law_world" (top 43) spWorld:=mkF T D.a_l_world Zdn Zjg trivial (fun _ _ h=>by rcases h with ⟨_,_,_,_,_,_,_,_,e,_⟩;exact ln e) trivial
 have whole:Fs P w K mg base 1 "is_whole" (top 9) (spIs Z3h):=mkF T D.a_is_whole Zai Zjh trivial (fun _ _ h=>by rcases h with ⟨_,e,_⟩;exact ln e) trivial
 have isname:Fs P w K mg base 1 "is_name" (top 10) (spIs nameT):=mkF T D.a_is_name Zdb Zgn trivial (fun _ _ h=>by rcases h with ⟨_,e,_⟩;exact ln e) ⟨D.wd.gl (by decide+kernel),Zck D.lg,trivial⟩
 have isval:Fs P w K mg base 2 "is_value" (top 11) (spIs (Zgk 999999999)):=mkF T D.a_is_value Zaj Zav ⟨whole.up,trivial⟩ (fun _ _ h=>by rcases h with ⟨_,e,_⟩;exact ln e) ⟨Zck D.gv,trivial⟩
 have issign:Fs P w K mg base 1 "is_sign" (top 12) (spIs Zgm):=mkF T D.a_is_sign Zdc Zo2 trivial (fun _ _ h=>by rcases h with ⟨_,e,_⟩;exact ln e) ⟨D.sg.gl (by decide+kernel),trivial⟩
 have istimes:Fs P w K mg base 2 "is_times" (top 13) (spIs (Zgk 5)):=mkF T D.a_is_times Zak Zji ⟨whole.up,trivial⟩ (fun _ _ h=>by rcases h with ⟨_,e,_⟩;exact ln e) ⟨Zck D.mt,trivial⟩
 have partsT:Fs P w K mg base 1 "parts" (top 21) spPartsT:=mkF T D.a_parts Zbz Zgp trivial (fun _ _ h=>by rcases h with ⟨_,e,_⟩;exact ln e) trivial
 have partsP:Fs P w K mg base 1 "parts" (top 21) spPartsP:=mkF T D.a_parts Zbz Zgr trivial (fun _ _ h=>by rcases h with ⟨_,_,e,_⟩;exact ln e) trivial
 have head:Fs P w K mg base 1 "head" (top 20) spHeadP:=mkF T D.a_head Znm Zo6 trivial (fun _ _ h=>by rcases h with ⟨_,_,e,_⟩;exact ln e) trivial
 have steps:Fs P w K mg base 2 "steps" (top 22) spSteps:=mkF T D.a_steps Zj1 Zjn ⟨partsP.up,trivial⟩ (fun _ _ h=>by rcases h with ⟨_,_,_,e,_⟩;exact ln e) ⟨Z77 D.nd (by decide+kernel),Z77 D.cl (by decide+kernel),Z77 D.op (by decide+kernel),trivial⟩
 have setsb:Fs P w K mg base 3 "sets_bound" (top 18) spSetsB:=mkF T D.a_sets_bound Z7r Zjo ⟨steps.up,trivial⟩ (fun _ _ h=>by rcases h with ⟨_,_,_,e,_⟩;exact ln e) ⟨Z77 D.op (by decide+kernel),Z77 D.cl (by decide+kernel),trivial⟩
 have flat:Fs P w K mg base 3 "flat" (top 23) spFlat:=mkF T D.a_flat Znn Zo9 ⟨steps.up,partsP.up,head.up,trivial⟩ (fun _ _ h=>by rcases h with ⟨_,_,_,e,_⟩;exact ln e) ⟨Z77 D.nd (by decide+kernel),trivial⟩
 have callsr:Fs P w K mg base 4 "calls_right" (top 26) spCallsR:=mkF T D.a_calls_right Z6a Zgy ⟨flat.up,trivial⟩ (fun _ _ h=>by rcases h with ⟨_,_,_,_,e,_⟩;exact ln e) trivial
 have params:Fs P w K mg base 2 "is_params" (top 27) spParams:=mkF T D.a_is_params Z9g Zh0 ⟨isname.up,trivial⟩ (fun _ _ h=>by rcases h with ⟨_,e,_⟩;exact ln e) ⟨Zck D.mp,trivial⟩
 obtain⟨a,aR,kvs,mR,dR,rR,nd,mV,mN,mS,mT⟩:=D.rl.ex
 have isexpr:Fs P w K mg base 5 "is_expression" (top 19) spExprQ:=by
  obtain⟨f,d,F⟩:=D.a_expression_rule
  have rule:=Zor (P:=P) (w:=w) (base:=base) F.F mR dR rR
  have node:Fs P w K mg base 3 "is_node" (top 16) (spNode a f):=mkV T D.a_is_node Zdd (Zo4 a f) trivial (fun _ _ h=>by rcases h with ⟨_,e,_⟩;exact ln e) trivial fun p hp=>by
   rcases mem_cons.mp hp with rfl|hp
   ·exact⟨1,by decide,fun g hg=>by cases hg;exact⟨d,_,rule,F.F.kp,F.b⟩⟩
   ·cases mem_singleton.mp hp
    refine⟨2,Nat.le_refl _,fun g hg=>?_⟩
    obtain⟨i,rfl⟩:=hg
    cases i with
    |val=>exact Zk1 (g:=Z3h) .val isval nd mV
    |nam=>exact Zk1 (g:=Z3h) .nam (isname.lift (by decide)) nd mN
    |sgn=>exact Zk1 (g:=Z3h) .sgn (issign.lift (by decide)) nd mS
    |tms=>exact Zk1 (g:=Z3h) .tms istimes nd mT
  have tree:Fs P w K mg base 4 "is_tree" (top 17) (spTree a f):=mkF T D.a_is_tree Zdf (Zo5 a f) ⟨node.up,partsT.up,trivial⟩ (fun _ _ h=>by rcases h with ⟨_,e,_⟩;exact ln e) trivial
  exact mkF T D.a_is_expression Z4m (Zgw a f) ⟨setsb.up,tree.up,trivial⟩ (fun _ _ h=>by rcases h with ⟨_,e,_⟩;exact ln e) ⟨⟨.ref f,_,F.m,rfl,fun G=>.fnv⟩,trivial⟩
 have isfn:Fs P w K mg base 6 "is_function" (top 28) spFn:=mkF T D.a_is_function Z6b Zb1 ⟨isexpr.up,params.up,isname.up,flat.up,callsr.up,trivial⟩ (fun _ _ h=>by rcases h with ⟨_,_,_,e,_⟩;exact ln e) trivial
 have isprog:Fs P w K mg base 7 "is_program" (top 29) spPgB:=mkF T D.a_is_program Z7u Zh4 ⟨isfn.up,callsr.up,isexpr.up,trivial⟩ (fun _ _ h=>by rcases h with ⟨_,_,e,_⟩;exact ln e) trivial
 have leaf:∀R,Fs P w K mg base 3 "_law_leaf" (top 39) (spLeaf R):=fun R=>mkF T D.a_l_leaf Zg3 (Zny R) ⟨draw.up,value.up,trivial⟩ (fun _ _ h=>by rcases h with ⟨_,_,_,_,_,_,e,_⟩;exact ln e) trivial
 have expr:=fun R=>Zl4 T D.a_l_expr D.a_l_bound D.a_l_called draw.up (fun R=>(leaf R).up) R
 have nodes_:=Zhk T D.a_l_nodes lparts.up
 have work_:=Zl3 T D.a_l_work lparts.up
 have spoilt_:=Zcj T D.a_l_spoilt lparts.up nodes_ lwith.up
 have exprA:Fk P w K mg base 19 ("_law_expr",Zgh):=Zx1 (M:=7) (fun N hN R=>(expr R N).lift (by omega)) (Nat.le_refl _)
 have workA:Fk P w K mg base 5 ("_law_work",Zgi):=Fs.any R0 (fun R=>work_ 4 R) (fun _ _ z=>z)
 have program:Fs P w K mg base 20 "_law_program" (top 47) spProg:=mkF T D.a_l_program Z9l Zdr ⟨names.up,draw.up,name.up,world.up,exprA.up,workA.up,trivial⟩ (fun _ _ h=>by rcases h with ⟨_,_,_,_,e,_⟩;exact ln e) trivial
 have putf:Fs P w K mg base 1 "_law_put_function" (top 49) spPutF:=mkF T D.a_l_put_function Z44 Zoe trivial (fun _ _ h=>by rcases h with ⟨_,_,_,_,e,_⟩;exact ln e) trivial
 have leafsm:Fs P w K mg base 2 "_law_leaf_small" (top 52) spLeafSm:=mkF T D.a_l_leaf_small Z5q Zhd ⟨draw.up,trivial⟩ (fun _ _ h=>by rcases h with ⟨_,_,_,e,_⟩;exact ln e) trivial
 have odd:Fs P w K mg base 2 "_law_odd" (top 48) spOdd:=mkF T D.a_l_odd Zj2 Zsi ⟨draw.up,trivial⟩ (fun _ _ h=>by rcases h with ⟨_,_,_,_,e,_⟩;exact ln e) trivial
 have bpair:Fs P w K mg base 2 "_law_bent_pair" (top 50) spBentPair:=mkF T D.a_l_bent_pair Z6c Zb4 ⟨draw.up,trivial⟩ (fun _ _ h=>by rcases h with ⟨_,_,_,_,_,_,e,_⟩;exact ln e) trivial
 have nodes8:Fk P w K mg base 9 ("_law_nodes",spNodesE R0 8):=(nodes_ 8 R0).up
 have spoilt8:Fk P w K mg base 9 ("_law_spoilt",spSpoilt 8):=(spoilt_ 8).up
 have hidden:Fs P w K mg base 10 "_law_hidden" (top 53) spHid:=mkF T D.a_l_hidden Zas Zhf ⟨draw.up,spoilt8.up,nodes8.up,trivial⟩ (fun _ _ h=>by rcases h with ⟨_,_,_,_,_,_,e,_⟩;exact ln e) trivial
 have bfn:Fs P w K mg base 10 "_law_bent_function" (top 51) spBentFn:=mkF T D.a_l_bent_function Z3d Zhh ⟨draw.up,spoilt8.up,odd.up,leafsm.up,nodes8.up,putf.up,trivial⟩ (fun _ _ h=>by rcases h with ⟨_,_,_,_,_,_,_,_,e,_⟩;exact ln e) trivial
 have bcall:Fs P w K mg base 11 "_law_bent_call" (top 54) spBentC:=mkF T D.a_l_bent_call Z6f Zb8 ⟨name.up,draw.up,hidden.up,putf.up,trivial⟩ (fun _ _ h=>by rcases h with ⟨_,_,_,_,_,_,e,_⟩;exact ln e) trivial
 have bset:Fs P w K mg base 11 "_law_bent_set" (top 55) spBentS:=mkF T D.a_l_bent_set Z86 Zdv ⟨name.up,draw.up,hidden.up,putf.up,trivial⟩ (fun _ _ h=>by rcases h with ⟨_,_,_,_,_,_,e,_⟩;exact ln e) trivial
 have bent:Fs P w K mg base 12 "_law_bent" (top 56) spBent:=mkF T D.a_l_bent Zg8 Zop ⟨draw.up,bpair.up,odd.up,leafsm.up,spoilt8.up,nodes8.up,bfn.up,bset.up,bcall.up,trivial⟩ (fun _ _ h=>by rcases h with ⟨_,_,_,_,_,_,e,_⟩;exact ln e) trivial
 have feed:Fs P w K mg base 1 "_law_feed" (top 31) spFeed:=mkF T D.a_l_feed Zfx Zoq trivial (fun _ _ h=>by rcases h with ⟨_,e,_⟩;exact ln e) trivial
 exact mkF T D.a_law Zrr Zsl ⟨feed.up,program.up,isprog.up,bent.up,trivial⟩ (fun _ _ h=>by rcases h with ⟨_,e,_⟩;exact ln e) trivial
end M22
namespace M22
open PySem PySem.Spec PyProof.Rows L2
theorem Zos {P:List Value->Prop}(h:P []):∀us:List Value,us.length=0->P us:=fun us e=>by
 cases us with
 |nil=>exact h
 |cons a r=>cases e
theorem us_len1 {P:List Value->Prop}(h:∀a,P [a]):∀us:List Value,us.length=1->P us:=fun us e=>by
 cases us with
 |nil=>cases e
 |cons a r=>exact Zos (P:=fun r=>P (a::r)) (h a) r (Nat.succ.inj e)
theorem us_len2 {P:List Value->Prop}(h:∀a b,P [a,b]):∀us:List Value,us.length=2->P us:=fun us e=>by
 cases us with
 |nil=>cases e
 |cons a r=>exact us_len1 (P:=fun r=>P (a::r)) (h a) r (Nat.succ.inj e)
theorem us_len3 {P:List Value->Prop}(h:∀a b c,P [a,b,c]):∀us:List Value,us.length=3->P us:=fun us e=>by
 cases us with
 |nil=>cases e
 |cons a r=>exact us_len2 (P:=fun r=>P (a::r)) (h a) r (Nat.succ.inj e)
theorem us_len4 {P:List Value->Prop}(h:∀a b c d,P [a,b,c,d]):∀us:List Value,us.length=4->P us:=fun us e=>by
 cases us with
 |nil=>cases e
 |cons a r=>exact us_len3 (P:=fun r=>P (a::r)) (h a) r (Nat.succ.inj e)
theorem us_len5 {P:List Value->Prop}(h:∀a b c d e,P [a,b,c,d,e]):∀us:List Value,us.length=5->P us:=fun us e=>by
 cases us with
 |nil=>cases e
 |cons a r=>exact us_len4 (P:=fun r=>P (a::r)) (h a) r (Nat.succ.inj e)
theorem us_len6 {P:List Value->Prop}(h:∀a b c d e f,P [a,b,c,d,e,f]):∀us:List Value,us.length=6->P us:=fun us e=>by
 cases us with
 |nil=>cases e
 |cons a r=>exact us_len5 (P:=fun r=>P (a::r)) (h a) r (Nat.succ.inj e)
abbrev hB (n:Str)(S:Stmt)(ps:List Str):Prop:=∀(kV dc pm:Value) (an:Option Addr) (cd ct:Value) (us:List Value),us.length=ps.length->bindArgs (PySem.W.fnOf n n (Z1z S) (Z15 S) (Z0c S) .none kV dc pm an cd ct) ⟨us,[]⟩=pure (ps.zip us)
section
variable {K:W.Frag}{mg:Str->Option Value}{h:Heap}
theorem at_mk {x:Str}{i:Nat}{f:Addr}{oc kV dc pm cd ct:Value}{od an:Option Addr}{sl:Array (Option Value)}(X:K.In h)(G:h.Ns mainGlobals mg)(hb:hB x (top i) (Zda (top i)))(a:PySem.W.nsIn K mainGlobals x=some (some (.ref f)))(l:K.lookup f=some ⟨oc,od,.func (PySem.W.fnOf x x (Z1z (top i)) (Z15 (top i)) (Z0c (top i)) .none kV dc pm an cd ct),sl⟩)(c:PySem.W.codeIn K cd x=true)(k:PySem.W.keepIn K (.ref f)=true):Dx K mg x i:=
 have F:=Zqa (st:=top i) l c k
 ⟨f,_,F,F.binds hb,PySem.W.mg_of X G a⟩
theorem tk_mk {x y:Str}{tk:Tok}(X:K.In h)(G:h.Ns mainGlobals mg)(a:PySem.W.nsIn K mainGlobals x=some (some (.str y tk))):∃tk,mg x=some (.str y tk):=⟨tk,PySem.W.mg_of X G a⟩
theorem ti_mk {x:Str}{n:Int}{tk:Tok}(X:K.In h)(G:h.Ns mainGlobals mg)(a:PySem.W.nsIn K mainGlobals x=some (some (.int n tk))):∃tk,mg x=some (.int n tk):=⟨tk,PySem.W.mg_of X G a⟩
theorem sq_of {r:Addr}{vs:List V}{od:Option Addr}{its:Array Value}{n:Nat}{sl:Array (Option Value)}(l:K.lookup r=some ⟨.type "tuple",od,.seq its n,sl⟩)(v:Vals vs its.toList)(hl:vs.length<=1000):∀H,SqT K H r vs:=fun H=>by
 have hsz:its.size<=sizeLine:=by
  have h:=v.length
  have e:its.toList.length=its.size:=Array.length_toList
  have h2:=sizeLine_eq
  lia
 exact .inr ⟨_,its,n,l,rfl,rfl,hsz,v⟩
theorem sq_mk {x:Str}{l:List Str}{r:Addr}{od:Option Addr}{its:Array Value}{n:Nat}{sl:Array (Option Value)}(X:K.In h)(G:h.Ns mainGlobals mg)(a:PySem.W.nsIn K mainGlobals x=some (some (.ref r)))(e:K.lookup r=some ⟨.type "tuple",od,.seq its n,sl⟩)(v:Vals (l.map V.str) its.toList)(hl:(l.map V.str).length<=1000):SqAt K mg x l:=⟨r,PySem.W.mg_of X G a,sq_of e v hl⟩
theorem Zx2:(["num","name","op","pick","let","set","say","take","do","again","call"]:List Str).Nodup:=by decide+kernel
theorem rl_mk {w:World}{aR aV aN aS aT r0 r1 r2 r3 r4 r5 r6 r7 r8 r9 r10:Addr}{es:Array DictEntry}{ep:Nat}(X:K.In h)(G:h.Ns mainGlobals mg)(gR:PySem.W.nsIn K mainGlobals "RULES"=some (some (.ref aR)))(lR:K.lookup aR=some ⟨.type "dict",none,.dict es ep,#[]⟩)(eR:KEnt w es.toList [("num",.ref r0),("name",.ref r1),("op",.ref r2),("pick",.ref r3),("let",.ref r4),("set",.ref r5),("say",.ref r6),("take",.ref r7),("do",.ref r8),("again",.ref r9),("call",.ref r10)])(sm:(aR==sysModules)=false)(mV:PySem.W.nsIn K mainGlobals "is_value"=some (some (.ref aV)))(mN:PySem.W.nsIn K mainGlobals "is_name"=some (some (.ref aN)))(mS:PySem.W.nsIn K mainGlobals "is_sign"=some (some (.ref aS)))(mT:PySem.W.nsIn K mainGlobals "is_times"=some (some (.ref aT)))(nd : [aV,aN,aS,aT].Nodup)(s0:∀H,SqT K H r0 [.ref aV,.int 0,.int 0])(s1:∀H,SqT K H r1 [.ref aN,.int 0,.int 0])(s2:∀H,SqT K H r2 [.ref aS,.int 2,.int 2])(s3:∀H,SqT K H r3 [.non,.int 3,.int 3])(s4:∀H,SqT K H r4 [.ref aN,.int 2,.int 2])(s5:∀H,SqT K H r5 [.ref aN,.int 1,.int 1])(s6:∀H,SqT K H r6 [.non,.int 1,.int 1])(s7:∀H,SqT K H r7 [.non,.int 0,.int 0])(s8:∀H,SqT K H r8 [.non,.int 1,.int 6])(s9:∀H,SqT K H r9 [.ref aT,.int 1,.int 1])(s10:∀H,SqT K H r10 [.ref aN,.int 0,.int 6]):RulesAt K w mg:=by
 refine⟨fun i=>match i with | .val=>aV | .nam=>aN | .sgn=>aS | .tms=>aT,aR,_,PySem.W.mg_of X G gR,⟨⟨_,es,ep,lR,rfl,rfl,rfl,rfl,eR⟩,Zx2,sm⟩,.cons s0 (.cons s1 (.cons s2 (.cons s3 (.cons s4 (.cons s5 (.cons s6 (.cons s7 (.cons s8 (.cons s9 (.cons s10 (.nil))))))))))),fun i j e=>?_,PySem.W.mg_of X G mV,PySem.W.mg_of X G mN,PySem.W.mg_of X G mS,PySem.W.mg_of X G mT⟩
 simp only [nodup_cons,mem_cons,not_mem_nil,or_false,not_or,nodup_nil,and_true,not_false_eq_true] at nd
 obtain⟨⟨n1,n2,n3⟩,⟨n4,n5⟩,n6⟩:=nd
 cases i <;> cases j <;> first|rfl|exact absurd e ‹_› | exact absurd e.symm ‹_›
theorem kt_mk {T:String}(k0:PySem.W.kitOne K (.type "NoneType") (.type T)=some (isK "NoneType" T))(k1:PySem.W.kitOne K (.type "bool") (.type T)=some (isK "bool" T))(k2:PySem.W.kitOne K (.type "int") (.type T)=some (isK "int" T))(k3:PySem.W.kitOne K (.type "str") (.type T)=some (isK "str" T))(k4:PySem.W.kitOne K (.type "tuple") (.type T)=some (isK "tuple" T))(k5:PySem.W.kitOne K (.type "list") (.type T)=some (isK "list" T))(k6:PySem.W.kitOne K (.type "dict") (.type T)=some (isK "dict" T)):Zp0 K T:=by
 intro n hn
 simp only [mem_cons,not_mem_nil,or_false] at hn
 rcases hn with rfl|rfl|rfl|rfl|rfl|rfl|rfl <;> assumption
theorem tx_mk (X:K.In h)(G:h.Ns mainGlobals mg)(q0:PySem.W.nsIn K mainGlobals "range"=some none)(q1:PySem.W.nsIn K mainGlobals "list"=some none)(q2:PySem.W.nsIn K mainGlobals "repr"=some none)(q3:PySem.W.nsIn K mainGlobals "isinstance"=some none)(q4:PySem.W.nsIn K mainGlobals "bool"=some none)(q5:PySem.W.nsIn K mainGlobals "len"=some none)(q6:PySem.W.nsIn K mainGlobals "tuple"=some none)(q7:PySem.W.nsIn K mainGlobals "int"=some none)(q8:PySem.W.nsIn K mainGlobals "sum"=some none)(q9:PySem.W.nsIn K mainGlobals "dict"=some none)(q10:PySem.W.nsIn K mainGlobals "zip"=some none)(q11:PySem.W.nsIn K mainGlobals "reversed"=some none)(q12:PySem.W.nsIn K mainGlobals "all"=some none)(q13:PySem.W.nsIn K mainGlobals "any"=some none)(q14:PySem.W.nsIn K mainGlobals "enumerate"=some none)(q15:PySem.W.nsIn K mainGlobals "str"=some none)(q16:PySem.W.nsIn K mainGlobals "set"=some none)(t0:Zp0 K "tuple")(t1:Zp0 K "bool")(t2:Zp0 K "int")(t3:Zp0 K "str"):Tx K mg:=by
 refine⟨fun x hx=>?_,fun T hT=>?_⟩
 ·unfold blG at hx
  simp only [mem_cons,not_mem_nil,or_false] at hx
  rcases hx with rfl|rfl|rfl|rfl|rfl|rfl|rfl|rfl|rfl|rfl|rfl|rfl|rfl|rfl|rfl|rfl|rfl <;> (refine PySem.W.mg_none_of X G ?_;assumption)
 ·unfold ktG at hT
  simp only [mem_cons,not_mem_nil,or_false] at hT
  rcases hT with rfl|rfl|rfl|rfl <;> assumption
theorem Zhl {K:W.Frag}{G:Hp}:∀ns:List Int,IsTs K G (ns.map V.int) (ns.map ti)
 |[]=>.nil
 |n::ns=>.cons (.at rfl) (Zhl ns)
theorem all_mk {l:PySem.W.OpenLaw}{w:World}{fa:Addr}(hfa:mg "law"=some (.ref fa))(D:Defs w K mg):
  ∃fd:FuncData,(∀(s:Shared) (v:Value),BindsTo s fd ⟨[v],[]⟩ [("_law_script",v)])/\∀base:Heap,K.In base->base.Ns mainGlobals mg->FnOk l.prog w K mg base CX0 21 fa fd ["_law_script"] (spW K spLaw):=by
 obtain⟨f,d,F⟩:=D.a_law
 have e:=hfa.symm.trans F.m
 cases e
 refine⟨d,?_,fun base _ _=>?_⟩
 ·obtain⟨_,_,_,_,_,_,_,_,_,rfl,_⟩:=F.F.ex
  exact fun s v=>.of_eq rfl
 ·obtain⟨f',d',F',h⟩:=Zso (P:=l.prog) (w:=w) (base:=base) D
  obtain⟨rfl,rfl⟩:=F.same F'
  have e:Zda (top 57)=(["_law_script"]:List Str):=by decide+kernel
  rw[e] at h
  exact h
end
theorem walk {l:PySem.W.OpenLaw}{q:Program}{loose:List Str}{XP:(Str->Option Value)->Heap->Prop}{YP:World->Heap->Prop}{d:DefRec}{K:Params->W.Frag}(hn:l.most=some 63)(hdf:d.params.defaults = [])
  (hY:∀(w:World) (h:Heap),YP w h->(K w.params).In h)
  (F:∀(w:World) (mg:Str->Option Value) (fa:Addr) (h:Heap),(K w.params).In h->h.Ns mainGlobals mg->mg d.name=some (.ref fa) →
   ∃fd:FuncData,(∀(s:Shared) (u:Value),BindsTo s fd ⟨[u],[]⟩ [("_law_script",u)])/\∀base:Heap,(K w.params).In base->base.Ns mainGlobals mg->FnOk l.prog w (K w.params) mg base CX0 21 fa fd ["_law_script"] (spW (K w.params) spLaw)):
  PySem.W.WalkO q loose XP YP l.row.toRowW d [] (fun f vs=>PySem.call f vs):=
 L2.walk_of (n:=63) (k:=21) (x:="_law_script") (CX:=fun _=>CX0) (sp:=fun w=>spW (K w.params) spLaw) hn (by decide) hdf ⟨rfl,rfl,by decide,by decide⟩ hY F (fun _ H a ns hl _ hS=>⟨H,[.fz (.scr (ns.map ti))],[],fun r _=>r=fb true,fun _ _ z=>z,.fz (.scr hS (Zhl ns)) .nil,.nil,⟨ns,rfl,Nat.le_trans hl (by decide),rfl⟩,fun r ss v G' H' e _ _ ro=>by
  subst e
  cases (show IsT _ G' v (.at (.bl true)) from ro)
  rfl⟩) fun _ _ _ _ _ z=>z
end M22
open PySem PySem.W PyProof.Rows
set_option maxRecDepth 100000 in
set_option maxHeartbeats 0 in
theorem PySem.Challenge.cw_likepieces_k22_what_is_a_program_holds : PySem.Challenge.rw_likepieces_k22_what_is_a_program.Holds := by
 w_on
 refine holds_law M22.hdS fun sd=>?_
 refine holds_open (q:=M22.hdQ) (loose:=M22.hdL) (Yf:=M22.hdH.obs) (Ya:=M22.hdH.val)
  (XP:=XL M22.hdQ []) (YP:=InK M22.hdK) (N:=M22.hdN) M22.hdT M22.hdH.of
  M22.hdH.keeps (fun s e=>xl_of s (Bool.and_eq_true_iff.mp e).1) XL.keeps (by rfl) (by rfl)
  (by rfl) (fun s e=>recFacts_of (Bool.and_eq_true_iff.mp e).2) (by rfl) sd (by decide+kernel)
  ⟨rfl,rfl,rfl,rfl,rfl,by decide+kernel⟩ ?hw ?hc
 (case hw=>w_witness2)
 k_fill
 refine M22.walk (l:=PySem.Challenge.rw_likepieces_k22_what_is_a_program) rfl rfl (K:=M22.hdK) (fun w h Y=>Y) ?F
 case F=>
  intro w mg fa h KX G hmg
  refine' M22.all_mk hmg ⟨?dT,?dnd,?dop,?dcl,?dgv,?dmt,?dmp,?dlg,?dwd,?dsg,?drl,M22.at_mk KX G (fun _ _ _ _ _ _=>M22.us_len1 fun _=>rfl) ?a11 ?l11 ?c11 ?k11,M22.at_mk KX G (fun _ _ _ _ _ _=>M22.us_len1 fun _=>rfl) ?a12 ?l12 ?c12 ?k12,M22.at_mk KX G (fun _ _ _ _ _ _=>M22.us_len1 fun _=>rfl) ?a13 ?l13 ?c13 ?k13,M22.at_mk KX G (fun _ _ _ _ _ _=>M22.us_len1 fun _=>rfl) ?a14 ?l14 ?c14 ?k14,M22.at_mk KX G (fun _ _ _ _ _ _=>M22.us_len1 fun _=>rfl) ?a15 ?l15 ?c15 ?k15,M22.at_mk KX G (fun _ _ _ _ _ _=>M22.us_len1 fun _=>rfl) ?a16 ?l16 ?c16 ?k16,M22.at_mk KX G (fun _ _ _ _ _ _=>M22.us_len2 fun _ _=>rfl) ?a17 ?l17 ?c17 ?k17,M22.at_mk KX G (fun _ _ _ _ _ _=>M22.us_len2 fun _ _=>rfl) ?a18 ?l18 ?c18 ?k18,M22.at_mk KX G (fun _ _ _ _ _ _=>M22.us_len1 fun _=>rfl) ?a19 ?l19 ?c19 ?k19,M22.at_mk KX G (fun _ _ _ _ _ _=>M22.us_len1 fun _=>rfl) ?a20 ?l20 ?c20 ?k20,M22.at_mk KX G (fun _ _ _ _ _ _=>M22.us_len1 fun _=>rfl) ?a21 ?l21 ?c21 ?k21,M22.at_mk KX G (fun _ _ _ _ _ _=>M22.us_len1 fun _=>rfl) ?a22 ?l22 ?c22 ?k22,M22.at_mk KX G (fun _ _ _ _ _ _=>M22.us_len1 fun _=>rfl) ?a23 ?l23 ?c23 ?k23,M22.at_mk KX G (fun _ _ _ _ _ _=>M22.us_len1 fun _=>rfl) ?a24 ?l24 ?c24 ?k24,M22.at_mk KX G (fun _ _ _ _ _ _=>M22.us_len2 fun _ _=>rfl) ?a25 ?l25 ?c25 ?k25,M22.at_mk KX G (fun _ _ _ _ _ _=>M22.us_len1 fun _=>rfl) ?a26 ?l26 ?c26 ?k26,M22.at_mk KX G (fun _ _ _ _ _ _=>M22.us_len2 fun _ _=>rfl) ?a27 ?l27 ?c27 ?k27,M22.at_mk KX G (fun _ _ _ _ _ _=>M22.us_len1 fun _=>rfl) ?a28 ?l28 ?c28 ?k28,M22.at_mk KX G (fun _ _ _ _ _ _=>M22.us_len1 fun _=>rfl) ?a29 ?l29 ?c29 ?k29,M22.at_mk KX G (fun _ _ _ _ _ _=>M22.us_len2 fun _ _=>rfl) ?a30 ?l30 ?c30 ?k30,M22.at_mk KX G (fun _ _ _ _ _ _=>M22.us_len1 fun _=>rfl) ?a31 ?l31 ?c31 ?k31,M22.at_mk KX G (fun _ _ _ _ _ _=>M22.us_len2 fun _ _=>rfl) ?a32 ?l32 ?c32 ?k32,M22.at_mk KX G (fun _ _ _ _ _ _=>M22.us_len2 fun _ _=>rfl) ?a33 ?l33 ?c33 ?k33,M22.at_mk KX G (fun _ _ _ _ _ _=>M22.us_len2 fun _ _=>rfl) ?a34 ?l34 ?c34 ?k34,M22.at_mk KX G (fun _ _ _ _ _ _=>M22.us_len1 fun _=>rfl) ?a35 ?l35 ?c35 ?k35,M22.at_mk KX G (fun _ _ _ _ _ _=>M22.us_len2 fun _ _=>rfl) ?a36 ?l36 ?c36 ?k36,M22.at_mk KX G (fun _ _ _ _ _ _=>M22.us_len3 fun _ _ _=>rfl) ?a37 ?l37 ?c37 ?k37,M22.at_mk KX G (fun _ _ _ _ _ _=>M22.us_len6 fun _ _ _ _ _ _=>rfl) ?a38 ?l38 ?c38 ?k38,M22.at_mk KX G (fun _ _ _ _ _ _=>M22.us_len5 fun _ _ _ _ _=>rfl) ?a39 ?l39 ?c39 ?k39,M22.at_mk KX G (fun _ _ _ _ _ _=>M22.us_len5 fun _ _ _ _ _=>rfl) ?a40 ?l40 ?c40 ?k40,M22.at_mk KX G (fun _ _ _ _ _ _=>M22.us_len6 fun _ _ _ _ _ _=>rfl) ?a41 ?l41 ?c41 ?k41,M22.at_mk KX G (fun _ _ _ _ _ _=>M22.us_len2 fun _ _=>rfl) ?a42 ?l42 ?c42 ?k42,M22.at_mk KX G (fun _ _ _ _ _ _=>M22.us_len1 fun _=>rfl) ?a43 ?l43 ?c43 ?k43,M22.at_mk KX G (fun _ _ _ _ _ _=>M22.us_len3 fun _ _ _=>rfl) ?a44 ?l44 ?c44 ?k44,M22.at_mk KX G (fun _ _ _ _ _ _=>M22.us_len2 fun _ _=>rfl) ?a45 ?l45 ?c45 ?k45,M22.at_mk KX G (fun _ _ _ _ _ _=>M22.us_len2 fun _ _=>rfl) ?a46 ?l46 ?c46 ?k46,M22.at_mk KX G (fun _ _ _ _ _ _=>M22.us_len3 fun _ _ _=>rfl) ?a47 ?l47 ?c47 ?k47,M22.at_mk KX G (fun _ _ _ _ _ _=>M22.us_len2 fun _ _=>rfl) ?a48 ?l48 ?c48 ?k48,M22.at_mk KX G (fun _ _ _ _ _ _=>M22.us_len3 fun _ _ _=>rfl) ?a49 ?l49 ?c49 ?k49,M22.at_mk KX G (fun _ _ _ _ _ _=>M22.us_len1 fun _=>rfl) ?a50 ?l50 ?c50 ?k50,M22.at_mk KX G (fun _ _ _ _ _ _=>M22.us_len4 fun _ _ _ _=>rfl) ?a51 ?l51 ?c51 ?k51,M22.at_mk KX G (fun _ _ _ _ _ _=>M22.us_len2 fun _ _=>rfl) ?a52 ?l52 ?c52 ?k52,M22.at_mk KX G (fun _ _ _ _ _ _=>M22.us_len2 fun _ _=>rfl) ?a53 ?l53 ?c53 ?k53,M22.at_mk KX G (fun _ _ _ _ _ _=>M22.us_len2 fun _ _=>rfl) ?a54 ?l54 ?c54 ?k54,M22.at_mk KX G (fun _ _ _ _ _ _=>M22.us_len1 fun _=>rfl) ?a55 ?l55 ?c55 ?k55⟩
  (case dT=>refine' M22.tx_mk KX G ?q0 ?q1 ?q2 ?q3 ?q4 ?q5 ?q6 ?q7 ?q8 ?q9 ?q10 ?q11 ?q12 ?q13 ?q14 ?q15 ?q16 (M22.kt_mk ?ktupleNoneType ?ktuplebool ?ktupleint ?ktuplestr ?ktupletuple ?ktuplelist ?ktupledict) (M22.kt_mk ?kboolNoneType ?kboolbool ?kboolint ?kboolstr ?kbooltuple ?kboollist ?kbooldict) (M22.kt_mk ?kintNoneType ?kintbool ?kintint ?kintstr ?kinttuple ?kintlist ?kintdict) (M22.kt_mk ?kstrNoneType ?kstrbool ?kstrint ?kstrstr ?kstrtuple ?kstrlist ?kstrdict);(all_goals first|k_is|rfl|decide))
  (case dnd=>refine' M22.tk_mk KX G ?a;(case a=>k_is))
  (case dop=>refine' M22.tk_mk KX G ?a;(case a=>k_is))
  (case dcl=>refine' M22.tk_mk KX G ?a;(case a=>k_is))
  (case dgv=>refine' M22.ti_mk KX G ?a;(case a=>k_is))
  (case dmt=>refine' M22.ti_mk KX G ?a;(case a=>k_is))
  (case dmp=>refine' M22.ti_mk KX G ?a;(case a=>k_is))
  (case dlg=>refine' M22.ti_mk KX G ?a;(case a=>k_is))
  (case dwd=>refine' M22.sq_mk KX G ?a ?l ?v ?h;(case a=>k_is);(case l=>k_is);(case v=>repeat (first|exact .nil|refine' .cons ⟨_,rfl⟩ ?_));(case h=>decide+kernel))
  (case dsg=>refine' M22.sq_mk KX G ?a ?l ?v ?h;(case a=>k_is);(case l=>k_is);(case v=>repeat (first|exact .nil|refine' .cons ⟨_,rfl⟩ ?_));(case h=>decide+kernel))
  (case drl=>refine' M22.rl_mk KX G ?gR ?lR ?eR ?sm ?mV ?mN ?mS ?mT ?nd (M22.sq_of ?l0 ?v0 (by show 3<=1000;decide)) (M22.sq_of ?l1 ?v1 (by show 3<=1000;decide)) (M22.sq_of ?l2 ?v2 (by show 3<=1000;decide)) (M22.sq_of ?l3 ?v3 (by show 3<=1000;decide)) (M22.sq_of ?l4 ?v4 (by show 3<=1000;decide)) (M22.sq_of ?l5 ?v5 (by show 3<=1000;decide)) (M22.sq_of ?l6 ?v6 (by show 3<=1000;decide)) (M22.sq_of ?l7 ?v7 (by show 3<=1000;decide)) (M22.sq_of ?l8 ?v8 (by show 3<=1000;decide)) (M22.sq_of ?l9 ?v9 (by show 3<=1000;decide)) (M22.sq_of ?l10 ?v10 (by show 3<=1000;decide));(case gR|lR=>k_is);(case eR=>exact .cons rfl (.cons rfl (.cons rfl (.cons rfl (.cons rfl (.cons rfl (.cons rfl (.cons rfl (.cons rfl (.cons rfl (.cons rfl (.nil))))))))))));(case mV|mN|mS|mT=>k_is);(case sm|nd=>decide);(case l0=>k_is);(case v0=>exact .cons rfl (.cons ⟨_,rfl⟩ (.cons ⟨_,rfl⟩ .nil)));(case l1=>k_is);(case v1=>exact .cons rfl (.cons ⟨_,rfl⟩ (.cons ⟨_,rfl⟩ .nil)));(case l2=>k_is);(case v2=>exact .cons rfl (.cons ⟨_,rfl⟩ (.cons ⟨_,rfl⟩ .nil)));(case l3=>k_is);(case v3=>exact .cons rfl (.cons ⟨_,rfl⟩ (.cons ⟨_,rfl⟩ .nil)));(case l4=>k_is);(case v4=>exact .cons rfl (.cons ⟨_,rfl⟩ (.cons ⟨_,rfl⟩ .nil)));(case l5=>k_is);(case v5=>exact .cons rfl (.cons ⟨_,rfl⟩ (.cons ⟨_,rfl⟩ .nil)));(case l6=>k_is);(case v6=>exact .cons rfl (.cons ⟨_,rfl⟩ (.cons ⟨_,rfl⟩ .nil)));(case l7=>k_is);(case v7=>exact .cons rfl (.cons ⟨_,rfl⟩ (.cons ⟨_,rfl⟩ .nil)));(case l8=>k_is);(case v8=>exact .cons rfl (.cons ⟨_,rfl⟩ (.cons ⟨_,rfl⟩ .nil)));(case l9=>k_is);(case v9=>exact .cons rfl (.cons ⟨_,rfl⟩ (.cons ⟨_,rfl⟩ .nil)));(case l10=>k_is);(case v10=>exact .cons rfl (.cons ⟨_,rfl⟩ (.cons ⟨_,rfl⟩ .nil))))
  (case a11|l11|c11|k11|a12|l12|c12|k12|a13|l13|c13|k13|a14|l14|c14|k14|a15|l15|c15|k15|a16|l16|c16|k16|a17|l17|c17|k17|a18|l18|c18|k18|a19|l19|c19|k19|a20|l20|c20|k20|a21|l21|c21|k21|a22|l22|c22|k22|a23|l23|c23|k23|a24|l24|c24|k24|a25|l25|c25|k25|a26|l26|c26|k26|a27|l27|c27|k27|a28|l28|c28|k28|a29|l29|c29|k29|a30|l30|c30|k30|a31|l31|c31|k31|a32|l32|c32|k32|a33|l33|c33|k33|a34|l34|c34|k34|a35|l35|c35|k35|a36|l36|c36|k36|a37|l37|c37|k37|a38|l38|c38|k38|a39|l39|c39|k39|a40|l40|c40|k40|a41|l41|c41|k41|a42|l42|c42|k42|a43|l43|c43|k43|a44|l44|c44|k44|a45|l45|c45|k45|a46|l46|c46|k46|a47|l47|c47|k47|a48|l48|c48|k48|a49|l49|c49|k49|a50|l50|c50|k50|a51|l51|c51|k51|a52|l52|c52|k52|a53|l53|c53|k53|a54|l54|c54|k54|a55|l55|c55|k55=>k_is)
