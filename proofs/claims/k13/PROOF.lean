import PyProof.Rows.All
import Wide.All
import OpenK.AllK
import Wide.FinOn
import Lean
import PyProof.EqAt
import PyProof.EqKinds
import PyProof.TupleCall
import PyProof.NeKinds
import PyProof.Rows.SortStr
import PyProof.Rows.SeqMore
import PyProof.Rows.CatFin
import PyProof.MeetsStr
import PyProof.Rows.SumAny
import PyProof.Rows.SortShell
import PyProof.Rows.SetFrom
import PyProof.DictWalks
import PyProof.Rows.SortReads
import KE.KDictSum
import PyProof.ZipIter
import PyProof.Rows.ZipGen
import PyProof.TupleOfGen
import PyProof.TupleOfStr
import KE.KIsAll
import PySem.Challenge.RW_likepieces_k13_alike_or_not
import PyProof.Rows.StrJoin2
import PyProof.AttrMissSeq
import KE.KDictOf
import PyProof.DictCompW
import PyProof.Rows.Range3
import PyProof.Rows.ReprOcc
import PyProof.Rows.StrAscii
open List (all_cons all_eq_true all_map any_cons append_assoc append_nil cons_append dropLast_concat_getLast drop_zero eq_nil_of_length_eq_zero filterMap_cons filter_append filter_cons flatten_cons forIn_cons forIn_nil getElem_mem getLastD_eq_getLast? length_append length_cons length_drop length_filter_le length_map length_nil length_range length_reverse length_set length_singleton length_take length_zip lookup_cons map_append map_congr_left map_cons map_drop map_flatten map_map map_nil map_take mem_append mem_append_left mem_append_right mem_cons mem_cons_of_mem mem_cons_self mem_filter mem_filterMap mem_flatten mem_map mem_of_getElem? mem_of_mem_drop mem_of_mem_take mem_range mem_reverse mem_singleton nil_append nodup_cons nodup_nil not_mem_nil of_mem_zip reverse_cons size_toArray take_add_one take_append_drop take_of_length_le take_succ_cons take_zero zipIdx_cons zipIdx_nil)
set_option Elab.async false
set_option linter.all false
set_option maxRecDepth 100000
set_option maxHeartbeats 4000000
namespace L2
open PySem
def Z0q (s:Stmt):Arguments:=match s with
 | .FunctionDef _ a _ _ _ _ _ _ _ _=>a
 |_=>{ posonlyargs:=[],args:=[],vararg:=none,kwonlyargs:=[],kw_defaults:=[],kwarg:=none,defaults:=[] }
def Z0p (s:Stmt):List Stmt:=match s with
 | .FunctionDef _ _ b _ _ _ _ _ _ _=>b
 |_=>[]
def Z06 (s:Stmt):Scope:=match s with
 | .FunctionDef _ _ _ _ _ _ sc _ _ _=>sc
 |_=>{ kind:=.function,names:=[],isGenerator:=false,isCoroutine:=false }
end L2
namespace K13
open PySem L2
def top (i:Nat):Stmt:=PySem.Challenge.pw_likepieces_k13_alike_or_not.main.body.getD i (.Pass ⟨0,0,0,0⟩)
abbrev eT:Obj:=⟨(.type "tuple"),none,(.seq #[] 0),#[]⟩
abbrev eF (n:Str)(i:Nat)(r:Addr):Obj:=⟨(.type "function"),none,(.func (PySem.W.fnOf n n (Z0q (top i)) (Z0p (top i)) (Z06 (top i)) .none .none .none (.str "likepieces.trees" 187) none (.ref r) .none)),#[]⟩
abbrev eC (n:Str)(a b c:Tok)(l k f:Int)(r s:Addr)(v w:Value)(t:Addr)(m:Int)(d:Tok):Obj:=⟨(.type "code"),none,(.fields #[(.str n a),(.str n b),(.str "/claim/cut.py" c),(.int l 0),(.int k 0),(.int 0 0),(.int 0 0),(.int f 0),(.ref r),(.bool true),(.int 181 0),(.ref s),.none,v,w,(.ref t),(.int m 0),(.int l 0),(.str "/claim/cut.py" d)]),#[]⟩
def hdQ:Program:={ PySem.Challenge.pw_likepieces_k13_alike_or_not with main:={ PySem.Challenge.pw_likepieces_k13_alike_or_not.main with body:=[top 1,top 2,top 3,top 4,top 5,top 6,top 8,top 9,top 10,top 12,top 14,top 15,top 16,top 18,top 19,top 20,top 21,top 22,top 23,top 24,top 25,top 26,top 27,top 28,top 29,top 30,top 31,top 32,top 33,top 34,top 35,top 36,top 37,top 38,top 39,top 40,top 41,top 42,top 43,top 44] } }
def hdK:Params->PySem.W.Frag:=fun P=>
 (nat_lit 2,⟨.none,none,(.dict #[] 0),#[]⟩) ::
 (nat_lit 3,⟨(.type "dict"),none,(.dict #[⟨(PySem.PyData.keyHash P "__name__"),(.str "__name__" 165),(.str "law_likepieces_k13_alike_or_not" 281)⟩,⟨(PySem.PyData.keyHash P "__doc__"),(.str "__doc__" 166),.none⟩,⟨(PySem.PyData.keyHash P "__package__"),(.str "__package__" 167),.none⟩,⟨(PySem.PyData.keyHash P "__loader__"),(.str "__loader__" 168),(.builtin "__main__.__loader__#opaque")⟩,⟨(PySem.PyData.keyHash P "__spec__"),(.str "__spec__" 169),.none⟩,⟨(PySem.PyData.keyHash P "__annotations__"),(.str "__annotations__" 170),(.ref 6)⟩,⟨(PySem.PyData.keyHash P "__builtins__"),(.str "__builtins__" 171),(.ref 4)⟩,⟨(PySem.PyData.keyHash P "__file__"),(.str "__file__" 173),(.str "/claim/cut.py" 172)⟩,⟨(PySem.PyData.keyHash P "__cached__"),(.str "__cached__" 174),.none⟩,⟨(PySem.PyData.keyHash P "NODE"),(.str "NODE" 190),(.str "node" 189)⟩,⟨(PySem.PyData.keyHash P "OPENED"),(.str "OPENED" 192),(.str "opened" 191)⟩,⟨(PySem.PyData.keyHash P "CLOSED"),(.str "CLOSED" 194),(.str "closed" 193)⟩,⟨(PySem.PyData.keyHash P "head"),(.str "head" 200),(.ref 19)⟩,⟨(PySem.PyData.keyHash P "parts"),(.str "parts" 206),(.ref 24)⟩,⟨(PySem.PyData.keyHash P "steps"),(.str "steps" 212),(.ref 29)⟩,⟨(PySem.PyData.keyHash P "own_number"),(.str "own_number" 223),(.ref 36)⟩,⟨(PySem.PyData.keyHash P "owned"),(.str "owned" 235),(.ref 43)⟩,⟨(PySem.PyData.keyHash P "free_names"),(.str "free_names" 245),(.ref 50)⟩,⟨(PySem.PyData.keyHash P "bare_head"),(.str "bare_head" 255),(.ref 57)⟩,⟨(PySem.PyData.keyHash P "shape_head"),(.str "shape_head" 266),(.ref 64)⟩,⟨(PySem.PyData.keyHash P "shape_rows"),(.str "shape_rows" 272),(.ref 69)⟩,⟨(PySem.PyData.keyHash P "alike"),(.str "alike" 280),(.ref 76)⟩,⟨(PySem.PyData.keyHash P "_law_feed"),(.str "_law_feed" 289),(.ref 83)⟩,⟨(PySem.PyData.keyHash P "_law_draw"),(.str "_law_draw" 301),(.ref 90)⟩,⟨(PySem.PyData.keyHash P "_law_value"),(.str "_law_value" 309),(.ref 97)⟩,⟨(PySem.PyData.keyHash P "_law_spelled"),(.str "_law_spelled" 319),(.ref 104)⟩,⟨(PySem.PyData.keyHash P "_law_name"),(.str "_law_name" 334),(.ref 111)⟩,⟨(PySem.PyData.keyHash P "_law_names"),(.str "_law_names" 344),(.ref 118)⟩,⟨(PySem.PyData.keyHash P "_law_parts"),(.str "_law_parts" 350),(.ref 123)⟩,⟨(PySem.PyData.keyHash P "_law_with"),(.str "_law_with" 356),(.ref 128)⟩,⟨(PySem.PyData.keyHash P "_law_nodes"),(.str "_law_nodes" 362),(.ref 133)⟩,⟨(PySem.PyData.keyHash P "_law_work"),(.str "_law_work" 368),(.ref 138)⟩,⟨(PySem.PyData.keyHash P "_law_right"),(.str "_law_right" 374),(.ref 143)⟩,⟨(PySem.PyData.keyHash P "_law_leaf"),(.str "_law_leaf" 385),(.ref 150)⟩,⟨(PySem.PyData.keyHash P "_law_turned"),(.str "_law_turned" 391),(.ref 155)⟩,⟨(PySem.PyData.keyHash P "_law_spoilt"),(.str "_law_spoilt" 403),(.ref 162)⟩,⟨(PySem.PyData.keyHash P "_law_copied"),(.str "_law_copied" 409),(.ref 167)⟩,⟨(PySem.PyData.keyHash P "_law_bound"),(.str "_law_bound" 415),(.ref 172)⟩,⟨(PySem.PyData.keyHash P "_law_called"),(.str "_law_called" 421),(.ref 177)⟩,⟨(PySem.PyData.keyHash P "_law_expr"),(.str "_law_expr" 427),(.ref 182)⟩,⟨(PySem.PyData.keyHash P "_law_world"),(.str "_law_world" 439),(.ref 189)⟩,⟨(PySem.PyData.keyHash P "_law_seeds"),(.str "_law_seeds" 451),(.ref 196)⟩,⟨(PySem.PyData.keyHash P "_law_shaped"),(.str "_law_shaped" 457),(.ref 201)⟩,⟨(PySem.PyData.keyHash P "_law_due"),(.str "_law_due" 463),(.ref 206)⟩,⟨(PySem.PyData.keyHash P "_law_all"),(.str "_law_all" 472),(.ref 213)⟩,⟨(PySem.PyData.keyHash P "_law_changed"),(.str "_law_changed" 478),(.ref 218)⟩,⟨(PySem.PyData.keyHash P "_law_beside"),(.str "_law_beside" 484),(.ref 223)⟩,⟨(PySem.PyData.keyHash P "_law_wide"),(.str "_law_wide" 490),(.ref 228)⟩,⟨(PySem.PyData.keyHash P "law"),(.str "law" 496),(.ref 233)⟩] 49),#[]⟩) ::
 (nat_lit 15,eT) ::
 (nat_lit 18,eC "head" 195 196 197 5 1 3 15 16 .none .none 17 198 199) ::
 (nat_lit 19,eF "head" 4 18) ::
 (nat_lit 20,eT) ::
 (nat_lit 23,eC "parts" 201 202 203 7 1 3 20 21 .none .none 22 204 205) ::
 (nat_lit 24,eF "parts" 5 23) ::
 (nat_lit 25,eT) ::
 (nat_lit 28,eC "steps" 207 208 209 9 1 3 25 26 .none .none 27 210 211) ::
 (nat_lit 29,eF "steps" 6 28) ::
 (nat_lit 30,eT) ::
 (nat_lit 32,⟨(.type "tuple"),none,(.seq #[(.str "node" 218),(.str "lets" 219),(.str "level" 220)] 0),#[]⟩) ::
 (nat_lit 33,eT) ::
 (nat_lit 35,eC "own_number" 215 216 217 22 3 3 30 31 (.ref 32) (.ref 33) 34 221 222) ::
 (nat_lit 36,⟨(.type "function"),none,(.func (PySem.W.fnOf "own_number" "own_number" (Z0q (top 8)) (Z0p (top 8)) (Z06 (top 8)) .none .none .none (.str "likepieces.names" 213) none (.ref 35) .none)),#[]⟩) ::
 (nat_lit 37,eT) ::
 (nat_lit 39,⟨(.type "tuple"),none,(.seq #[(.str "e" 227),(.str "rows" 228),(.str "lets" 229),(.str "level" 230),(.str "deed" 231),(.str "node" 232)] 0),#[]⟩) ::
 (nat_lit 40,eT) ::
 (nat_lit 42,eC "owned" 224 225 226 26 1 3 37 38 (.ref 39) (.ref 40) 41 233 234) ::
 (nat_lit 43,⟨(.type "function"),none,(.func (PySem.W.fnOf "owned" "owned" (Z0q (top 9)) (Z0p (top 9)) (Z06 (top 9)) .none .none .none (.str "likepieces.names" 213) none (.ref 42) .none)),#[]⟩) ::
 (nat_lit 44,eT) ::
 (nat_lit 46,⟨(.type "tuple"),none,(.seq #[(.str "e" 239),(.str "seen" 240),(.str "node" 241),(.str "own" 242)] 0),#[]⟩) ::
 (nat_lit 47,eT) ::
 (nat_lit 49,eC "free_names" 236 237 238 40 1 3 44 45 (.ref 46) (.ref 47) 48 243 244) ::
 (nat_lit 50,⟨(.type "function"),none,(.func (PySem.W.fnOf "free_names" "free_names" (Z0q (top 10)) (Z0p (top 10)) (Z06 (top 10)) .none .none .none (.str "likepieces.names" 213) none (.ref 49) .none)),#[]⟩) ::
 (nat_lit 51,eT) ::
 (nat_lit 53,⟨(.type "tuple"),none,(.seq #[(.str "node" 251),(.str "own" 252)] 0),#[]⟩) ::
 (nat_lit 54,eT) ::
 (nat_lit 56,eC "bare_head" 248 249 250 47 2 3 51 52 (.ref 53) (.ref 54) 55 253 254) ::
 (nat_lit 57,⟨(.type "function"),none,(.func (PySem.W.fnOf "bare_head" "bare_head" (Z0q (top 12)) (Z0p (top 12)) (Z06 (top 12)) .none .none .none (.str "likepieces.bares" 246) none (.ref 56) .none)),#[]⟩) ::
 (nat_lit 58,eT) ::
 (nat_lit 60,⟨(.type "tuple"),none,(.seq #[(.str "node" 261),(.str "own" 262),(.str "numbers" 263)] 0),#[]⟩) ::
 (nat_lit 61,eT) ::
 (nat_lit 63,eC "shape_head" 258 259 260 54 3 3 58 59 (.ref 60) (.ref 61) 62 264 265) ::
 (nat_lit 64,⟨(.type "function"),none,(.func (PySem.W.fnOf "shape_head" "shape_head" (Z0q (top 14)) (Z0p (top 14)) (Z06 (top 14)) .none .none .none (.str "likepieces.likes" 256) none (.ref 63) .none)),#[]⟩) ::
 (nat_lit 65,eT) ::
 (nat_lit 68,eC "shape_rows" 267 268 269 60 1 3 65 66 .none .none 67 270 271) ::
 (nat_lit 69,⟨(.type "function"),none,(.func (PySem.W.fnOf "shape_rows" "shape_rows" (Z0q (top 15)) (Z0p (top 15)) (Z06 (top 15)) .none .none .none (.str "likepieces.likes" 256) none (.ref 68) .none)),#[]⟩) ::
 (nat_lit 70,eT) ::
 (nat_lit 72,⟨(.type "tuple"),none,(.seq #[(.str "one" 276),(.str "other" 277)] 0),#[]⟩) ::
 (nat_lit 73,eT) ::
 (nat_lit 75,eC "alike" 273 274 275 63 2 3 70 71 (.ref 72) (.ref 73) 74 278 279) ::
 (nat_lit 76,⟨(.type "function"),none,(.func (PySem.W.fnOf "alike" "alike" (Z0q (top 16)) (Z0p (top 16)) (Z06 (top 16)) .none .none .none (.str "likepieces.likes" 256) none (.ref 75) .none)),#[]⟩) ::
 (nat_lit 77,eT) ::
 (nat_lit 79,⟨(.type "tuple"),none,(.seq #[(.str "_law_script" 286)] 0),#[]⟩) ::
 (nat_lit 80,eT) ::
 (nat_lit 82,eC "_law_feed" 283 284 285 68 1 3 77 78 (.ref 79) (.ref 80) 81 287 288) ::
 (nat_lit 83,⟨(.type "function"),none,(.func (PySem.W.fnOf "_law_feed" "_law_feed" (Z0q (top 18)) (Z0p (top 18)) (Z06 (top 18)) .none .none .none (.str "law_likepieces_k13_alike_or_not" 281) none (.ref 82) .none)),#[]⟩) ::
 (nat_lit 84,eT) ::
 (nat_lit 86,⟨(.type "tuple"),none,(.seq #[(.str "_law_feed_here" 293),(.str "_law_many" 294),(.str "_law_found" 295),(.str "_law_at" 296),(.str "_law_cell" 297),(.str "_law_number" 298)] 0),#[]⟩) ::
 (nat_lit 87,eT) ::
 (nat_lit 89,eC "_law_draw" 290 291 292 70 2 3 84 85 (.ref 86) (.ref 87) 88 299 300) ::
 (nat_lit 90,⟨(.type "function"),none,(.func (PySem.W.fnOf "_law_draw" "_law_draw" (Z0q (top 19)) (Z0p (top 19)) (Z06 (top 19)) .none .none .none (.str "law_likepieces_k13_alike_or_not" 281) none (.ref 89) .none)),#[]⟩) ::
 (nat_lit 91,eT) ::
 (nat_lit 93,⟨(.type "tuple"),none,(.seq #[(.str "_law_feed_here" 305),(.str "_law_way" 306)] 0),#[]⟩) ::
 (nat_lit 94,eT) ::
 (nat_lit 96,eC "_law_value" 302 303 304 87 1 3 91 92 (.ref 93) (.ref 94) 95 307 308) ::
 (nat_lit 97,⟨(.type "function"),none,(.func (PySem.W.fnOf "_law_value" "_law_value" (Z0q (top 20)) (Z0p (top 20)) (Z06 (top 20)) .none .none .none (.str "law_likepieces_k13_alike_or_not" 281) none (.ref 96) .none)),#[]⟩) ::
 (nat_lit 98,eT) ::
 (nat_lit 100,⟨(.type "tuple"),none,(.seq #[(.str "_law_number" 313),(.str "_law_long" 314),(.str "_law_word" 315),(.str "_law_k" 316)] 0),#[]⟩) ::
 (nat_lit 101,eT) ::
 (nat_lit 103,eC "_law_spelled" 310 311 312 94 2 3 98 99 (.ref 100) (.ref 101) 102 317 318) ::
 (nat_lit 104,⟨(.type "function"),none,(.func (PySem.W.fnOf "_law_spelled" "_law_spelled" (Z0q (top 21)) (Z0p (top 21)) (Z06 (top 21)) .none .none .none (.str "law_likepieces_k13_alike_or_not" 281) none (.ref 103) .none)),#[]⟩) ::
 (nat_lit 105,eT) ::
 (nat_lit 107,⟨(.type "tuple"),none,(.seq #[(.str "_law_feed_here" 323),(.str "_law_taken" 324),(.str "_law_words" 325),(.str "_law_way" 326),(.str "_law_long" 327),(.str "_law_number" 328),(.str "_law_name_here" 329),(.str "_law_word" 330),(.str "_law_at" 331)] 0),#[]⟩) ::
 (nat_lit 108,eT) ::
 (nat_lit 110,eC "_law_name" 320 321 322 100 2 3 105 106 (.ref 107) (.ref 108) 109 332 333) ::
 (nat_lit 111,⟨(.type "function"),none,(.func (PySem.W.fnOf "_law_name" "_law_name" (Z0q (top 22)) (Z0p (top 22)) (Z06 (top 22)) .none .none .none (.str "law_likepieces_k13_alike_or_not" 281) none (.ref 110) .none)),#[]⟩) ::
 (nat_lit 112,eT) ::
 (nat_lit 114,⟨(.type "tuple"),none,(.seq #[(.str "_law_feed_here" 338),(.str "_law_many" 339),(.str "_law_names_here" 340),(.str "_law_k" 341)] 0),#[]⟩) ::
 (nat_lit 115,eT) ::
 (nat_lit 117,eC "_law_names" 335 336 337 122 2 3 112 113 (.ref 114) (.ref 115) 116 342 343) ::
 (nat_lit 118,⟨(.type "function"),none,(.func (PySem.W.fnOf "_law_names" "_law_names" (Z0q (top 23)) (Z0p (top 23)) (Z06 (top 23)) .none .none .none (.str "law_likepieces_k13_alike_or_not" 281) none (.ref 117) .none)),#[]⟩) ::
 (nat_lit 119,eT) ::
 (nat_lit 122,eC "_law_parts" 345 346 347 127 1 3 119 120 .none .none 121 348 349) ::
 (nat_lit 123,⟨(.type "function"),none,(.func (PySem.W.fnOf "_law_parts" "_law_parts" (Z0q (top 24)) (Z0p (top 24)) (Z06 (top 24)) .none .none .none (.str "law_likepieces_k13_alike_or_not" 281) none (.ref 122) .none)),#[]⟩) ::
 (nat_lit 124,eT) ::
 (nat_lit 127,eC "_law_with" 351 352 353 129 2 3 124 125 .none .none 126 354 355) ::
 (nat_lit 128,⟨(.type "function"),none,(.func (PySem.W.fnOf "_law_with" "_law_with" (Z0q (top 25)) (Z0p (top 25)) (Z06 (top 25)) .none .none .none (.str "law_likepieces_k13_alike_or_not" 281) none (.ref 127) .none)),#[]⟩) ::
 (nat_lit 129,eT) ::
 (nat_lit 132,eC "_law_nodes" 357 358 359 131 1 3 129 130 .none .none 131 360 361) ::
 (nat_lit 133,⟨(.type "function"),none,(.func (PySem.W.fnOf "_law_nodes" "_law_nodes" (Z0q (top 26)) (Z0p (top 26)) (Z06 (top 26)) .none .none .none (.str "law_likepieces_k13_alike_or_not" 281) none (.ref 132) .none)),#[]⟩) ::
 (nat_lit 134,eT) ::
 (nat_lit 137,eC "_law_work" 363 364 365 133 2 3 134 135 .none .none 136 366 367) ::
 (nat_lit 138,⟨(.type "function"),none,(.func (PySem.W.fnOf "_law_work" "_law_work" (Z0q (top 27)) (Z0p (top 27)) (Z06 (top 27)) .none .none .none (.str "law_likepieces_k13_alike_or_not" 281) none (.ref 137) .none)),#[]⟩) ::
 (nat_lit 139,eT) ::
 (nat_lit 142,eC "_law_right" 369 370 371 140 2 3 139 140 .none .none 141 372 373) ::
 (nat_lit 143,⟨(.type "function"),none,(.func (PySem.W.fnOf "_law_right" "_law_right" (Z0q (top 28)) (Z0p (top 28)) (Z06 (top 28)) .none .none .none (.str "law_likepieces_k13_alike_or_not" 281) none (.ref 142) .none)),#[]⟩) ::
 (nat_lit 144,eT) ::
 (nat_lit 146,⟨(.type "tuple"),none,(.seq #[(.str "_law_feed_here" 378),(.str "_law_world_here" 379),(.str "_law_bound_here" 380),(.str "_law_way" 381),(.str "_law_some" 382)] 0),#[]⟩) ::
 (nat_lit 147,eT) ::
 (nat_lit 149,eC "_law_leaf" 375 376 377 146 3 3 144 145 (.ref 146) (.ref 147) 148 383 384) ::
 (nat_lit 150,⟨(.type "function"),none,(.func (PySem.W.fnOf "_law_leaf" "_law_leaf" (Z0q (top 29)) (Z0p (top 29)) (Z06 (top 29)) .none .none .none (.str "law_likepieces_k13_alike_or_not" 281) none (.ref 149) .none)),#[]⟩) ::
 (nat_lit 151,eT) ::
 (nat_lit 154,eC "_law_turned" 386 387 388 154 3 3 151 152 .none .none 153 389 390) ::
 (nat_lit 155,⟨(.type "function"),none,(.func (PySem.W.fnOf "_law_turned" "_law_turned" (Z0q (top 30)) (Z0p (top 30)) (Z06 (top 30)) .none .none .none (.str "law_likepieces_k13_alike_or_not" 281) none (.ref 154) .none)),#[]⟩) ::
 (nat_lit 156,eT) ::
 (nat_lit 158,⟨(.type "tuple"),none,(.seq #[(.str "_law_e" 395),(.str "_law_at" 396),(.str "_law_leaf_here" 397),(.str "_law_inner" 398),(.str "_law_k" 399),(.str "_law_long" 400)] 0),#[]⟩) ::
 (nat_lit 159,eT) ::
 (nat_lit 161,eC "_law_spoilt" 392 393 394 158 3 3 156 157 (.ref 158) (.ref 159) 160 401 402) ::
 (nat_lit 162,⟨(.type "function"),none,(.func (PySem.W.fnOf "_law_spoilt" "_law_spoilt" (Z0q (top 31)) (Z0p (top 31)) (Z06 (top 31)) .none .none .none (.str "law_likepieces_k13_alike_or_not" 281) none (.ref 161) .none)),#[]⟩) ::
 (nat_lit 163,eT) ::
 (nat_lit 166,eC "_law_copied" 404 405 406 169 5 3 163 164 .none .none 165 407 408) ::
 (nat_lit 167,⟨(.type "function"),none,(.func (PySem.W.fnOf "_law_copied" "_law_copied" (Z0q (top 32)) (Z0p (top 32)) (Z06 (top 32)) .none .none .none (.str "law_likepieces_k13_alike_or_not" 281) none (.ref 166) .none)),#[]⟩) ::
 (nat_lit 168,eT) ::
 (nat_lit 171,eC "_law_bound" 410 411 412 187 6 3 168 169 .none .none 170 413 414) ::
 (nat_lit 172,⟨(.type "function"),none,(.func (PySem.W.fnOf "_law_bound" "_law_bound" (Z0q (top 33)) (Z0p (top 33)) (Z06 (top 33)) .none .none .none (.str "law_likepieces_k13_alike_or_not" 281) none (.ref 171) .none)),#[]⟩) ::
 (nat_lit 173,eT) ::
 (nat_lit 176,eC "_law_called" 416 417 418 198 5 3 173 174 .none .none 175 419 420) ::
 (nat_lit 177,⟨(.type "function"),none,(.func (PySem.W.fnOf "_law_called" "_law_called" (Z0q (top 34)) (Z0p (top 34)) (Z06 (top 34)) .none .none .none (.str "law_likepieces_k13_alike_or_not" 281) none (.ref 176) .none)),#[]⟩) ::
 (nat_lit 178,eT) ::
 (nat_lit 181,eC "_law_expr" 422 423 424 207 5 3 178 179 .none .none 180 425 426) ::
 (nat_lit 182,⟨(.type "function"),none,(.func (PySem.W.fnOf "_law_expr" "_law_expr" (Z0q (top 35)) (Z0p (top 35)) (Z06 (top 35)) .none .none .none (.str "law_likepieces_k13_alike_or_not" 281) none (.ref 181) .none)),#[]⟩) ::
 (nat_lit 183,eT) ::
 (nat_lit 185,⟨(.type "tuple"),none,(.seq #[(.str "_law_names_here" 431),(.str "_law_lets" 432),(.str "_law_functions" 433),(.str "_law_works" 434),(.str "_law_room" 435),(.str "_law_toil" 436)] 0),#[]⟩) ::
 (nat_lit 186,eT) ::
 (nat_lit 188,eC "_law_world" 428 429 430 234 6 3 183 184 (.ref 185) (.ref 186) 187 437 438) ::
 (nat_lit 189,⟨(.type "function"),none,(.func (PySem.W.fnOf "_law_world" "_law_world" (Z0q (top 36)) (Z0p (top 36)) (Z06 (top 36)) .none .none .none (.str "law_likepieces_k13_alike_or_not" 281) none (.ref 188) .none)),#[]⟩) ::
 (nat_lit 190,eT) ::
 (nat_lit 192,⟨(.type "tuple"),none,(.seq #[(.str "_law_feed_here" 443),(.str "_law_world_here" 444),(.str "_law_many" 445),(.str "_law_found" 446),(.str "_law_k" 447),(.str "_law_small" 448)] 0),#[]⟩) ::
 (nat_lit 193,eT) ::
 (nat_lit 195,eC "_law_seeds" 440 441 442 236 3 3 190 191 (.ref 192) (.ref 193) 194 449 450) ::
 (nat_lit 196,⟨(.type "function"),none,(.func (PySem.W.fnOf "_law_seeds" "_law_seeds" (Z0q (top 37)) (Z0p (top 37)) (Z06 (top 37)) .none .none .none (.str "law_likepieces_k13_alike_or_not" 281) none (.ref 195) .none)),#[]⟩) ::
 (nat_lit 197,eT) ::
 (nat_lit 200,eC "_law_shaped" 452 453 454 245 3 3 197 198 .none .none 199 455 456) ::
 (nat_lit 201,⟨(.type "function"),none,(.func (PySem.W.fnOf "_law_shaped" "_law_shaped" (Z0q (top 38)) (Z0p (top 38)) (Z06 (top 38)) .none .none .none (.str "law_likepieces_k13_alike_or_not" 281) none (.ref 200) .none)),#[]⟩) ::
 (nat_lit 202,eT) ::
 (nat_lit 205,eC "_law_due" 458 459 460 257 2 3 202 203 .none .none 204 461 462) ::
 (nat_lit 206,⟨(.type "function"),none,(.func (PySem.W.fnOf "_law_due" "_law_due" (Z0q (top 39)) (Z0p (top 39)) (Z06 (top 39)) .none .none .none (.str "law_likepieces_k13_alike_or_not" 281) none (.ref 205) .none)),#[]⟩) ::
 (nat_lit 207,eT) ::
 (nat_lit 209,⟨(.type "tuple"),none,(.seq #[(.str "_law_e" 467),(.str "_law_found" 468),(.str "_law_one" 469)] 0),#[]⟩) ::
 (nat_lit 210,eT) ::
 (nat_lit 212,eC "_law_all" 464 465 466 263 1 3 207 208 (.ref 209) (.ref 210) 211 470 471) ::
 (nat_lit 213,⟨(.type "function"),none,(.func (PySem.W.fnOf "_law_all" "_law_all" (Z0q (top 40)) (Z0p (top 40)) (Z06 (top 40)) .none .none .none (.str "law_likepieces_k13_alike_or_not" 281) none (.ref 212) .none)),#[]⟩) ::
 (nat_lit 214,eT) ::
 (nat_lit 217,eC "_law_changed" 473 474 475 268 3 3 214 215 .none .none 216 476 477) ::
 (nat_lit 218,⟨(.type "function"),none,(.func (PySem.W.fnOf "_law_changed" "_law_changed" (Z0q (top 41)) (Z0p (top 41)) (Z06 (top 41)) .none .none .none (.str "law_likepieces_k13_alike_or_not" 281) none (.ref 217) .none)),#[]⟩) ::
 (nat_lit 219,eT) ::
 (nat_lit 222,eC "_law_beside" 479 480 481 284 4 3 219 220 .none .none 221 482 483) ::
 (nat_lit 223,⟨(.type "function"),none,(.func (PySem.W.fnOf "_law_beside" "_law_beside" (Z0q (top 42)) (Z0p (top 42)) (Z06 (top 42)) .none .none .none (.str "law_likepieces_k13_alike_or_not" 281) none (.ref 222) .none)),#[]⟩) ::
 (nat_lit 224,eT) ::
 (nat_lit 227,eC "_law_wide" 485 486 487 304 1 3 224 225 .none .none 226 488 489) ::
 (nat_lit 228,⟨(.type "function"),none,(.func (PySem.W.fnOf "_law_wide" "_law_wide" (Z0q (top 43)) (Z0p (top 43)) (Z06 (top 43)) .none .none .none (.str "law_likepieces_k13_alike_or_not" 281) none (.ref 227) .none)),#[]⟩) ::
 (nat_lit 229,eT) ::
 (nat_lit 232,eC "law" 491 492 493 307 1 3 229 230 .none .none 231 494 495) ::
 (nat_lit 233,⟨(.type "function"),none,(.func (PySem.W.fnOf "law" "law" (Z0q (top 44)) (Z0p (top 44)) (Z06 (top 44)) .none .none .none (.str "law_likepieces_k13_alike_or_not" 281) none (.ref 232) .none)),#[]⟩) :: []
def hdA:List Addr:=[2,3,15,18,19,20,23,24,25,28,29,30,32,33,35,36,37,39,40,42,43,44,46,47,49,50,51,53,54,56,57,58,60,61,63,64,65,68,69,70,72,73,75,76,77,79,80,82,83,84,86,87,89,90,91,93,94,96,97,98,100,101,103,104,105,107,108,110,111,112,114,115,117,118,119,122,123,124,127,128,129,132,133,134,137,138,139,142,143,144,146,147,149,150,151,154,155,156,158,159,161,162,163,166,167,168,171,172,173,176,177,178,181,182,183,185,186,188,189,190,192,193,195,196,197,200,201,202,205,206,207,209,210,212,213,214,217,218,219,222,223,224,227,228,229,232,233]
abbrev hdL:List Str:=[]
abbrev hdN:Nat:=2406
abbrev hdH:PySem.W.Hook:=PySem.W.kHook hdK hdA (fun _=>by kernel_rfl)
theorem hdS:PySem.Challenge.rw_likepieces_k13_alike_or_not.wellSaid=true:=by decide+kernel
set_option maxHeartbeats 0 in
open PySem.W.Fast in
theorem hdT:PySem.W.LeftO (PySem.Challenge.rw_likepieces_k13_alike_or_not).row.toRowW.prog hdQ hdL (fun s=>PySem.W.xlAt hdQ [] s&&PySem.W.recOk (PySem.W.RowW.records (PySem.Challenge.rw_likepieces_k13_alike_or_not).row.toRowW) s) (PySem.W.Hook.obs hdH) (PySem.W.Hook.val hdH) hdN:=by
 intro w
 unfold PySem.W.openEnds PySem.W.fencedOpening PySem.W.topFrom
 rw[te10274390034422433532,te1435165496053646825,te14289696077712309145,te14082659384304107361,te4187177175401517315,te14364793385576792824,te8920871248978507458,te5923862056798008813]
 kernel_rfl
end K13
namespace L2
open PySem PySem.Spec PyProof.Rows
abbrev Key:=Sum Int Str
def Zad:Key->Value->Bool
 | .inl k,v=>Value.isInt k v
 | .inr x,v=>Value.isStrOf x v
def Zpc (w:World):Key->Int
 | .inl k=>hashInt k
 | .inr x=>hashStr w x
theorem Z1f:∀{k:Key} {v:Value},Zad k v=true->(∃i t,k=Sum.inl i/\v=Value.int i t)∨(∃x t,k=Sum.inr x/\v=Value.str x t)
 | .inl i,v,h=>by
  obtain⟨t,e⟩:=Value.isInt_shape (k:=i) (v:=v) h
  exact .inl ⟨i,t,rfl,e⟩
 | .inr x,v,h=>by
  obtain⟨t,e⟩:=Value.isStrOf_shape (x:=x) (v:=v) h
  exact .inr ⟨x,t,rfl,e⟩
theorem Zdu (i:Int)(t:Tok):Zad (.inl i) (.int i t)=true:=by simp [Zad,Value.isInt]
theorem Zdv (x:Str)(t:Tok):Zad (.inr x) (.str x t)=true:=by simp [Zad,Value.isStrOf]
theorem Zlj (a b:Int):decide ((Sum.inl a:Key)=Sum.inl b)=(a==b):=by
 by_cases e:a=b
 ·subst e;simp
 ·have h:¬ (Sum.inl a:Key)=Sum.inl b:=fun q=>e (Sum.inl.inj q)
  rw[decide_eq_false h]
  exact(beq_eq_false_iff_ne.mpr e).symm
theorem Zlk (a b:Str):decide ((Sum.inr a:Key)=Sum.inr b)=decide (a=b):=by
 by_cases e:a=b
 ·subst e;simp
 ·have h:¬ (Sum.inr a:Key)=Sum.inr b:=fun q=>e (Sum.inr.inj q)
  rw[decide_eq_false h,decide_eq_false e]
theorem Zll (a:Int)(b:Str):decide ((Sum.inl a:Key)=Sum.inr b)=false:=decide_eq_false (fun q=>nomatch q)
theorem Zlm (a:Str)(b:Int):decide ((Sum.inr a:Key)=Sum.inl b)=false:=decide_eq_false (fun q=>nomatch q)
def Z0w (prog:Program)(w:World):PySem.KeyKind prog w Key where
 is:=Zad
 hash:=Zpc w
 inj:=fun v a b ha hb=>by
  rcases Z1f ha with ⟨i,t,rfl,rfl⟩|⟨x,t,rfl,rfl⟩
  ·rcases Z1f hb with ⟨j,u,rfl,e⟩|⟨y,u,rfl,e⟩
   ·injection e with e1 _;rw[e1]
   ·exact nomatch e
  ·rcases Z1f hb with ⟨j,u,rfl,e⟩|⟨y,u,rfl,e⟩
   ·exact nomatch e
   ·injection e with e1 _;rw[e1]
 byValue:=fun k v h=>by
  rcases Z1f h with ⟨i,t,rfl,rfl⟩|⟨x,t,rfl,rfl⟩ <;> rfl
 pyHash:=fun hv h=>by
  rcases Z1f hv with ⟨i,t,rfl,rfl⟩|⟨x,t,rfl,rfl⟩
  ·exact wpAny_pyHash_int h
  ·exact wpAny_pyHash_str h
 eqBool:=fun hu hv h=>by
  rcases Z1f hu with ⟨i,t,rfl,rfl⟩|⟨x,t,rfl,rfl⟩
  ·rcases Z1f hv with ⟨j,u,rfl,rfl⟩|⟨y,u,rfl,rfl⟩
   ·rw[Zlj] at h;exact wpAny_eqBool_int h
   ·rw[Zll] at h;exact SeqAt.EqAt.int_str i t y u _ _ _ _ h
  ·rcases Z1f hv with ⟨j,u,rfl,rfl⟩|⟨y,u,rfl,rfl⟩
   ·rw[Zlm] at h;exact SeqAt.EqAt.str_int x t j u _ _ _ _ h
   ·rw[Zlk] at h;exact wpAny_eqBool_str h
 «strs» := fun k x t v h => by
  rcases Z1f h with ⟨i,u,rfl,e⟩|⟨y,u,rfl,e⟩
  ·exact nomatch e
  ·injection e with e1 _
   subst e1
   cases v <;> rfl
theorem Zae (prog:Program)(w:World)(i:Int)(t:Tok):(Z0w prog w).is (.inl i) (.int i t)=true:=Zdu i t
theorem Zaf (prog:Program)(w:World)(x:Str)(t:Tok):(Z0w prog w).is (.inr x) (.str x t)=true:=Zdv x t
inductive V where
 |non|bl (b:Bool)|int (i:Int)|str (x:Str)|byt (b:Array UInt8)|flt (b:UInt64)|ref (a:Addr)|ty (n:String)
 deriving DecidableEq
def RelV:V->Value->Prop
 | .non,u=>u=Value.none
 | .bl b,u=>u=Value.bool b
 | .int i,u=>∃t,u=Value.int i t
 | .str x,u=>∃t,u=Value.str x t
 | .byt b,u=>∃t,u=Value.bytes b t
 | .flt b,u=>∃t,u=Value.float b t
 | .ref a,u=>u=Value.ref a
 | .ty n,u=>u=Value.type n
abbrev Vals:List V->List Value->Prop:=Paired RelV
theorem Vals.length {xs:List V}{us:List Value}(r:Vals xs us):xs.length=us.length:=Paired.length r
theorem Vals.get:∀{xs:List V} {us:List Value} {i:Nat} {x:V},Vals xs us->xs[i]? = some x->∃u,us[i]? = some u/\RelV x u
 |_,_,_,_,.nil,e=>by simp at e
 |_,_,0,_,.cons r _,e=>by simp at e;subst e;exact⟨_,rfl,r⟩
 |_,_,i+1,x,.cons _ t,e=>by
  obtain⟨u,h1,h2⟩:=Vals.get (i:=i) (x:=x) t (by simpa using e)
  exact⟨u,by simpa using h1,h2⟩
theorem Vals.set {x:V}{u:Value}(r:RelV x u):∀{xs:List V} {us:List Value} (i:Nat),Vals xs us->Vals (xs.set i x) (us.set i u)
 |_,_,_,.nil=>.nil
 |_,_,0,.cons _ t=>.cons r t
 |_,_,i+1,.cons q t=>.cons q (Vals.set r i t)
theorem Vals.append:∀{xs ys:List V} {us ws:List Value},Vals xs us->Vals ys ws->Vals (xs++ys) (us++ws)
 |_,_,_,_,.nil,s=>s
 |_,_,_,_,.cons r t,s=>.cons r (Vals.append t s)
theorem Vals.take:∀{xs:List V} {us:List Value} (n:Nat),Vals xs us->Vals (xs.take n) (us.take n)
 |_,_,0,_=>.nil
 |_,_,_+1,.nil=>.nil
 |_,_,n+1,.cons r t=>.cons r (Vals.take n t)
theorem Vals.drop:∀{xs:List V} {us:List Value} (n:Nat),Vals xs us->Vals (xs.drop n) (us.drop n)
 |_,_,0,r=>r
 |_,_,_+1,.nil=>.nil
 |_,_,n+1,.cons _ t=>Vals.drop n t
def RelO:Option V->Option Value->Prop
 |some v,some u=>RelV v u
 |none,none=>True
 |_,_=>False
def KV {κ : Type}:List (κ × V)->List (κ × Value)->Prop:=Paired fun(p : κ × V) (q : κ × Value)=>p.1=q.1/\RelV p.2 q.2
def kV:Key->V
 | .inl i=>.int i
 | .inr x=>.str x
inductive HO where
 |lst (xs:List V)
 |tup (xs:List V)
 |dK (kvs:List (Key×V))|dT (kvs:List (List Key×V))
 |set (S:Int->Bool) (n:Nat)
 |ins (C dx:Addr) (fs:List (Str×V))
 |own (x:Addr)
 |xd (fs:List (Str×V))
 |met (f x:Addr)
 |rng (lo hi:Int)
 |frz (o:Obj) (u:HO)
 |tbl (ps:Array Value)
 |ext (φ : Heap->Prop)
abbrev Hp:=Addr->Option HO
def upd (H:Hp)(a:Addr)(o:HO):Hp:=fun b=>if b=a then some o else H b
theorem Z00 {H:Hp}{a:Addr}{o:HO}:upd H a o a=some o:=by unfold upd;rw[if_pos rfl]
theorem Z09 {H:Hp}{a b:Addr}{o:HO}(h:b≠a):upd H a o b=H b:=by unfold upd;rw[if_neg h]
theorem Zdw {H:Hp}{a:Addr}{o u:HO}:upd (upd H a o) a u=upd H a u:=by
 funext b;unfold upd;split <;> rfl
theorem Z3k {H:Hp}{a b:Addr}{o u:HO}(h:H a=some o)(h':H b=some u)(d:o≠u):a≠b:=by
 intro e;subst e;rw[h] at h';exact d (Option.some.inj h')
theorem Z0e {H:Hp}{a b:Addr}{o:HO}(h:H a=some o)(h':H b=none):a≠b:=by
 intro e;subst e;rw[h] at h';cases h'
section
variable (P:Program)(w:World)
def ObjOk (H:Hp)(h:Heap)(a:Addr):HO->Prop
 | .lst xs=>xs.length<=sizeLine/\∃(its:List Value) (n:Nat),Vals xs its/\h.get? a=some { cls:=.type "list",data:=.seq its.toArray n }
 | .tup xs=>xs.length<=sizeLine/\∃its:List Value,Vals xs its/\IsTup h a its.toArray
 | .dK kvs=>kvs.length<=sizeLine/\(a==sysModules)=false/\∃vs,KV kvs vs/\h.DictOf (Z0w P w) a vs
 | .dT kvs=>kvs.length<=sizeLine/\(a==sysModules)=false/\∃xs:List (List Key×Addr×Value),
   Paired (fun(p:List Key×V) (q:List Key×Addr×Value)=>p.1=q.1/\H q.2.1=some (.tup (p.1.map kV))/\RelV p.2 q.2.2) kvs xs ∧
   ∃o es ep,h.get? a=some o/\o.ExactDict/\o.data = .dict es ep/\es.toList=xs.map (entryOfKey (tupleKind (Z0w P w)))/\(xs.map (·.1)).Nodup
 | .set S n=>h.SetOf (intKind P w) a S n
 | .ins C dx fs=>H dx=some (.own a)/\fs.length<=1000/\dx≠a/\h.get? a=some (PySem.W.instObj C dx) ∧
   ∃mA,h.Ns1 dx mA/\(∀f,RelO (fs.lookup f) (mA f))/\PySem.Within mA (fs.map (·.1))
 | .own _=>∃o,h.get? a=some o
 | .xd fs=>∃mA,h.Ns1 a mA/\∀f,RelO (fs.lookup f) (mA f)
 | .rng lo hi=>∃t u v,h.get? a=some { cls:=.type "range",data:=.fields #[.int lo t,.int hi u,.int 1 v] }
 | .frz o u=>h.get? a=some o/\ObjOk H h a u
 | .tbl ps=>h.get? a=some { cls:=.none,data:=.fields ps }
 | .met f x=>h.get? a=some (PySem.W.methodObj (.ref f) (.ref x))
 | .ext φ => φ h/\(∃o,h.get? a=some o)/\∀h1 h2:Heap,φ h1->(∀o,h1.get? a=some o->h2.get? a=some o) -> φ h2
def HOk (H:Hp)(h:Heap):Prop:=∀a o,H a=some o->ObjOk P w H h a o
end
section
variable {P:Program}{w:World}{H H':Hp}{h h':Heap}{a:Addr}{o:HO}
theorem ObjOk.lt (x:ObjOk P w H h a o):a<h.objs.size:=by
 cases o with
 |lst xs=>obtain⟨_,_,_,_,e⟩:=x;exact Heap.lt_size e
 |tup xs=>obtain⟨_,_,_,p⟩:=x;exact p.lt
 |dK kvs=>obtain⟨_,_,_,_,o,_,_,e,_⟩:=x;exact Heap.lt_size e
 |dT kvs=>obtain⟨_,_,_,_,o,_,_,e,_⟩:=x;exact Heap.lt_size e
 |set S n=>obtain⟨o,_,_,_,e,_⟩:=x;exact Heap.lt_size e
 |ins C dx fs=>obtain⟨_,_,_,e,_⟩:=x;exact Heap.lt_size e
 |own y=>obtain⟨_,e⟩:=x;exact Heap.lt_size e
 |xd fs=>obtain⟨_,⟨_,_,_,e,_⟩,_⟩:=x;exact Heap.lt_size e
 |rng lo hi=>obtain⟨_,_,_,e⟩:=x;exact Heap.lt_size e
 |frz ob u=>obtain⟨e,_⟩:=x;exact Heap.lt_size e
 |tbl ps=>exact Heap.lt_size (show h.get? a=some _ from x)
 |met f y=>exact Heap.lt_size (show h.get? a=some _ from x)
 |ext φ => obtain⟨_,⟨_,e⟩,_⟩:=x;exact Heap.lt_size e
theorem Paired.mapP {α β : Type}{F G : α -> β -> Prop}:∀{l₁:List α} {l₂:List β},Paired F l₁ l₂->(∀a b,F a b->G a b)->Paired G l₁ l₂
 |_,_,.nil,_=>.nil
 |_,_,.cons r t,f=>.cons (f _ _ r) (Paired.mapP t f)
theorem ObjOk.stay (x:ObjOk P w H h a o)(k:∀b u,(b=a∨H b=some (.own a))->h.get? b=some u->h'.get? b=some u)
  (ho:∀b,H b=some (.own a)->H' b=some (.own a)) (ht:∀b xs,H b=some (.tup xs)->H' b=some (.tup xs)):ObjOk P w H' h' a o:=by
 induction o with
 |lst xs=>obtain⟨z,its,n,r,e⟩:=x;exact⟨z,its,n,r,k _ _ (.inl rfl) e⟩
 |tup xs=>obtain⟨z,its,r,ob,e,c⟩:=x;exact⟨z,its,r,ob,k _ _ (.inl rfl) e,c⟩
 |dK kvs=>obtain⟨z,y,vs,r,ob,es,ep,e,c⟩:=x;exact⟨z,y,vs,r,ob,es,ep,k _ _ (.inl rfl) e,c⟩
 |dT kvs=>
  obtain⟨z,y,xs,r,ob,es,ep,e,c⟩:=x
  exact⟨z,y,xs,Paired.mapP r fun p q z=>⟨z.1,ht _ _ z.2.1,z.2.2⟩,ob,es,ep,k _ _ (.inl rfl) e,c⟩
 |set S n=>obtain⟨ob,es,ep,t,e,c⟩:=x;exact⟨ob,es,ep,t,k _ _ (.inl rfl) e,c⟩
 |ins C dx fs=>
  obtain⟨d,z,ne,e,mA,⟨od,es,ep,e2,c⟩,r⟩:=x
  exact⟨ho _ d,z,ne,k _ _ (.inl rfl) e,mA,⟨od,es,ep,k _ _ (.inr d) e2,c⟩,r⟩
 |own y=>obtain⟨ob,e⟩:=x;exact⟨ob,k _ _ (.inl rfl) e⟩
 |xd fs=>obtain⟨mA,⟨od,es,ep,e,c⟩,r⟩:=x;exact⟨mA,⟨od,es,ep,k _ _ (.inl rfl) e,c⟩,r⟩
 |rng lo hi=>obtain⟨t,u,v,e⟩:=x;exact⟨t,u,v,k _ _ (.inl rfl) e⟩
 |frz ob u ih=>obtain⟨e,q⟩:=x;exact⟨k _ _ (.inl rfl) e,ih q⟩
 |tbl ps=>
  have e:h.get? a=some { cls:=.none,data:=.fields ps }:=x
  show h'.get? a=some { cls:=.none,data:=.fields ps }
  exact k a _ (.inl rfl) e
 |met f y=>
  have e:h.get? a=some (PySem.W.methodObj (.ref f) (.ref y)):=x
  show h'.get? a=some (PySem.W.methodObj (.ref f) (.ref y))
  exact k a _ (.inl rfl) e
 |ext φ => obtain⟨p,⟨o,e⟩,st⟩:=x;exact⟨st _ _ p fun o q=>k _ _ (.inl rfl) q,⟨o,k _ _ (.inl rfl) e⟩,st⟩
theorem HOk.lt (x:HOk P w H h)(e:H a=some o):a<h.objs.size:=(x a o e).lt
theorem HOk.fresh (x:HOk P w H h)(e:h.objs.size<=a):H a=none:=by
 cases q:H a with
 |none=>rfl
 |some u=>exact absurd (Nat.lt_of_lt_of_le (x.lt q) e) (Nat.lt_irrefl _)
theorem HOk.kept (x:HOk P w H h)(k:∀b u,h.get? b=some u->h'.get? b=some u):HOk P w H h':=fun a o e=>
 (x a o e).stay (fun b u _ q=>k b u q) (fun _ q=>q) fun _ _ q=>q
theorem HOk.laid (x:HOk P w H h)(k:∀b u,h.get? b=some u->h'.get? b=some u)(hp:h.objs.size<=a)(new:ObjOk P w (upd H a o) h' a o):HOk P w (upd H a o) h':=fun b u e=>by
 have hn:=x.fresh hp
 by_cases hb:b=a
 ·subst hb;rw[Z00] at e;cases e;exact new
 ·rw[Z09 hb] at e
  exact(x b u e).stay (fun c v _ q=>k c v q) (fun c q=>by rw[Z09 (Z0e q hn)];exact q) fun c xs q=>by rw[Z09 (Z0e q hn)];exact q
end
def Rd (H:Hp)(a:Addr)(u:HO):Prop:=H a=some u∨∃o,H a=some (.frz o u)
theorem Rd.of {H:Hp}{a:Addr}{u:HO}(h:H a=some u):Rd H a u:=.inl h
theorem Rd.ok {P:Program}{w:World}{H:Hp}{h:Heap}{a:Addr}{u:HO}(r:Rd H a u)(x:HOk P w H h):ObjOk P w H h a u:=by
 rcases r with r|⟨o,r⟩
 ·exact x a u r
 ·obtain⟨_,q⟩:=x a _ r
  exact q
def Mut:Option HO->Prop
 |some (.lst _)=>True
 |some (.dK _)=>True
 |some (.dT _)=>True
 |some (.set _ _)=>True
 |some (.ins _ _ _)=>True
 |some (.ext _)=>True
 |_=>False
section
variable {P:Program}{w:World}{H:Hp}{h h':Heap}{x e:Addr}{o':HO}
theorem HOk.write (ok:HOk P w H h)(mu:Mut (H x))(he:e=x∨H e=some (.own x))(k:∀b u,b≠e->h.get? b=some u->h'.get? b=some u)(heo:∃u,h'.get? e=some u)
  (new:ObjOk P w (upd H x o') h' x o'):HOk P w (upd H x o') h':=fun b u q=>by
 have nown:∀c y,H c=some (.own y)->c≠x:=fun c y r z=>by subst z;rw[r] at mu;exact mu
 have ntup:∀c xs,H c=some (.tup xs)->c≠x:=fun c xs r z=>by subst z;rw[r] at mu;exact mu
 by_cases hb:b=x
 ·subst hb;rw[Z00] at q;cases q;exact new
 ·rw[Z09 hb] at q
  by_cases hbe:b=e
  ·have q':H b=some (.own x):=by
    rcases he with z|z
    ·exact absurd (hbe.trans z) hb
    ·rw[hbe];exact z
   rw[q] at q';cases q'
   obtain⟨v,hv⟩:=heo
   exact⟨v,by rw[hbe];exact hv⟩
  ·refine(ok b u q).stay (fun c v hc r=>k c v ?_ r) (fun c r=>by rw[Z09 (nown c b r)];exact r) fun c xs r=>by rw[Z09 (ntup c xs r)];exact r
   rcases hc with rfl|hc
   ·exact hbe
   ·rintro rfl
    rcases he with z|z
    ·exact nown c b hc z
    ·rw[hc] at z;cases z;exact hb rfl
end
structure Un (fs ex:List Addr)(H H':Hp)(h h':Heap):Prop where
 keep:∀b o,h.get? b=some o->H b=none->b∉fs->b∉ex->h'.get? b=some o
 slot:∀b o,h.get? b=some o->H b=none->b∈fs->b∉ex->∃sl,h'.get? b=some { o with slots:=sl }
 free:∀b o,h.get? b=some o->H b=none->b∉ex->H' b=none
 there:∀b o,h.get? b=some o->b∉ex->∃o',h'.get? b=some o'
 tups:∀b xs,H b=some (.tup xs)->H' b=some (.tup xs)
 frzs:∀b o u,H b=some (.frz o u)->H' b=some (.frz o u)
 tbls:∀b ps,H b=some (.tbl ps)->∃more,H' b=some (.tbl (ps++more))
section
variable {fs fs' ex ex':List Addr}{H H1 H2:Hp}{h h1 h2 h':Heap}{a x e:Addr}{o:HO}
theorem Un.any (u:Un fs ex H H1 h h1){b:Addr}{ob:Obj}(q:h.get? b=some ob)(n:H b=none)(hx:b∉ex):∃sl,h1.get? b=some { ob with slots:=sl }:=by
 by_cases hb:b∈fs
 ·exact u.slot b ob q n hb hx
 ·exact⟨ob.slots,u.keep b ob q n hb hx⟩
theorem Un.kept (k:∀b u,h.get? b=some u->h'.get? b=some u):Un fs ex H H h h':=
 ⟨fun b ob q _ _ _=>k b ob q,fun b ob q _ _ _=>⟨ob.slots,k b ob q⟩,fun _ _ _ n _=>n,fun b ob q _=>⟨ob,k b ob q⟩,fun _ _ q=>q,fun _ _ _ q=>q,fun _ ps q=>⟨#[],by rw[q];simp⟩⟩
theorem Un.refl:Un fs ex H H h h:=Un.kept fun _ _ q=>q
theorem Un.laid (k:∀b u,h.get? b=some u->h'.get? b=some u)(hp:h.objs.size<=a)(hn:H a=none):Un fs ex H (upd H a o) h h' where
 keep:=fun b u q _ _ _=>k b u q
 slot:=fun b u q _ _ _=>⟨u.slots,k b u q⟩
 free:=fun b u q n _=>by rw[Z09 (Nat.ne_of_lt (Nat.lt_of_lt_of_le (Heap.lt_size q) hp))];exact n
 there:=fun b u q _=>⟨u,k b u q⟩
 tups:=fun b xs q=>by rw[Z09 (Z0e q hn)];exact q
 frzs:=fun b u xs q=>by rw[Z09 (Z0e q hn)];exact q
 tbls:=fun b ps q=>⟨#[],by rw[Z09 (Z0e q hn),q];simp⟩
theorem Un.write (mu:Mut (H x))(he:e=x∨H e=some (.own x))(k:∀b u,b≠e->h.get? b=some u->h'.get? b=some u)(heo:∃u,h'.get? e=some u):Un fs ex H (upd H x o) h h':=by
 have hx:∀b,H b=none->b≠x:=fun b n z=>by subst z;rw[n] at mu;exact mu
 have hb:∀b,H b=none->b≠e:=fun b n z=>by
  subst z
  rcases he with r|r
  ·exact hx b n r
  ·rw[n] at r;cases r
 have hm:∀b u,H b=some u->¬Mut (some u)->b≠x:=fun b u q nm z=>by subst z;rw[q] at mu;exact nm mu
 refine⟨fun b u q n _ _=>k b u (hb b n) q,fun b u q n _ _=>⟨u.slots,k b u (hb b n) q⟩,fun b u q n _=>by rw[Z09 (hx b n)];exact n,fun b u q _=>?_,
  fun b xs q=>by rw[Z09 (hm b _ q fun z=>z)];exact q,fun b u xs q=>by rw[Z09 (hm b _ q fun z=>z)];exact q,fun b ps q=>⟨#[],by rw[Z09 (hm b _ q fun z=>z),q];simp⟩⟩
 by_cases hbe:b=e
 ·subst hbe;exact heo
 ·exact⟨u,k b u hbe q⟩
end
def trk (h:Heap)(H:Hp):List Addr:=(List.range h.objs.size).filter fun a=>(H a).isSome
def Zgr (h:Heap)(H:Hp):Heap:=PySem.W.hideAll h (trk h H)
theorem Zdx (h:Heap)(H:Hp):(Zgr h H).objs.size=h.objs.size:=PySem.W.hideAll_size _ _
theorem Zgs {h:Heap}{H:Hp}{b:Addr}{o:Obj}(e:h.get? b=some o)(n:H b=none):(Zgr h H).get? b=some o:=
 PySem.W.hideAll_get _ e fun hm=>by
  have q:(H b).isSome=true:=(mem_filter.mp hm).2
  rw[n] at q;simp at q
theorem Zji {h:Heap}{H:Hp}{b:Addr}{o:Obj}(e:(Zgr h H).get? b=some o):h.get? b=some o/\H b=none:=by
 have e':h.get? b=some o:=PySem.W.of_hideAll (trk h H) e
 refine⟨e',?_⟩
 cases q:H b with
 |none=>rfl
 |some x=>
  have hm:b∈trk h H:=mem_filter.mpr ⟨mem_range.mpr (Heap.lt_size e'),by simp [q]⟩
  have z:(Zgr h H).get? b=none:=PySem.W.hideAll_none (trk h H) hm
  rw[z] at e;cases e
structure Mod (K:PySem.W.Frag)(mg:Str->Option Value)(base:Heap):Prop where
 kin:K.In base
 glob:base.Ns mainGlobals mg
 blt:∃mb,base.Ns builtinsNs mb/\∀x:Str,x≠"__name__"->mb x=bootBuiltins x
 nolimit:base.NoLimit
structure Cx where
 prog:Program
 w:World
 K:PySem.W.Frag
 mg:Str->Option Value
 base:Heap
 A:Around
 N:List Str
 s₀:Shared
 H₀:Hp
 env:Env
 outer:List Env
 stack:List Env
 ex:List Addr
 fn:Str->Bool
 calm:Bool
 pn:List (Addr×Obj)
 xe:Value->Shared->Prop
def frs (l:List Env):List Addr:=l.filterMap (·.frame)
abbrev Cx.fs (X:Cx):List Addr:=frs X.outer
def Vis (sc:Scope)(x:Str):Prop:=sc.names.lookup x=some .local∨sc.names.lookup x=some .cell∨sc.names.lookup x=some .free
def Loc (sc:Scope)(x:Str):Prop:=sc.names.lookup x=some .local∨sc.names.lookup x=some .cell
def Zpd (env:Env)(h:Heap)(m:Str->Option Value)(x:Str)(u:Value):Prop:=
 (env.kindOf x=some .local/\m x=some u)∨((env.kindOf x=some .cell∨env.kindOf x=some .free)/\∃c,env.cells.lookup x=some c/\h.IsCell c (some u))
structure Cx.Ok (X:Cx):Prop where
 mod:Mod X.K X.mg X.base
 kind:X.env.scope.kind = .function
 glob:X.env.globals=mainGlobals
 blt:X.env.builtins=builtinsNs
 above:X.s₀.heap.objs.size<=X.env.locals
 inj:∀x y c,X.env.cells.lookup x=some c->X.env.cells.lookup y=some c->x=y
 has:∀x,(X.env.kindOf x=some .cell∨X.env.kindOf x=some .free)->∃c,X.env.cells.lookup x=some c
 cab:∀x c,X.fn x=true->X.env.cells.lookup x=some c->X.s₀.heap.objs.size<=c
 hd:X.calm=true->X.A.handled=none
 frames:X.A.frames=some X.stack
 stk:X.stack=X.outer∨(X.stack=X.env::X.outer/\X.env.frame=some X.env.locals)
 exf:∀b∈X.ex,b≠X.env.locals/\∀x c,X.env.cells.lookup x=some c->c≠b
 bs:∀b o,X.base.get? b=some o->X.s₀.heap.get? b=some o/\X.H₀ b=none
 bsz:X.base.objs.size<=X.s₀.heap.objs.size
 noex:∀b o,X.base.get? b=some o->b∉X.ex
 exfs:∀b∈X.ex,b∉X.fs
 funs:X.s₀.heap.FunFrames X.base X.outer
 frf:∀b∈X.fs,X.H₀ b=none
structure Inv (X:Cx)(pins:List (Addr×Obj))(σ:List (Option V))(H:Hp)(s:Shared):Prop where
 ok:X.Ok
 os:s.os=X.s₀.os
 bare:AllBare s.gens
 base:Un X.fs X.ex X.H₀ H X.s₀.heap s.heap
 loc:∃m,s.heap.Ns X.env.locals m/\∀(i:Nat) (x:Str) (v:V),X.N[i]? = some x->σ[i]? = some (some v)->Vis X.env.scope x->∃u,RelV v u/\Zpd X.env s.heap m x u
 cell:∀x c,X.env.cells.lookup x=some c->∃v,s.heap.IsCell c v
 free:H X.env.locals=none
 freeC:∀x c,X.env.cells.lookup x=some c->H c=none
 pin:∀p∈X.pn++pins,s.heap.get? p.1=some p.2/\H p.1=none/\p.1≠X.env.locals/\p.1∉X.fs/\∀v,p.2.data ≠ .cell v
 hok:HOk X.prog X.w H s.heap
 len:σ.length=X.N.length
section
variable {X:Cx}{pins:List (Addr×Obj)}{σ:List (Option V)}{H H':Hp}{s:Shared}{h':Heap}
theorem Cx.Ok.nofr (ok:X.Ok){b:Addr}{o:Obj}(e:X.base.get? b=some o):b∉X.fs:=fun hb=>by
 have:=(ok.funs.mem hb).1
 rw[e] at this;cases this
theorem Inv.bs (I:Inv X pins σ H s):∀b o,X.base.get? b=some o->s.heap.get? b=some o/\H b=none:=fun b o e=>
 ⟨I.base.keep b o (I.ok.bs b o e).1 (I.ok.bs b o e).2 (I.ok.nofr e) (I.ok.noex b o e),I.base.free b o (I.ok.bs b o e).1 (I.ok.bs b o e).2 (I.ok.noex b o e)⟩
theorem Inv.bk (I:Inv X pins σ H s):∀b o,X.base.get? b=some o->s.heap.get? b=some o:=fun b o e=>(I.bs b o e).1
theorem Inv.mod (I:Inv X pins σ H s):Mod X.K X.mg X.base:=I.ok.mod
theorem Inv.kIn (I:Inv X pins σ H s):X.K.In s.heap:=I.ok.mod.kin.keeps I.bk
theorem Inv.lt (I:Inv X pins σ H s):X.env.locals<s.heap.objs.size:=let ⟨_,hn,_⟩:=I.loc;hn.lt
theorem Inv.sz (I:Inv X pins σ H s):X.s₀.heap.objs.size<=s.heap.objs.size:=Nat.le_trans I.ok.above (Nat.le_of_lt I.lt)
theorem Inv.nofs (I:Inv X pins σ H s){a:Addr}(h:s.heap.objs.size<=a):a∉X.fs:=fun hb=>by
 obtain⟨_,o,ho,_⟩:=I.ok.funs.mem hb
 exact absurd (Nat.lt_of_lt_of_le (Heap.lt_size ho) (Nat.le_trans I.sz h)) (Nat.lt_irrefl _)
theorem Inv.cne (I:Inv X pins σ H s):∀x c,X.env.cells.lookup x=some c->c≠X.env.locals:=fun x c e z=>by
 obtain⟨v,o,ho,hd⟩:=I.cell x c e
 obtain⟨m,⟨o',es,ep,ho',hd',_⟩,_⟩:=I.loc
 rw[z,ho'] at ho;cases ho;rw[hd'] at hd;cases hd
theorem Inv.funs (I:Inv X pins σ H s):s.heap.FunFrames X.base X.outer:=by
 have all:∀(l:List Env),(∀b∈frs l,b∈X.fs)->X.s₀.heap.FunFrames X.base l->s.heap.FunFrames X.base l:=by
  intro l
  induction l with
  |nil=>intro _ _;trivial
  |cons env r ih=>
   intro hs hl
   obtain⟨hk,⟨L,o,hf,hn,ho,hd⟩,hr⟩:=hl
   have hL:L∈X.fs:=hs L (by unfold frs;rw[filterMap_cons,hf];exact mem_cons_self)
   obtain⟨sl,e⟩:=I.base.slot L o ho (I.ok.frf L hL) hL fun z=>I.ok.exfs L z hL
   exact⟨hk,⟨L,_,hf,hn,e,hd⟩,ih (fun b hb=>hs b (by unfold frs;rw[filterMap_cons,hf];exact mem_cons_of_mem _ hb)) hr⟩
 exact all X.outer (fun _ hb=>hb) I.ok.funs
theorem Inv.stack (I:Inv X pins σ H s):s.heap.FunFrames X.base X.stack:=by
 rcases I.ok.stk with e|⟨e,hf⟩
 ·rw[e];exact I.funs
 ·rw[e]
  obtain⟨m,hn,_⟩:=I.loc
  refine .cons (by rw[I.ok.kind];decide) hf hn ?_ I.funs
  exact Heap.get?_none_of_le (Nat.le_trans I.ok.bsz I.ok.above)
theorem Inv.stkSub (I:Inv X pins σ H s):∀b∈frs X.stack,b∈X.env.locals::X.fs:=fun b hb=>by
 rcases I.ok.stk with e|⟨e,hf⟩
 ·rw[e] at hb;exact mem_cons_of_mem _ hb
 ·rw[e] at hb
  unfold frs at hb
  rw[filterMap_cons,hf] at hb
  exact hb
theorem Inv.stkFree (I:Inv X pins σ H s):∀b∈frs X.stack,H b=none:=fun b hb=>by
 rcases mem_cons.mp (I.stkSub b hb) with e|hb
 ·rw[e];exact I.free
 ·obtain⟨_,o,ho,_⟩:=I.ok.funs.mem hb
  exact I.base.free b o ho (I.ok.frf b hb) fun z=>I.ok.exfs b z hb
theorem Inv.step {g':Array GenState}{t':Nat}{d':Drawn}{ch:List Addr}(I:Inv X pins σ H s)
  (hch:∀b∈ch,(b∈X.ex∨X.s₀.heap.objs.size<=b)/\b≠X.env.locals/\(∀x c,X.env.cells.lookup x=some c->c≠b)/\∀p∈X.pn++pins,p.1≠b)
  (keep:∀b o,b≠X.env.locals->b∉X.fs->b∉ch->s.heap.get? b=some o->H b=none->h'.get? b=some o)
  (slot:∀b o,b≠X.env.locals->b∈X.fs->b∉ch->s.heap.get? b=some o->H b=none->∃sl,h'.get? b=some { o with slots:=sl }) (free:∀b o,b∉ch->s.heap.get? b=some o->H b=none->H' b=none)
  (there:∀b o,b∉ch->s.heap.get? b=some o->∃o',h'.get? b=some o')
  (tups:∀b xs,H b=some (.tup xs)->H' b=some (.tup xs)) (frzs:∀b o u,H b=some (.frz o u)->H' b=some (.frz o u)) (tbls:∀b ps,H b=some (.tbl ps)->∃more,H' b=some (.tbl (ps++more)))
  (ns:∀m,s.heap.Ns X.env.locals m->h'.Ns X.env.locals m) (hok:HOk X.prog X.w H' h') (hg:AllBare g'):
  Inv X pins σ H' { s with heap:=h',gens:=g',drawn:=d',toks:=t' }:=by
 have neL:∀b o,X.s₀.heap.get? b=some o->b≠X.env.locals:=fun b o e=>Nat.ne_of_lt (Nat.lt_of_lt_of_le (Heap.lt_size e) I.ok.above)
 have neC:∀b o,X.s₀.heap.get? b=some o->b∉X.ex->b∉ch:=fun b o e hx hb=>by
  rcases(hch b hb).1 with z|z
  ·exact hx z
  ·exact absurd (Nat.lt_of_lt_of_le (Heap.lt_size e) z) (Nat.lt_irrefl _)
 have cellK:∀x c,X.env.cells.lookup x=some c->∀v,s.heap.IsCell c v->h'.IsCell c v:=fun x c e v ⟨o,ho,hd⟩=>by
  have nch:c∉ch:=fun z=>(hch c z).2.2.1 x c e rfl
  by_cases hc:c∈X.fs
  ·obtain⟨sl,q⟩:=slot c o (I.cne x c e) hc nch ho (I.freeC x c e)
   exact⟨_,q,hd⟩
  ·exact⟨o,keep c o (I.cne x c e) hc nch ho (I.freeC x c e),hd⟩
 refine⟨I.ok,I.os,hg,⟨fun b o e n hb hx=>?_,fun b o e n hb hx=>?_,fun b o e n hx=>?_,fun b o e hx=>?_,fun b xs e=>tups b xs (I.base.tups b xs e),fun b o xs e=>frzs b o xs (I.base.frzs b o xs e),fun b ps e=>?_⟩,?_,fun x c e=>?_,?_,fun x c e=>?_,fun p hp=>?_,hok,I.len⟩
 ·exact keep b o (neL b o e) hb (neC b o e hx) (I.base.keep b o e n hb hx) (I.base.free b o e n hx)
 ·obtain⟨sl,e1⟩:=I.base.slot b o e n hb hx
  obtain⟨sl',e2⟩:=slot b _ (neL b o e) hb (neC b o e hx) e1 (I.base.free b o e n hx)
  exact⟨sl',e2⟩
 ·obtain⟨o',e1⟩:=I.base.there b o e hx
  exact free b o' (neC b o e hx) e1 (I.base.free b o e n hx)
 ·obtain⟨o',e1⟩:=I.base.there b o e hx
  exact there b o' (neC b o e hx) e1
 ·obtain⟨m1,e1⟩:=I.base.tbls b ps e
  obtain⟨m2,e2⟩:=tbls b _ e1
  exact⟨m1++m2,by rw[e2,Array.append_assoc]⟩
 ·obtain⟨m,hn,hl⟩:=I.loc
  refine⟨m,ns m hn,fun i x v e1 e2 e3=>?_⟩
  obtain⟨u,r,l⟩:=hl i x v e1 e2 e3
  refine⟨u,r,?_⟩
  rcases l with l|⟨k,c,e,z⟩
  ·exact .inl l
  ·exact .inr ⟨k,c,e,cellK x c e _ z⟩
 ·obtain⟨v,z⟩:=I.cell x c e
  exact⟨v,cellK x c e v z⟩
 ·obtain⟨m,⟨o,_,_,ho,_⟩,_⟩:=I.loc
  exact free _ o (fun z=>(hch _ z).2.1 rfl) ho I.free
 ·obtain⟨v,o,ho,hd⟩:=I.cell x c e
  exact free c o (fun z=>(hch c z).2.2.1 x c e rfl) ho (I.freeC x c e)
 ·obtain⟨e,n,ne,nf,d⟩:=I.pin p hp
  have nch:p.1∉ch:=fun z=>(hch p.1 z).2.2.2 p hp rfl
  exact⟨keep p.1 p.2 ne nf nch e n,free p.1 p.2 nch e n,ne,nf,d⟩
theorem Inv.un {t':Nat}(I:Inv X pins σ H s)(u:Un X.fs [] H H' s.heap h')(hok:HOk X.prog X.w H' h'):Inv X pins σ H' { s with heap:=h',toks:=t' }:=by
 obtain⟨m,⟨o,es,ep,ho,r⟩,_⟩:=id I.loc
 obtain⟨sl,hL⟩:=u.any ho I.free (by simp)
 exact I.step (g':=s.gens) (d':=s.drawn) (ch:=[]) (fun _ z=>nomatch z) (fun b o _ hb _ e n=>u.keep b o e n hb (by simp)) (fun b o _ hb _ e n=>u.slot b o e n hb (by simp)) (fun b o _ e n=>u.free b o e n (by simp)) (fun b o _ e=>u.there b o e (by simp)) u.tups u.frzs u.tbls (fun m' hm=>by
  obtain⟨o',es',ep',ho',r'⟩:=hm
  rw[ho] at ho';cases ho'
  exact⟨_,es',ep',hL,r'⟩) hok I.bare
theorem Inv.call {g':Array GenState}{t':Nat}{d':Drawn}{ch:List Addr}(I:Inv X pins σ H s)(u:Un (frs X.stack) ch H H' s.heap h')(hok:HOk X.prog X.w H' h')(hg:AllBare g')
  (hch:∀b∈ch,(b∈X.ex∨X.s₀.heap.objs.size<=b)/\b≠X.env.locals/\(∀x c,X.env.cells.lookup x=some c->c≠b)/\∀p∈X.pn++pins,p.1≠b):
  Inv X pins σ H' { s with heap:=h',gens:=g',drawn:=d',toks:=t' }:=by
 obtain⟨m,⟨o,es,ep,ho,r⟩,_⟩:=id I.loc
 obtain⟨sl,hL⟩:=u.any ho I.free fun z=>(hch _ z).2.1 rfl
 exact I.step (ch:=ch) hch (fun b o hL hb hc e n=>u.keep b o e n (fun z=>(mem_cons.mp (I.stkSub b z)).elim hL hb) hc) (fun b o _ _ hc e n=>u.any e n hc) (fun b o hc e n=>u.free b o e n hc) (fun b o hc e=>u.there b o e hc) u.tups u.frzs u.tbls (fun m' hm=>by
  obtain⟨o',es',ep',ho',r'⟩:=hm
  rw[ho] at ho';cases ho'
  exact⟨_,es',ep',hL,r'⟩) hok hg
theorem Inv.turned {t':Nat}{it:Addr}(I:Inv X pins σ H s)(k:∀b o,b≠it->s.heap.get? b=some o->h'.get? b=some o)(hn:H it=none)(hL:it≠X.env.locals)
  (h1:it∈X.ex∨X.s₀.heap.objs.size<=it) (h2:∀x c,X.env.cells.lookup x=some c->c≠it) (h3:∀p∈X.pn++pins,p.1≠it):Inv X pins σ H { s with heap:=h',toks:=t' }:=by
 have nit:∀b u,H b=some u->b≠it:=fun b u e z=>by rw[z,hn] at e;cases e
 refine I.step (g':=s.gens) (d':=s.drawn) (ch:=[it]) (fun b hb=>?_) (fun b o _ _ hc e _=>k b o (fun z=>hc (by simp [z])) e) (fun b o _ _ hc e _=>⟨o.slots,k b o (fun z=>hc (by simp [z])) e⟩) (fun _ _ _ _ n=>n)
  (fun b o hc e=>⟨o,k b o (fun z=>hc (by simp [z])) e⟩) (fun _ _ e=>e) (fun _ _ _ e=>e) (fun b ps e=>⟨#[],by rw[e];simp⟩) (fun m hm=>?_) (fun b u e=>?_) I.bare
 ·have e:b=it:=by simpa using hb
  subst e
  exact⟨h1,hL,h2,h3⟩
 ·obtain⟨o,es,ep,ho,r⟩:=hm
  exact⟨o,es,ep,k _ o (Ne.symm hL) ho,r⟩
 ·refine(I.hok b u e).stay (fun c v hc q=>k c v ?_ q) (fun _ q=>q) fun _ _ q=>q
  rcases hc with z|z
  ·rw[z];exact nit b u e
  ·exact nit c _ z
theorem Inv.tok (I:Inv X pins σ H s)(t:Nat):Inv X pins σ H { s with toks:=t }:=I.un (h':=s.heap) (t':=t) Un.refl I.hok
theorem Inv.kept {t':Nat}(I:Inv X pins σ H s)(k:∀b u,s.heap.get? b=some u->h'.get? b=some u):Inv X pins σ H { s with heap:=h',toks:=t' }:=I.un (Un.kept k) (I.hok.kept k)
theorem Inv.laid {a:Addr}{o:HO}{t':Nat}(I:Inv X pins σ H s)(k:∀b u,s.heap.get? b=some u->h'.get? b=some u)(hp:s.heap.objs.size<=a)(new:ObjOk X.prog X.w (upd H a o) h' a o):
  Inv X pins σ (upd H a o) { s with heap:=h',toks:=t' }:=I.un (Un.laid k hp (I.hok.fresh hp)) (I.hok.laid k hp new)
theorem Inv.write {x e:Addr}{o:HO}{t':Nat}(I:Inv X pins σ H s)(mu:Mut (H x))(he:e=x∨H e=some (.own x))(k:∀b u,b≠e->s.heap.get? b=some u->h'.get? b=some u)(heo:∃u,h'.get? e=some u)
  (new:ObjOk X.prog X.w (upd H x o) h' x o):Inv X pins σ (upd H x o) { s with heap:=h',toks:=t' }:=I.un (Un.write mu he k heo) (I.hok.write mu he k heo new)
theorem Inv.pins_of {pins':List (Addr×Obj)}(I:Inv X pins σ H s)(h:∀p∈pins',s.heap.get? p.1=some p.2/\H p.1=none/\p.1≠X.env.locals/\p.1∉X.fs/\∀v,p.2.data ≠ .cell v):Inv X pins' σ H s:=
 ⟨I.ok,I.os,I.bare,I.base,I.loc,I.cell,I.free,I.freeC,fun p hp=>(mem_append.mp hp).elim (fun z=>I.pin p (mem_append_left _ z)) (h p),I.hok,I.len⟩
theorem Zb7 {N:List Str}(hN:N.Nodup){i j:Nat}{x:Str}(a:N[i]? = some x)(b:N[j]? = some x):i=j:=by
 obtain⟨h1,e1⟩:=List.getElem?_eq_some_iff.mp a
 obtain⟨h2,e2⟩:=List.getElem?_eq_some_iff.mp b
 exact(List.getElem_inj hN).mp (e1.trans e2.symm)
theorem Z8v {M:Model}{A:Around}{E:Value->Shared->Prop}{i:Nat}{x:Str}{v:V}{u:Value}{Q:Unit->Shared->Prop}(I:Inv X pins σ H s)(hN:X.N.Nodup)(hi:X.N[i]? = some x)(hx:Loc X.env.scope x)(r:RelV v u)
  (h:∀s',Inv X pins (σ.set i (some v)) H s'->(∃a,Heap.SameBut a s.heap s'.heap/\(a=X.env.locals∨X.env.cells.lookup x=some a))->Q () s') (hf:X.fn x=true∨X.env.scope.names.lookup x=some .local:=by first|exact .inl rfl|exact .inr rfl|assumption):wpAny M A (storeName X.env x u) Q E s:=by
 obtain⟨m,hn,hl⟩:=id I.loc
 have hcls:(X.env.scope.kind == .class||(X.env.scope.kind == .module&&X.env.locals != X.env.globals))=false:=by rw[I.ok.kind];rfl
 have hiσ:i<σ.length:=by rw[I.len];exact(List.getElem?_eq_some_iff.mp hi).1
 have cne:=I.cne
 have tracked:∀{a:Addr} {h':Heap},(∃o,s.heap.get? a=some o/\H a=none)->Heap.SameBut a s.heap h'->HOk X.prog X.w H h':=fun {a h'} ha hs b ob e=>by
  obtain⟨_,_,hfree⟩:=ha
  refine(I.hok b ob e).stay (fun c w' hc q=>(hs.2 c ?_).trans q) (fun _ q=>q) fun _ _ q=>q
  rintro rfl
  rcases hc with rfl|hc
  ·rw[hfree] at e;cases e
  ·rw[hfree] at hc;cases hc
 rcases hx with hk|hk
 ·refine wpAny_storeName_local hk hn (fun h' hn' hs=>?_) hcls
  obtain⟨oL,_,_,hoL,_⟩:=id hn
  refine h _ ⟨I.ok,I.os,I.bare,⟨fun b o e n hb hx=>?_,fun b o e n hb hx=>?_,I.base.free,fun b o e hx=>?_,I.base.tups,I.base.frzs,I.base.tbls⟩,⟨_,hn',fun j y v' e1 e2 e3=>?_⟩,fun y c e=>?_,I.free,I.freeC,fun p hp=>?_,tracked ⟨oL,hoL,I.free⟩ hs,by simpa using I.len⟩ ⟨_,hs,.inl rfl⟩
  ·exact(hs.2 b (Nat.ne_of_lt (Nat.lt_of_lt_of_le (Heap.lt_size e) I.ok.above))).trans (I.base.keep b o e n hb hx)
  ·obtain⟨sl,e1⟩:=I.base.slot b o e n hb hx
   exact⟨sl,(hs.2 b (Nat.ne_of_lt (Nat.lt_of_lt_of_le (Heap.lt_size e) I.ok.above))).trans e1⟩
  ·obtain⟨o',e1⟩:=I.base.there b o e hx
   exact⟨o',(hs.2 b (Nat.ne_of_lt (Nat.lt_of_lt_of_le (Heap.lt_size e) I.ok.above))).trans e1⟩
  ·by_cases hj:j=i
   ·subst hj
    rw[hi] at e1;cases e1
    rw[List.getElem?_set_self hiσ] at e2
    cases e2
    exact⟨u,r,.inl ⟨hk,by simp⟩⟩
   ·rw[List.getElem?_set_ne (Ne.symm hj)] at e2
    obtain⟨u',r',q⟩:=hl j y v' e1 e2 e3
    refine⟨u',r',?_⟩
    rcases q with ⟨k,e⟩|⟨k,c,e,z⟩
    ·refine .inl ⟨k,?_⟩
     have:y≠x:=fun e=>hj (Zb7 hN e1 (e▸hi))
     simp [this,e]
    ·exact .inr ⟨k,c,e,z.sameBut hs (cne y c e)⟩
  ·obtain⟨w',z⟩:=I.cell y c e
   exact⟨w',z.sameBut hs (cne y c e)⟩
  ·obtain⟨e,n,ne,nf,d⟩:=I.pin p hp
   exact⟨(hs.2 p.1 ne).trans e,n,ne,nf,d⟩
 ·have hfn:X.fn x=true:=by
   rcases hf with z|z
   ·exact z
   ·rw[z] at hk;cases hk
  obtain⟨c,hc⟩:=I.ok.has x (.inl hk)
  obtain⟨w',z⟩:=I.cell x c hc
  refine wpAny_storeName_cell I.ok.kind hk hc z (fun h' hc' hs=>?_)
  obtain⟨oc,hoc,hocd⟩:=id z
  refine h { s with heap:=h' } ⟨I.ok,I.os,I.bare,⟨fun b o e n hb hx=>?_,fun b o e n hb hx=>?_,I.base.free,fun b o e hx=>?_,I.base.tups,I.base.frzs,I.base.tbls⟩,⟨m,hn.sameBut hs (Ne.symm (cne x c hc)),fun j y v' e1 e2 e3=>?_⟩,fun y c' e=>?_,I.free,I.freeC,fun p hp=>?_,tracked ⟨oc,hoc,I.freeC x c hc⟩ hs,by simpa using I.len⟩ ⟨c,hs,.inr hc⟩
  ·exact(hs.2 b (Nat.ne_of_lt (Nat.lt_of_lt_of_le (Heap.lt_size e) (I.ok.cab x c hfn hc)))).trans (I.base.keep b o e n hb hx)
  ·obtain⟨sl,e1⟩:=I.base.slot b o e n hb hx
   exact⟨sl,(hs.2 b (Nat.ne_of_lt (Nat.lt_of_lt_of_le (Heap.lt_size e) (I.ok.cab x c hfn hc)))).trans e1⟩
  ·obtain⟨o',e1⟩:=I.base.there b o e hx
   exact⟨o',(hs.2 b (Nat.ne_of_lt (Nat.lt_of_lt_of_le (Heap.lt_size e) (I.ok.cab x c hfn hc)))).trans e1⟩
  ·by_cases hj:j=i
   ·subst hj
    rw[hi] at e1;cases e1
    rw[List.getElem?_set_self hiσ] at e2
    cases e2
    exact⟨u,r,.inr ⟨.inl hk,c,hc,hc'⟩⟩
   ·rw[List.getElem?_set_ne (Ne.symm hj)] at e2
    obtain⟨u',r',q⟩:=hl j y v' e1 e2 e3
    refine⟨u',r',?_⟩
    rcases q with q|⟨k,c',e,z'⟩
    ·exact .inl q
    ·refine .inr ⟨k,c',e,z'.sameBut hs ?_⟩
     rintro rfl
     exact hj (Zb7 hN e1 (I.ok.inj _ _ _ e hc▸hi))
  ·by_cases hcc:c'=c
   ·subst hcc;exact⟨_,hc'⟩
   ·obtain⟨w2,z2⟩:=I.cell y c' e
    exact⟨w2,z2.sameBut hs hcc⟩
  ·obtain⟨e,n,ne,nf,d⟩:=I.pin p hp
   refine⟨(hs.2 p.1 ?_).trans e,n,ne,nf,d⟩
   intro q
   rw[q,hoc] at e
   have q':oc=p.2:=Option.some.inj e
   exact d w' (by rw[<- q'];exact hocd)
theorem Z86 {M:Model}{A:Around}{E:Value->Shared->Prop}{i:Nat}{x:Str}{v:V}{u:Value}{Q:Unit->Shared->Prop}(I:Inv X pins σ H s)(hN:X.N.Nodup)(hi:X.N[i]? = some x)(hx:Loc X.env.scope x)(r:RelV v u)
  (h:∀s',Inv X pins (σ.set i (some v)) H s'->Q () s') (hf:X.fn x=true∨X.env.scope.names.lookup x=some .local:=by first|exact .inl rfl|exact .inr rfl|assumption):wpAny M A (storeName X.env x u) Q E s:=
 Z8v I hN hi hx r (fun s' I' _=>h s' I') hf
theorem Inv.call' {s':Shared}{ch:List Addr}(I:Inv X pins σ H s)(ho:s'.os=s.os)(u:Un (frs X.stack) ch H H' s.heap s'.heap)(hok:HOk X.prog X.w H' s'.heap)(hg:AllBare s'.gens)
  (hch:∀b∈ch,(b∈X.ex∨X.s₀.heap.objs.size<=b)/\b≠X.env.locals/\(∀x c,X.env.cells.lookup x=some c->c≠b)/\∀p∈X.pn++pins,p.1≠b):Inv X pins σ H' s':=by
 obtain⟨h',g',d',t',o'⟩:=s'
 have e:o'=s.os:=ho
 subst e
 exact I.call (g':=g') (t':=t') (d':=d') u hok hg hch
end
abbrev XK:=Value->Option Addr->Hp->Prop
abbrev St:=List (Option V)
abbrev VK:=V->Hp->Prop
abbrev TE:=St->Hp->VK->Prop
abbrev TT:=St->Hp->(Bool->Hp->Prop)->Prop
abbrev TA:=St->Hp->(List V->Hp->Prop)->Prop
structure Ends where
 nx:St->Hp->Prop
 rt:VK
 bk:St->Hp->Prop:=fun _ _=>False
 ct:St->Hp->Prop:=fun _ _=>False
abbrev TS:=Ends->St->Hp->Prop
def EP (X:Cx)(pins:List (Addr×Obj))(σ:St)(Q:VK)(u:Value)(s':Shared):Prop:=∃v H',Inv X pins σ H' s'/\RelV v u/\Q v H'
def TP (X:Cx)(pins:List (Addr×Obj))(σ:St)(Q:Bool->Hp->Prop)(b:Bool)(s':Shared):Prop:=∃H',Inv X pins σ H' s'/\Q b H'
def AP (X:Cx)(pins:List (Addr×Obj))(σ:St)(Q:List V->Hp->Prop)(us:List Value)(s':Shared):Prop:=∃vs H',Inv X pins σ H' s'/\Vals vs us/\Q vs H'
def SP (X:Cx)(pins:List (Addr×Obj))(D:Ends)(f:Flow)(s':Shared):Prop:=
 match f with
 | .next=>∃ σ' H',Inv X pins σ' H' s'/\D.nx σ' H'
 | .brk=>∃ σ' H',Inv X pins σ' H' s'/\D.bk σ' H'
 | .cont=>∃ σ' H',Inv X pins σ' H' s'/\D.ct σ' H'
 | .ret u=>∃v σ' H',Inv X pins σ' H' s'/\RelV v u/\D.rt v H'
def PE (X:Cx)(e:Expr)(t:TE):Prop:=
 ∀(pins:List (Addr×Obj)) (s:Shared) (σ:St) (H:Hp) (Q:VK),Inv X pins σ H s->t σ H Q->wpAny (model X.prog X.w) X.A (eval e X.env) (EP X pins σ Q) X.xe s
def PT (X:Cx)(e:Expr)(t:TT):Prop:=
 ∀(pins:List (Addr×Obj)) (s:Shared) (σ:St) (H:Hp) (Q:Bool->Hp->Prop),Inv X pins σ H s->t σ H Q->wpAny (model X.prog X.w) X.A (isTrue e X.env (eval e X.env)) (TP X pins σ Q) X.xe s
def PW (X:Cx)(e:Expr)(t:TT):Prop:=
 ∀(whole:Sem Value) (pins:List (Addr×Obj)) (s:Shared) (σ:St) (H:Hp) (Q:Bool->Hp->Prop),Inv X pins σ H s->t σ H Q->wpAny (model X.prog X.w) X.A (isTrue e X.env whole) (TP X pins σ Q) X.xe s
theorem PW.pt {X:Cx}{e:Expr}{t:TT}(h:PW X e t):PT X e t:=h _
def PA (X:Cx)(es:List Expr)(t:TA):Prop:=
 ∀(pos:Pos) (pins:List (Addr×Obj)) (s:Shared) (σ:St) (H:Hp) (Q:List V->Hp->Prop),Inv X pins σ H s->t σ H Q->wpAny (model X.prog X.w) X.A (spliced (backTo pos (starEach es X.env))) (AP X pins σ Q) X.xe s
def PS (X:Cx)(st:Stmt)(t:TS):Prop:=
 ∀(pins:List (Addr×Obj)) (s:Shared) (σ:St) (H:Hp) (D:Ends),Inv X pins σ H s->t D σ H->wpAny (model X.prog X.w) X.A (exec st X.env) (SP X pins D) X.xe s
def PSs (X:Cx)(st:List Stmt)(t:TS):Prop:=
 ∀(pins:List (Addr×Obj)) (s:Shared) (σ:St) (H:Hp) (D:Ends),Inv X pins σ H s->t D σ H->wpAny (model X.prog X.w) X.A (execs st X.env) (SP X pins D) X.xe s
theorem thn {α : Type}{t:Sem α}{Q Q' : α -> Shared->Prop}{M:Model}{A:Around}{E:Value->Shared->Prop}{s:Shared}(h:wpAny M A t Q E s)(hQ:∀a s,Q a s->Q' a s):wpAny M A t Q' E s:=wpAny_mono h hQ fun _ _ x=>x
section
variable {X:Cx}
inductive tVar (i:Nat)(σ:St)(H:Hp)(Q:VK):Prop
 |mk (v:_) (_:σ[i]? = some (some v)) (_:Q v H):tVar i σ H Q
def tC (v:V):TE:=fun _ H Q=>Q v H
theorem Zln {i:Nat}{x:Str}{pos:Pos}(hN:X.N[i]? = some x)(hv:Vis X.env.scope x)(hd:(x==("__debug__":Str))=false:=by decide)(hcd:(x==("__classdict__":Str))=false:=by decide):PE X (.Name x pos) (tVar i):=by
 intro pins s σ H Q I h
 obtain⟨v,e,h⟩:=h
 obtain⟨m,hn,hl⟩:=I.loc
 obtain⟨u,r,l⟩:=hl i x v hN e hv
 have fin:EP X pins σ Q u s:=⟨v,H,I,r,h⟩
 rcases l with ⟨hk,hm⟩|⟨hk,c,hc,hcell⟩
 ·exact wpAny_Name (wpAny_loadName_local I.ok.kind hk hn hm fin) hd
 ·rcases hk with hk|hk
  ·exact wpAny_Name (wpAny_loadName_cell I.ok.kind hk hc hcell fin) hd
  ·exact wpAny_Name (wpAny_loadName_free I.ok.kind hk hc hcell fin hcd) hd
theorem Z03 {i j pos}:PE X (.Constant (.int i) j pos) (tC (.int i)):=fun _ _ _ H _ I h=>wpAny_Constant_int ⟨.int i,H,I.tok _,⟨_,rfl⟩,h⟩
theorem Z8w {b j pos}:PE X (.Constant (.bool b) j pos) (tC (.bl b)):=fun _ _ _ H _ I h=>Constant_bool ⟨.bl b,H,I,rfl,h⟩
theorem Zb8 {j pos}:PE X (.Constant .none j pos) (tC .non):=fun _ _ _ H _ I h=>Constant_none ⟨.non,H,I,rfl,h⟩
theorem Z08 {x j pos}:PE X (.Constant (.str x) j pos) (tC (.str x)):=fun _ _ _ H _ I h=>Calls.Constant_str ⟨.str x,H,I.tok _,⟨_,rfl⟩,h⟩
def Gl (X:Cx)(x:Str):Prop:=X.env.kindOf x=some .globalImplicit
theorem Zdy {E:Value->Shared->Prop}{pins:List (Addr×Obj)}{s:Shared}{σ:St}{H:Hp}{x:Str}{u:Value}{pos:Pos}{Q:Value->Shared->Prop}(I:Inv X pins σ H s)(hg:Gl X x)(hm:X.mg x=some u)(h:Q u s)
  (hd:(x==("__debug__":Str))=false:=by decide):wpAny (model X.prog X.w) X.A (eval (.Name x pos) X.env) Q E s:=
 Calls.Name_function_global I.ok.kind hg (Calls.loadGlobal_global (by rw[I.ok.glob];exact I.mod.glob.keeps I.bk) hm h) hd
theorem Z50 {E:Value->Shared->Prop}{pins:List (Addr×Obj)}{s:Shared}{σ:St}{H:Hp}{x:Str}{u:Value}{pos:Pos}{Q:Value->Shared->Prop}(I:Inv X pins σ H s)(hg:Gl X x)(hm:X.mg x=none)(hv:bootBuiltins x=some u)(h:Q u s)
  (hn:x≠"__name__":=by decide) (hd:(x==("__debug__":Str))=false:=by decide):wpAny (model X.prog X.w) X.A (eval (.Name x pos) X.env) Q E s:=by
 obtain⟨mb,h1,h2⟩:=I.mod.blt
 exact Calls.Name_function_global I.ok.kind hg (Calls.loadGlobal_builtin (by rw[I.ok.glob];exact I.mod.glob.keeps I.bk) hm (by rw[I.ok.blt];exact h1.keeps I.bk) ((h2 x hn).trans hv) h) hd
theorem Z4q {x:Str}{v:V}{u:Value}{pos:Pos}(hg:Gl X x)(hm:X.mg x=some u)(r:RelV v u)(hd:(x==("__debug__":Str))=false:=by decide):PE X (.Name x pos) (tC v):=
 fun _ _ _ H _ I h=>Zdy I hg hm ⟨v,H,I,r,h⟩ hd
theorem Z87 {x:Str}{v:V}{u:Value}{pos:Pos}(hg:Gl X x)(hm:X.mg x=none)(hv:bootBuiltins x=some u)(r:RelV v u)(hn:x≠"__name__":=by decide)(hd:(x==("__debug__":Str))=false:=by decide):PE X (.Name x pos) (tC v):=
 fun _ _ _ H _ I h=>Z50 I hg hm hv ⟨v,H,I,r,h⟩ hn hd
variable {a b:Expr}{ta tb:TE}{pos:Pos}
def tB (t:TE):TT:=fun σ H Q=>t σ H fun x H1=>∃c,x = .bl c/\Q c H1
theorem Z68 {e:Expr}{t:TE}(h:PE X e t)(he:∀whole,isTrue e X.env whole=(do let v ← whole;standAt e.pos;holding [v] (truthy v)):=by intro _;rfl):PT X e (tB t):=by
 intro pins s σ H Q I hw
 refine isTrue_plain (thn (h pins s σ H _ I hw) fun v s1 ⟨x,H1,I1,r1,q1⟩=>?_) (he _)
 obtain⟨d,rfl,q⟩:=q1
 cases r1
 exact wpAny_truthy_bool ⟨H1,I1,q⟩
variable {tA tB':TT}{rest:List Expr}
def Zpe (t u:TT):TT:=fun σ H Q=>t σ H fun c H1=>if c=true then u σ H1 Q else Q false H1
def tOr (t u:TT):TT:=fun σ H Q=>t σ H fun c H1=>if c=true then Q true H1 else u σ H1 Q
def Zpf (t:TT):TT:=fun σ H Q=>t σ H fun c H1=>Q (!c) H1
theorem Z33 (ha:PT X a tA):PW X (.BoolOp .And [a] pos) tA:=by
 intro wh pins s σ H Q I h
 refine isTrue_and (thn (ha pins s σ H Q I h) fun c s1 e=>?_)
 cases c with
 |true=>exact isTrue_and_nil e
 |false=>exact e
theorem Z5u (ha:PT X a tA):PW X (.BoolOp .Or [a] pos) tA:=by
 intro wh pins s σ H Q I h
 refine isTrue_or (thn (ha pins s σ H Q I h) fun c s1 e=>?_)
 cases c with
 |false=>exact isTrue_or_nil e
 |true=>exact e
theorem Z4m (ha:PT X a tA)(hb:PW X (.BoolOp .And (b::rest) pos) tB'):PW X (.BoolOp .And (a::b::rest) pos) (Zpe tA tB'):=by
 intro wh pins s σ H Q I h
 refine isTrue_and (thn (ha pins s σ H _ I h) fun c s1 ⟨H1,I1,q1⟩=>?_)
 cases c with
 |true=>exact hb wh pins s1 σ H1 Q I1 q1
 |false=>exact⟨H1,I1,q1⟩
theorem Z69 (ha:PT X a tA)(hb:PW X (.BoolOp .Or (b::rest) pos) tB'):PW X (.BoolOp .Or (a::b::rest) pos) (tOr tA tB'):=by
 intro wh pins s σ H Q I h
 refine isTrue_or (thn (ha pins s σ H _ I h) fun c s1 ⟨H1,I1,q1⟩=>?_)
 cases c with
 |true=>exact⟨H1,I1,q1⟩
 |false=>exact hb wh pins s1 σ H1 Q I1 q1
theorem Z8x (ha:PT X a tA):PT X (.UnaryOp .Not a pos) (Zpf tA):=by
 intro pins s σ H Q I h
 exact isTrue_not (ha pins s σ H (fun c H1=>Q (!c) H1) I h)
def Znt (ta tb:TE):TE:=fun σ H Q=>ta σ H fun x H1=>∃c,x = .bl c/\if c=true then tb σ H1 Q else Q (.bl false) H1
theorem Zlo {op}{t:TE}(h:PE X a t):PE X (.BoolOp op [a] pos) t:=fun pins s σ H Q I hw=>BoolOp_one (h pins s σ H Q I hw)
theorem Zlp (ha:PE X a ta)(hb:PE X (.BoolOp .And (b::rest) pos) tb):PE X (.BoolOp .And (a::b::rest) pos) (Znt ta tb):=by
 intro pins s σ H Q I h
 refine BoolOp_and (thn (ha pins s σ H _ I h) fun v s1 ⟨x,H1,I1,r1,q1⟩=>?_)
 obtain⟨c,rfl,q1⟩:=q1
 cases r1
 refine wpAny_truthy_bool ?_
 cases c with
 |true=>exact hb pins s1 σ H1 Q I1 q1
 |false=>exact⟨.bl false,H1,I1,rfl,q1⟩
end
def SqL (K:PySem.W.Frag)(H:Hp)(a:Addr)(xs:List V):Prop:=
 Rd H a (.lst xs) ∨
  ∃(o:Obj) (its:Array Value) (n:Nat),K.lookup a=some o/\o.cls = .type "list"/\o.dict=none/\o.data = .seq its n/\its.size<=sizeLine/\Vals xs its.toList
def SqT (K:PySem.W.Frag)(H:Hp)(a:Addr)(xs:List V):Prop:=
 Rd H a (.tup xs) ∨
  ∃(o:Obj) (its:Array Value) (n:Nat),K.lookup a=some o/\o.cls = .type "tuple"/\o.data = .seq its n/\its.size<=sizeLine/\Vals xs its.toList
def Zpg:Value->Option V
 | .none=>some .non
 | .bool b=>some (.bl b)
 | .int i _=>some (.int i)
 | .str x _=>some (.str x)
 | .bytes b _=>some (.byt b)
 | .float b _=>some (.flt b)
 | .ref a=>some (.ref a)
 | .type n=>some (.ty n)
 |_=>none
theorem RelV.abs {x:V}{u:Value}(r:RelV x u):Zpg u=some x:=by
 cases x with
 |non=>cases r;rfl
 |bl _=>cases r;rfl
 |int _=>obtain⟨t,rfl⟩:=r;rfl
 |str _=>obtain⟨t,rfl⟩:=r;rfl
 |byt _=>obtain⟨t,rfl⟩:=r;rfl
 |flt _=>obtain⟨t,rfl⟩:=r;rfl
 |ref _=>cases r;rfl
 |ty _=>cases r;rfl
theorem RelV.inj {x y:V}{u:Value}(r:RelV x u)(q:RelV y u):x=y:=Option.some.inj (r.abs.symm.trans q.abs)
theorem Vals.inj:∀{xs ys:List V} {us:List Value},Vals xs us->Vals ys us->xs=ys
 |_,_,_,.nil,.nil=>rfl
 |_,_,_,.cons r t,.cons r' t'=>by rw[r.inj r',Vals.inj t t']
section
variable {X:Cx}{pins:List (Addr×Obj)}{σ:St}{H:Hp}{s:Shared}{a:Addr}{xs ys:List V}
theorem SqL.of {K:PySem.W.Frag}(h:H a=some (.lst xs)):SqL K H a xs:=.inl (.inl h)
theorem SqT.of {K:PySem.W.Frag}(h:H a=some (.tup xs)):SqT K H a xs:=.inl (.inl h)
theorem Inv.list (I:Inv X pins σ H s)(h:SqL X.K H a xs):∃its:List Value,Vals xs its/\PlainL s.heap a its.toArray/\xs.length<=sizeLine:=by
 rcases h with h|⟨o,its,n,hk,hc,hd,hs,hz,r⟩
 ·obtain⟨z,its,n,r,e⟩:=h.ok I.hok
  exact⟨its,r,⟨_,n,e,rfl,rfl,rfl⟩,z⟩
 ·refine⟨its.toList,r,⟨o,n,I.kIn a o hk,hc,hd,by simpa using hs⟩,?_⟩
  have e:=r.length
  simp only [Array.length_toList] at e
  omega
theorem Inv.tuple (I:Inv X pins σ H s)(h:SqT X.K H a xs):∃its:List Value,Vals xs its/\IsTup s.heap a its.toArray/\xs.length<=sizeLine:=by
 rcases h with h|⟨o,its,n,hk,hc,hs,hz,r⟩
 ·obtain⟨z,its,r,p⟩:=h.ok I.hok
  exact⟨its,r,p,z⟩
 ·refine⟨its.toList,r,⟨o,I.kIn a o hk,hc,n,by simpa using hs⟩,?_⟩
  have e:=r.length
  simp only [Array.length_toList] at e
  omega
theorem Inv.list_inj (I:Inv X pins σ H s)(h:SqL X.K H a xs)(h':SqL X.K H a ys):xs=ys:=by
 obtain⟨its,r,⟨o,n,e,_,_,d⟩,_⟩:=I.list h
 obtain⟨its',r',⟨o',n',e',_,_,d'⟩,_⟩:=I.list h'
 rw[e] at e';cases e'
 rw[d] at d'
 injection d' with d1 _
 have:its=its':=by simpa using congrArg Array.toList d1
 subst this
 exact r.inj r'
theorem Inv.tuple_inj (I:Inv X pins σ H s)(h:SqT X.K H a xs)(h':SqT X.K H a ys):xs=ys:=by
 obtain⟨its,r,⟨o,e,_,n,d⟩,_⟩:=I.tuple h
 obtain⟨its',r',⟨o',e',_,n',d'⟩,_⟩:=I.tuple h'
 rw[e] at e';cases e'
 rw[d] at d'
 injection d' with d1 _
 have:its=its':=by simpa using congrArg Array.toList d1
 subst this
 exact r.inj r'
end
abbrev Cx.wish (X:Cx)(E:Value->Shared->Prop):Cx:={ X with xe:=E }
abbrev Cx.nox (X:Cx):Cx:=X.wish fun _ _=>False
theorem Cx.Ok.wish {X:Cx}(ok:X.Ok)(E:Value->Shared->Prop):(X.wish E).Ok:=
 ⟨ok.mod,ok.kind,ok.glob,ok.blt,ok.above,ok.inj,ok.has,ok.cab,ok.hd,ok.frames,ok.stk,ok.exf,ok.bs,ok.bsz,ok.noex,ok.exfs,ok.funs,ok.frf⟩
theorem Cx.Ok.unwish {X:Cx}{E:Value->Shared->Prop}(ok:(X.wish E).Ok):X.Ok:=
 ⟨ok.mod,ok.kind,ok.glob,ok.blt,ok.above,ok.inj,ok.has,ok.cab,ok.hd,ok.frames,ok.stk,ok.exf,ok.bs,ok.bsz,ok.noex,ok.exfs,ok.funs,ok.frf⟩
section
variable {X:Cx}{pins:List (Addr×Obj)}{σ:St}{H:Hp}{s:Shared}{E:Value->Shared->Prop}
theorem Inv.wish (I:Inv X pins σ H s)(E:Value->Shared->Prop):Inv (X.wish E) pins σ H s:=⟨I.ok.wish E,I.os,I.bare,I.base,I.loc,I.cell,I.free,I.freeC,I.pin,I.hok,I.len⟩
theorem Inv.unwish (I:Inv (X.wish E) pins σ H s):Inv X pins σ H s:=⟨I.ok.unwish,I.os,I.bare,I.base,I.loc,I.cell,I.free,I.freeC,I.pin,I.hok,I.len⟩
theorem SP.unwish {D:Ends}{f:Flow}{s':Shared}(h:SP (X.wish E) pins D f s'):SP X pins D f s':=by
 cases f with
 |next=>obtain⟨σ',H',I,q⟩:=h;exact⟨σ',H',I.unwish,q⟩
 |brk=>obtain⟨σ',H',I,q⟩:=h;exact⟨σ',H',I.unwish,q⟩
 |cont=>obtain⟨σ',H',I,q⟩:=h;exact⟨σ',H',I.unwish,q⟩
 |ret u=>obtain⟨v,σ',H',I,r,q⟩:=h;exact⟨v,σ',H',I.unwish,r,q⟩
theorem PSs.nox {st:List Stmt}{t:TS}(h:PSs X.nox st t):PSs X st t:=fun pins s σ H D I hw=>
 wpAny_mono (h pins s σ H D (I.wish _) hw) (fun _ _ q=>q.unwish) fun _ _ z=>False.elim z
end
section
variable {X:Cx}{st:Stmt}{rest:List Stmt}{t u:TS}{e:Expr}{te:TE}{pos:Pos}
def tNext:TS:=fun D σ H=>D.nx σ H
def Zph (t u:TS):TS:=fun D σ H=>t { D with nx:=u D } σ H
theorem Z0h:PSs X [] tNext:=fun _ _ σ H _ I h=>wpAny_execs_nil ⟨σ,H,I,h⟩
theorem Z04 (h1:PS X st t)(h2:PSs X rest u):PSs X (st::rest) (Zph t u):=by
 intro pins s σ H D I h
 refine wpAny_execs_cons (thn (h1 pins s σ H { D with nx:=u D } I h) fun f s1 q=>?_)
 cases f with
 |next=>
  obtain⟨σ',H',I',q⟩:=q
  exact h2 pins s1 σ' H' D I' q
 |ret v=>exact q
 |brk=>exact q
 |cont=>exact q
theorem Z07 (h1:PS X st t):PSs X [st] t:=by
 intro pins s σ H D I h
 refine wpAny_execs_cons (thn (h1 pins s σ H D I h) fun f s1 q=>?_)
 cases f with
 |next=>exact wpAny_execs_nil q
 |ret v=>exact q
 |brk=>exact q
 |cont=>exact q
theorem Inv.quiet {pins:List (Addr×Obj)}{σ:St}{H:Hp}{s:Shared}(I:Inv X pins σ H s):interactive X.env=false:=by simp [interactive,I.ok.kind]
def Znu (te:TE):TS:=fun D σ H=>te σ H fun _ H1=>D.nx σ H1
theorem Z3y (he:PE X e te)(hs:swapsWith e none pos.line X.env=pure false:=by rfl):PS X (.Expr e pos) (Znu te):=by
 intro pins s σ H D I h
 exact wpAny_Expr_any (thn (he pins s σ H _ I h) fun v s1 ⟨x,H1,I1,r1,q1⟩=>⟨σ,H1,I1,q1⟩) I.quiet hs
def Zpi (te:TE):TS:=fun D σ H=>te σ H D.rt
theorem Z0i (he:PE X e te):PS X (.Return (some e) pos) (Zpi te):=by
 intro pins s σ H D I h
 exact wpAny_Return_some (thn (he pins s σ H _ I h) fun v s1 ⟨x,H1,I1,r1,q1⟩=>⟨x,σ,H1,I1,r1,q1⟩)
def Zpj (c:TT)(t u:TS):TS:=fun D σ H=>c σ H fun b H1=>if b=true then t D σ H1 else u D σ H1
theorem Z0y {c:Expr}{a b:List Stmt}{tc:TT}(hc:PT X c tc)(ha:PSs X a t)(hb:PSs X b u):PS X (.If c a b pos) (Zpj tc t u):=by
 intro pins s σ H D I h
 refine wpAny_If (thn (hc pins s σ H _ I h) fun d s1 ⟨H1,I1,q1⟩=>?_)
 cases d with
 |true=>exact ha pins s1 σ H1 D I1 q1
 |false=>exact hb pins s1 σ H1 D I1 q1
end
abbrev TG:=V->St->Hp->(St->Hp->Prop)->Prop
abbrev TGs:=List V->St->Hp->(St->Hp->Prop)->Prop
def PG (X:Cx)(target:Expr)(t:TG):Prop:=
 ∀(pins:List (Addr×Obj)) (s:Shared) (σ:St) (H:Hp) (v:V) (u:Value) (Q:St->Hp->Prop),Inv X pins σ H s->RelV v u->t v σ H Q →
  wpAny (model X.prog X.w) X.A (assign target X.env u) (fun _ s'=>∃ σ' H',Inv X pins σ' H' s'/\Q σ' H') X.xe s
def PGs (X:Cx)(ts:List Expr)(t:TGs):Prop:=
 ∀(pins:List (Addr×Obj)) (s:Shared) (σ:St) (H:Hp) (vs:List V) (us:List Value) (Q:St->Hp->Prop),Inv X pins σ H s->Vals vs us->t vs σ H Q →
  wpAny (model X.prog X.w) X.A (assignInOrder ((assignEach ts X.env).map (·.2)) us) (fun _ s'=>∃ σ' H',Inv X pins σ' H' s'/\Q σ' H') X.xe s
abbrev TSet:=V->V->V->Hp->(Hp->Prop)->Prop
def Zoz (X:Cx)(t:TSet):Prop:=
 ∀(pins:List (Addr×Obj)) (s:Shared) (σ:St) (H:Hp) (o i v:V) (ov iv u:Value) (Q:Hp->Prop),Inv X pins σ H s->RelV o ov->RelV i iv->RelV v u->t o i v H Q →
  wpAny (model X.prog X.w) X.A (setItem ov iv u) (fun _ s'=>∃H',Inv X pins σ H' s'/\Q H') X.xe s
abbrev TIp:=V->V->Hp->VK->Prop
def PIp (X:Cx)(op:Operator)(t:TIp):Prop:=
 ∀(pins:List (Addr×Obj)) (s:Shared) (σ:St) (H:Hp) (x y:V) (v u:Value) (Q:VK),Inv X pins σ H s->RelV x v->RelV y u->t x y H Q →
  wpAny (model X.prog X.w) X.A (inplaceOp op v u) (EP X pins σ Q) X.xe s
section
variable {X:Cx}{pos:Pos}
def Zcq (i:Nat):TG:=fun v σ H Q=>Q (σ.set i (some v)) H
theorem Z0t {i:Nat}{x:Str}(hN:X.N.Nodup)(hi:X.N[i]? = some x)(hx:Loc X.env.scope x)(hf:X.fn x=true∨X.env.scope.names.lookup x=some .local:=by first|exact .inl rfl|exact .inr rfl|assumption):PG X (.Name x pos) (Zcq i):=by
 intro pins s σ H v u Q I r h
 exact wpAny_assign_Name (Z86 I hN hi hx r (fun s' I'=>⟨_,H,I',h⟩) hf)
def gNil:TGs:=fun vs σ H Q=>vs = []/\Q σ H
def Zjj (t:TG)(u:TGs):TGs:=fun vs σ H Q=>∃v r,vs=v::r/\t v σ H fun σ' H'=>u r σ' H' Q
theorem Z6a:PGs X [] gNil:=by
 intro pins s σ H vs us Q I r h
 obtain⟨e,h⟩:=h
 subst e
 cases r
 exact assignInOrder_nil ⟨σ,H,I,h⟩
theorem Z2g {e:Expr}{es:List Expr}{t:TG}{u:TGs}(h1:PG X e t)(h2:PGs X es u)
  (hs:(assignEach (e::es) X.env).map (·.2)=assign e X.env::(assignEach es X.env).map (·.2):=by rfl):PGs X (e::es) (Zjj t u):=by
 intro pins s σ H vs us Q I r h
 obtain⟨v,vr,e1,h⟩:=h
 subst e1
 cases r with
 |cons r rr=>
  rw[hs]
  refine assignInOrder_cons (thn (h1 pins s σ H _ _ _ I r h) fun _ s1 ⟨σ1,H1,I1,q1⟩=>?_)
  exact h2 pins s1 σ1 H1 _ _ Q I1 rr q1
inductive gTup (K:PySem.W.Frag)(n:Nat)(t:TGs)(v:V)(σ:St)(H:Hp)(Q:(St->Hp->Prop)):Prop
 |mk (a xs:_) (_:v = .ref a) (_:SqT K H a xs) (_:xs.length=n) (_:t xs σ H Q):gTup K n t v σ H Q
theorem Z8y {es:List Expr}{k:Nat}{t:TGs}{n:Nat}(hc:X.calm=true)(h:PGs X es t)
  (hn:(assignEach es X.env).length=n:=by rfl) (hst:(assignEach es X.env).findIdx? (·.1)=none:=by rfl):PG X (.Tuple es k pos) (gTup X.K n t):=by
 intro pins s σ H v u Q I r hw
 obtain⟨a,xs,e1,hq,hl,hw⟩:=hw
 subst e1
 cases r
 obtain⟨its,rv,ht,hz⟩:=I.tuple hq
 refine assign_Tuple_tuple (I.ok.hd hc) ht (by simp [hn,<- hl,rv.length]) hst fun h' hx=>?_
 have I1:Inv X pins σ H { s with heap:=h' }:=I.kept (t':=s.toks) fun b o e=>hx b o (Nat.ne_of_lt (Heap.lt_size e)) e
 exact h pins _ σ H xs _ Q I1 (by simpa using rv) hw
def Zpk (to ti:TE)(t:TSet):TG:=fun v σ H Q=>to σ H fun o H1=>ti σ H1 fun i H2=>t o i v H2 fun H3=>Q σ H3
theorem Zio {o i:Expr}{to ti:TE}{t:TSet}(ho:PE X o to)(hi:PE X i ti)(hs:Zoz X t)
  (ha:∀v,assign (.Subscript o i pos) X.env v=(do
   let ov ← holding [v] (eval o X.env)
   let iv ← holding [v,ov] (eval i X.env)
   standAt pos
   holding [v,ov,iv] (setItem ov iv v)
   release [v,ov,iv] []):=by intro _;rfl):PG X (.Subscript o i pos) (Zpk to ti t):=by
 intro pins s σ H v u Q I r h
 rw[ha]
 refine wpAny_bind (wpAny_holding (thn (ho pins s σ H _ I h) fun ov s1 ⟨x,H1,I1,r1,q1⟩=>?_))
 refine wpAny_bind (wpAny_holding (thn (hi pins s1 σ H1 _ I1 q1) fun iv s2 ⟨y,H2,I2,r2,q2⟩=>?_))
 refine wpAny_bind (wpAny_standAt (wpAny_bind (wpAny_holding (thn (hs pins s2 σ H2 x y v ov iv u _ I2 r1 r2 r q2) fun _ s3 ⟨H3,I3,q3⟩=>?_))))
 exact wpAny_release ⟨σ,H3,I3,q3⟩
def Zno (te:TE)(g:TG):TS:=fun D σ H=>te σ H fun x H1=>g x σ H1 D.nx
theorem Zb9 {tg e:Expr}{te:TE}{g:TG}(he:PE X e te)(hg:PG X tg g)(hs:swapsWithSole [tg] e pos.line X.env=pure false:=by rfl)(hw:swappedStores [tg] e X.env=pure none:=by rfl)
  (h1:(assignEach [tg] X.env).map (·.2) = [assign tg X.env]:=by rfl):PS X (.Assign [tg] e pos) (Zno te g):=by
 intro pins s σ H D I h
 refine wpAny_Assign_stores (thn (he pins s σ H _ I h) fun v s1 ⟨x,H1,I1,r1,q1⟩=>?_) hs hw
 rw[h1]
 exact thn (hg pins s1 σ H1 x v _ I1 r1 q1) fun _ s2 q=>q
theorem Z0c {i:Nat}{x:Str}{e:Expr}{te:TE}{pos':Pos}(hN:X.N.Nodup)(hi:X.N[i]? = some x)(hx:Loc X.env.scope x)(he:PE X e te)(hs:swapsWith e (some (.Name x pos')) pos.line X.env=pure false:=by rfl)(hf:X.fn x=true∨X.env.scope.names.lookup x=some .local:=by first|exact .inl rfl|exact .inr rfl|assumption):
  PS X (.Assign [.Name x pos'] e pos) (Zno te (Zcq i)):=by
 intro pins s σ H D I h
 refine wpAny_Assign_Name (thn (he pins s σ H _ I h) fun v s1 ⟨y,H1,I1,r1,q1⟩=>?_) hs
 exact Z86 I1 hN hi hx r1 (fun s2 I2=>⟨_,H1,I2,q1⟩) hf
def Zpl (i:Nat)(te:TE)(ti:TIp):TS:=fun D σ H=>∃x,σ[i]? = some (some x)/\te σ H fun y H1=>ti x y H1 fun z H2=>D.nx (σ.set i (some z)) H2
theorem Zip {i:Nat}{x:Str}{e:Expr}{te:TE}{op:Operator}{ti:TIp}{pos':Pos}(hN:X.N.Nodup)(hi:X.N[i]? = some x)(hx:Loc X.env.scope x)(he:PE X e te)(ho:PIp X op ti)(hf:X.fn x=true∨X.env.scope.names.lookup x=some .local:=by first|exact .inl rfl|exact .inr rfl|assumption):
  PS X (.AugAssign (.Name x pos') op e pos) (Zpl i te ti):=by
 intro pins s σ H D I h
 obtain⟨v,e1,h⟩:=h
 obtain⟨m,hn,hl⟩:=I.loc
 have vis:Vis X.env.scope x:=by rcases hx with k|k;exact .inl k;exact .inr (.inl k)
 obtain⟨u,r,l⟩:=hl i x v hi e1 vis
 refine wpAny_AugAssign_Name ?_
 have go:wpAny (model X.prog X.w) X.A (eval e X.env) (fun w s₂=>wpAny (model X.prog X.w) X.A (inplaceOp op u w) (fun r s₃=>wpAny (model X.prog X.w) X.A (storeName X.env x r) (fun _=>SP X pins D .next) X.xe s₃) X.xe s₂) X.xe s:=by
  refine thn (he pins s σ H _ I h) fun w s1 ⟨y,H1,I1,r1,q1⟩=>?_
  refine thn (ho pins s1 σ H1 v y u w _ I1 r r1 q1) fun z s2 ⟨zv,H2,I2,r2,q2⟩=>?_
  exact Z86 I2 hN hi hx r2 (fun s3 I3=>⟨_,H2,I3,q2⟩) hf
 rcases l with ⟨hk,hm⟩|⟨hk,c,hc,hcell⟩
 ·exact wpAny_loadName_local I.ok.kind hk hn hm go
 ·rcases hk with hk|hk
  ·exact wpAny_loadName_cell I.ok.kind hk hc hcell go
  ·rcases hx with k|k
   ·have:X.env.scope.names.lookup x=some .free:=hk
    rw[k] at this;cases this
   ·have:X.env.scope.names.lookup x=some .free:=hk
    rw[k] at this;cases this
def ipI (f:Int->Int->Int):TIp:=fun x y H Q=>∃i j,x = .int i/\y = .int j/\Q (.int (f i j)) H
theorem Zlq:PIp X .Add (ipI fun i j=>i+j):=by
 intro pins s σ H x y v u Q I r1 r2 h
 obtain⟨i,j,e1,e2,q⟩:=h
 subst e1;subst e2
 obtain⟨t,rfl⟩:=r1
 obtain⟨t',rfl⟩:=r2
 exact iadd_int ⟨.int _,H,I.tok _,⟨_,rfl⟩,q⟩
theorem Zlr:PIp X .Sub (ipI fun i j=>i-j):=by
 intro pins s σ H x y v u Q I r1 r2 h
 obtain⟨i,j,e1,e2,q⟩:=h
 subst e1;subst e2
 obtain⟨t,rfl⟩:=r1
 obtain⟨t',rfl⟩:=r2
 exact isub_int ⟨.int _,H,I.tok _,⟨_,rfl⟩,q⟩
end
section
variable {X:Cx}{pos:Pos}
inductive tWhile (c:TT)(tb:TS)(D:Ends)(σ:St)(H:Hp):Prop
 |mk (W:Nat->St->Hp->Prop) (_:(∃m,W m σ H)) (_:∀m σ H,W m σ H->c σ H fun b H1=>if b=true then ∃N:St->Hp->Prop,(∀ σ' H',N σ' H'->∃m',m'<m/\W m' σ' H')/\tb { D with nx:=N,ct:=N,bk:=D.nx } σ H1 else D.nx σ H1):tWhile c tb D σ H
theorem Zba {c:Expr}{body:List Stmt}{tc:TT}{tb:TS}(hp:PassesOwn (model X.prog X.w) X.A X.env X.xe)(hc:PT X c tc)(hb:PSs X body tb):PS X (.While c body [] pos) (tWhile tc tb):=by
 intro pins s σ H D I h
 obtain⟨W,⟨m0,w0⟩,turn⟩:=h
 refine wpAny_While (codeAny_whileLoop (fun n s'=>∃ σ' H',Inv X pins σ' H' s'/\W n σ' H') ?_ m0 ⟨σ,H,I,w0⟩)
 rintro n s1 ⟨σ1,H1,I1,w1⟩
 refine wpAny_passesOwn hp (thn (hc pins s1 σ1 H1 _ I1 (turn n σ1 H1 w1)) fun b s2 ⟨H2,I2,q2⟩=>?_)
 cases b with
 |true=>
  obtain⟨N,hN,q2⟩:=q2
  rw[if_pos rfl]
  refine wpAny_passesOwn hp (thn (hb pins s2 σ1 H2 _ I2 q2) fun f s3 q3=>?_)
  cases f with
  |next=>
   obtain⟨σ3,H3,I3,n3⟩:=q3
   obtain⟨m',hm,w3⟩:=hN σ3 H3 n3
   exact⟨m',hm,σ3,H3,I3,w3⟩
  |cont=>
   obtain⟨σ3,H3,I3,n3⟩:=q3
   obtain⟨m',hm,w3⟩:=hN σ3 H3 n3
   exact⟨m',hm,σ3,H3,I3,w3⟩
  |brk=>exact q3
  |ret v=>exact q3
 |false=>
  rw[if_neg Bool.false_ne_true]
  exact wpAny_execs_nil ⟨σ1,H2,I2,q2⟩
end
structure It where
 go:Nat->Hp->Prop
 yld:Nat->Hp->V->Hp->Prop
 stop:Nat->Hp->Prop
def Z3x (X:Cx)(pins:List (Addr×Obj))(H:Hp)(b:Addr):Prop:=
 H b=none/\b≠X.env.locals/\b∉X.fs/\(b∈X.ex∨X.s₀.heap.objs.size<=b)/\(∀x c,X.env.cells.lookup x=some c->c≠b)/\∀p∈X.pn++pins,p.1≠b
theorem Inv.fpOk {X:Cx}{pins:List (Addr×Obj)}{σ:St}{H H':Hp}{s:Shared}{b:Addr}(I:Inv X pins σ H s)(hb:s.heap.objs.size<=b)(hn:H' b=none):Z3x X pins H' b:=by
 refine⟨hn,Nat.ne_of_gt (Nat.lt_of_lt_of_le I.lt hb),I.nofs hb,.inr (Nat.le_trans I.sz hb),fun x c e z=>?_,fun p hp z=>?_⟩
 ·obtain⟨v,q⟩:=I.cell x c e
  exact absurd (Nat.lt_of_lt_of_le q.lt (by rw[z];exact hb)) (Nat.lt_irrefl _)
 ·exact absurd (Nat.lt_of_lt_of_le (Heap.lt_size (I.pin p hp).1) (by rw[z];exact hb)) (Nat.lt_irrefl _)
structure Turn (P:Program)(w:World)(K:PySem.W.Frag)(tg:Expr)(J:It)(fp:List Addr)(it:Addr)(tn:Nat->Heap->Prop):Prop where
 mem:it∈fp
 obj:∀i h,tn i h->∀b∈fp,∃o,h.get? b=some o/\∀v,o.data ≠ .cell v
 keep:∀i h h',tn i h->(∀b∈fp,∀o,h.get? b=some o->h'.get? b=some o)->tn i h'
 item:∀(X:Cx),X.prog=P->X.w=w->X.K=K->X.calm=true->∀(i:Nat) (pins:List (Addr×Obj)) (s:Shared) (σ:St) (H:Hp) (E:Value->Shared->Prop),Inv X pins σ H s->(∀b∈fp,Z3x X pins H b)->tn i s.heap->J.go i H →
  wpAny (model P w) X.A (pyNext (.ref it)) (fun r s1=>∃u,r=some u ∧
   wpAny (model P w) X.A (letOwnedTupleGo tg (.ref it) u) (fun _ s2=>∃x H',Inv X pins σ H' s2/\RelV x u/\J.yld i H x H'/\tn (i+1) s2.heap/\∀b∈fp,H' b=none) E s1) E s
 done:∀(X:Cx),X.prog=P->X.w=w->X.K=K->X.calm=true->∀(i:Nat) (pins:List (Addr×Obj)) (s:Shared) (σ:St) (H:Hp) (E:Value->Shared->Prop),Inv X pins σ H s->(∀b∈fp,Z3x X pins H b)->tn i s.heap->J.stop i H →
  wpAny (model P w) X.A (pyNext (.ref it)) (fun r s1=>r=none/\Inv X pins σ H s1) E s
 self:∀(A:Around) (i:Nat) (s:Shared) (Q:Value->Shared->Prop) (E:Value->Shared->Prop),tn i s.heap->Q (.ref it) s->wpAny (model P w) A (pyIter (.ref it)) Q E s
abbrev TI:=St->Hp->(It->Hp->Prop)->Prop
def PIE (X:Cx)(pins:List (Addr×Obj))(σ:St)(tg:Expr)(R:It->Hp->Prop)(itv:Value)(s2:Shared):Prop:=
 ∃(it:Addr) (fp:List Addr) (tn:Nat->Heap->Prop) (J:It) (H':Hp),itv = .ref it/\Inv X pins σ H' s2/\Turn X.prog X.w X.K tg J fp it tn/\tn 0 s2.heap/\(∀b∈fp,Z3x X pins H' b)/\R J H'
def PI (X:Cx)(tg iter:Expr)(wi:TI):Prop:=
 ∀(pins:List (Addr×Obj)) (s:Shared) (σ:St) (H:Hp) (R:It->Hp->Prop),Inv X pins σ H s->wi σ H R →
  wpAny (model X.prog X.w) X.A (eval iter X.env) (fun v s1=>wpAny (model X.prog X.w) X.A (pyIter v) (PIE X pins σ tg R) X.xe s1) X.xe s
theorem Zgt {M:Model}{A:Around}{E:Value->Shared->Prop}{s:Shared}{tg:Expr}{it:Addr}{u:Value}{o:Obj}{n:String}{vs:Array Value}{Q:Unit->Shared->Prop}(ho:s.heap.get? it=some o)(hc:o.cls = .type n)(hd:o.data = .fields vs)
  (hn : ["enumerate","zip","dict_itemiterator","dict_reverseitemiterator","odict_iterator","itertools.zip_longest","itertools.pairwise"].contains n=false) (hQ:Q () s):wpAny M A (letOwnedTupleGo tg (.ref it) u) Q E s:=by
 unfold letOwnedTupleGo
 cases tg <;> first
  |exact wpAny_pure hQ
  | (cases u <;> first
    |exact wpAny_pure hQ
    | (refine wpAny_bind (wpAny_load ho ?_)
       rw[hc,hd]
       show wpAny M A (if (["enumerate","zip","dict_itemiterator","dict_reverseitemiterator","odict_iterator","itertools.zip_longest","itertools.pairwise"].contains n&&vs[0]? == some (rawInt _))=true then _ else _) Q E s
       rw[if_neg (by intro h;rw[hn,Bool.false_and] at h;cases h)]
       exact wpAny_pure hQ))
def Itl (K:PySem.W.Frag)(a:Addr):It:=
 ⟨fun i H=>∃xs x,SqL K H a xs/\xs[i]? = some x,fun i H x H'=>H'=H/\∀xs,SqL K H a xs->xs[i]? = some x,fun i H=>∃xs,SqL K H a xs/\xs.length<=i⟩
def Itt (K:PySem.W.Frag)(a:Addr):It:=
 ⟨fun i H=>∃xs x,SqT K H a xs/\xs[i]? = some x,fun i H x H'=>H'=H/\∀xs,SqT K H a xs->xs[i]? = some x,fun i H=>∃xs,SqT K H a xs/\xs.length<=i⟩
def Itr (lo:Int)(n:Nat):It:=⟨fun i _=>i<n,fun i H x H'=>H'=H/\x = .int (lo+i),fun i _=>n<=i⟩
theorem Zdz {P:Program}{w:World}{K:PySem.W.Frag}{tg:Expr}(a it:Addr):Turn P w K tg (Itl K a) [it] it (fun i h=>h.IsListIter it a i) where
 mem:=by simp
 obj:=fun i h st b hb=>by
  have e:b=it:=by simpa using hb
  subst e
  obtain⟨o,e,c,d⟩:=st
  exact⟨o,e,fun v z=>by rw[d] at z;cases z⟩
 keep:=fun i h h' st k=>st.at fun o e=>k it (by simp) o e
 item:=by
  intro X hP hw hK hc i pins s σ H E I hf st hg
  subst hP hw hK
  obtain⟨xs,x,hq,hx⟩:=hg
  obtain⟨its,rv,p,hz⟩:=I.list hq
  obtain⟨u,hu,ru⟩:=rv.get hx
  obtain⟨f0,f1,f2,f3,f4,f5⟩:=hf it (by simp)
  refine wpAny_pyNext_list_item st p.isList (x:=u) (by simpa using hu) fun h' st' sb=>?_
  have I1:Inv X pins σ H { s with heap:=h' }:=I.turned (t':=s.toks) (fun b o hb e=>(sb.2 b hb).trans e) f0 f1 f3 f4 f5
  obtain⟨o,e,c,d⟩:=id st'
  exact⟨u,rfl,Zgt (s:={ s with heap:=h' }) e c d (by decide) ⟨x,H,I1,ru,⟨rfl,fun ys hy=>by rw[I.list_inj hy hq];exact hx⟩,st',fun b hb=>(hf b hb).1⟩⟩
 done:=by
  intro X hP hw hK hc i pins s σ H E I hf st hg
  subst hP hw hK
  obtain⟨xs,hq,hx⟩:=hg
  obtain⟨its,rv,p,hz⟩:=I.list hq
  obtain⟨f0,f1,f2,f3,f4,f5⟩:=hf it (by simp)
  have hl:=rv.length
  exact wpAny_pyNext_list_end (I.ok.hd hc) st p.isList (by simp;omega) fun h' eb=>⟨rfl,I.turned (t':=s.toks) (fun b o hb e=>eb b o hb e) f0 f1 f3 f4 f5⟩
 self:=fun _ _ _ _ _ st h=>wpAny_pyIter_listiter st h
theorem Zcr {P:Program}{w:World}{K:PySem.W.Frag}{tg:Expr}(a it:Addr):Turn P w K tg (Itt K a) [it] it (fun i h=>h.IsTupleIter it a i) where
 mem:=by simp
 obj:=fun i h st b hb=>by
  have e:b=it:=by simpa using hb
  subst e
  obtain⟨o,e,c,d⟩:=st
  exact⟨o,e,fun v z=>by rw[d] at z;cases z⟩
 keep:=fun i h h' st k=>st.at fun o e=>k it (by simp) o e
 item:=by
  intro X hP hw hK hc i pins s σ H E I hf st hg
  subst hP hw hK
  obtain⟨xs,x,hq,hx⟩:=hg
  obtain⟨its,rv,p,hz⟩:=I.tuple hq
  obtain⟨u,hu,ru⟩:=rv.get hx
  obtain⟨f0,f1,f2,f3,f4,f5⟩:=hf it (by simp)
  refine wpAny_pyNext_tuple_item st (show s.heap.IsTuple a its.toArray from p) (x:=u) (by simpa using hu) fun h' st' sb=>?_
  have I1:Inv X pins σ H { s with heap:=h' }:=I.turned (t':=s.toks) (fun b o hb e=>(sb.2 b hb).trans e) f0 f1 f3 f4 f5
  obtain⟨o,e,c,d⟩:=id st'
  exact⟨u,rfl,Zgt (s:={ s with heap:=h' }) e c d (by decide) ⟨x,H,I1,ru,⟨rfl,fun ys hy=>by rw[I.tuple_inj hy hq];exact hx⟩,st',fun b hb=>(hf b hb).1⟩⟩
 done:=by
  intro X hP hw hK hc i pins s σ H E I hf st hg
  subst hP hw hK
  obtain⟨xs,hq,hx⟩:=hg
  obtain⟨its,rv,p,hz⟩:=I.tuple hq
  obtain⟨f0,f1,f2,f3,f4,f5⟩:=hf it (by simp)
  have hl:=rv.length
  exact wpAny_pyNext_tuple_end (I.ok.hd hc) st (show s.heap.IsTuple a its.toArray from p) (by simp;omega) fun h' eb=>⟨rfl,I.turned (t':=s.toks) (fun b o hb e=>eb b o hb e) f0 f1 f3 f4 f5⟩
 self:=fun _ _ _ _ _ st h=>wpAny_pyIter_tupleiter st h
theorem Zcs {P:Program}{w:World}{K:PySem.W.Frag}{tg:Expr}(it:Addr)(lo:Int)(n:Nat):Turn P w K tg (Itr lo n) [it] it (fun i h=>IsRangeIter h it (lo+(i:Nat)*1) ((n:Int)-(i:Nat)) 1) where
 mem:=by simp
 obj:=fun i h st b hb=>by
  have e:b=it:=by simpa using hb
  subst e
  exact⟨_,st,fun v z=>by
   have z':Data.fields _=Data.cell v:=z
   cases z'⟩
 keep:=fun i h h' st k=>k it (by simp) _ st
 item:=by
  intro X hP hw hK hc i pins s σ H E I hf st hg
  subst hP hw hK
  obtain⟨f0,f1,f2,f3,f4,f5⟩:=hf it (by simp)
  have W:=Walks.range (prog:=X.prog) (w:=X.w) (I.ok.hd hc) it lo 1 n
  refine W.item i s _ _ hg st fun v h' tk hv st' kk=>?_
  obtain⟨t,rfl⟩:=hv
  have I1:Inv X pins σ H { s with heap:=h',toks:=tk }:=I.turned (fun b o hb e=>kk b o (by simpa using hb) e) f0 f1 f3 f4 f5
  refine⟨_,rfl,Zgt (s:={ s with heap:=h',toks:=tk }) (n:="range_iterator") st' rfl rfl (by decide) ⟨.int (lo+i),H,I1,⟨t,?_⟩,⟨rfl,rfl⟩,st',fun b hb=>(hf b hb).1⟩⟩
  rw[Int.mul_one]
 done:=by
  intro X hP hw hK hc i pins s σ H E I hf st hg
  subst hP hw hK
  obtain⟨f0,f1,f2,f3,f4,f5⟩:=hf it (by simp)
  exact wpAny_pyNext_range_end (I.ok.hd hc) st (by have:n<=i:=hg;omega) fun h' eb=>⟨rfl,I.turned (t':=s.toks) (fun b o hb e=>eb b o hb e) f0 f1 f3 f4 f5⟩
 self:=fun _ _ _ _ _ st h=>wpAny_pyIter_rangeiter st h
section
variable {X:Cx}{tg:Expr}
def Zls (K:PySem.W.Frag)(tl:TE):TI:=fun σ H R=>tl σ H fun x H1=>∃a,x = .ref a/\(∃xs,SqL K H1 a xs)/\R (Itl K a) H1
def Zpm (K:PySem.W.Frag)(tl:TE):TI:=fun σ H R=>tl σ H fun x H1=>∃a,x = .ref a/\(∃xs,SqT K H1 a xs)/\R (Itt K a) H1
theorem Z1w {l:Expr}{tl:TE}(hl:PE X l tl):PI X tg l (Zls X.K tl):=by
 intro pins s σ H R I h
 refine thn (hl pins s σ H _ I h) fun v s1 ⟨x,H1,I1,r1,q1⟩=>?_
 obtain⟨a,e,⟨xs,hq⟩,q⟩:=q1
 subst e
 cases r1
 obtain⟨its,rv,p,hz⟩:=I1.list hq
 refine wpAny_pyIter_list p.isList ?_
 refine⟨s1.heap.objs.size,[s1.heap.objs.size],_,_,H1,rfl,I1.kept (t':=s1.toks) fun b o e=>Heap.get?_push_of_some _ e,Zdz a _,⟨_,Heap.get?_push_size _ rfl,rfl,rfl⟩,fun b hb=>?_,q⟩
 have e:b=s1.heap.objs.size:=by simpa using hb
 subst e
 exact I1.fpOk (Nat.le_refl _) (I1.hok.fresh (Nat.le_refl _))
theorem Z7j {l:Expr}{tl:TE}(hl:PE X l tl):PI X tg l (Zpm X.K tl):=by
 intro pins s σ H R I h
 refine thn (hl pins s σ H _ I h) fun v s1 ⟨x,H1,I1,r1,q1⟩=>?_
 obtain⟨a,e,⟨xs,hq⟩,q⟩:=q1
 subst e
 cases r1
 obtain⟨its,rv,p,hz⟩:=I1.tuple hq
 refine wpAny_pyIter_tuple (show s1.heap.IsTuple a its.toArray from p) ?_
 refine⟨s1.heap.objs.size,[s1.heap.objs.size],_,_,H1,rfl,I1.kept (t':=s1.toks) fun b o e=>Heap.get?_push_of_some _ e,Zcr a _,⟨_,Heap.get?_push_size _ rfl,rfl,rfl⟩,fun b hb=>?_,q⟩
 have e:b=s1.heap.objs.size:=by simpa using hb
 subst e
 exact I1.fpOk (Nat.le_refl _) (I1.hok.fresh (Nat.le_refl _))
theorem Zgu {pins:List (Addr×Obj)}{σ:St}{H:Hp}{s:Shared}{R:It->Hp->Prop}{E:Value->Shared->Prop}{lo hi:Int}{t u v:Tok}{tk:Nat}(I:Inv X pins σ H s)(h1 : -(2 ^ 62)<=lo)(h2:lo<2 ^ 62)(h3 : -(2 ^ 62)<=hi)(h4:hi<2 ^ 62)
  (q:R (Itr lo (hi-lo).toNat) H):wpAny (model X.prog X.w) X.A (pyIter (.ref s.heap.objs.size)) (PIE X pins σ tg R) E { s with heap:=s.heap.push { cls:=.type "range",data:=.fields #[.int lo t,.int hi u,.int 1 v] },toks:=tk }:=by
 refine wpAny_pyIter_range (IsRange.new ..) (small_one h1 h2 h3 h4) ?_
 have I1:Inv X pins σ H { s with heap:=s.heap.push { cls:=.type "range",data:=.fields #[.int lo t,.int hi u,.int 1 v] },toks:=tk }:=I.kept fun b o e=>Heap.get?_push_of_some _ e
 refine⟨(s.heap.push { cls:=.type "range",data:=.fields #[.int lo t,.int hi u,.int 1 v] }).objs.size,[(s.heap.push { cls:=.type "range",data:=.fields #[.int lo t,.int hi u,.int 1 v] }).objs.size],_,_,H,rfl,
  I1.kept (t':=tk) fun b o e=>Heap.get?_push_of_some _ e,Zcs _ lo (hi-lo).toNat,?_,fun b hb=>?_,q⟩
 ·have e1:lo+((0:Nat):Int)*1=lo:=by simp
  have e2:(((hi-lo).toNat:Nat):Int)-((0:Nat):Int)=Builtin.Range.rangeSize lo hi 1:=by rw[rangeSize_one];split <;> omega
  show IsRangeIter _ _ (lo+((0:Nat):Int)*1) ((((hi-lo).toNat:Nat):Int)-((0:Nat):Int)) 1
  rw[e1,e2]
  exact Heap.get?_push_size _ rfl
 ·have e:b=(s.heap.push { cls:=.type "range",data:=.fields #[.int lo t,.int hi u,.int 1 v] }).objs.size:=by simpa using hb
  subst e
  exact I1.fpOk (Nat.le_refl _) (I1.hok.fresh (Nat.le_refl _))
def Znv (ta:TA):TI:=fun σ H R=>ta σ H fun vs H1=>∃j:Int,vs = [.int j] /\ -(2 ^ 62)<=j/\j<2 ^ 62/\R (Itr 0 j.toNat) H1
theorem Z1y {a:Expr}{ta:TA}{p pos:Pos}(hg:Gl X "range")(hm:X.mg "range"=none)(ha:PA X [a] ta)(hs:starEach [a] X.env = [(false,eval a X.env)]:=by rfl):PI X tg (.Call (.Name "range" p) [a] [] pos) (Znv ta):=by
 intro pins s σ H R I h
 refine Call_ (Z50 I hg hm boot_range (PyProof.Rows.callWith_type1 (thn (ha pos pins s σ H _ I h) fun us s1 ⟨vs,H1,I1,r1,q1⟩=>?_) hs rfl))
 obtain⟨j,e,q1,q2,q⟩:=q1
 subst e
 cases r1 with
 |cons r rr=>
  cases rr
  obtain⟨t,rfl⟩:=r
  exact call_range_1 (Zgu I1 (by omega) (by omega) q1 q2 (by simpa using q))
def Zpn (wi:TI)(g:TG)(tb:TS):TS:=fun D σ H=>wi σ H fun J H1=>∃W:Nat->Nat->St->Hp->Prop,(∃m,W 0 m σ H1)/\∀i m σ H,W i m σ H →
 (J.stop i H/\D.nx σ H)∨(J.go i H/\∃N:St->Hp->Prop,(∀ σ' H',N σ' H'->∃m',m'<m/\W (i+1) m' σ' H')/\∀x H',J.yld i H x H'->g x σ H' fun σ2 H2=>tb { D with nx:=N,ct:=N,bk:=D.nx } σ2 H2)
def Z7k (fp:List Addr)(h:Heap):List (Addr×Obj):=fp.filterMap fun b=>(h.get? b).map fun o=>(b,o)
theorem Z2u {fp:List Addr}{h:Heap}{b:Addr}{o:Obj}(hb:b∈fp)(e:h.get? b=some o):(b,o)∈Z7k fp h:=mem_filterMap.mpr ⟨b,hb,by rw[e];rfl⟩
theorem Ze0 {fp:List Addr}{h:Heap}{p:Addr×Obj}(hp:p∈Z7k fp h):p.1∈fp/\h.get? p.1=some p.2:=by
 obtain⟨b,hb,e⟩:=mem_filterMap.mp hp
 cases q:h.get? b with
 |none=>rw[q] at e;cases e
 |some o=>
  rw[q] at e
  have e':(b,o)=p:=Option.some.inj e
  subst e'
  exact⟨hb,q⟩
theorem Inv.pinned {pins:List (Addr×Obj)}{σ:St}{H:Hp}{s:Shared}{fp:List Addr}(I:Inv X pins σ H s)(hf:∀b∈fp,Z3x X pins H b)(ho:∀b∈fp,∃o,s.heap.get? b=some o/\∀v,o.data ≠ .cell v):Inv X (pins++Z7k fp s.heap) σ H s:=
 I.pins_of fun p hp=>(mem_append.mp hp).elim (fun z=>I.pin p (mem_append_right _ z)) fun z=>by
  obtain⟨hb,e⟩:=Ze0 z
  obtain⟨f0,f1,f2,_⟩:=hf p.1 hb
  obtain⟨o,e',d⟩:=ho p.1 hb
  rw[e] at e';cases e'
  exact⟨e,f0,f1,f2,d⟩
theorem Inv.unpinned {pins pl:List (Addr×Obj)}{σ:St}{H:Hp}{s:Shared}(I:Inv X (pins++pl) σ H s):Inv X pins σ H s:=I.pins_of fun p hp=>I.pin p (mem_append_right _ (mem_append_left _ hp))
theorem Z4n {iter:Expr}{body:List Stmt}{wi:TI}{g:TG}{tb:TS}{pos:Pos}(hp:PassesOwn (model X.prog X.w) X.A X.env X.xe)(hc:X.calm=true)(hi:PI X tg iter wi)(hg:PG X tg g)(hb:PSs X body tb)
  (hs:∀x,foldedSetIterable iter X.env x=pure x:=by intro _;rfl):PS X (.For tg iter body [] pos) (Zpn wi g tb):=by
 intro pins s σ H D I h
 refine wpAny_For (thn (hi pins s σ H _ I h) fun v s1 h1=>thn h1 fun itv s2 h2=>?_) hs
 obtain⟨it,fp,tn,J,H2,e,I2,T,st2,f2,W,⟨m0,w0⟩,turn⟩:=h2
 subst e
 have stat:∀{H':Hp},(∀b∈fp,H' b=none)->∀b∈fp,Z3x X pins H' b:=fun hn b hb=>⟨hn b hb,(f2 b hb).2⟩
 refine codeAny_forLoop_any (fun n s'=>∃i σ' H',Inv X pins σ' H' s'/\tn i s'.heap/\(∀b∈fp,H' b=none)/\W i n σ' H') ?_ m0 ⟨0,σ,H2,I2,st2,fun b hb=>(f2 b hb).1,w0⟩
 rintro n s3 ⟨i,σ3,H3,I3,st3,fr3,w3⟩
 rcases turn i n σ3 H3 w3 with ⟨stop,qn⟩|⟨go,N,hN,step⟩
 ·refine wpAny_passesOwn hp (thn (T.done X rfl rfl rfl hc i pins s3 σ3 H3 X.xe I3 (stat fr3) st3 stop) fun r s4 ⟨hr,I4⟩=>?_)
  subst hr
  exact wpAny_execs_nil ⟨σ3,H3,I4,qn⟩
 ·refine wpAny_passesOwn hp (thn (T.item X rfl rfl rfl hc i pins s3 σ3 H3 X.xe I3 (stat fr3) st3 go) fun r s4 ⟨u,hr,h4⟩=>?_)
  subst hr
  refine wpAny_passesOwn hp (thn h4 fun _ s5 ⟨x,H5,I5,r5,y5,st5,fr5⟩=>?_)
  have I5':=I5.pinned (stat fr5) (T.obj _ _ st5)
  refine wpAny_passesOwn hp (thn (hg _ s5 σ3 H5 x u _ I5' r5 (step x H5 y5)) fun _ s6 ⟨σ6,H6,I6,q6⟩=>?_)
  refine wpAny_passesOwn hp (thn (hb _ s6 σ6 H6 _ I6 q6) fun f s7 q7=>?_)
  have again:∀{σ7:St} {H7:Hp},Inv X (pins++Z7k fp s5.heap) σ7 H7 s7->N σ7 H7->∃m,m<n/\∃i σ' H',Inv X pins σ' H' s7/\tn i s7.heap/\(∀b∈fp,H' b=none)/\W i m σ' H':=fun {σ7 H7} I7 n7=>by
   obtain⟨m',hm,w7⟩:=hN σ7 H7 n7
   refine⟨m',hm,i+1,σ7,H7,I7.unpinned,T.keep _ _ _ st5 fun b hb o e=>(I7.pin (b,o) (mem_append_right _ (mem_append_right _ (Z2u hb e)))).1,fun b hb=>?_,w7⟩
   obtain⟨o,e,d⟩:=T.obj _ _ st5 b hb
   exact(I7.pin (b,o) (mem_append_right _ (mem_append_right _ (Z2u hb e)))).2.1
  cases f with
  |next=>obtain⟨σ7,H7,I7,n7⟩:=q7;exact again I7 n7
  |cont=>obtain⟨σ7,H7,I7,n7⟩:=q7;exact again I7 n7
  |brk=>obtain⟨σ7,H7,I7,q7⟩:=q7;exact⟨σ7,H7,I7.unpinned,q7⟩
  |ret v=>obtain⟨x7,σ7,H7,I7,r7,q7⟩:=q7;exact⟨x7,σ7,H7,I7.unpinned,r7,q7⟩
end
theorem Z88 {K:PySem.W.Frag}{a:Addr}{xs:List V}{g:TG}{tb:TS}{D:Ends}{σ:St}{H:Hp}(Pv:Nat->St->Hp->Prop)(h0:Pv 0 σ H)(hl:∀i σ H,i<=xs.length->Pv i σ H->SqL K H a xs)
  (hs:∀i x σ H,xs[i]? = some x->Pv i σ H->g x σ H fun σ2 H2=>tb { D with nx:=Pv (i+1),ct:=Pv (i+1),bk:=D.nx } σ2 H2) (hd:∀ σ H,Pv xs.length σ H->D.nx σ H):
  ∃W:Nat->Nat->St->Hp->Prop,(∃m,W 0 m σ H)/\∀i m σ H,W i m σ H →
   ((Itl K a).stop i H/\D.nx σ H)∨((Itl K a).go i H/\∃N:St->Hp->Prop,(∀ σ' H',N σ' H'->∃m',m'<m/\W (i+1) m' σ' H')/\∀x H',(Itl K a).yld i H x H'->g x σ H' fun σ2 H2=>tb { D with nx:=N,ct:=N,bk:=D.nx } σ2 H2):=by
 refine⟨fun i m σ H=>m=xs.length-i/\i<=xs.length/\Pv i σ H,⟨xs.length,by simp,Nat.zero_le _,h0⟩,?_⟩
 rintro i m σ H ⟨rfl,hi,p⟩
 have q:=hl i σ H hi p
 by_cases hlt:i<xs.length
 ·refine .inr ⟨⟨xs,xs[i],q,by simp [hlt]⟩,Pv (i+1),fun σ' H' p'=>⟨xs.length-(i+1),by omega,rfl,hlt,p'⟩,fun x H' y=>?_⟩
  obtain⟨e,y⟩:=y
  subst e
  exact hs i x σ _ (y xs q) p
 ·have e:i=xs.length:=by omega
  subst e
  exact .inl ⟨⟨xs,q,Nat.le_refl _⟩,hd σ H p⟩
theorem Z2x {lo:Int}{n:Nat}{g:TG}{tb:TS}{D:Ends}{σ:St}{H:Hp}(Pv:Nat->St->Hp->Prop)(h0:Pv 0 σ H)
  (hs:∀i σ H,i<n->Pv i σ H->g (.int (lo+i)) σ H fun σ2 H2=>tb { D with nx:=Pv (i+1),ct:=Pv (i+1),bk:=D.nx } σ2 H2) (hd:∀ σ H,Pv n σ H->D.nx σ H):
  ∃W:Nat->Nat->St->Hp->Prop,(∃m,W 0 m σ H)/\∀i m σ H,W i m σ H →
   ((Itr lo n).stop i H/\D.nx σ H)∨((Itr lo n).go i H/\∃N:St->Hp->Prop,(∀ σ' H',N σ' H'->∃m',m'<m/\W (i+1) m' σ' H')/\∀x H',(Itr lo n).yld i H x H'->g x σ H' fun σ2 H2=>tb { D with nx:=N,ct:=N,bk:=D.nx } σ2 H2):=by
 refine⟨fun i m σ H=>m=n-i/\i<=n/\Pv i σ H,⟨n,by simp,Nat.zero_le _,h0⟩,?_⟩
 rintro i m σ H ⟨rfl,hi,p⟩
 by_cases hlt:i<n
 ·refine .inr ⟨hlt,Pv (i+1),fun σ' H' p'=>⟨n-(i+1),by omega,rfl,hlt,p'⟩,fun x H' y=>?_⟩
  obtain⟨e,y⟩:=y
  subst e y
  exact hs i σ _ hlt p
 ·have e:i=n:=by omega
  subst e
  exact .inl ⟨Nat.le_refl _,hd σ H p⟩
theorem Zgv {c:TT}{tb:TS}{D:Ends}{σ:St}{H:Hp}(Pv:St->Hp->Prop)(μ : St->Hp->Nat)(h0:Pv σ H)
  (hs:∀ σ H,Pv σ H->c σ H fun b H1=>if b=true then tb { D with nx:=fun σ' H'=>Pv σ' H' /\ μ σ' H' < μ σ H,ct:=fun σ' H'=>Pv σ' H' /\ μ σ' H' < μ σ H,bk:=D.nx } σ H1 else D.nx σ H1)
  (mono:∀ σ H Q Q',(∀b H1,Q b H1->Q' b H1)->c σ H Q->c σ H Q'):tWhile c tb D σ H:=by
 refine⟨fun m σ H=>m = μ σ H/\Pv σ H,⟨_,rfl,h0⟩,?_⟩
 rintro m σ H ⟨rfl,p⟩
 refine mono σ H _ _ (fun b H1 q=>?_) (hs σ H p)
 cases b with
 |true=>exact⟨_,fun σ' H' ⟨p',l⟩=>⟨_,l,rfl,p'⟩,q⟩
 |false=>exact q
abbrev R2:=V->V->Hp->VK->Prop
def OpR (X:Cx)(f:Value->Value->Sem Value)(r:R2):Prop:=
 ∀(pins:List (Addr×Obj)) (s:Shared) (σ:St) (H:Hp) (x y:V) (v u:Value) (Q:VK),Inv X pins σ H s->RelV x v->RelV y u->r x y H Q →
  wpAny (model X.prog X.w) X.A (f v u) (EP X pins σ Q) X.xe s
def UnR (X:Cx)(f:Value->Sem Value)(r:V->Hp->VK->Prop):Prop:=
 ∀(pins:List (Addr×Obj)) (s:Shared) (σ:St) (H:Hp) (x:V) (v:Value) (Q:VK),Inv X pins σ H s->RelV x v->r x H Q →
  wpAny (model X.prog X.w) X.A (f v) (EP X pins σ Q) X.xe s
def Z3l (X:Cx)(f:Value)(r:List V->Hp->VK->Prop):Prop:=
 ∀(pins:List (Addr×Obj)) (s:Shared) (σ:St) (H:Hp) (xs:List V) (us:List Value) (Q:VK),Inv X pins σ H s->Vals xs us->r xs H Q →
  wpAny (model X.prog X.w) X.A (call f us) (EP X pins σ Q) X.xe s
def Zpo (X:Cx)(r:V->Hp->(Bool->Hp->Prop)->Prop):Prop:=
 ∀(pins:List (Addr×Obj)) (s:Shared) (σ:St) (H:Hp) (x:V) (v:Value) (Q:Bool->Hp->Prop),Inv X pins σ H s->RelV x v->r x H Q →
  wpAny (model X.prog X.w) X.A (truthy v) (TP X pins σ Q) X.xe s
def tOp (r:R2)(ta tb:TE):TE:=fun σ H Q=>ta σ H fun x H1=>tb σ H1 fun y H2=>r x y H2 Q
def tUn (r:V->Hp->VK->Prop)(ta:TE):TE:=fun σ H Q=>ta σ H fun x H1=>r x H1 Q
inductive rI (C:Int->Int->Prop)(g:Int->Int->V)(x:V)(y:V)(H:Hp)(Q:VK):Prop
 |mk (i j:_) (_:x = .int i) (_:y = .int j) (_:C i j) (_:Q (g i j) H):rI C g x y H Q
inductive rI0 (g:Int->Int->V)(x:V)(y:V)(H:Hp)(Q:VK):Prop
 |mk (i j:_) (_:x = .int i) (_:y = .int j) (_:Q (g i j) H):rI0 g x y H Q
inductive rU (g:Int->V)(x:V)(H:Hp)(Q:VK):Prop
 |mk (i:_) (_:x = .int i) (_:Q (g i) H):rU g x H Q
section
variable {X:Cx}{a b c:Expr}{ta tb tc:TE}{pos:Pos}
theorem Zp0 (ha:PE X a ta)(hb:PE X b tb){pins:List (Addr×Obj)}{s:Shared}{σ:St}{H:Hp}{R:V->V->Hp->Prop}(I:Inv X pins σ H s)
  (h:ta σ H fun x H1=>tb σ H1 fun y H2=>R x y H2) {Q:Value->Shared->Prop} {f:Value->Value->Sem Value}
  (hf:∀v u s2 x y H2,Inv X pins σ H2 s2->RelV x v->RelV y u->R x y H2->wpAny (model X.prog X.w) X.A (f v u) Q X.xe s2):
  wpAny (model X.prog X.w) X.A (eval a X.env) (fun v s₁=>wpAny (model X.prog X.w) X.A (eval b X.env) (fun u s₂=>wpAny (model X.prog X.w) X.A (f v u) Q X.xe s₂) X.xe s₁) X.xe s:=by
 refine thn (ha pins s σ H _ I h) fun v s1 ⟨x,H1,I1,r1,q1⟩=>?_
 refine thn (hb pins s1 σ H1 _ I1 q1) fun u s2 ⟨y,H2,I2,r2,q2⟩=>?_
 exact hf v u s2 x y H2 I2 r1 r2 q2
theorem Z0l {op:Operator}{r:R2}(ho:OpR X (binaryOp op) r)(ha:PE X a ta)(hb:PE X b tb):PE X (.BinOp a op b pos) (tOp r ta tb):=by
 intro pins s σ H Q I h
 exact wpAny_BinOp (Zp0 ha hb I h fun v u s2 x y H2 I2 rx ry q=>ho pins s2 σ H2 x y v u Q I2 rx ry q)
theorem Ze1 {op:UnaryOp}{r:V->Hp->VK->Prop}(ho:UnR X (unaryOp op) r)(ha:PE X a ta):PE X (.UnaryOp op a pos) (tUn r ta):=by
 intro pins s σ H Q I h
 exact UnaryOp_ (thn (ha pins s σ H _ I h) fun v s1 ⟨x,H1,I1,r1,q1⟩=>ho pins s1 σ H1 x v Q I1 r1 q1)
theorem opI {f:Value->Value->Sem Value}{C:Int->Int->Prop}{g:Int->Int->Int}
  (rule:∀(i j:Int) (t u:Tok) (s:Shared) (Q:Value->Shared->Prop) (E:Value->Shared->Prop),C i j->Q (.int (g i j) s.toks) { s with toks:=s.toks+1 }->wpAny (model X.prog X.w) X.A (f (.int i t) (.int j u)) Q E s):
  OpR X f (rI C fun i j=>.int (g i j)):=by
 intro pins s σ H x y v u Q I rx ry h
 obtain⟨i,j,rfl,rfl,hc,q⟩:=h
 obtain⟨t,rfl⟩:=rx
 obtain⟨t',rfl⟩:=ry
 exact rule i j t t' s _ _ hc ⟨.int (g i j),H,I.tok _,⟨_,rfl⟩,q⟩
theorem Zp1 {f:Value->Value->Sem Value}{g:Int->Int->Int}
  (rule:∀(i j:Int) (t u:Tok) (s:Shared) (Q:Value->Shared->Prop) (E:Value->Shared->Prop),Q (.int (g i j) s.toks) { s with toks:=s.toks+1 }->wpAny (model X.prog X.w) X.A (f (.int i t) (.int j u)) Q E s):
  OpR X f (rI0 fun i j=>.int (g i j)):=by
 intro pins s σ H x y v u Q I rx ry h
 obtain⟨i,j,rfl,rfl,q⟩:=h
 obtain⟨t,rfl⟩:=rx
 obtain⟨t',rfl⟩:=ry
 exact rule i j t t' s _ _ ⟨.int (g i j),H,I.tok _,⟨_,rfl⟩,q⟩
theorem Znp {f:Value->Value->Sem Value}{g:Int->Int->Bool}
  (rule:∀(i j:Int) (t u:Tok) (s:Shared) (Q:Value->Shared->Prop) (E:Value->Shared->Prop),Q (.bool (g i j)) s->wpAny (model X.prog X.w) X.A (f (.int i t) (.int j u)) Q E s):
  OpR X f (rI0 fun i j=>.bl (g i j)):=by
 intro pins s σ H x y v u Q I rx ry h
 obtain⟨i,j,rfl,rfl,q⟩:=h
 obtain⟨t,rfl⟩:=rx
 obtain⟨t',rfl⟩:=ry
 exact rule i j t t' s _ _ ⟨.bl (g i j),H,I,rfl,q⟩
def Zpp (i j:Int):Prop:=0<=j/\j<=1000000/\i.natAbs<2 ^ 64
def CMul (i j:Int):Prop:=(-(2 ^ 64)<i/\i<2 ^ 64)∨(-(2 ^ 64)<j/\j<2 ^ 64)
theorem CMul.ok {i j:Int}(h:CMul i j):IntMulOk i j:=by
 rcases h with ⟨h1,h2⟩|⟨h1,h2⟩
 ·exact .of_left (intBits_le_64 h1 h2)
 ·exact .of_right (intBits_le_64 h1 h2)
theorem Z1q:OpR X (binaryOp .Add) (rI0 fun i j=>.int (i+j)):=Zp1 fun _ _ _ _ _ _ _ q=>add_int q
theorem Z1v:OpR X (binaryOp .Sub) (rI0 fun i j=>.int (i-j)):=Zp1 fun _ _ _ _ _ _ _ q=>sub_int q
theorem Z22:OpR X (binaryOp .Mult) (rI CMul fun i j=>.int (i*j)):=opI fun _ _ _ _ _ _ _ hc q=>mul_int q hc.ok
theorem Z37:OpR X (binaryOp .Mod) (rI (fun _ j=>0<j) fun i j=>.int (i % j)):=opI fun i j _ _ _ _ _ hc q=>by
 have h1:(0:Int)<j:=hc
 exact mod_int' (by omega) (by rw[Int.fmod_eq_emod_of_nonneg i (by omega)];exact q)
theorem Ziq:OpR X (binaryOp .Pow) (rI Zpp fun i j=>.int (i ^ j.toNat)):=opI fun _ _ _ _ _ _ _ hc q=>pow_int_small hc.1 hc.2.1 hc.2.2 q
theorem unI {f:Value->Sem Value}{g:Int->Int}
  (rule:∀(i:Int) (t:Tok) (s:Shared) (Q:Value->Shared->Prop) (E:Value->Shared->Prop),Q (.int (g i) s.toks) { s with toks:=s.toks+1 }->wpAny (model X.prog X.w) X.A (f (.int i t)) Q E s):
  UnR X f (rU fun i=>.int (g i)):=by
 intro pins s σ H x v Q I rx h
 obtain⟨i,rfl,q⟩:=h
 obtain⟨t,rfl⟩:=rx
 exact rule i t s _ _ ⟨.int (g i),H,I.tok _,⟨_,rfl⟩,q⟩
theorem Z8z:UnR X (unaryOp .USub) (rU fun i=>.int (-i)):=unI fun _ _ _ _ _ q=>neg_int q
end
def Zp2:V->V->Bool
 | .non,.non=>true | .non,.int _=>true | .int _,.non=>true | .non,.bl _=>true | .bl _,.non=>true | .non,.str _=>true | .str _,.non=>true
 | .int _,.int _=>true | .bl _,.bl _=>true | .str _,.str _=>true | .byt _,.byt _=>true
 | .int _,.str _=>true | .str _,.int _=>true | .bl _,.str _=>true | .str _,.bl _=>true
 |_,_=>false
def rEq:R2:=fun x y H Q=>Zp2 x y=true/\Q (.bl (decide (x=y))) H
def rNe:R2:=fun x y H Q=>Zp2 x y=true/\Q (.bl (!decide (x=y))) H
theorem Ze2 {i j:Int}:decide (V.int i=V.int j)=(i==j):=by
 rw[Bool.eq_iff_iff]
 simp
theorem Zir {i j:Bool}:decide (V.bl i=V.bl j)=(i==j):=by
 rw[Bool.eq_iff_iff]
 simp
theorem Ze3 {i j:Str}:decide (V.str i=V.str j)=(i==j):=by
 rw[Bool.eq_iff_iff]
 simp
theorem Ze4 {i j:Array UInt8}:decide (V.byt i=V.byt j)=(i.toList==j.toList):=by
 rw[Bool.eq_iff_iff]
 cases i
 cases j
 simp
section
variable {X:Cx}{a b c:Expr}{ta tb tc:TE}{pos:Pos}
theorem Z10 {pins:List (Addr×Obj)}{σ:St}{H:Hp}{s:Shared}{Q:VK}{k k':Bool}(I:Inv X pins σ H s)(q:Q (.bl k) H)(e:k=k'):EP X pins σ Q (.bool k') s:=by
 subst e
 exact⟨.bl k,H,I,rfl,q⟩
theorem Z1c:OpR X (compareOp .Eq) rEq:=by
 intro pins s σ H x y v u Q I rx ry h
 obtain⟨hs,q⟩:=h
 cases x with
 |non=>
  cases rx
  cases y with
  |non=>cases ry;exact PySem.EqNone.eq_none_none (Z10 I q (by simp))
  |bl j=>cases ry;exact PySem.EqNone.eq_none_bool (Z10 I q (by simp))
  |int j=>obtain⟨t',rfl⟩:=ry;exact PySem.EqNone.eq_none_int (Z10 I q (by simp))
  |str j=>obtain⟨t',rfl⟩:=ry;exact PySem.EqNone.eq_none_str (Z10 I q (by simp))
  |_=>exact absurd (show false=true from hs) Bool.false_ne_true
 |bl i=>
  cases rx
  cases y with
  |non=>cases ry;exact PySem.EqNone.eq_bool_none (Z10 I q (by simp))
  |bl j=>cases ry;exact eq_bool (Z10 I q Zir)
  |str j=>obtain⟨t',rfl⟩:=ry;exact PySem.EqMixed.eq_bool_str (Z10 I q (by simp))
  |_=>exact absurd (show false=true from hs) Bool.false_ne_true
 |int i=>
  obtain⟨t,rfl⟩:=rx
  cases y with
  |non=>cases ry;exact PySem.EqNone.eq_int_none (Z10 I q (by simp))
  |int j=>obtain⟨t',rfl⟩:=ry;exact eq_int (Z10 I q Ze2)
  |str j=>obtain⟨t',rfl⟩:=ry;exact PySem.EqMixed.eq_int_str (Z10 I q (by simp))
  |_=>exact absurd (show false=true from hs) Bool.false_ne_true
 |str i=>
  obtain⟨t,rfl⟩:=rx
  cases y with
  |non=>cases ry;exact PySem.EqNone.eq_str_none (Z10 I q (by simp))
  |bl j=>cases ry;exact PySem.EqMixed.eq_str_bool (Z10 I q (by simp))
  |int j=>obtain⟨t',rfl⟩:=ry;exact PySem.EqMixed.eq_str_int (Z10 I q (by simp))
  |str j=>obtain⟨t',rfl⟩:=ry;exact eq_str (Z10 I q Ze3)
  |_=>exact absurd (show false=true from hs) Bool.false_ne_true
 |byt i=>
  obtain⟨t,rfl⟩:=rx
  cases y with
  |byt j=>obtain⟨t',rfl⟩:=ry;exact PySem.W.eq_bytes (Z10 I q Ze4)
  |_=>exact absurd (show false=true from hs) Bool.false_ne_true
 |_=>cases y <;> exact absurd (show false=true from hs) Bool.false_ne_true
theorem Ze5:OpR X (compareOp .NotEq) rNe:=by
 intro pins s σ H x y v u Q I rx ry h
 obtain⟨hs,q⟩:=h
 cases x with
 |non=>
  cases rx
  cases y with
  |non=>cases ry;exact PySem.EqNone.ne_none_none (Z10 I q (by simp))
  |bl j=>cases ry;exact PySem.EqNone.ne_none_bool (Z10 I q (by simp))
  |int j=>obtain⟨t',rfl⟩:=ry;exact PySem.EqNone.ne_none_int (Z10 I q (by simp))
  |str j=>obtain⟨t',rfl⟩:=ry;exact PySem.EqNone.ne_none_str (Z10 I q (by simp))
  |_=>exact absurd (show false=true from hs) Bool.false_ne_true
 |bl i=>
  cases rx
  cases y with
  |non=>cases ry;exact PySem.EqNone.ne_bool_none (Z10 I q (by simp))
  |bl j=>cases ry;exact ne_bool (Z10 I q (congrArg not Zir))
  |str j=>obtain⟨t',rfl⟩:=ry;exact PySem.EqMixed.ne_bool_str (Z10 I q (by simp))
  |_=>exact absurd (show false=true from hs) Bool.false_ne_true
 |int i=>
  obtain⟨t,rfl⟩:=rx
  cases y with
  |non=>cases ry;exact PySem.EqNone.ne_int_none (Z10 I q (by simp))
  |int j=>obtain⟨t',rfl⟩:=ry;exact ne_int (Z10 I q (congrArg not Ze2))
  |str j=>obtain⟨t',rfl⟩:=ry;exact PySem.EqMixed.ne_int_str (Z10 I q (by simp))
  |_=>exact absurd (show false=true from hs) Bool.false_ne_true
 |str i=>
  obtain⟨t,rfl⟩:=rx
  cases y with
  |non=>cases ry;exact PySem.EqNone.ne_str_none (Z10 I q (by simp))
  |bl j=>cases ry;exact PySem.EqMixed.ne_str_bool (Z10 I q (by simp))
  |int j=>obtain⟨t',rfl⟩:=ry;exact PySem.EqMixed.ne_str_int (Z10 I q (by simp))
  |str j=>obtain⟨t',rfl⟩:=ry;exact ne_str (Z10 I q (congrArg not Ze3))
  |_=>exact absurd (show false=true from hs) Bool.false_ne_true
 |byt i=>
  obtain⟨t,rfl⟩:=rx
  cases y with
  |byt j=>obtain⟨t',rfl⟩:=ry;exact PySem.W.ne_bytes (Z10 I q (congrArg not Ze4))
  |_=>exact absurd (show false=true from hs) Bool.false_ne_true
 |_=>cases y <;> exact absurd (show false=true from hs) Bool.false_ne_true
theorem Z89:OpR X (compareOp .Lt) (rI0 fun i j=>.bl (decide (i<j))):=Znp fun _ _ _ _ _ _ _ q=>lt_int q
theorem Znw:OpR X (compareOp .LtE) (rI0 fun i j=>.bl (decide (i<=j))):=Znp fun _ _ _ _ _ _ _ q=>le_int q
theorem Zgw:OpR X (compareOp .Gt) (rI0 fun i j=>.bl (decide (j<i))):=Znp fun _ _ _ _ _ _ _ q=>gt_int q
theorem Zlt:OpR X (compareOp .GtE) (rI0 fun i j=>.bl (decide (j<=i))):=Znp fun _ _ _ _ _ _ _ q=>ge_int q
theorem Zjk:OpR X (compareOp .IsNot) (fun x y H Q=>y = .non/\Q (.bl (!decide (x = .non))) H):=by
 intro pins s σ H x y v u Q I rx ry h
 obtain⟨rfl,q⟩:=h
 cases ry
 refine isnot_none_gen (Z10 I q ?_)
 cases x <;> first
  | (cases rx;rfl)
  | (obtain⟨t,rfl⟩:=rx;rfl)
theorem Z0k (b:Expr){op:CmpOp}(h:op ≠ .In:=by decide)(h2:op ≠ .NotIn:=by decide):behindInMarks op b=false:=by
 have e1:(op==CmpOp.In)=false:=by cases op <;> first|rfl|exact absurd rfl h
 have e2:(op==CmpOp.NotIn)=false:=by cases op <;> first|rfl|exact absurd rfl h2
 cases b <;> simp [behindInMarks,e1,e2]
def Zlu (t:TE):TT:=fun σ H Q=>t σ H fun x H'=>∃k,x = .bl k/\Q k H'
theorem Z0a {op:CmpOp}{r:R2}(ho:OpR X (compareOp op) r)(ha:PE X a ta)(hb:PE X b tb)(hm:behindInMarks op b=false):PT X (.Compare a [op] [b] pos) (Zlu (tOp r ta tb)):=by
 intro pins s σ H Q I h
 refine wpAny_isTrue_Compare1 (thn (ha pins s σ H _ I h) fun v s1 ⟨x,H1,I1,r1,q1⟩=>thn (hb pins s1 σ H1 _ I1 q1) fun u s2 ⟨y,H2,I2,r2,q2⟩=>
  thn (ho pins s2 σ H2 x y v u _ I2 r1 r2 q2) fun c s3 ⟨z,H3,I3,r3,k,e,q3⟩=>?_) hm
 subst e
 cases r3
 exact wpAny_truthy_bool ⟨H3,I3,q3⟩
def Zlv (r r':R2)(ta tb tc:TE):TE:=fun σ H Q=>ta σ H fun x H1=>tb σ H1 fun y H2=>r x y H2 fun z H3=>∃k,z = .bl k ∧
 (if k=true then tc σ H3 fun w' H4=>r' y w' H4 Q else Q (.bl false) H3)
theorem Zgx {op op':CmpOp}{r r':R2}(ho:OpR X (compareOp op) r)(ho':OpR X (compareOp op') r')(ha:PE X a ta)(hb:PE X b tb)(hc:PE X c tc)
  (hm:lastMarks [op,op'] [b,c]=false:=by with_unfolding_all rfl):PT X (.Compare a [op,op'] [b,c] pos) (Zlu (Zlv r r' ta tb tc)):=by
 intro pins s σ H Q I h
 refine isTrue_chain (thn (ha pins s σ H _ I h) fun v s1 ⟨x,H1,I1,r1,q1⟩=>test_link (thn (hb pins s1 σ H1 _ I1 q1) fun u s2 ⟨y,H2,I2,r2,q2⟩=>
  thn (ho pins s2 σ H2 x y v u _ I2 r1 r2 q2) fun d s3 ⟨z,H3,I3,r3,k,e,q3⟩=>?_)) hm
 subst e
 cases r3
 refine wpAny_truthy_bool ?_
 cases k with
 |false=>
  obtain⟨k',e',q'⟩:=q3
  cases e'
  exact ite_ff ⟨H3,I3,q'⟩
 |true=>
  refine ite_tt (test_last (thn (hc pins s3 σ H3 _ I3 q3) fun w' s4 ⟨z',H4,I4,r4,q4⟩=>thn (ho' pins s4 σ H4 y z' u w' _ I4 r2 r4 q4) fun d' s5 ⟨z2,H5,I5,r5,k2,e2,q5⟩=>?_))
  subst e2
  cases r5
  exact wpAny_truthy_bool ⟨H5,I5,q5⟩
def Zp3 (K:PySem.W.Frag)(x:V)(H:Hp)(k:Bool):Prop:=
 match x with
 | .non=>k=false
 | .bl b=>k=b
 | .int i=>k=(i != 0)
 | .str y=>y.length<=sizeLine/\k=((y.length:Int) != 0)
 | .byt y=>y.size<=sizeLine/\k=((y.size:Int) != 0)
 | .ref p=>(∃xs,SqL K H p xs/\k = !xs.isEmpty)∨(∃xs,SqT K H p xs/\k = !xs.isEmpty)∨∃kvs,H p=some (.dK kvs)/\k = !kvs.isEmpty
 |_=>False
theorem Zct {κ : Type}{kvs:List (κ × V)}{vs:List (κ × Value)}(r:KV kvs vs):(!vs.isEmpty) = !kvs.isEmpty:=by
 cases r <;> rfl
theorem Z7l {xs:List V}{its:List Value}(r:Vals xs its):(!its.toArray.isEmpty) = !xs.isEmpty:=by
 cases r <;> simp
theorem Z6b:(sizeLine:Nat)<2 ^ 63:=by rw[sizeLine_eq];decide
theorem Zlw:Zpo X (fun x H Q=>∃k,Zp3 X.K x H k/\Q k H):=by
 intro pins s σ H x v Q I rx h
 obtain⟨k,e,q⟩:=h
 have hl:=Z6b
 have hs:sizeLine=16777216:=sizeLine_eq
 cases x with
 |non=>
  cases rx
  have e':k=false:=e
  subst e'
  exact truthy_none ⟨H,I,q⟩
 |bl b=>
  cases rx
  have e':k=b:=e
  subst e'
  exact wpAny_truthy_bool ⟨H,I,q⟩
 |int i=>
  obtain⟨t,rfl⟩:=rx
  have e':k=(i != 0):=e
  subst e'
  exact PySem.P.truthy_int ⟨H,I,q⟩
 |str y=>
  obtain⟨t,rfl⟩:=rx
  obtain⟨hy,e'⟩:y.length<=sizeLine/\k=((y.length:Int) != 0):=e
  subst e'
  exact PySem.P.truthy_str (by omega) ⟨H,I.tok _,q⟩
 |byt y=>
  obtain⟨t,rfl⟩:=rx
  obtain⟨hy,e'⟩:y.size<=sizeLine/\k=((y.size:Int) != 0):=e
  subst e'
  exact PySem.W.truthy_bytes (by omega) ⟨H,I.tok _,q⟩
 |ref p=>
  cases rx
  have e':(∃xs,SqL X.K H p xs/\k = !xs.isEmpty)∨(∃xs,SqT X.K H p xs/\k = !xs.isEmpty)∨∃kvs,H p=some (.dK kvs)/\k = !kvs.isEmpty:=e
  rcases e' with ⟨xs,hx,e'⟩|⟨xs,hx,e'⟩|⟨kvs,hx,e'⟩
  ·subst e'
   obtain⟨its,r,pl,hz⟩:=I.list hx
   have hlen:=r.length
   exact wpAny_truthy_list pl.isList (by simp only [size_toArray];omega) ⟨H,I.tok _,by rw[Z7l r];exact q⟩
  ·subst e'
   obtain⟨its,r,pl,hz⟩:=I.tuple hx
   have hlen:=r.length
   exact truthy_tuple pl (by simp only [size_toArray];omega) ⟨H,I.tok _,by rw[Z7l r];exact q⟩
  ·subst e'
   obtain⟨hz,hS,vs,r,m⟩:kvs.length<=sizeLine/\(p==sysModules)=false/\∃vs,KV kvs vs/\s.heap.DictOf (Z0w X.prog X.w) p vs:=I.hok p _ hx
   have hlen:kvs.length=vs.length:=Paired.length r
   exact wpAny_truthy_dict hS m (by omega) ⟨H,I.tok _,by rw[Zct r];exact q⟩
 |_=>exact(show False from e).elim
theorem Zbb (ha:PE X a ta)(he:∀whole,isTrue a X.env whole=(do let v ← whole;standAt a.pos;holding [v] (truthy v))):
  PT X a (fun σ H Q=>ta σ H fun x H'=>∃k,Zp3 X.K x H' k/\Q k H'):=by
 intro pins s σ H Q I h
 exact isTrue_plain (thn (ha pins s σ H _ I h) fun v s1 ⟨x,H1,I1,r1,q1⟩=>Zlw pins s1 σ H1 x v Q I1 r1 q1) (he _)
theorem Z38:OpR X (binaryOp .Add) (fun x y H Q=>∃i j,x = .str i/\y = .str j/\i.length+j.length<=sizeLine/\Q (.str (i++j)) H):=by
 intro pins s σ H x y v u Q I rx ry h
 obtain⟨i,j,rfl,rfl,hz,q⟩:=h
 obtain⟨t,rfl⟩:=rx
 obtain⟨t',rfl⟩:=ry
 exact add_str (fun t' tk=>⟨.str (i++j),H,I.tok _,⟨_,rfl⟩,q⟩) hz
theorem Z6c {x:V}{us:List Value}(r:Vals [x] us):∃u,us = [u]/\RelV x u:=by
 cases r with
 |cons r1 r2=>cases r2;exact⟨_,rfl,r1⟩
theorem Zlx {x y:V}{us:List Value}(r:Vals [x,y] us):∃u w',us = [u,w']/\RelV x u/\RelV y w':=by
 cases r with
 |cons r1 r2=>
  cases r2 with
  |cons r3 r4=>cases r4;exact⟨_,_,rfl,r1,r3⟩
theorem Z90 (hc:X.calm=true):Z3l X (.builtin "max") (fun xs H Q=>∃i j,xs = [.int i,.int j]/\Q (.int (if j>i then j else i)) H):=by
 intro pins s σ H xs us Q I r h
 obtain⟨i,j,rfl,q⟩:=h
 obtain⟨u,w',rfl,⟨t,rfl⟩,⟨t',rfl⟩⟩:=Zlx r
 refine max_two_ints (I.ok.hd hc) fun h' tk k=>⟨_,H,I.kept k,?_,q⟩
 by_cases hj:j>i
 ·rw[if_pos hj,if_pos hj];exact⟨_,rfl⟩
 ·rw[if_neg hj,if_neg hj];exact⟨_,rfl⟩
end
structure ObjM (h:Heap)(x dx C:Addr)(mA:Str->Option Value):Prop where
 obj:h.get? x=some (PySem.W.instObj C dx)
 ns:h.Ns1 dx mA
 ne:dx≠x
theorem Ze6 {h:Heap}{dx:Addr}{mA:Str->Option Value}(n:h.Ns1 dx mA):∃od,h.get? dx=some od/\∀name,PySem.W.lookIn name od=some (mA name):=by
 obtain⟨o,es,ep,ho,hd,hk,_,hm⟩:=n
 refine⟨o,ho,fun name=>?_⟩
 have e:=hm name
 unfold nsFind findBy at e
 rw[<- Array.find?_toList] at e
 unfold PySem.W.lookIn
 rw[hd]
 dsimp only
 split
 ·rename_i y q
  rw[q] at e
  exact congrArg some e
 ·rename_i q
  rw[q] at e
  have a:es.toList.any (·.refKey)=false:=by
   rw[List.any_eq_false]
   intro y hy
   obtain⟨z,t,hkey⟩:=hk y (Array.mem_toList_iff.mp hy)
   simp [DictEntry.refKey,hkey]
  have a':¬es.toList.any (·.refKey)=true:=by rw[a];exact Bool.false_ne_true
  rw[if_neg a']
  exact congrArg some e
theorem ObjM.look {h:Heap}{x dx C:Addr}{mA:Str->Option Value}(I:ObjM h x dx C mA):∃od,PySem.W.InstAt h x (PySem.W.instObj C dx) C (some od)/\∀name,PySem.W.lookIn name od=some (mA name):=
 let ⟨od,ho,hl⟩:=Ze6 I.ns
 ⟨od,⟨I.obj,rfl,rfl,ho⟩,hl⟩
theorem RelO.some_of {v:V}{o:Option Value}(r:RelO (some v) o):∃u,o=some u/\RelV v u:=by
 cases o with
 |none=>exact(show False from r).elim
 |some u=>exact⟨u,rfl,r⟩
theorem RelO.none_of {o:Option Value}(r:RelO none o):o=none:=by
 cases o with
 |none=>rfl
 |some u=>exact(show False from r).elim
section
variable {P:Program}{w:World}{H H':Hp}{h h':Heap}{a C dx:Addr}{fs fs':List (Str×V)}
theorem Zjl (hok:HOk P w H h)(e:H a=some (.ins C dx fs)):∃mA,ObjM h a dx C mA/\(∀f,RelO (fs.lookup f) (mA f))/\PySem.Within mA (fs.map (·.1))/\fs.length<=1000/\H dx=some (.own a):=by
 obtain⟨d,z,ne,ob,mA,n,r,q⟩:=(show ObjOk P w H h a (.ins C dx fs) from hok a _ e)
 exact⟨mA,⟨ob,n,ne⟩,r,q,z,d⟩
end
structure Cls (K:PySem.W.Frag)(C:Addr):Prop where
 pg:PySem.W.plainGet K C Str.empty=true
 hd:PySem.W.hasDictIn K C=true
 po:PySem.W.plainOver K C=true
 sa:PySem.W.findIn K (.ref C) "__setattr__"=some (some (.builtin "object.__setattr__"))
theorem Cls.get {K:PySem.W.Frag}{C:Addr}(c:Cls K C)(f:Str):PySem.W.plainGet K C f=true:=c.pg
section
variable {X:Cx}{pins:List (Addr×Obj)}{σ:St}{H:Hp}{s:Shared}{A:Around}{E:Value->Shared->Prop}{Q:Value->Shared->Prop}{c:Value}{b:Bool}
inductive TyOf (K:PySem.W.Frag)(H:Hp):V->Value->Prop where
 |non:TyOf K H .non (.type "NoneType")
 |bl (x:Bool):TyOf K H (.bl x) (.type "bool")
 |int (i:Int):TyOf K H (.int i) (.type "int")
 |str (x:Str):TyOf K H (.str x) (.type "str")
 |flt (x:UInt64):TyOf K H (.flt x) (.type "float")
 |lst {a:Addr} {xs:List V} (e:H a=some (.lst xs)):TyOf K H (.ref a) (.type "list")
 |frz {a:Addr} {o:Obj} {xs:List V} (e:H a=some (.frz o (.lst xs))):TyOf K H (.ref a) (.type "list")
 |tup {a:Addr} {xs:List V} (e:H a=some (.tup xs)):TyOf K H (.ref a) (.type "tuple")
 |dK {a:Addr} {kvs:List (Key×V)} (e:H a=some (.dK kvs)):TyOf K H (.ref a) (.type "dict")
 |dT {a:Addr} {kvs:List (List Key×V)} (e:H a=some (.dT kvs)):TyOf K H (.ref a) (.type "dict")
 |ins {a C dx:Addr} {fs:List (Str×V)} (e:H a=some (.ins C dx fs)) (cl:Cls K C) (ha:PySem.W.findIn K (.ref C) "__class__"=some (some (.builtin "object.__class__")))
   (hn:PySem.W.specialIn K (.builtin "object.__class__") "__get__"=some (some (.builtin "getset_descriptor.__get__"))) (htk:PySem.W.takesIn K (.builtin "object.__class__")=some true)
   (hm:PySem.W.mroIn K C (.type "object")=some true):TyOf K H (.ref a) (.ref C)
theorem Ze7 {x:V}{u t:Value}(I:Inv X pins σ H s)(rx:RelV x u)(ty:TyOf X.K H x t)(e:PySem.W.kitOne X.K t c=some b)(h:∀tk,Q (.bool b) { s with toks:=tk }):
  wpAny (model X.prog X.w) A (call (.builtin "isinstance") [u,c]) Q E s:=by
 cases ty with
 |non=>cases (show u=Value.none from rx);exact PySem.W.kia_one PySem.W.kitx_none I.kIn True.intro e (fun z=>nomatch z) h
 |bl y=>cases (show u=Value.bool y from rx);exact PySem.W.kia_one PySem.W.kitx_bool I.kIn True.intro e (fun z=>nomatch z) h
 |int i=>obtain⟨t,q⟩:=(show ∃t,u=Value.int i t from rx);cases q;exact PySem.W.kia_one PySem.W.kitx_int I.kIn True.intro e (fun z=>nomatch z) h
 |str y=>obtain⟨t,q⟩:=(show ∃t,u=Value.str y t from rx);cases q;exact PySem.W.kia_one PySem.W.kitx_str I.kIn True.intro e (fun z=>nomatch z) h
 |flt y=>obtain⟨t,q⟩:=(show ∃t,u=Value.float y t from rx);cases q;exact PySem.W.kia_one PySem.W.kitx_float I.kIn True.intro e (fun z=>nomatch z) h
 | @lst a xs ea=>
  cases (show u=Value.ref a from rx)
  obtain⟨_,_,n,_,h1⟩:=(show ObjOk X.prog X.w H s.heap a (.lst xs) from I.hok a _ ea)
  exact PySem.W.kia_one PySem.W.kitx_list I.kIn ⟨_,h1,rfl⟩ e (fun z=>nomatch z) h
 | @frz a ob xs ea=>
  cases (show u=Value.ref a from rx)
  obtain⟨_,_,_,n,_,h1⟩:=(show ObjOk X.prog X.w H s.heap a (.frz ob (.lst xs)) from I.hok a _ ea)
  exact PySem.W.kia_one PySem.W.kitx_list I.kIn ⟨_,h1,rfl⟩ e (fun z=>nomatch z) h
 | @tup a xs ea=>
  cases (show u=Value.ref a from rx)
  obtain⟨_,_,_,p⟩:=(show ObjOk X.prog X.w H s.heap a (.tup xs) from I.hok a _ ea)
  obtain⟨o,h1,h2,_⟩:=p
  exact PySem.W.kia_one PySem.W.kitx_tuple I.kIn ⟨o,h1,h2⟩ e (fun z=>nomatch z) h
 | @dK a kvs ea=>
  cases (show u=Value.ref a from rx)
  obtain⟨_,_,vs,_,p⟩:=(show ObjOk X.prog X.w H s.heap a (.dK kvs) from I.hok a _ ea)
  obtain⟨o,es,ep,h1,h2,_⟩:=p
  exact PySem.W.kia_one PySem.W.kitx_dict I.kIn ⟨o,h1,h2.1⟩ e (fun z=>nomatch z) h
 | @dT a kvs ea=>
  cases (show u=Value.ref a from rx)
  obtain⟨_,_,xs,_,o,es,ep,h1,h2,_⟩:=(show ObjOk X.prog X.w H s.heap a (.dT kvs) from I.hok a _ ea)
  exact PySem.W.kia_one PySem.W.kitx_dict I.kIn ⟨o,h1,h2.1⟩ e (fun z=>nomatch z) h
 | @ins a C dx fs ea cl ha hn htk hm=>
  cases (show u=Value.ref a from rx)
  obtain⟨mA,O,_⟩:=Zjl I.hok ea
  obtain⟨od,J,_⟩:=O.look
  exact PySem.W.kia_one (PySem.W.kitx_own (cl.get _) cl.hd ha hn htk hm) I.kIn J e (fun z=>nomatch z) h
end
structure Room (k:Nat)(A:Around):Prop where
 hd:A.handled=none
 gd:A.guards=some []
 dp:A.depth+3*k+5<recursionLimit
 un:A.units+16*k+200<cLine
theorem Room.mono {j k:Nat}{A:Around}(r:Room k A)(h:j<=k):Room j A:=⟨r.hd,r.gd,by have:=r.dp;omega,by have:=r.un;omega⟩
theorem Room.deeper {k:Nat}{A:Around}(r:Room (k+1) A)(env:Env):Room k (A.deeper env):=
 ⟨r.hd,r.gd,by have:=r.dp;show A.depth+1+3*k+5<_;omega,by have:=r.un;show A.units+3+16*k+200<_;omega⟩
theorem Room.depth {k:Nat}{A:Around}(r:Room k A):A.depth<recursionLimit:=by have:=r.dp;omega
theorem Room.units {k:Nat}{A:Around}(r:Room k A):A.units+64<cLine:=by have:=r.un;omega
theorem Room.units0 {k:Nat}{A:Around}(r:Room k A):A.units<cLine:=by have:=r.un;omega
def tNil:TA:=fun _ H Q=>Q [] H
def Ze8 (ta:TE)(tr:TA):TA:=fun σ H Q=>ta σ H fun x H1=>tr σ H1 fun xs H2=>Q (x::xs) H2
section
variable {X:Cx}{e:Expr}{es:List Expr}{te:TE}{t:TA}{pos:Pos}
theorem Z01:PA X [] tNil:=fun _ _ _ _ H Q I h=>Calls.spliced_nil ⟨[],H,I,.nil,h⟩
theorem Z0b (ha:PE X e te)(hr:PA X es t)(hs:starEach (e::es) X.env=(false,eval e X.env)::starEach es X.env:=by rfl):PA X (e::es) (Ze8 te t):=by
 intro pos pins s σ H Q I h
 rw[hs]
 show wpAny _ _ (spliced ((false,eval e X.env)::backTo pos (starEach es X.env))) _ _ s
 refine Calls.spliced_cons (thn (ha pins s σ H _ I h) fun u s1 ⟨x,H1,I1,r1,q1⟩=>?_)
 exact thn (hr pos pins s1 σ H1 _ I1 q1) fun us s2 ⟨xs,H2,I2,r2,q2⟩=>⟨x::xs,H2,I2,.cons r1 r2,q2⟩
def Zpq (t:TA):TE:=fun σ H Q=>t σ H fun xs H1=>xs.length<=sizeLine/\∀p,H1 p=none->Q (.ref p) (upd H1 p (.tup xs))
def Zp4 (t:TA):TE:=fun σ H Q=>t σ H fun xs H1=>xs.length<=sizeLine/\∀p,H1 p=none->Q (.ref p) (upd H1 p (.lst xs))
theorem Z1a {x1}(h:PA X es t):PE X (.Tuple es x1 pos) (Zpq t):=by
 intro pins s σ H Q I hq
 refine wpAny_Tuple_spliced (thn (h pos pins s σ H _ I hq) fun us s1 ⟨xs,H1,I1,r,z,q⟩=>⟨by rw[<- r.length];exact z,?_⟩)
 have hf:H1 s1.heap.objs.size=none:=I1.hok.fresh (Nat.le_refl _)
 refine⟨.ref s1.heap.objs.size,upd H1 s1.heap.objs.size (.tup xs),I1.laid (t':=s1.toks) (fun b u e=>Heap.get?_push_of_some _ e) (Nat.le_refl _) ?_,rfl,q _ hf⟩
 exact⟨z,us,r,⟨_,Heap.get?_push_size _ rfl,rfl,_,rfl⟩⟩
theorem Z0x (h:PA X es t):PE X (.List es pos) (Zp4 t):=by
 intro pins s σ H Q I hq
 refine wpAny_List_spliced (thn (h pos pins s σ H _ I hq) fun us s1 ⟨xs,H1,I1,r,z,q⟩=>⟨by rw[<- r.length];exact z,?_⟩)
 have hf:H1 s1.heap.objs.size=none:=I1.hok.fresh (Nat.le_refl _)
 refine⟨.ref s1.heap.objs.size,upd H1 s1.heap.objs.size (.lst xs),I1.laid (t':=s1.toks) (fun b u e=>Heap.get?_push_of_some _ e) (Nat.le_refl _) ?_,rfl,q _ hf⟩
 exact⟨z,us,0,r,Heap.get?_push_size _ rfl⟩
end
abbrev Sp:=List V->Hp->VK->XK->Prop
abbrev CXT:=List Env->Hp->Shared->XK->Value->Shared->Prop
structure Env0 (P:Program)(w:World)(K:PySem.W.Frag)(mg:Str->Option Value)(base:Heap)(A:Around)(outer:List Env)(s:Shared)(H:Hp):Prop where
 frames:A.frames=some outer
 mod:Mod K mg base
 bs:∀b o,base.get? b=some o->s.heap.get? b=some o/\H b=none
 bsz:base.objs.size<=s.heap.objs.size
 funs:s.heap.FunFrames base outer
 frf:∀b∈frs outer,H b=none
 hok:HOk P w H s.heap
 bare:AllBare s.gens
def CE (outer:List Env)(P:Program)(w:World)(H:Hp)(s:Shared)(Q:VK)(u:Value)(s':Shared):Prop:=
 ∃v H',s'.os=s.os/\AllBare s'.gens/\Un (frs outer) [] H H' s.heap s'.heap/\HOk P w H' s'.heap/\RelV v u/\Q v H'
def CR (CX:CXT)(outer:List Env)(P:Program)(w:World)(H:Hp)(s:Shared)(Q:VK)(E:XK)(r:Result)(s':Shared):Prop:=
 match r with
 | .ok (.ret u)=>CE outer P w H s Q u s'
 | .ok _=>False
 | .error e=>CX outer H s E e s'
structure FnOk (P:Program)(w:World)(K:PySem.W.Frag)(mg:Str->Option Value)(base:Heap)(CX:CXT)(k:Nat)(f:Addr)(fd:FuncData)(ps:List Str)(sp:Sp):Prop where
 len:∀vs H Q E,sp vs H Q E->vs.length=ps.length
 run:∀(A:Around) (outer:List Env) (s:Shared) (H:Hp) (args:Args) (us:List Value) (vs:List V) (Q:VK) (E:XK),Room k A->Env0 P w K mg base A outer s H->BindsTo s fd args (ps.zip us)->Vals vs us->sp vs H Q E →
  codeAny (model P w) A (.call (.ref f) args) (CR CX outer P w H s Q E) s
theorem FnOk.imp {P:Program}{w:World}{K:PySem.W.Frag}{mg:Str->Option Value}{base:Heap}{CX:CXT}{k:Nat}{f:Addr}{fd:FuncData}{ps:List Str}{sp sp':Sp}(F:FnOk P w K mg base CX k f fd ps sp)
  (h:∀vs H Q E,sp' vs H Q E->sp vs H Q E):FnOk P w K mg base CX k f fd ps sp':=
 ⟨fun vs H Q E q=>F.len vs H Q E (h _ _ _ _ q),fun A outer s H args us vs Q E hr he hb hv hs=>F.run A outer s H args us vs Q E hr he hb hv (h _ _ _ _ hs)⟩
section
variable {X:Cx}{pins:List (Addr×Obj)}{σ:St}{H:Hp}{s s':Shared}
theorem Inv.env0 (I:Inv X pins σ H s):Env0 X.prog X.w X.K X.mg X.base X.A X.stack s H:=
 ⟨I.ok.frames,I.ok.mod,I.bs,Nat.le_trans I.ok.bsz I.sz,I.stack,I.stkFree,I.hok,I.bare⟩
theorem Inv.after {Q:VK}{u:Value}(I:Inv X pins σ H s)(h:CE X.stack X.prog X.w H s Q u s'):EP X pins σ Q u s':=by
 obtain⟨v,H',os,bare,un,hok,r,q⟩:=h
 obtain⟨hh,g,d,t,os'⟩:=s'
 obtain rfl:os'=s.os:=os
 exact⟨v,H',I.call (h':=hh) (g':=g) (d':=d) (t':=t) (ch:=[]) un hok bare (fun b z=>absurd z (by simp)),r,q⟩
end
def Znx (sp:Sp)(dvs:List V)(E:XK)(t:TA):TE:=fun σ H Q=>t σ H fun vs H1=>sp (vs++dvs) H1 Q E
def Binds (K:PySem.W.Frag)(fd:FuncData)(ps:List Str)(ds:List Value):Prop:=
 ∀(s:Shared) (us:List Value),K.In s.heap->(us++ds).length=ps.length->BindsTo s fd ⟨us,[]⟩ (ps.zip (us++ds))
theorem Binds.all {K:PySem.W.Frag}{fd:FuncData}{ps:List Str}(h:∀us:List Value,us.length=ps.length->bindArgs fd ⟨us,[]⟩=pure (ps.zip us)):Binds K fd ps []:=fun s us _ hl=>by
 rw[append_nil] at hl ⊢
 exact .of_eq (h us hl)
def Ze9 (CX:CXT)(X:Cx)(E:XK):Prop:=∀(pins:List (Addr×Obj)) (σ:St) (H:Hp) (s:Shared) (e:Value) (s':Shared),Inv X pins σ H s->CX X.stack H s E e s'->X.xe e s'
section
variable {X:Cx}{CX:CXT}{k:Nat}{f C:Addr}{fd:FuncData}{ps:List Str}{sp:Sp}{dvs:List V}{ds:List Value}{E:XK}{x m:Str}{p pos apos:Pos}{e o:Expr}{es:List Expr}{ta:TE}{t:TA}
theorem Zly {pins:List (Addr×Obj)}{σ:St}{H:Hp}{s:Shared}{Q:VK}{us:List Value}{vs:List V}(F:FnOk X.prog X.w X.K X.mg X.base CX k f fd ps sp)(hr:Room k X.A)(hb:Binds X.K fd ps ds)(hd:Vals dvs ds)(hx:Ze9 CX X E)
  (I:Inv X pins σ H s) (r:Vals vs us) (h:sp (vs++dvs) H Q E):wpAny (model X.prog X.w) X.A (call (.ref f) us) (EP X pins σ Q) X.xe s:=by
 have r2:Vals (vs++dvs) (us++ds):=r.append hd
 have hl:(us++ds).length=ps.length:=by rw[<- r2.length];exact F.len _ _ _ _ h
 refine wpAny_call (codeAny_mono (F.run X.A X.stack s H ⟨us,[]⟩ (us++ds) (vs++dvs) Q E hr I.env0 (hb s us I.kIn hl) r2 h) fun r s' hq=>?_)
 cases r with
 |error e=>exact hx pins σ H s e s' I hq
 |ok fl=>
  cases fl with
  |ret u=>exact I.after hq
  |next=>exact False.elim hq
  |brk=>exact False.elim hq
  |cont=>exact False.elim hq
theorem Z05 (F:FnOk X.prog X.w X.K X.mg X.base CX k f fd ps sp)(hr:Room k X.A)(hg:Gl X x)(hm:X.mg x=some (.ref f))(hk:PySem.W.keepIn X.K (.ref f)=true)(hb:Binds X.K fd ps ds)(hd:Vals dvs ds)(hx:Ze9 CX X E)
  (ha:PA X (e::es) t) (hdb:(x==("__debug__":Str))=false:=by decide) (he:starEach (e::es) X.env=(false,eval e X.env)::starEach es X.env:=by rfl) (hpl:(backTo pos (starEach es X.env)).any (·.1)=false:=by rfl):
  PE X (.Call (.Name x p) (e::es) [] pos) (Znx sp dvs E t):=by
 intro pins s σ H Q I h
 refine wpAny_Call_Name_kw (Zdy I hg hm ?_ hdb)
 refine PySem.W.callWith_K (h₀:=X.base) I.ok.mod.kin hk (thn (ha pos pins s σ H _ I h) fun us s1 ⟨vs,H1,I1,r,q⟩=>⟨I1.kIn,?_⟩) he hpl
 exact Zly F hr hb hd hx I1 r q
end
structure FnScope (N P:List Str)(sc:Scope):Prop where
 kind:sc.kind = .function
 co:sc.isCoroutine=false
 gen:sc.isGenerator=false
 nd:N.Nodup
 pre:N.take P.length=P
 par:∀x∈P,sc.names.lookup x=some .local∨sc.names.lookup x=some .cell
 nofree:∀y∈sc.names,y.2 ≠ .free
theorem Z91 {kindOf:Str->Option NameKind}{x:Str}:∀{binds:List (Str×Value)} {m:Str->Option Value},(∀v,(x,v)∉binds)->bindL kindOf binds m x=m x
 |[],_,_=>rfl
 | (n,v)::r,m,h=>by
  unfold bindL
  rw[Z91 fun w hw=>h w (mem_cons_of_mem _ hw)]
  split
  ·have:x≠n:=by rintro rfl;exact h v mem_cons_self
   simp [this]
  ·rfl
theorem Z92 {kindOf:Str->Option NameKind}{x:Str}:∀{binds:List (Str×Value)} {m:Str->Option Value},(∀v,(x,v)∉binds)->bindC kindOf binds m x=m x
 |[],_,_=>rfl
 | (n,v)::r,m,h=>by
  unfold bindC
  rw[Z92 fun w hw=>h w (mem_cons_of_mem _ hw)]
  split
  ·rfl
  ·have:x≠n:=by rintro rfl;exact h v mem_cons_self
   simp [this]
theorem Z93 {kindOf:Str->Option NameKind}{x:Str}{v:Value}:∀{P:List Str} {vs:List Value} {i:Nat} {m:Str->Option Value},P.Nodup->P[i]? = some x->vs[i]? = some v->kindOf x=some .local →
  bindL kindOf (P.zip vs) m x=some v
 |[],_,_,_,_,h,_,_=>by simp at h
 |_::_,[],_,_,_,_,h,_=>by simp at h
 |p::P,w::vs,0,m,nd,h1,h2,hk=>by
  simp at h1 h2;subst h1;subst h2
  show bindL kindOf ((p,w)::P.zip vs) m p=_
  unfold bindL
  rw[Z91 fun v hv=>(nodup_cons.mp nd).1 (of_mem_zip hv).1,if_pos hk]
  simp
 |p::P,w::vs,i+1,m,nd,h1,h2,hk=>by
  show bindL kindOf ((p,w)::P.zip vs) m x=_
  unfold bindL
  exact Z93 (i:=i) (nodup_cons.mp nd).2 (by simpa using h1) (by simpa using h2) hk
theorem Z94 {kindOf:Str->Option NameKind}{x:Str}{v:Value}:∀{P:List Str} {vs:List Value} {i:Nat} {m:Str->Option Value},P.Nodup->P[i]? = some x->vs[i]? = some v->kindOf x≠some .local →
  bindC kindOf (P.zip vs) m x=some v
 |[],_,_,_,_,h,_,_=>by simp at h
 |_::_,[],_,_,_,_,h,_=>by simp at h
 |p::P,w::vs,0,m,nd,h1,h2,hk=>by
  simp at h1 h2;subst h1;subst h2
  show bindC kindOf ((p,w)::P.zip vs) m p=_
  unfold bindC
  rw[Z92 fun v hv=>(nodup_cons.mp nd).1 (of_mem_zip hv).1,if_neg hk]
  simp
 |p::P,w::vs,i+1,m,nd,h1,h2,hk=>by
  show bindC kindOf ((p,w)::P.zip vs) m x=_
  unfold bindC
  exact Z94 (i:=i) (nodup_cons.mp nd).2 (by simpa using h1) (by simpa using h2) hk
def Z95 (N:List Str)(vs:List V):St:=vs.map some++List.replicate (N.length-vs.length) none
def Zgy (CX:CXT)(P:Program)(w:World)(K:PySem.W.Frag)(mg:Str->Option Value)(base:Heap)(N:List Str)(qual:Str)(scope:Scope)(f:Addr)(cd:Value)(A:Around)(outer:List Env)(s:Shared)(H:Hp)(E:XK):Cx where
 prog:=P
 w:=w
 K:=K
 mg:=mg
 base:=base
 A:=A.deeper (envOfC qual scope s.heap.objs.size f cd)
 N:=N
 s₀:=s
 H₀:=H
 env:=envOfC qual scope s.heap.objs.size f cd
 outer:=outer
 stack:=envOfC qual scope s.heap.objs.size f cd::outer
 ex:=[]
 calm:=true
 fn:=fun _=>true
 pn:=[]
 xe:=fun e s'=>wpAny (model P w) (A.deeper (envOfC qual scope s.heap.objs.size f cd)) (leaving (envOfC qual scope s.heap.objs.size f cd) e) (fun _ s''=>CX outer H s E e s'') (fun e' s''=>CX outer H s E e' s'') s'
theorem Zbc {sc:Scope}{n:Nat}{x:Str}(h:sc.names.lookup x=some .cell):∃c,(cellsFrom n sc.names []).lookup x=some c:=by
 have q:=PySem.W.cellsFrom_some sc.names n [] (.inl h)
 exact Option.isSome_iff_exists.mp q
theorem Zea {CX:CXT}{P:Program}{w:World}{K:PySem.W.Frag}{mg:Str->Option Value}{base:Heap}{N ps:List Str}{qual:Str}{scope:Scope}{f:Addr}{cd:Value}{A:Around}{outer:List Env}{s s1:Shared}{H:Hp}{E:XK}{us:List Value}{vs:List V}
  (S:FnScope N ps scope) (hd:A.handled=none) (e0:Env0 P w K mg base A outer s H) (hl:vs.length=ps.length) (r:Vals vs us)
  (x:InCallC s s.heap.objs.size (bindL (envOfC qual scope s.heap.objs.size f cd).kindOf (ps.zip us) fun _=>none) (cellsFrom (s.heap.objs.size+1) scope.names []) (bindC (envOfC qual scope s.heap.objs.size f cd).kindOf (ps.zip us) fun _=>none) s1):
  Inv (Zgy CX P w K mg base N qual scope f cd A outer s H E) [] (Z95 N vs) H s1:=by
 have hpl:ps.length<=N.length:=by have:=congrArg List.length S.pre;rw[length_take] at this;omega
 obtain⟨h1,tk,rfl,hk⟩:=x.done
 have noA:∀b:Addr,b∉(Zgy CX P w K mg base N qual scope f cd A outer s H E).ex:=fun b z=>absurd (show b∈([]:List Addr) from z) (by simp)
 refine⟨⟨e0.mod,S.kind,rfl,rfl,Nat.le_refl _,fun y z c h1 h2=>?_,fun y hy=>?_,fun y c _ h=>?_,fun _=>hd,Around.frames_deeper e0.frames,.inr ⟨rfl,rfl⟩,fun b z=>absurd z (noA b),e0.bs,e0.bsz,fun b _ _=>noA b,fun b z=>absurd z (noA b),e0.funs,e0.frf⟩,
  rfl,e0.bare,Un.kept hk,⟨_,x.toInCall.ns,fun i y v h1 h2 h3=>?_⟩,fun y c h=>⟨_,x.cell y c h⟩,e0.hok.fresh (Nat.le_refl _),fun y c h=>?_,fun p hp=>absurd (show p∈([]:List (Addr×Obj)) from hp) (by simp),e0.hok.kept hk,?_⟩
 ·exact name_of_addr x.apart (PySem.mem_of_lookup h1) (PySem.mem_of_lookup h2)
 ·have hy:scope.names.lookup y=some .cell∨scope.names.lookup y=some .free:=hy
  rcases hy with hy|hy
  ·exact Zbc hy
  ·exact absurd rfl (S.nofree _ (PySem.mem_of_lookup hy))
 ·exact Nat.le_of_lt (x.above y c (PySem.mem_of_lookup h))
 ·have hi:i<vs.length:=by
   unfold Z95 at h2
   by_cases hi:i<vs.length
   ·exact hi
   ·rw[List.getElem?_append_right (by simpa using hi)] at h2
    rw[List.getElem?_replicate] at h2
    split at h2 <;> cases h2
  have ha:vs[i]? = some v:=by
   unfold Z95 at h2
   rw[List.getElem?_append_left (by simpa using hi),List.getElem?_map] at h2
   cases e:vs[i]? with
   |none=>rw[e] at h2;cases h2
   |some a=>rw[e] at h2;cases h2;rfl
  obtain⟨u,hu,rv⟩:=r.get ha
  have hp:ps[i]? = some y:=by
   rw[<- S.pre,List.getElem?_take_of_lt (by omega)];exact h1
  have ndP:ps.Nodup:=by rw[<- S.pre];exact S.nd.sublist (List.take_sublist _ _)
  refine⟨u,rv,?_⟩
  rcases S.par y (mem_of_getElem? hp) with k|k
  ·exact .inl ⟨k,Z93 ndP hp hu k⟩
  ·obtain⟨c,e⟩:=Zbc (n:=s.heap.objs.size+1) k
   refine .inr ⟨.inl k,c,e,?_⟩
   have q:=x.cell y c e
   rw[Z94 ndP hp hu (by show scope.names.lookup y≠_;rw[k];decide)] at q
   exact q
 ·exact e0.hok.fresh (Nat.le_of_lt (x.above y c (PySem.mem_of_lookup h)))
 ·unfold Z95
  show _=N.length
  rw[length_append,length_map,List.length_replicate]
  omega
theorem Zny {CX:CXT}{P:Program}{w:World}{K:PySem.W.Frag}{mg:Str->Option Value}{base:Heap}{k:Nat}{f:Addr}{name qual:Str}{params:Arguments}{body:List Stmt}{scope:Scope}{dV kV doc pm cdv ct oc:Value}{an od:Option Addr}
  {osl:Array (Option Value)} {N ps:List Str} {sp:Sp} (lk:K.lookup f=some ⟨oc,od,.func (PySem.W.fnOf name qual params body scope dV kV doc pm an cdv ct),osl⟩) (hcd:PySem.W.codeIn K cdv qual=true) (S:FnScope N ps scope)
  (len:∀vs H Q E,sp vs H Q E->vs.length=ps.length)
  (hbody:∀(A:Around) (outer:List Env) (s:Shared) (H:Hp) (vs:List V) (Q:VK) (E:XK),Room k (A.deeper (envOfC qual scope s.heap.objs.size f cdv))->sp vs H Q E →
   ∃t,PSs (Zgy CX P w K mg base N qual scope f cdv A outer s H E) body t/\t { nx:=fun _ H'=>Q .non H',rt:=Q } (Z95 N vs) H):
  FnOk P w K mg base CX (k+1) f (PySem.W.fnOf name qual params body scope dV kV doc pm an cdv ct) ps sp:=by
 refine⟨len,fun A outer s H args us vs Q E hr e0 hb r hsp=>?_⟩
 have hl:=len _ _ _ _ hsp
 have KX:K.In s.heap:=e0.mod.kin.keeps fun b o e=>(e0.bs b o e).1
 have lim:s.heap.NoLimit:=e0.mod.nolimit.keeps fun b o e=>(e0.bs b o e).1
 have hkind:∀y∈ps.zip us,scope.names.lookup y.1=some .local∨(scope.names.lookup y.1=some .cell/\((cellsFrom (s.heap.objs.size+1) scope.names []).lookup y.1).isSome=true):=fun⟨n,v⟩ hy=>by
  rcases S.par n (of_mem_zip hy).1 with q|q
  ·exact .inl q
  ·exact .inr ⟨q,PySem.W.cellsFrom_some _ _ _ (.inl q)⟩
 refine codeAny_call_function hr.depth (KX _ _ lk) rfl S.co S.gen rfl (PySem.W.codeRec_of KX hcd) (hb _ _ _ _ ?_)
 refine wpAny_newFunctionEnv_cells S.kind hkind fun env he s1 x=>?_
 subst he
 refine⟨lim.keeps x.toInCall.keep,codeAny_func ?_⟩
 obtain⟨t,ht,hq⟩:=hbody A outer s H vs Q E (hr.deeper _) hsp
 have I:Inv (Zgy CX P w K mg base N qual scope f cdv A outer s H E) [] (Z95 N vs) H s1:=Zea S hr.hd e0 hl r x
 refine wpAny_mono (ht [] s1 (Z95 N vs) H _ I hq) (fun fl s' hs=>?_) fun e s' hs=>hs
 have fin:∀{σ':St} {H':Hp} {v:V} {u:Value},Inv (Zgy CX P w K mg base N qual scope f cdv A outer s H E) [] σ' H' s'->RelV v u->Q v H'->CE outer P w H s Q u s':=
  fun {σ' H' v u} J rv q=>⟨v,H',J.os,J.bare,J.base,J.hok,rv,q⟩
 cases fl with
 |ret u=>
  obtain⟨v,σ',H',J,rv,q⟩:=hs
  exact fin J rv q
 |next=>
  obtain⟨σ',H',J,q⟩:=hs
  exact fin (v:=V.non) (u:=Value.none) J rfl q
 |brk=>
  obtain⟨_,_,_,q⟩:=hs
  exact False.elim q
 |cont=>
  obtain⟨_,_,_,q⟩:=hs
  exact False.elim q
section
variable {X:Cx}{x:Str}{p pos:Pos}{e:Expr}{es:List Expr}{t:TA}{id T:String}{r:List V->Hp->VK->Prop}
def tCB (r:List V->Hp->VK->Prop)(t:TA):TE:=fun σ H Q=>t σ H fun vs H1=>r vs H1 Q
theorem Z0n (hc:Z3l X (.builtin id) r)(hg:Gl X x)(hm:X.mg x=none)(hv:bootBuiltins x=some (.builtin id))(ha:PA X (e::es) t)(hn:x≠"__name__":=by decide)(hdb:(x==("__debug__":Str))=false:=by decide)
  (he:starEach (e::es) X.env=(false,eval e X.env)::starEach es X.env:=by rfl) (hpl:(backTo pos (starEach es X.env)).any (·.1)=false:=by rfl):PE X (.Call (.Name x p) (e::es) [] pos) (tCB r t):=by
 intro pins s σ H Q I h
 refine wpAny_Call_Name_kw (Z50 I hg hm hv ?_ hn hdb)
 exact PyProof.Rows.callWith_builtin1 (thn (ha pos pins s σ H _ I h) fun us s1 ⟨vs,H1,I1,r1,q1⟩=>hc pins s1 σ H1 vs us Q I1 r1 q1) he hpl
theorem Z16 (hc:Z3l X (.type T) r)(hg:Gl X x)(hm:X.mg x=none)(hv:bootBuiltins x=some (.type T))(ha:PA X (e::es) t)(hn:x≠"__name__":=by decide)(hdb:(x==("__debug__":Str))=false:=by decide)
  (he:starEach (e::es) X.env=(false,eval e X.env)::starEach es X.env:=by rfl) (hpl:(backTo pos (starEach es X.env)).any (·.1)=false:=by rfl):PE X (.Call (.Name x p) (e::es) [] pos) (tCB r t):=by
 intro pins s σ H Q I h
 refine wpAny_Call_Name_kw (Z50 I hg hm hv ?_ hn hdb)
 exact PyProof.Rows.callWith_type1 (thn (ha pos pins s σ H _ I h) fun us s1 ⟨vs,H1,I1,r1,q1⟩=>hc pins s1 σ H1 vs us Q I1 r1 q1) he hpl
end
end L2
namespace HT
open PySem PyProof.Rows
section
variable {prog:Program}{w:World}{A:Around}{E:Value->Shared->Prop}{s:Shared}
theorem cat_tup {t b:Addr}{vs ws:List Value}{Q:Value->Shared->Prop}(ht:IsTup s.heap t vs.toArray)(hb:IsTup s.heap b ws.toArray)(hv:vs ≠ [])
  (h1:ws = []->Q (.ref t) s) (h2:ws ≠ []->Q (.ref s.heap.objs.size) { s with heap:=s.heap.push { cls:=.type "tuple",data:=.seq (vs++ws).toArray } })
  (hsz:vs.length+ws.length<=sizeLine):wpAny (model prog w) A (binaryOp .Add (.ref t) (.ref b)) Q E s:=by
 obtain⟨⟨cls,dd,data,sl⟩,ho,hc,n,hd⟩:=id ht
 obtain⟨⟨cls2,dd2,data2,sl2⟩,ho2,hc2,n2,hd2⟩:=id hb
 simp only at hc hd hc2 hd2
 subst hc hd hc2 hd2
 have e:vs.toArray++ws.toArray=(vs++ws).toArray:=by simp
 by_cases hw:ws = []
 ·exact concat_meets ⟨_,ho,rfl⟩ ⟨_,ho2,rfl⟩ noFill_tuple_add seq_tuple_add PySem.F.slot_tuple_add PySem.F.entry_tuple_add (PySem.F.args_tuple_add_2 _ _)
   (tuple_addW1 t b vs.toArray ws.toArray n n2 dd dd2 sl sl2 (by simpa using hv) (by simp [hw])) ⟨ho,ho2,h1 hw⟩
 ·refine concat_meets ⟨_,ho,rfl⟩ ⟨_,ho2,rfl⟩ noFill_tuple_add seq_tuple_add PySem.F.slot_tuple_add PySem.F.entry_tuple_add (PySem.F.args_tuple_add_2 _ _)
   (tuple_addW2 t b vs.toArray ws.toArray n n2 dd dd2 sl sl2 (by simpa using hv) (by simpa using hw) (by rw[size_toArray,size_toArray];exact hsz)) ⟨ho,ho2,?_⟩
  rw[e]
  exact h2 hw
def sIx (n d:Nat):Option Int->Nat
 |none=>d
 |some v=>if v<0 then (v+(n:Int)).toNat else min v.toNat n
theorem Zlz (n d:Nat)(hd:d<=n)(o:Option Int):sIx n d o<=n:=by
 cases o with
 |none=>exact hd
 |some v=>
  show(if v<0 then (v+(n:Int)).toNat else min v.toNat n)<=n
  by_cases hv:v<0
  ·rw[if_pos hv];omega
  ·rw[if_neg hv];exact Nat.min_le_right _ _
theorem Zeb (v:Int)(n d:Nat):(if v<0 then max (v+(n:Int)) 0 else min v (n:Int))=((sIx n d (some v):Nat):Int):=by
 show(if v<0 then max (v+(n:Int)) 0 else min v (n:Int))=(((if v<0 then (v+(n:Int)).toNat else min v.toNat n):Nat):Int)
 by_cases hv:v<0
 ·simp only [if_pos hv];omega
 ·simp only [if_neg hv];omega
theorem Zcu (lo hi:Option Int)(n:Nat):Builtin.Slice.sliceAdjust lo hi 1 (n:Int)=(((sIx n 0 lo:Nat):Int),((sIx n n hi:Nat):Int)):=by
 have h1:¬ ((1:Int)<0):=by omega
 unfold Builtin.Slice.sliceAdjust
 simp only [h1,if_false]
 refine Prod.ext ?_ ?_
 ·cases lo with
  |none=>rfl
  |some v=>exact Zeb v n 0
 ·cases hi with
  |none=>rfl
  |some v=>exact Zeb v n n
theorem Zcv (i j:Nat):Builtin.Slice.slicePlaces (i:Int) (j:Int) 1=j-i:=by
 unfold Builtin.Slice.slicePlaces
 have h1:(1:Int)>0:=by omega
 simp only [h1,if_true,Int.ediv_one]
 split <;> omega
theorem Z7m {v:Value}{o:Option Int}{Q:Option Int->Shared->Prop}(p:IsPart v o)(h:Q o s):wpAny (model prog w) A (Builtin.Slice.slicePartIndex v) Q E s:=by
 cases p with
 |none=>exact slicePart_none h
 |int i t=>exact slicePart_int h
theorem Z3s {sl:Addr}{vl vu:Value}{lo hi:Option Int}{n:Nat}{Q:Int×Int×Nat->Shared->Prop}(hs:s.heap.IsSliceOf sl vl vu .none)(pl:IsPart vl lo)(pu:IsPart vu hi)
  (h:Q (((sIx n 0 lo:Nat):Int),1,sIx n n hi-sIx n 0 lo) s):wpAny (model prog w) A (Builtin.Slice.sliceApplied (.ref sl) (pure (n:Int))) Q E s:=by
 obtain⟨os,hos,hcs,hds⟩:=id hs
 unfold Builtin.Slice.sliceApplied Builtin.Slice.sliceFields
 refine wpAny_bind (wpAny_bind (wpAny_field hos hds (x:=vl) rfl (wpAny_bind (wpAny_field hos hds (x:=vu) rfl (wpAny_bind (wpAny_field hos hds (x:=.none) rfl (wpAny_pure ?_)))))))
 refine wpAny_bind (slicePart_none ?_)
 show wpAny _ _ (if ((1:Int)==0)=true then _ else _) _ _ s
 rw[if_neg (by decide)]
 refine wpAny_bind (Z7m pl (wpAny_bind (Z7m pu (wpAny_bind (wpAny_pure ?_)))))
 show wpAny _ _ (match Builtin.Slice.sliceAdjust lo hi 1 (n:Int) with | (lo,hi)=>pure (lo,(1:Int),Builtin.Slice.slicePlaces lo hi 1)) _ _ s
 rw[Zcu lo hi n]
 show wpAny _ _ (pure (((sIx n 0 lo:Nat):Int),(1:Int),Builtin.Slice.slicePlaces ((sIx n 0 lo:Nat):Int) ((sIx n n hi:Nat):Int) 1)) _ _ s
 rw[Zcv]
 exact wpAny_pure h
theorem Zgz (xs:Array Value)(i k:Nat):((List.range k).filterMap fun(m:Nat)=>xs[((i:Int)+(m:Int)*1).toNat]?).toArray=((xs.toList.drop i).take k).toArray:=by
 have e:(fun(m:Nat)=>xs[((i:Int)+(m:Int)*1).toNat]?)=fun m=>xs[i+m]? := by
  funext m
  have:((i:Int)+(m:Int)*1).toNat=i+m:=by omega
  rw[this]
 rw[e]
 have:=pick_run xs i k
 rw[List.filterMap_map] at this
 have e2:((fun x=>xs[x]?)∘fun x=>i+x)=fun m=>xs[i+m]? := rfl
 rw[e2] at this
 rw[this]
theorem getItem_tuple_cut {t sl:Addr}{items:Array Value}{vl vu:Value}{lo hi:Option Int}{Q:Value->Shared->Prop}(ht:IsTup s.heap t items)(hs:s.heap.IsSliceOf sl vl vu .none)(pl:IsPart vl lo)(pu:IsPart vu hi)
  (hw:¬ (sIx items.size 0 lo=0/\sIx items.size items.size hi=items.size))
  (h:Q (.ref s.heap.objs.size) { s with heap:=s.heap.push { cls:=.type "tuple",data:=.seq ((items.toList.drop (sIx items.size 0 lo)).take (sIx items.size items.size hi-sIx items.size 0 lo)).toArray } })
  (hsz:items.size<=sizeLine):wpAny (model prog w) A (getItem (.ref t) (.ref sl)) Q E s:=by
 have htake:sizeOk (.seq ((items.toList.drop (sIx items.size 0 lo)).take (sIx items.size items.size hi-sIx items.size 0 lo)).toArray):=by
  show((items.toList.drop (sIx items.size 0 lo)).take (sIx items.size items.size hi-sIx items.size 0 lo)).toArray.size<=sizeLine
  rw[size_toArray,length_take,length_drop,Array.length_toList]
  omega
 have hj:sIx items.size items.size hi<=items.size:=Zlz _ _ (Nat.le_refl _) hi
 obtain⟨os,hos,hcs,hds⟩:=id hs
 have hTs:s.TypeIs (.ref sl) "slice":=⟨os,hos,hcs⟩
 unfold getItem
 try with_reducible refine wpAny_holding ?_
 first|refine wpAny_bind (wpAny_pure ?_)|skip
 refine wpAny_bind (wpAny_sequenceKey ht.typeIs (by decide) ?_)
 refine wpAny_bind (wpAny_callSpecial?_slot (name:=Str.ofString "__getitem__") ht.typeIs PyProof.Rows.slot_tuple_getitem
  (wpAny_call_entry PyProof.Rows.slot_tuple_getitem ht.typeIs entry_tuple_getitem ?_ (args_tuple_getitem _ _)))
 show wpAny _ _ (Builtin.Tuple.tupleItemsOf (.ref t) >>= _) _ _ s
 refine wpAny_bind (tupleItemsOf_ ht ?_)
 refine wpAny_bind (wpAny_typeOf hTs ?_)
 rw[if_pos (by decide)]
 refine wpAny_bind (Z3s hs pl pu ?_)
 have hno:¬ ((((sIx items.size 0 lo:Nat):Int)==0&&(1:Int)==1&&(sIx items.size items.size hi-sIx items.size 0 lo)==items.size)=true):=by
  intro q
  rw[Bool.and_eq_true,Bool.and_eq_true] at q
  have q1:((sIx items.size 0 lo:Nat):Int)=0:=eq_of_beq q.1.1
  have q2:sIx items.size items.size hi-sIx items.size 0 lo=items.size:=eq_of_beq q.2
  exact hw ⟨by omega,by omega⟩
 show wpAny _ _ (if (((sIx items.size 0 lo:Nat):Int)==0&&(1:Int)==1&&(sIx items.size items.size hi-sIx items.size 0 lo)==items.size)=true then _ else _) _ _ s
 rw[if_neg hno,Zgz]
 first
  |exact wpAny_bind (m:=Builtin.Tuple.tupleExact _) (wpAny_newObj_type (wpAny_pure ⟨_,rfl,wpAny_pure h⟩) htake)
  |exact wpAny_bind (m:=Builtin.Tuple.tupleExact _) (wpAny_newObj_type (wpAny_bind (wpAny_pure (wpAny_pure ⟨_,rfl,wpAny_pure h⟩))) htake)
  |exact wpAny_bind (wpAny_bind (m:=Builtin.Tuple.tupleExact _) (wpAny_newObj_type (wpAny_pure (wpAny_pure ⟨_,rfl,wpAny_pure h⟩)) htake))
  |exact wpAny_bind (wpAny_bind (m:=Builtin.Tuple.tupleExact _) (wpAny_newObj_type (wpAny_pure ⟨_,rfl,wpAny_pure h⟩) htake))
end
end HT
namespace L2
open PySem PySem.Spec PyProof.Rows
abbrev TO:=St->Hp->(Option Int->Hp->Prop)->Prop
def PO (X:Cx)(e:Option Expr)(t:TO):Prop:=
 ∀(pins:List (Addr×Obj)) (s:Shared) (σ:St) (H:Hp) (Q:Option Int->Hp->Prop),Inv X pins σ H s->t σ H Q →
  wpAny (model X.prog X.w) X.A (evalPart e X.env) (fun u s'=>∃o H',Inv X pins σ H' s'/\IsPart u o/\Q o H') X.xe s
def tNoPart:TO:=fun _ H Q=>Q none H
def Znz (t:TE):TO:=fun σ H Q=>t σ H fun x H1=>∃i,x = .int i/\Q (some i) H1
theorem Zcw {ns:List Int}:∀{us:List Value},Vals (ns.map V.int) us->IntsAre us ns:=by
 induction ns with
 |nil=>intro us r;rw[map_nil] at r;cases r;exact .nil
 |cons n ns ih=>
  intro us r
  rw[map_cons] at r
  cases r with
  |cons r1 r2=>
   obtain⟨t,e⟩:=r1
   subst e
   exact .cons n t (ih r2)
section
variable {X:Cx}{e:Expr}{te:TE}{lo hi:Option Expr}{tl th:TO}{pos p2:Pos}
theorem Z1m:PO X none tNoPart:=by
 intro pins s σ H Q I h
 rw[evalPart_none]
 exact wpAny_pure ⟨none,H,I,.none,h⟩
theorem Z1h (h:PE X e te):PO X (some e) (Znz te):=by
 intro pins s σ H Q I hw
 rw[evalPart_some]
 refine thn (h pins s σ H _ I hw) fun u s1 ⟨x,H1,I1,r1,q1⟩=>?_
 obtain⟨i,rfl,q⟩:=q1
 obtain⟨t,rfl⟩:=r1
 exact⟨some i,H1,I1,.int i t,q⟩
def SlR (X:Cx)(r:V->Option Int->Option Int->Hp->VK->Prop):Prop:=
 ∀(pins:List (Addr×Obj)) (s:Shared) (σ:St) (H:Hp) (x:V) (v vl vu:Value) (lo hi:Option Int) (sl:Addr) (Q:VK),Inv X pins σ H s->RelV x v->s.heap.IsSliceOf sl vl vu .none->IsPart vl lo->IsPart vu hi->r x lo hi H Q →
  ∃T id,typeLookup (.type T) "__getitem__"=pure (some (.builtin id))/\s.TypeIs v T/\wpAny (model X.prog X.w) X.A (getItem v (.ref sl)) (EP X pins σ Q) X.xe s
def tSl (r:V->Option Int->Option Int->Hp->VK->Prop)(te:TE)(tl th:TO):TE:=fun σ H Q=>te σ H fun x H1=>tl σ H1 fun l H2=>th σ H2 fun u H3=>r x l u H3 Q
theorem Z17 {r:V->Option Int->Option Int->Hp->VK->Prop}(hr:SlR X r)(he:PE X e te)(hl:PO X lo tl)(hu:PO X hi th):PE X (.Subscript e (.Slice lo hi none p2) pos) (tSl r te tl th):=by
 intro pins s σ H Q I h
 refine Subscript_ (thn (he pins s σ H _ I h) fun v s1 ⟨x,H1,I1,r1,q1⟩=>?_)
 refine wpAny_Slice (thn (hl pins s1 σ H1 _ I1 q1) fun vl s2 ⟨l,H2,I2,pl,q2⟩=>thn (hu pins s2 σ H2 _ I2 q2) fun vu s3 ⟨u,H3,I3,pu,q3⟩=>?_)
 rw[evalPart_none]
 refine wpAny_pure ?_
 have I4:Inv X pins σ H3 { s3 with heap:=s3.heap.push { cls:=.type "slice",data:=.fields #[vl,vu,.none] } }:=I3.kept (t':=s3.toks) fun b ob q=>Heap.get?_push_of_some _ q
 obtain⟨T,id,hT,ht,hg⟩:=hr pins { s3 with heap:=s3.heap.push { cls:=.type "slice",data:=.fields #[vl,vu,.none] } } σ H3 x v vl vu l u s3.heap.objs.size Q I4 r1 (Heap.IsSliceOf.new ..) pl pu q3
 show wpAny (model X.prog X.w) X.A (subscriptTail e (.Slice lo hi none p2) v (.ref s3.heap.objs.size)) (EP X pins σ Q) X.xe { s3 with heap:=s3.heap.push { cls:=.type "slice",data:=.fields #[vl,vu,.none] } }
 exact tail_any (ops:=[.ref s3.heap.objs.size,v]) ht hT hg (by with_unfolding_all rfl)
def Z5v (xs:List V)(lo hi:Option Int):List V:=(xs.drop (HT.sIx xs.length 0 lo)).take (HT.sIx xs.length xs.length hi-HT.sIx xs.length 0 lo)
theorem Z6d (xs:List V)(lo hi:Option Int):(Z5v xs lo hi).length<=xs.length:=by
 unfold Z5v
 rw[length_take,length_drop]
 omega
inductive rSlT (K:PySem.W.Frag)(x:V)(lo:Option Int)(hi:Option Int)(H:Hp)(Q:VK):Prop
 |mk (a xs:_) (_:x = .ref a) (_:SqT K H a xs) (_:¬ (HT.sIx xs.length 0 lo=0/\HT.sIx xs.length xs.length hi=xs.length)) (_:∀p,H p=none->Q (.ref p) (upd H p (.tup (Z5v xs lo hi)))):rSlT K x lo hi H Q
theorem Zm0:SlR X (rSlT X.K):=by
 intro pins s σ H x v vl vu lo hi sl Q I rx hs pl pu h
 obtain⟨a,xs,rfl,hx,hw,q⟩:=h
 cases rx
 obtain⟨its,r,ht,hz⟩:=I.tuple hx
 have hlen:its.toArray.size=xs.length:=by rw[size_toArray];exact r.length.symm
 refine⟨"tuple",_,PyProof.Rows.slot_tuple_getitem.lookup,ht.typeIs,?_⟩
 refine HT.getItem_tuple_cut ht hs pl pu (by rw[hlen];exact hw) ?_ (by rw[hlen];exact hz)
 rw[hlen]
 refine⟨.ref s.heap.objs.size,_,I.laid (t':=s.toks) (o:=.tup (Z5v xs lo hi)) (fun b ob q=>Heap.get?_push_of_some _ q) (Nat.le_refl _) ?_,rfl,q _ (I.hok.fresh (Nat.le_refl _))⟩
 exact⟨Nat.le_trans (Z6d xs lo hi) hz,_,(r.drop (HT.sIx xs.length 0 lo)).take (HT.sIx xs.length xs.length hi-HT.sIx xs.length 0 lo),IsTup.new _ _⟩
inductive rCatT (K:PySem.W.Frag)(x:V)(y:V)(H:Hp)(Q:VK):Prop
 |mk (a b xs ys:_) (_:x = .ref a) (_:y = .ref b) (_:SqT K H a xs) (_:SqT K H b ys) (_:xs ≠ []) (_:xs.length+ys.length<=sizeLine) (_:(ys = []->Q (.ref a) H)) (_:(ys ≠ []->∀p,H p=none->Q (.ref p) (upd H p (.tup (xs++ys))))):rCatT K x y H Q
theorem Vals.nil_iff {xs:List V}{us:List Value}(r:Vals xs us):us = []↔xs = []:=by
 cases r with
 |nil=>simp
 |cons _ _=>simp
theorem Zjm:OpR X (binaryOp .Add) (rCatT X.K):=by
 intro pins s σ H x y v u Q I rx ry h
 obtain⟨a,b,xs,ys,rfl,rfl,ha,hb,hx,hz,q1,q2⟩:=h
 cases rx
 cases ry
 obtain⟨its,r1,p1,_⟩:=I.tuple ha
 obtain⟨its2,r2,p2,_⟩:=I.tuple hb
 refine HT.cat_tup p1 p2 (fun z=>hx (r1.nil_iff.mp z)) (fun z=>⟨.ref a,H,I,rfl,q1 (r2.nil_iff.mp z)⟩) (fun z=>?_) (by rw[<- r1.length,<- r2.length];exact hz)
 refine⟨.ref s.heap.objs.size,_,I.laid (t':=s.toks) (o:=.tup (xs++ys)) (fun b ob q=>Heap.get?_push_of_some _ q) (Nat.le_refl _) ?_,rfl,q2 (fun w=>z (r2.nil_iff.mpr w)) _ (I.hok.fresh (Nat.le_refl _))⟩
 exact⟨by rw[length_append];exact hz,_,r1.append r2,IsTup.new _ _⟩
end
def ixN (n:Nat)(i:Int):Option Nat:=if 0<=i then (if i<n then some i.toNat else none) else if -(n:Int)<=i then some (i+n).toNat else none
def atI {α : Type}(xs:List α)(i:Int):Option α := (ixN xs.length i).bind fun j=>xs[j]?
theorem Zec {n:Nat}{i:Int}{j:Nat}(h:ixN n i=some j):seqIndex? i n=some j/\j<n /\ -(n:Int)<=i/\i<n:=by
 unfold ixN at h
 by_cases h0:0<=i
 ·rw[if_pos h0] at h
  by_cases h1:i<n
  ·rw[if_pos h1] at h
   have e:i.toNat=j:=Option.some.inj h
   exact⟨by rw[seqIndex_of h0 h1,e],by omega,by omega,h1⟩
  ·rw[if_neg h1] at h;cases h
 ·rw[if_neg h0] at h
  by_cases h1 : -(n:Int)<=i
  ·rw[if_pos h1] at h
   have e:(i+n).toNat=j:=Option.some.inj h
   exact⟨by rw[seqIndex_neg (by omega) h1,e],by omega,h1,by omega⟩
  ·rw[if_neg h1] at h;cases h
theorem Z6e {α : Type}{xs:List α}{i:Int}{v : α}(h:atI xs i=some v):∃j,seqIndex? i xs.length=some j/\xs[j]? = some v/\j<xs.length /\ -(xs.length:Int)<=i/\i<xs.length:=by
 unfold atI at h
 cases e:ixN xs.length i with
 |none=>rw[e] at h;cases h
 |some j=>
  rw[e] at h
  obtain⟨h1,h2,h3,h4⟩:=Zec e
  exact⟨j,h1,h,h2,h3,h4⟩
theorem Z23 {α : Type}{xs:List α}{j:Nat}{v : α}(h:xs[j]? = some v):atI xs (j:Int)=some v:=by
 have hj:j<xs.length:=(List.getElem?_eq_some_iff.mp h).1
 have e:ixN xs.length (j:Int)=some j:=by
  unfold ixN
  rw[if_pos (by omega),if_pos (by omega)];simp
 unfold atI;rw[e];exact h
theorem Zbd {α : Type}(xs:List α)(v : α):atI (xs ++ [v]) (-1)=some v:=by
 have hl:(xs ++ [v]).length=xs.length+1:=by simp
 have e:ixN (xs ++ [v]).length (-1)=some xs.length:=by
  unfold ixN
  rw[hl,if_neg (by decide),if_pos (by omega)]
  congr 1
  omega
 unfold atI
 rw[e]
 show(xs ++ [v])[xs.length]? = some v
 simp
def Zjn (b:Expr):Prop:=∀o i,subscripted b false o i=operate [o,i] (getItem o i)
def IxR (X:Cx)(r:R2):Prop:=
 ∀(value slice:Expr) (pins:List (Addr×Obj)) (s:Shared) (σ:St) (H:Hp) (x y:V) (v u:Value) (Q:VK),Inv X pins σ H s->RelV x v->RelV y u->r x y H Q →
  subscripted slice false v u=operate [v,u] (getItem v u)->wpAny (model X.prog X.w) X.A (subscriptTail value slice v u) (EP X pins σ Q) X.xe s
def MtR (X:Cx)(id:String)(r:V->List V->Hp->VK->Prop):Prop:=
 ∀(pins:List (Addr×Obj)) (s:Shared) (σ:St) (H:Hp) (x:V) (xs:List V) (v:Value) (us:List Value) (Q:VK),Inv X pins σ H s->RelV x v->Vals xs us->r x xs H Q →
  wpAny (model X.prog X.w) X.A (call (.builtin id) (v::us)) (EP X pins σ Q) X.xe s
section
variable {X:Cx}{a b:Expr}{ta tb:TE}{pos:Pos}
theorem Z0r {r:R2}(hr:IxR X r)(ha:PE X a ta)(hb:PE X b tb)(hs:Zjn b):PE X (.Subscript a b pos) (tOp r ta tb):=by
 intro pins s σ H Q I h
 exact Subscript_ (Zp0 ha hb I h fun v u s2 x y H2 I2 rx ry q=>hr a b pins s2 σ H2 x y v u Q I2 rx ry q (hs _ _))
inductive rIxL (K:PySem.W.Frag)(x:V)(y:V)(H:Hp)(Q:VK):Prop
 |mk (p xs i v:_) (_:x = .ref p) (_:y = .int i) (_:SqL K H p xs) (_:atI xs i=some v) (_:Q v H):rIxL K x y H Q
inductive rIxT (K:PySem.W.Frag)(x:V)(y:V)(H:Hp)(Q:VK):Prop
 |mk (p xs i v:_) (_:x = .ref p) (_:y = .int i) (_:SqT K H p xs) (_:atI xs i=some v) (_:Q v H):rIxT K x y H Q
inductive rIxS (x:V)(y:V)(H:Hp)(Q:VK):Prop
 |mk (z i c:_) (_:x = .str z) (_:y = .int i) (_:z.length<=sizeLine) (_:atI z.cps.toList i=some c) (_:Q (.str ⟨#[c]⟩) H):rIxS x y H Q
theorem Z0z:IxR X (rIxL X.K):=by
 intro value slice pins s σ H x y v u Q I rx ry h hs
 obtain⟨p,xs,i,z,rfl,rfl,hq,he,q⟩:=h
 cases rx
 obtain⟨t,rfl⟩:=ry
 obtain⟨its,r,pl,hz⟩:=I.list hq
 obtain⟨j,h1,h2,h3,h4,h5⟩:=Z6e he
 obtain⟨w,ew,rw'⟩:=r.get h2
 have hl:=r.length
 have hn:=Z6b
 have fin:EP X pins σ Q w s:=⟨z,H,I,rw',q⟩
 by_cases h0:0<=i
 ·have hj:i.toNat=j:=by
   rw[seqIndex_of h0 h5] at h1
   exact Option.some.inj h1
  exact item_listR pl.isList h0 (by omega) (by rw[hj];simpa using ew) fin hs
 ·have hj:(i+(its.toArray.size:Int)).toNat=j:=by
   rw[seqIndex_neg (by omega) h4] at h1
   rw[size_toArray,<- hl]
   exact Option.some.inj h1
  exact subscriptTail_builtinR (x:=w) pl.isList.typeIs slot_list_getitem.lookup
   (wpAny_getItem_list_neg (Q:=fun r s'=>r=w/\EP X pins σ Q r s') pl.isList (by omega) (by rw[size_toArray] <;> omega) (by omega) (by rw[hj];simpa using ew) ⟨rfl,fin⟩) hs
theorem Z0v:IxR X (rIxT X.K):=by
 intro value slice pins s σ H x y v u Q I rx ry h hs
 obtain⟨p,xs,i,z,rfl,rfl,hq,he,q⟩:=h
 cases rx
 obtain⟨t,rfl⟩:=ry
 obtain⟨its,r,pl,hz⟩:=I.tuple hq
 obtain⟨j,h1,h2,h3,h4,h5⟩:=Z6e he
 obtain⟨w,ew,rw'⟩:=r.get h2
 have hl:=r.length
 have hn:=Z6b
 have fin:EP X pins σ Q w s:=⟨z,H,I,rw',q⟩
 exact subscriptTail_builtinR (x:=w) pl.typeIs slot_tuple_getitem.lookup
  (getItem_tuple (j:=j) (Q:=fun r s'=>r=w/\EP X pins σ Q r s') pl (by omega) (by omega) (by rw[size_toArray,<- hl];exact h1) (by simpa using ew) ⟨rfl,fin⟩) hs
theorem Z96:IxR X rIxS:=by
 intro value slice pins s σ H x y v u Q I rx ry h hs
 obtain⟨z,i,c,rfl,rfl,hz,he,q⟩:=h
 obtain⟨t,rfl⟩:=rx
 obtain⟨t',rfl⟩:=ry
 obtain⟨j,h1,h2,h3,h4,h5⟩:=Z6e he
 have hl:z.cps.toList.length=z.length:=by simp [Str.length]
 rw[hl] at h1 h4 h5
 have hn:=Z6b
 exact tail_any (typeIs_str s z t) slot_str_getitem.lookup (getItem_str (c:=c) (by
  have e1:decide (i < -(2 ^ 63:Int))=false:=decide_eq_false (by omega)
  have e2:decide (i ≥ 2 ^ 63)=false:=decide_eq_false (by omega)
  rw[e1,e2,Bool.or_false]) (by rw[h1];simpa using h2) ⟨.str ⟨#[c]⟩,H,I.tok _,⟨_,rfl⟩,q⟩) hs
theorem Zcx (its:List Value)(n j:Nat)(u:Value):Obj.mapSeq (·.setIfInBounds j u) { cls:=.type "list",data:=.seq its.toArray n }={ cls:=.type "list",data:=.seq (its.set j u).toArray n }:=by
 simp [Obj.mapSeq]
theorem Inv.lst {pins:List (Addr×Obj)}{σ:St}{H:Hp}{s:Shared}{p:Addr}{xs:List V}(I:Inv X pins σ H s)(h:H p=some (.lst xs)):
  ∃(its:List Value) (n:Nat),Vals xs its/\s.heap.get? p=some { cls:=.type "list",data:=.seq its.toArray n }/\xs.length<=sizeLine:=by
 obtain⟨z,its,n,r,e⟩:=I.hok p _ h
 exact⟨its,n,r,e,z⟩
theorem Inv.lstUpd {pins:List (Addr×Obj)}{σ:St}{H:Hp}{s:Shared}{p:Addr}{xs ys:List V}{its its':List Value}{n n':Nat}{f:Obj->Obj}(I:Inv X pins σ H s)(h:H p=some (.lst xs))
  (ho:s.heap.get? p=some { cls:=.type "list",data:=.seq its.toArray n }) (hf:f { cls:=.type "list",data:=.seq its.toArray n }={ cls:=.type "list",data:=.seq its'.toArray n' }) (r:Vals ys its') (hz:ys.length<=sizeLine) (t:Nat):
  Inv X pins σ (upd H p (.lst ys)) { s with heap:=s.heap.update p f,toks:=t }:=by
 have e:(s.heap.update p f).get? p=some { cls:=.type "list",data:=.seq its'.toArray n' }:=by
  rw[Heap.get?_update_self f ho (by rw[hf] <;> rfl),hf]
 refine I.write (x:=p) (e:=p) (by rw[h];trivial) (.inl rfl) (fun b u hb q=>(Heap.get?_update_other _ _ (Ne.symm hb)).trans q) ⟨_,e⟩ ?_
 exact⟨hz,its',n',r,e⟩
inductive rSetL (o:V)(i:V)(v:V)(H:Hp)(Q:(Hp->Prop)):Prop
 |mk (p xs k j:_) (_:o = .ref p) (_:i = .int k) (_:H p=some (.lst xs)) (_:ixN xs.length k=some j) (_:Q (upd H p (.lst (xs.set j v)))):rSetL o i v H Q
theorem Zbe:Zoz X rSetL:=by
 intro pins s σ H o i v ov iv u Q I ro ri rv h
 obtain⟨p,xs,k,j,rfl,rfl,hp,hj,q⟩:=h
 cases ro
 obtain⟨t,rfl⟩:=ri
 obtain⟨its,n,r,ho,hz⟩:=I.lst hp
 obtain⟨h1,h2,h3,h4⟩:=Zec hj
 have hl:=r.length
 have hn:=Z6b
 have I':Inv X pins σ (upd H p (.lst (xs.set j v))) { s with heap:=s.heap.update p (Obj.mapSeq (·.setIfInBounds j u)) }:=
  I.lstUpd hp ho (Zcx its n j u) (r.set rv j) (by rw[length_set];exact hz) s.toks
 by_cases h0:0<=k
 ·have hk:k.toNat=j:=by
   rw[seqIndex_of h0 h4] at h1
   exact Option.some.inj h1
  exact PySem.W.ki_setAt ho h0 (by omega) (by rw[size_toArray,<- hl];exact h4) (by rw[hk];exact⟨_,I',q⟩)
 ·have hk:(k+(its.toArray.size:Int)).toNat=j:=by
   rw[seqIndex_neg (by omega) h3] at h1
   rw[size_toArray,<- hl]
   exact Option.some.inj h1
  exact PySem.W.ki_setBack ho (by omega) (by rw[size_toArray,<- hl];exact h3) (by omega) (by rw[hk];exact⟨_,I',q⟩)
theorem Z97 (lo hi:Option Int)(n:Nat):(sliceBounds lo hi none n).1=((HT.sIx n 0 lo:Nat):Int)/\(sliceBounds lo hi none n).2.1=((HT.sIx n n hi:Nat):Int)/\(sliceBounds lo hi none n).2.2=1:=by
 refine⟨?_,?_,rfl⟩
 ·cases lo with
  |none=>simp [sliceBounds,HT.sIx]
  |some i=>
   simp only [sliceBounds,HT.sIx,Option.getD_none,show(1:Int)>0 by decide,if_true]
   by_cases h:i<0
   ·simp only [h,if_true] <;> omega
   ·simp only [h,if_false] <;> omega
 ·cases hi with
  |none=>simp [sliceBounds,HT.sIx]
  |some i=>
   simp only [sliceBounds,HT.sIx,Option.getD_none,show(1:Int)>0 by decide,if_true]
   by_cases h:i<0
   ·simp only [h,if_true] <;> omega
   ·simp only [h,if_false] <;> omega
theorem Z8a (its:List Value)(lo hi:Option Int):slicePick its.toArray lo hi none=((its.drop (HT.sIx its.length 0 lo)).take (HT.sIx its.length its.length hi-HT.sIx its.length 0 lo)).toArray:=by
 obtain⟨h1,h2,h3⟩:=Z97 lo hi its.toArray.size
 unfold slicePick
 rw[h1,h2,h3]
 simp only [sliceRange_one,pick_run,size_toArray] <;> rfl
inductive rSlL (K:PySem.W.Frag)(x:V)(lo:Option Int)(hi:Option Int)(H:Hp)(Q:VK):Prop
 |mk (a xs:_) (_:x = .ref a) (_:SqL K H a xs) (_:∀p,H p=none->Q (.ref p) (upd H p (.lst (Z5v xs lo hi)))):rSlL K x lo hi H Q
theorem Z3m:SlR X (rSlL X.K):=by
 intro pins s σ H x v vl vu lo hi sl Q I rx hs pl pu h
 obtain⟨a,xs,rfl,hx,q⟩:=h
 cases rx
 obtain⟨its,r,ht,hz⟩:=I.list hx
 have hlen:=r.length
 refine⟨"list",_,slot_list_getitem.lookup,ht.isList.typeIs,?_⟩
 refine wpAny_getItem_list_slice ht.isList hs pl pu .none (by simp) ?_ (by rw[size_toArray] <;> omega)
 rw[Z8a,<- hlen]
 refine⟨.ref s.heap.objs.size,_,I.laid (t':=s.toks) (o:=.lst (Z5v xs lo hi)) (fun b ob q=>Heap.get?_push_of_some _ q) (Nat.le_refl _) ?_,rfl,q _ (I.hok.fresh (Nat.le_refl _))⟩
 exact⟨Nat.le_trans (Z6d xs lo hi) hz,_,0,(r.drop (HT.sIx xs.length 0 lo)).take (HT.sIx xs.length xs.length hi-HT.sIx xs.length 0 lo),Heap.get?_push_size _ rfl⟩
def Z4l:V->Bool
 | .non=>true
 | .bl _=>true
 | .int _=>true
 | .str _=>true
 |_=>false
def eqV:V->V->Bool
 | .non,.non=>true
 | .bl a,.bl b=>a==b
 | .bl a,.int b=>(if a then 1 else 0)==b
 | .int a,.bl b=>a==(if b then 1 else 0)
 | .int a,.int b=>a==b
 | .str a,.str b=>a==b
 |_,_=>false
theorem Z98 {A:Around}{s:Shared}{y x:V}{u v:Value}(ry:RelV y u)(rx:RelV x v)(fy:Z4l y=true)(fx:Z4l x=true):SeqAt.EqAt A s u v (eqV y x):=by
 cases y with
 |non=>
  cases ry
  cases x with
  |non=>cases rx;exact SeqAt.EqAt.same _
  |bl b=>cases rx;exact SeqAt.EqAt.none_bool b
  |int b=>obtain⟨t,rfl⟩:=rx;exact SeqAt.EqAt.none_int b t
  |str b=>obtain⟨t,rfl⟩:=rx;exact SeqAt.EqAt.none_str b t
  |_=>exact absurd (show false=true from fx) Bool.false_ne_true
 |bl a=>
  cases ry
  cases x with
  |non=>cases rx;exact SeqAt.EqAt.bool_none a
  |bl b=>cases rx;exact SeqAt.EqAt.bool_bool a b
  |int b=>obtain⟨t,rfl⟩:=rx;exact SeqAt.EqAt.bool_int a b t
  |str b=>obtain⟨t,rfl⟩:=rx;exact SeqAt.EqAt.bool_str a b t
  |_=>exact absurd (show false=true from fx) Bool.false_ne_true
 |int a=>
  obtain⟨t',rfl⟩:=ry
  cases x with
  |non=>cases rx;exact SeqAt.EqAt.int_none a t'
  |bl b=>cases rx;exact SeqAt.EqAt.int_bool a t' b
  |int b=>obtain⟨t,rfl⟩:=rx;exact SeqAt.EqAt.int_int a t' b t
  |str b=>obtain⟨t,rfl⟩:=rx;exact SeqAt.EqAt.int_str a t' b t
  |_=>exact absurd (show false=true from fx) Bool.false_ne_true
 |str a=>
  obtain⟨t',rfl⟩:=ry
  cases x with
  |non=>cases rx;exact SeqAt.EqAt.str_none a t'
  |bl b=>cases rx;exact SeqAt.EqAt.str_bool a t' b
  |int b=>obtain⟨t,rfl⟩:=rx;exact SeqAt.EqAt.str_int a t' b t
  |str b=>obtain⟨t,rfl⟩:=rx;exact SeqAt.EqAt.str_str a t' b t
  |_=>exact absurd (show false=true from fx) Bool.false_ne_true
 |_=>exact absurd (show false=true from fy) Bool.false_ne_true
def eqU (x:V)(u:Value):Bool:=match u with
 | .none=>eqV .non x
 | .bool b=>eqV (.bl b) x
 | .int i _=>eqV (.int i) x
 | .str z _=>eqV (.str z) x
 |_=>false
theorem Zis {x y:V}{u:Value}(r:RelV y u)(f:Z4l y=true):eqU x u=eqV y x:=by
 cases y with
 |non=>cases r;rfl
 |bl b=>cases r;rfl
 |int i=>obtain⟨t,rfl⟩:=r;rfl
 |str z=>obtain⟨t,rfl⟩:=r;rfl
 |_=>exact absurd (show false=true from f) Bool.false_ne_true
theorem Z6f {x:V}:∀{xs:List V} {us:List Value},Vals xs us->xs.all Z4l=true->us.any (eqU x)=xs.any fun y=>eqV y x
 |_,_,.nil,_=>rfl
 |y::xs,u::us,.cons r t,f=>by
  rw[all_cons,Bool.and_eq_true] at f
  rw[any_cons,any_cons,Zis r f.1,Z6f t f.2]
theorem Z51 {A:Around}{s:Shared}{x:V}{v:Value}(rx:RelV x v)(fx:Z4l x=true):∀{xs:List V} {us:List Value},Vals xs us->xs.all Z4l=true->∀u∈us,SeqAt.EqAt A s u v (eqU x u)
 |_,_,.nil,_=>fun u hu=>by cases hu
 |y::xs,u::us,.cons r t,f=>fun u' hu=>by
  rw[all_cons,Bool.and_eq_true] at f
  rcases mem_cons.mp hu with rfl|hu
  ·rw[Zis r f.1];exact Z98 r rx f.1 fx
  ·exact Z51 rx fx t f.2 u' hu
def inV (x:V)(xs:List V):Bool:=xs.any fun y=>eqV y x
inductive rIn (K:PySem.W.Frag)(neg:Bool)(x:V)(y:V)(H:Hp)(Q:VK):Prop
 |mk (p xs:_) (_:y = .ref p) (_:(SqL K H p xs∨SqT K H p xs)) (_:Z4l x=true) (_:xs.all Z4l=true) (_:Q (.bl (if neg then !inV x xs else inV x xs)) H):rIn K neg x y H Q
theorem Z2k:OpR X (compareOp .In) (rIn X.K false):=by
 intro pins s σ H x y v u Q I rx ry h
 obtain⟨p,xs,rfl,hq,fx,fs,q⟩:=h
 cases ry
 rcases hq with hq|hq
 ·obtain⟨its,r,pl,hz⟩:=I.list hq
  refine SeqAt.in_listAt (eqU x) pl.isList (fun w hw=>Z51 rx fx r fs w (by simpa using hw)) ⟨.bl _,H,I,rfl,?_⟩
  rw[show its.toArray.any (eqU x)=its.any (eqU x) by simp,Z6f r fs]
  exact q
 ·obtain⟨its,r,pl,hz⟩:=I.tuple hq
  refine SeqAt.in_tupleAt (eqU x) pl (fun w hw=>Z51 rx fx r fs w (by simpa using hw)) ⟨.bl _,H,I,rfl,?_⟩
  rw[show its.toArray.any (eqU x)=its.any (eqU x) by simp,Z6f r fs]
  exact q
theorem Z5w:OpR X (compareOp .NotIn) (rIn X.K true):=by
 intro pins s σ H x y v u Q I rx ry h
 obtain⟨p,xs,rfl,hq,fx,fs,q⟩:=h
 cases ry
 rcases hq with hq|hq
 ·obtain⟨its,r,pl,hz⟩:=I.list hq
  refine SeqAt.notIn_listAt (eqU x) pl.isList (fun w hw=>Z51 rx fx r fs w (by simpa using hw)) ⟨.bl _,H,I,rfl,?_⟩
  rw[show its.toArray.any (eqU x)=its.any (eqU x) by simp,Z6f r fs]
  exact q
 ·obtain⟨its,r,pl,hz⟩:=I.tuple hq
  refine SeqAt.notIn_tupleAt (eqU x) pl (fun w hw=>Z51 rx fx r fs w (by simpa using hw)) ⟨.bl _,H,I,rfl,?_⟩
  rw[show its.toArray.any (eqU x)=its.any (eqU x) by simp,Z6f r fs]
  exact q
theorem Z0o:Z3l X (.builtin "len") (fun xs H Q=>∃p ys,xs = [.ref p]/\(SqL X.K H p ys∨SqT X.K H p ys)/\Q (.int ys.length) H):=by
 intro pins s σ H xs us Q I r h
 obtain⟨p,ys,rfl,hq,q⟩:=h
 obtain⟨u,rfl,rx⟩:=Z6c r
 cases rx
 have hn:=Z6b
 rcases hq with hq|hq
 ·obtain⟨its,r',pl,hz⟩:=I.list hq
  have hlen:=r'.length
  exact Calls.call_len_list pl.isList (by simp only [size_toArray] <;> omega) ⟨.int ys.length,H,I.tok _,⟨s.toks+1,by rw[size_toArray,hlen]⟩,q⟩
 ·obtain⟨its,r',pl,hz⟩:=I.tuple hq
  have hlen:=r'.length
  exact len_tuple pl (by simp only [size_toArray] <;> omega) ⟨.int ys.length,H,I.tok _,⟨s.toks+1,by rw[size_toArray,hlen]⟩,q⟩
theorem Z99:Z3l X (.builtin "len") (fun xs H Q=>∃z,xs = [.str z]/\z.length<=sizeLine/\Q (.int z.length) H):=by
 intro pins s σ H xs us Q I r h
 obtain⟨z,rfl,hz,q⟩:=h
 obtain⟨u,rfl,t,rfl⟩:=Z6c r
 have hn:=Z6b
 exact len_str (by omega) ⟨.int z.length,H,I.tok _,⟨_,rfl⟩,q⟩
theorem Z9a:Z3l X (.type "list") (fun xs H Q=>∃p ys,xs = [.ref p]/\(SqL X.K H p ys∨SqT X.K H p ys)/\∀l,H l=none->Q (.ref l) (upd H l (.lst ys))):=by
 intro pins s σ H xs us Q I r h
 obtain⟨p,ys,rfl,hq,q⟩:=h
 obtain⟨u,rfl,rx⟩:=Z6c r
 cases rx
 have fin:∀(its:List Value),Vals ys its->ys.length<=sizeLine->∀(h':Heap) (c':Nat),(∀b o',s.heap.get? b=some o'->h'.get? b=some o') →
   h'.get? s.heap.objs.size=some { cls:=.type "list",dict:=none,data:=.seq its.toArray c',slots:=#[] }->EP X pins σ Q (.ref s.heap.objs.size) { s with heap:=h' }:=fun its r' hz h' c' kp e=>
  ⟨.ref s.heap.objs.size,_,I.laid (t':=s.toks) kp (Nat.le_refl _) (show ObjOk X.prog X.w _ h' _ (.lst ys) from⟨hz,its,c',r',e⟩),rfl,q _ (I.hok.fresh (Nat.le_refl _))⟩
 rcases hq with hq|hq
 ·obtain⟨its,r',pl,hz⟩:=I.list hq
  have hlen:=r'.length
  obtain⟨o,ho,hc,n,hd⟩:=pl.isList
  exact call_list_seq p (.inl rfl) ho hc hd (fun h' c' kp e=>fin its r' hz h' c' kp e) (by simp only [size_toArray] <;> omega)
 ·obtain⟨its,r',pl,hz⟩:=I.tuple hq
  have hlen:=r'.length
  obtain⟨o,ho,hc,n,hd⟩:=pl
  exact call_list_seq p (.inr rfl) ho hc hd (fun h' c' kp e=>fin its r' hz h' c' kp e) (by simp only [size_toArray] <;> omega)
theorem Z14:Z3l X (.type "tuple") (fun xs H Q=>∃p ys,xs = [.ref p]/\((SqL X.K H p ys/\∀l,H l=none->Q (.ref l) (upd H l (.tup ys)))∨(SqT X.K H p ys/\Q (.ref p) H))):=by
 intro pins s σ H xs us Q I r h
 obtain⟨p,ys,rfl,h⟩:=h
 obtain⟨u,rfl,rx⟩:=Z6c r
 cases rx
 rcases h with ⟨hq,q⟩|⟨hq,q⟩
 ·obtain⟨its,r',pl,hz⟩:=I.list hq
  have hlen:=r'.length
  refine call_tuple_list pl.isList (fun h' kp=>?_) (by simp only [size_toArray] <;> omega)
  have I1:Inv X pins σ H { s with heap:=h' }:=I.kept (t':=s.toks) kp
  have I2:Inv X pins σ (upd H h'.objs.size (.tup ys)) { s with heap:=h'.push { cls:=.type "tuple",data:=.seq its.toArray } }:=
   I1.laid (t':=s.toks) (fun b o e=>Heap.get?_push_of_some _ e) (Nat.le_refl _) (show ObjOk X.prog X.w _ _ _ (.tup ys) from⟨hz,its,r',IsTup.new _ _⟩)
  exact⟨.ref h'.objs.size,_,I2,rfl,q _ (I1.hok.fresh (Nat.le_refl _))⟩
 ·obtain⟨its,r',pl,hz⟩:=I.tuple hq
  exact call_tuple_same pl ⟨.ref p,H,I,rfl,q⟩
def tyV (K:PySem.W.Frag)(T:String)(x:V)(H:Hp):Prop:=match x with
 | .str _=>T="str"
 | .int _=>T="int"
 | .ref p=>(T="list"/\∃xs,SqL K H p xs)∨(T="tuple"/\∃o,K.lookup p=some o/\o.cls = .type "tuple"/\o.dict=none) ∨
   (T="dict"/\((∃kvs,H p=some (.dK kvs))∨∃kvs,H p=some (.dT kvs)))∨(T="set"/\∃S n,H p=some (.set S n))
 |_=>False
theorem Zit {pins:List (Addr×Obj)}{σ:St}{H:Hp}{s:Shared}{T:String}{x:V}{v:Value}(I:Inv X pins σ H s)(r:RelV x v)(ty:tyV X.K T x H):
  s.TypeIs v T/\∀a,v = .ref a->∃ob,s.heap.get? a=some ob/\ob.dict=none:=by
 cases x with
 |str z=>
  obtain⟨t,rfl⟩:=r
  cases (show T="str" from ty)
  exact⟨typeIs_str s z t,fun _ e=>nomatch e⟩
 |int i=>
  obtain⟨t,rfl⟩:=r
  cases (show T="int" from ty)
  exact⟨typeIs_int s i t,fun _ e=>nomatch e⟩
 |ref p=>
  cases r
  rcases ty with ⟨rfl,xs,hq⟩|⟨rfl,o,hk,hc,hd⟩|⟨rfl,hk⟩|⟨rfl,S,n,hk⟩
  ·obtain⟨its,_,pl,_⟩:=I.list hq
   refine⟨pl.isList.typeIs,fun a e=>?_⟩
   cases e
   obtain⟨o,n,e,c,hd,_⟩:=pl
   exact⟨o,e,hd⟩
  ·refine⟨⟨o,I.kIn p o hk,hc⟩,fun a e=>?_⟩
   cases e
   exact⟨o,I.kIn _ o hk,hd⟩
  ·have z:∃o,s.heap.get? p=some o/\o.ExactDict:=by
    rcases hk with ⟨kvs,hk⟩|⟨kvs,hk⟩
    ·obtain⟨_,_,_,_,o,_,_,e,ex,_⟩:=I.hok p _ hk
     exact⟨o,e,ex⟩
    ·obtain⟨_,_,_,_,o,_,_,e,ex,_⟩:=I.hok p _ hk
     exact⟨o,e,ex⟩
   obtain⟨o,e,ex⟩:=z
   refine⟨⟨o,e,ex.1⟩,fun a e2=>?_⟩
   cases e2
   exact⟨o,e,ex.2.1⟩
  ·obtain⟨o,_,_,_,e,ex,_⟩:=I.hok p _ hk
   refine⟨⟨o,e,ex.1⟩,fun a e2=>?_⟩
   cases e2
   exact⟨o,e,ex.2.1⟩
 |_=>exact False.elim ty
def Zpr (K:PySem.W.Frag)(T:String)(r:V->List V->Hp->VK->Prop)(to:TE):TE:=fun σ H Q=>to σ H fun x H1=>tyV K T x H1/\r x [] H1 Q
def tBM (K:PySem.W.Frag)(T:String)(r:V->List V->Hp->VK->Prop)(to:TE)(t:TA):TE:=fun σ H Q=>to σ H fun x H1=>tyV K T x H1/\t σ H1 fun xs H2=>r x xs H2 Q
variable {o e:Expr}{es:List Expr}{to:TE}{t:TA}{name:Str}{apos cpos:Pos}{T id:String}{r:V->List V->Hp->VK->Prop}
theorem Ziu (pa:PlainAttrs T)(slot:Slot T name id)(hty:typeOf (.builtin id)=pure (.type "method_descriptor"))(hm:MtR X id r)(ho:PE X o to)
  (hbase:attributeBase o name X.env (eval o X.env)=eval o X.env:=by rfl) (hline:(apos.endLine==cpos.line)=true:=by rfl):PE X (.Call (.Attribute o name apos) [] [] cpos) (Zpr X.K T r to):=by
 intro pins s σ H Q I h
 refine wpAny_Call_method0_late hbase hline (thn (ho pins s σ H _ I h) fun v s1 ⟨x,H1,I1,r1,ty,q1⟩=>?_)
 obtain⟨h1,h2⟩:=Zit I1 r1 ty
 exact⟨T,id,pa,slot,hty,h1,h2,Calls.callWith_builtin rfl (PySem.evalArgs_none (hm pins s1 σ H1 x [] v [] Q I1 r1 .nil q1))⟩
theorem Z7g (pa:PlainAttrs T)(slot:Slot T name id)(hty:typeOf (.builtin id)=pure (.type "method_descriptor"))(hm:MtR X id r)(ho:PE X o to)(ha:PA X (e::es) t)
  (hbase:attributeBase o name X.env (eval o X.env)=eval o X.env:=by rfl)
  (hfew:((backTo cpos (starEach (e::es) X.env)).all (fun x => !x.1)&&(backToKw cpos (keywordEach [] X.env)).all (fun x=>x.1.isSome)
   && decide ((e::es).length+([]:List Keyword).length+(if ([]:List Keyword).isEmpty then 0 else 1)<30))=true:=by rfl)
  (hline:(apos.endLine==cpos.line)=true:=by rfl) (hs:starEach (e::es) X.env=(false,eval e X.env)::starEach es X.env:=by rfl) (hplain:(backTo cpos (starEach es X.env)).any (·.1)=false:=by rfl):
  PE X (.Call (.Attribute o name apos) (e::es) [] cpos) (tBM X.K T r to t):=by
 intro pins s σ H Q I h
 refine wpAny_Call_method_late hbase hfew hline rfl (thn (ho pins s σ H _ I h) fun v s1 ⟨x,H1,I1,r1,ty,q1⟩=>?_)
 obtain⟨h1,h2⟩:=Zit I1 r1 ty
 refine⟨T,id,pa,slot,hty,h1,h2,?_⟩
 have hA:=ha cpos pins s1 σ H1 _ I1 q1
 rw[hs] at hA ⊢
 refine Calls.callWith_builtin (by show(false||(backTo cpos (starEach es X.env)).any (·.1))=false;rw[hplain] <;> rfl) (Calls.evalArgs_plain ?_)
 exact thn hA fun us s2 ⟨vs,H2,I2,r2,q2⟩=>hm pins s2 σ H2 x vs v us Q I2 r1 r2 q2
end
def MtM (X:Cx)(id:String)(r:V->List V->Hp->VK->Prop):Prop:=
 ∀(pins:List (Addr×Obj)) (s:Shared) (σ:St) (H:Hp) (x:V) (xs:List V) (v:Value) (us:List Value) (Q:VK),Inv X pins σ H s->RelV x v->Vals xs us->r x xs H Q →
  wpAny (model X.prog X.w) X.A (call (.builtin id) (v::us)) (EP X pins σ Q) X.xe s
theorem Vals.one:∀{x:V} {us:List Value},Vals [x] us->∃u,us = [u]/\RelV x u
 |_,_,.cons r .nil=>⟨_,rfl,r⟩
theorem Vals.zero:∀{us:List Value},Vals [] us->us = []
 |_,.nil=>rfl
theorem Vals.dropLast {xs:List V}{us:List Value}(h:Vals xs us):Vals xs.dropLast us.dropLast:=by
 induction h with
 |nil=>exact .nil
 |cons r t ih=>
  cases t with
  |nil=>exact .nil
  |cons q t'=>exact .cons r ih
theorem Vals.reverse {xs:List V}{us:List Value}(h:Vals xs us):Vals xs.reverse us.reverse:=by
 induction h with
 |nil=>exact .nil
 |cons r t ih=>rw[reverse_cons,reverse_cons];exact Vals.append ih (.cons r .nil)
theorem Zcy {α : Type}(l:List α):l.eraseIdx (l.length-1)=l.dropLast:=by
 induction l with
 |nil=>rfl
 |cons a r ih=>
  cases r with
  |nil=>rfl
  |cons b r=>
   have e:(a::b::r).length-1=((b::r).length-1)+1:=by
    have h1:(a::b::r).length=r.length+2:=rfl
    have h2:(b::r).length=r.length+1:=rfl
    omega
   rw[e,List.eraseIdx_cons_succ,ih]
   all_goals rfl
section
variable {X:Cx}{pins:List (Addr×Obj)}{σ:St}{H:Hp}{s:Shared}{l b:Addr}{xs ys zs:List V}
theorem Inv.lset {its its':List Value}{n:Nat}{f:Array Value->Array Value}{t':Nat}(I:Inv X pins σ H s)(hH:H l=some (.lst xs))
  (e:s.heap.get? l=some { cls:=.type "list",data:=.seq its.toArray n }) (hf:f its.toArray=its'.toArray) (hv:Vals ys its') (hz:ys.length<=sizeLine):
  Inv X pins σ (upd H l (.lst ys)) { s with heap:=s.heap.update l (Obj.mapSeq f),toks:=t' }:=by
 have q:=PySem.IsL.update e f
 rw[hf] at q
 refine I.write (x:=l) (e:=l) (by rw[hH];exact trivial) (.inl rfl) (fun b' u hb hu=>(Heap.get?_update_other s.heap (Obj.mapSeq f) (Ne.symm hb)).trans hu) ⟨_,q⟩ ?_
 exact⟨hz,its',_,hv,q⟩
theorem Inv.lnew {its:List Value}{t':Nat}(I:Inv X pins σ H s)(hv:Vals ys its)(hz:ys.length<=sizeLine):
  Inv X pins σ (upd H s.heap.objs.size (.lst ys)) { s with heap:=s.heap.push { cls:=.type "list",data:=.seq its.toArray },toks:=t' }:=
 I.laid (fun _ _ q=>Heap.get?_push_of_some _ q) (Nat.le_refl _) ⟨hz,its,0,hv,Heap.get?_push_size _ rfl⟩
theorem Inv.fresh (I:Inv X pins σ H s):H s.heap.objs.size=none:=I.hok.fresh (Nat.le_refl _)
theorem Inv.lstM (I:Inv X pins σ H s)(hH:H l=some (.lst xs)):xs.length<=sizeLine/\∃(its:List Value) (n:Nat),Vals xs its/\xs.length=its.length/\s.heap.get? l=some { cls:=.type "list",data:=.seq its.toArray n }:=by
 obtain⟨z,its,n,r,e⟩:=I.hok l _ hH
 exact⟨z,its,n,r,r.length,e⟩
theorem Zh0 {n:Nat}(h:n<=sizeLine):Builtin.List.listTooLong n=false:=by
 unfold Builtin.List.listTooLong
 exact decide_eq_false (by omega)
end
section
variable {X:Cx}
inductive rAppend (x:V)(vs:List V)(H:Hp)(Q:VK):Prop
 |mk (l xs y:_) (_:x = .ref l) (_:vs = [y]) (_:H l=some (.lst xs)) (_:xs.length<sizeLine) (_:Q .non (upd H l (.lst (xs ++ [y])))):rAppend x vs H Q
theorem Z39:MtM X "list.append" rAppend:=by
 intro pins s σ H x vs v us Q I rx rv h
 obtain⟨l,xs,y,rfl,rfl,hH,hz,q⟩:=h
 cases rx
 obtain⟨u,rfl,ru⟩:=rv.one
 obtain⟨z,its,n,r,hl,e⟩:=I.lstM hH
 refine call_meets F.slot_list_append ⟨_,e,rfl⟩ F.entry_list_append (F.args_list_append_2 _ _) (PySem.list_append l its.toArray n u (by rw[size_toArray];omega)) ⟨e,?_⟩
 refine⟨.non,_,I.lset (its':=its ++ [u]) hH e (by simp) (r.append (.cons ru .nil)) ?_,rfl,q⟩
 rw[length_append,length_singleton]
 omega
inductive rExtend (x:V)(vs:List V)(H:Hp)(Q:VK):Prop
 |mk (l b xs zs:_) (_:x = .ref l) (_:vs = [.ref b]) (_:H l=some (.lst xs)) (_:H b=some (.lst zs)) (_:xs.length+zs.length<=sizeLine) (_:Q .non (upd H l (.lst (xs++zs)))):rExtend x vs H Q
theorem Zed:MtM X "list.extend" rExtend:=by
 intro pins s σ H x vs v us Q I rx rv h
 obtain⟨l,b,xs,zs,rfl,rfl,hH,hB,hz,q⟩:=h
 cases rx
 obtain⟨u,rfl,ru⟩:=rv.one
 cases ru
 obtain⟨z,its,n,r,hl,e⟩:=I.lstM hH
 obtain⟨z2,its2,n2,r2,hl2,e2⟩:=I.lstM hB
 have hsz:its.toArray.size+its2.toArray.size<=sizeLine:=by rw[size_toArray,size_toArray];omega
 have hlong:¬ (!its.toArray.isEmpty&&Builtin.List.listTooLong (its.toArray.size+its2.toArray.size))=true:=by
  rw[Zh0 hsz,Bool.and_false]
  exact Bool.false_ne_true
 refine call_meets F.slot_list_extend ⟨_,e,rfl⟩ F.entry_list_extend (F.args_list_extend_2 _ _)
  (AutoSeq1.list_extend_list_list_0 l its.toArray n b its2.toArray n2 hlong (by rw[size_toArray];omega) (by omega)) ⟨e,e2,?_⟩
 refine⟨.non,_,I.lset (its':=its++its2) hH e (by simp) (r.append r2) ?_,rfl,q⟩
 rw[length_append]
 omega
inductive rPop (x:V)(vs:List V)(H:Hp)(Q:VK):Prop
 |mk (l xs y:_) (_:x = .ref l) (_:vs = []) (_:H l=some (.lst xs)) (_:xs[xs.length-1]? = some y) (_:Q y (upd H l (.lst xs.dropLast))):rPop x vs H Q
theorem Ziv:MtM X "list.pop" rPop:=by
 intro pins s σ H x vs v us Q I rx rv h
 obtain⟨l,xs,y,rfl,rfl,hH,hy,q⟩:=h
 cases rx
 have hus:=rv.zero
 subst hus
 obtain⟨z,its,n,r,hl,e⟩:=I.lstM hH
 obtain⟨u,hu,ru⟩:=r.get hy
 have hy':its.toArray[its.toArray.size-1]? = some u:=by
  show its.toArray[its.length-1]? = some u
  rw[<- Array.getElem?_toList,<- hl]
  exact hu
 refine call_meets F.slot_list_pop ⟨_,e,rfl⟩ F.entry_list_pop (F.args_list_pop_1 _) (MeetsSeq.list_pop_last l its.toArray n u hy' (by rw[size_toArray];omega)) ⟨e,?_⟩
 refine⟨y,_,I.lset (its':=its.dropLast) hH e ?_ r.dropLast ?_,ru,q⟩
 ·show its.toArray.eraseIdxIfInBounds (its.toArray.size-1)=its.dropLast.toArray
  rw[size_toArray,List.eraseIdxIfInBounds_toArray,Zcy]
 ·rw[List.length_dropLast]
  omega
inductive rCat (x:V)(y:V)(H:Hp)(Q:VK):Prop
 |mk (l b xs zs:_) (_:x = .ref l) (_:y = .ref b) (_:H l=some (.lst xs)) (_:H b=some (.lst zs)) (_:xs.length+zs.length<=sizeLine) (_:∀p,H p=none->Q (.ref p) (upd H p (.lst (xs++zs)))):rCat x y H Q
theorem Z24:OpR X (binaryOp .Add) rCat:=by
 intro pins s σ H x y v u Q I rx ry h
 obtain⟨l,b,xs,zs,rfl,rfl,hH,hB,hz,q⟩:=h
 cases rx
 cases ry
 obtain⟨z,its,n,r,hl,e⟩:=I.lstM hH
 obtain⟨z2,its2,n2,r2,hl2,e2⟩:=I.lstM hB
 refine PySem.P.add_list e e2 ?_ (by rw[size_toArray,size_toArray];omega)
 have ea:its.toArray++its2.toArray=(its++its2).toArray:=by simp
 rw[ea]
 exact⟨.ref _,_,I.lnew (t':=s.toks) (r.append r2) (by rw[length_append];omega),rfl,q _ I.fresh⟩
end
section
variable {κ : Type}[DecidableEq κ]
def Z2h (kvs:List (κ × V))(k : κ):Option V:=(kvs.find? fun kv=>decide (kv.1=k)).map (·.2)
def Z30 (kvs:List (κ × V))(k : κ)(v:V):List (κ × V):=
 if (kvs.any fun kv=>decide (kv.1=k))=true then kvs.map (fun kv=>if kv.1=k then (kv.1,v) else kv) else kvs ++ [(k,v)]
theorem Z25 {p : κ × V}{r:List (κ × V)}{k : κ}(e:p.1=k):Z2h (p::r) k=some p.2:=by simp [Z2h,List.find?_cons,e]
theorem Z26 {p : κ × V}{r:List (κ × V)}{k : κ}(e:¬p.1=k):Z2h (p::r) k=Z2h r k:=by simp [Z2h,List.find?_cons,e]
theorem Z61 (k : κ):∀kvs:List (κ × V),(kvs.any fun kv=>decide (kv.1=k))=(Z2h kvs k).isSome
 |[]=>rfl
 |p::r=>by
  rw[any_cons]
  by_cases e:p.1=k
  ·simp only [Z25 e,decide_eq_true e,Bool.true_or,Option.isSome_some]
  ·rw[Z26 e,decide_eq_false e,Bool.false_or];exact Z61 k r
theorem Zbf (k j : κ)(y:V):∀kvs:List (κ × V),Z2h (kvs.map fun kv=>if kv.1=k then (kv.1,y) else kv) j=(Z2h kvs j).map fun x=>if j=k then y else x
 |[]=>rfl
 |p::r=>by
  have ih:=Zbf k j y r
  rw[map_cons]
  by_cases h:p.1=k
  ·rw[if_pos h]
   by_cases e:p.1=j
   ·rw[Z25 (p:=(p.1,y)) e,Z25 e,Option.map_some,if_pos (e.symm.trans h)]
   ·rw[Z26 (p:=(p.1,y)) e,Z26 e,ih]
  ·rw[if_neg h]
   by_cases e:p.1=j
   ·rw[Z25 (p:=p) e,Z25 e,Option.map_some,if_neg (fun z=>h (e.trans z))]
   ·rw[Z26 (p:=p) e,Z26 e,ih]
theorem Z9b (k j : κ)(y:V):∀kvs:List (κ × V),Z2h kvs k=none->Z2h (kvs ++ [(k,y)]) j=if j=k then some y else Z2h kvs j
 |[],_=>by
  by_cases e:k=j
  ·rw[if_pos e.symm];exact Z25 (p:=(k,y)) e
  ·rw[if_neg (fun z=>e z.symm)];exact Z26 (p:=(k,y)) e
 |p::r,hn=>by
  rw[cons_append]
  have hk:¬p.1=k:=fun z=>by rw[Z25 z] at hn;cases hn
  rw[Z26 hk] at hn
  have ih:=Z9b k j y r hn
  by_cases e:p.1=j
  ·rw[Z25 e,Z25 e,if_neg (fun z=>hk (e.trans z))]
  ·rw[Z26 e,Z26 e,ih]
theorem Z2q (kvs:List (κ × V))(k j : κ)(y:V):Z2h (Z30 kvs k y) j=if j=k then some y else Z2h kvs j:=by
 unfold Z30
 by_cases a:(kvs.any fun kv=>decide (kv.1=k))=true
 ·rw[if_pos a,Zbf]
  rw[Z61] at a
  by_cases e:j=k
  ·obtain⟨x,hx⟩:=Option.isSome_iff_exists.mp a
   rw[if_pos e,e,hx,Option.map_some,if_pos rfl]
  ·rw[if_neg e]
   cases Z2h kvs j with
   |none=>rfl
   |some x=>rw[Option.map_some,if_neg e]
 ·rw[if_neg a]
  refine Z9b k j y kvs ?_
  rw[Z61] at a
  cases q:Z2h kvs k with
  |none=>rfl
  |some x=>rw[q] at a;exact(a rfl).elim
theorem Z1g (kvs:List (κ × V))(k : κ)(v:V):(Z30 kvs k v).length<=kvs.length+1:=by
 unfold Z30
 split
 ·rw[length_map];omega
 ·rw[length_append,length_cons,length_nil];omega
theorem RelO.isSome_eq {o:Option V}{u:Option Value}(r:RelO o u):o.isSome=u.isSome:=by
 cases o with
 |none=>cases u with
  |none=>rfl
  |some _=>exact(show False from r).elim
 |some _=>cases u with
  |none=>exact(show False from r).elim
  |some _=>rfl
theorem RelO.getD {o:Option V}{u:Option Value}{d:V}{d':Value}(r:RelO o u)(rd:RelV d d'):RelV (o.getD d) (u.getD d'):=by
 cases o with
 |none=>cases u with
  |none=>exact rd
  |some _=>exact(show False from r).elim
 |some _=>cases u with
  |none=>exact(show False from r).elim
  |some _=>exact r
theorem KV.val {kvs:List (κ × V)}{vs:List (κ × Value)}(r:KV kvs vs)(k : κ):RelO (Z2h kvs k) (valueAt vs k):=by
 unfold KV at r
 induction r with
 |nil=>exact True.intro
 | @cons p q ps qs h t ih=>
  obtain⟨h1,h2⟩:=h
  by_cases e:p.1=k
  ·have e':q.1=k:=h1.symm.trans e
   have b:valueAt (q::qs) k=some q.2:=by simp [valueAt,List.find?_cons,e']
   rw[Z25 e,b];exact h2
  ·have e':¬q.1=k:=fun z=>e (h1.trans z)
   have b:valueAt (q::qs) k=valueAt qs k:=by simp [valueAt,List.find?_cons,e']
   rw[Z26 e,b];exact ih
theorem KV.any {kvs:List (κ × V)}{vs:List (κ × Value)}(r:KV kvs vs)(k : κ):(kvs.any fun kv=>decide (kv.1=k))=vs.any fun kv=>decide (kv.1=k):=by
 unfold KV at r
 induction r with
 |nil=>rfl
 |cons h t ih=>rw[any_cons,any_cons,ih,h.1]
theorem KV.repl {kvs:List (κ × V)}{vs:List (κ × Value)}(r:KV kvs vs)(k : κ){y:V}{u:Value}(ry:RelV y u):
  KV (kvs.map fun kv=>if kv.1=k then (kv.1,y) else kv) (vs.map fun kv=>if kv.1=k then (kv.1,u) else kv):=by
 unfold KV at r ⊢
 induction r with
 |nil=>exact .nil
 | @cons p q ps qs h t ih=>
  rw[map_cons,map_cons]
  refine .cons ?_ ih
  obtain⟨h1,h2⟩:=h
  by_cases e:p.1=k
  ·rw[if_pos e,if_pos (h1.symm.trans e)];exact⟨h1,ry⟩
  ·rw[if_neg e,if_neg (fun z=>e (h1.trans z))];exact⟨h1,h2⟩
theorem KV.put {kvs:List (κ × V)}{vs:List (κ × Value)}(r:KV kvs vs)(k : κ){y:V}{u:Value}(ry:RelV y u):KV (Z30 kvs k y) (stored vs k u):=by
 unfold Z30 stored
 rw[r.any k]
 by_cases e:(vs.any fun kv=>decide (kv.1=k))=true
 ·rw[if_pos e,if_pos e];exact r.repl k ry
 ·rw[if_neg e,if_neg e];exact Paired.snoc r ⟨rfl,ry⟩
theorem KV.keys {kvs:List (κ × V)}{vs:List (κ × Value)}(r:KV kvs vs):kvs.map (·.1)=vs.map (·.1):=by
 unfold KV at r
 induction r with
 |nil=>rfl
 |cons h t ih=>rw[map_cons,map_cons,ih,h.1]
theorem KV.length {kvs:List (κ × V)}{vs:List (κ × Value)}(r:KV kvs vs):kvs.length=vs.length:=Paired.length r
end
theorem Z9c {P:Program}{w:World}{k:Key}{u:Value}(r:RelV (kV k) u):(Z0w P w).is k u=true:=by
 cases k with
 |inl i=>obtain⟨t,e⟩:=(show ∃t,u=Value.int i t from r);subst e;exact Zae P w i t
 |inr x=>obtain⟨t,e⟩:=(show ∃t,u=Value.str x t from r);subst e;exact Zaf P w x t
theorem Z9d {P:Program}{w:World}:∀{ks:List Key} {us:List Value},Vals (ks.map kV) us->ItemsAre (Z0w P w) ks us
 |[],_,r=>by rw[map_nil] at r;cases r;exact .nil
 |k::ks,_,r=>by
  rw[map_cons] at r
  cases r with
  |cons h t=>exact .cons (Z9c h) (Z9d t)
abbrev KT (H:Hp):List (List Key×V)->List (List Key×Addr×Value)->Prop:=Paired fun p q=>p.1=q.1/\H q.2.1=some (.tup (p.1.map kV))/\RelV p.2 q.2.2
theorem KT.val {H:Hp}{kvs:List (List Key×V)}{xs:List (List Key×Addr×Value)}(r:KT H kvs xs)(k:List Key):RelO (Z2h kvs k) ((atKey xs k).map (·.2)):=by
 induction r with
 |nil=>exact True.intro
 | @cons p q ps qs h t ih=>
  obtain⟨h1,_,h2⟩:=h
  by_cases e:p.1=k
  ·have e':q.1=k:=h1.symm.trans e
   have b:atKey (q::qs) k=some q.2:=by simp [atKey,List.find?_cons,e']
   rw[Z25 e,b];exact h2
  ·have e':¬q.1=k:=fun z=>e (h1.trans z)
   have b:atKey (q::qs) k=atKey qs k:=by simp [atKey,List.find?_cons,e']
   rw[Z26 e,b];exact ih
theorem KT.repl {H:Hp}{kvs:List (List Key×V)}{xs:List (List Key×Addr×Value)}(r:KT H kvs xs)(k:List Key){y:V}{u:Value}(ry:RelV y u):
  KT H (kvs.map fun kv=>if kv.1=k then (kv.1,y) else kv) (xs.map (putAt k u)):=by
 induction r with
 |nil=>exact .nil
 | @cons p q ps qs h t ih=>
  rw[map_cons,map_cons]
  refine .cons ?_ ih
  obtain⟨h1,h2,h3⟩:=h
  unfold putAt
  by_cases e:p.1=k
  ·rw[if_pos e,if_pos (h1.symm.trans e)];exact⟨h1,h2,ry⟩
  ·rw[if_neg e,if_neg (fun z=>e (h1.trans z))];exact⟨h1,h2,h3⟩
theorem KT.put {H:Hp}{kvs:List (List Key×V)}{xs:List (List Key×Addr×Value)}(r:KT H kvs xs)(k:List Key){b:Addr}{y:V}{u:Value}(hb:H b=some (.tup (k.map kV)))(ry:RelV y u):
  KT H (Z30 kvs k y) (storedH xs k b u):=by
 have e:(kvs.any fun kv=>decide (kv.1=k))=(atKey xs k).isSome:=by
  rw[Z61,(r.val k).isSome_eq,Option.isSome_map]
 unfold Z30 storedH
 rw[e]
 by_cases q:(atKey xs k).isSome=true
 ·rw[if_pos q,if_pos q];exact r.repl k ry
 ·rw[if_neg q,if_neg q];exact Paired.snoc r ⟨rfl,hb,ry⟩
theorem KT.keeps {H H':Hp}{kvs:List (List Key×V)}{xs:List (List Key×Addr×Value)}(r:KT H kvs xs)(ht:∀b ys,H b=some (.tup ys)->H' b=some (.tup ys)):KT H' kvs xs:=
 Paired.mapP r fun _ _ z=>⟨z.1,ht _ _ z.2.1,z.2.2⟩
section
variable {P:Program}{w:World}{H:Hp}{h:Heap}{a:Addr}
theorem Zm1 {u:HO}(ok:HOk P w H h)(e:Rd H a u):ObjOk P w H h a u:=e.ok ok
theorem Zcz {kvs:List (Key×V)}(ok:HOk P w H h)(e:Rd H a (.dK kvs)):kvs.length<=sizeLine/\(a==sysModules)=false/\∃vs,KV kvs vs/\h.DictOf (Z0w P w) a vs:=
 show ObjOk P w H h a (.dK kvs) from Zm1 ok e
theorem Zee {kvs:List (Key×V)}(ok:HOk P w H h)(e:H a=some (.dK kvs)):kvs.length<=sizeLine/\(a==sysModules)=false/\∃vs,KV kvs vs/\h.DictOf (Z0w P w) a vs:=Zcz ok (.inl e)
theorem Zbg {ks:List Key}(ok:HOk P w H h)(e:H a=some (.tup (ks.map kV))):(tupleKind (Z0w P w)).is h ks a:=by
 obtain⟨_,its,r,o,h1,h2,n,h3⟩:=(show ObjOk P w H h a (.tup (ks.map kV)) from ok a _ e)
 exact⟨o,its.toArray,n,h1,h2,h3,by simpa using Z9d r⟩
theorem Zef {kvs:List (List Key×V)}(ok:HOk P w H h)(e:Rd H a (.dT kvs)):kvs.length<=sizeLine/\(a==sysModules)=false ∧
  ∃xs,KT H kvs xs/\h.DictOfH (tupleKind (Z0w P w)) a xs:=by
 obtain⟨z,y,xs,r,o,es,ep,h1,h2,h3,h4,h5⟩:=(show ObjOk P w H h a (.dT kvs) from Zm1 ok e)
 refine⟨z,y,xs,r,o,es,ep,h1,h2,h3,h4,fun x hx=>?_,h5⟩
 have all:∀{l:List (List Key×V)} {m:List (List Key×Addr×Value)},KT H l m->∀x∈m,(tupleKind (Z0w P w)).is h x.1 x.2.1:=by
  intro l m q
  induction q with
  |nil=>intro x hx;exact nomatch hx
  | @cons p q ps qs hq t ih=>
   intro x hx
   rcases mem_cons.mp hx with e|hx
   ·subst e
    exact Zbg ok (by rw[<- hq.1];exact hq.2.1)
   ·exact ih x hx
 exact all r x hx
theorem Zo0 {kvs:List (List Key×V)}(ok:HOk P w H h)(e:H a=some (.dT kvs)):kvs.length<=sizeLine/\(a==sysModules)=false ∧
  ∃xs,KT H kvs xs/\h.DictOfH (tupleKind (Z0w P w)) a xs:=Zef ok (.inl e)
end
def DGet (H:Hp)(a:Addr)(y:V)(r:Option V):Prop:=
 (∃kvs k,Rd H a (.dK kvs)/\y=kV k/\r=Z2h kvs k)∨∃kvs k b,Rd H a (.dT kvs)/\y = .ref b/\H b=some (.tup (k.map kV))/\r=Z2h kvs k
def DPut (H:Hp)(a:Addr)(y v:V)(H':Hp):Prop:=
 (∃kvs k,H a=some (.dK kvs)/\y=kV k/\kvs.length<sizeLine/\H'=upd H a (.dK (Z30 kvs k v))) ∨
 ∃kvs k b,H a=some (.dT kvs)/\y = .ref b/\H b=some (.tup (k.map kV))/\kvs.length<sizeLine/\H'=upd H a (.dT (Z30 kvs k v))
theorem DGet.k {H:Hp}{a:Addr}{kvs:List (Key×V)}{k:Key}(e:H a=some (.dK kvs)):DGet H a (kV k) (Z2h kvs k):=.inl ⟨kvs,k,.inl e,rfl,rfl⟩
theorem DPut.k {H:Hp}{a:Addr}{kvs:List (Key×V)}{k:Key}{v:V}(e:H a=some (.dK kvs))(hl:kvs.length<sizeLine):DPut H a (kV k) v (upd H a (.dK (Z30 kvs k v))):=.inl ⟨kvs,k,e,rfl,hl,rfl⟩
section
variable {X:Cx}{pins:List (Addr×Obj)}{σ:St}{H:Hp}{s:Shared}{a:Addr}{y v:V}{u r:Value}{o:Option V}{A:Around}{E:Value->Shared->Prop}
theorem Inv.big (I:Inv X pins σ H s):sysModules<s.heap.objs.size:=by
 have h:mainGlobals<s.heap.objs.size:=(I.mod.glob.keeps I.bk).lt
 exact Nat.lt_trans (by decide) h
theorem Zeg {Q:Value->Shared->Prop}(hu:A.units+1<cLine)(I:Inv X pins σ H s)(g:DGet H a y (some v))(ry:RelV y u)(h:∀w' s',Inv X pins σ H s'->RelV v w'->Q w' s'):
  wpAny (model X.prog X.w) A (getItem (.ref a) u) Q E s:=by
 rcases g with ⟨kvs,k,e,ey,l⟩|⟨kvs,k,b,e,ey,eb,l⟩
 ·subst ey
  obtain⟨z,hd,vs,rel,dd⟩:=Zcz I.hok e
  obtain⟨w',hw,rw'⟩:=RelO.some_of (v:=v) (o:=valueAt vs k) (by rw[l];exact rel.val k)
  exact wpAny_getItem_of (Z9c ry) dd.mapOf hw (h w' _ (I.tok _) rw')
 ·subst ey
  cases (show u=Value.ref b from ry)
  obtain⟨z,hd,xs,rel,dd⟩:=Zef I.hok e
  obtain⟨w',hw,rw'⟩:=RelO.some_of (v:=v) (o:=(atKey xs k).map (·.2)) (by rw[l];exact rel.val k)
  obtain⟨p,hp,hp2⟩:=Option.map_eq_some_iff.mp hw
  refine wpAny_getItem_heap (tupleKind_room_in1 hu) (Zbg I.hok eb) dd hp ?_
  rw[hp2]
  exact h w' _ (I.tok _) rw'
theorem Z6g {h':Heap}{t':Nat}{ob:HO}(I:Inv X pins σ H s)(mu:Mut (H a))(hs:Heap.SameBut a s.heap h')(he:∃q,h'.get? a=some q)(new:ObjOk X.prog X.w (upd H a ob) h' a ob):
  Inv X pins σ (upd H a ob) { s with heap:=h',toks:=t' }:=
 I.write (x:=a) (e:=a) mu (.inl rfl) (fun b q hb z=>(hs.2 b hb).trans z) he new
theorem Z7n {P:Program}{w:World}{H':Hp}{h':Heap}{kvs:List (Key×V)}{vs:List (Key×Value)}(z:kvs.length<=sizeLine)(hd:(a==sysModules)=false)(rel:KV kvs vs)(dd:h'.DictOf (Z0w P w) a vs):
  ObjOk P w H' h' a (.dK kvs):=⟨z,hd,vs,rel,dd⟩
theorem Zeh {H':Hp}{Q:Unit->Shared->Prop}(hu:A.units+1<cLine)(I:Inv X pins σ H s)(g:DPut H a y v H')(ry:RelV y u)(rv:RelV v r)(h:∀s',Inv X pins σ H' s'->Q () s'):
  wpAny (model X.prog X.w) A (setItem (.ref a) u r) Q E s:=by
 rcases g with ⟨kvs,k,e,ey,l,eH⟩|⟨kvs,k,b,e,ey,eb,l,eH⟩
 ·subst ey eH
  obtain⟨z,hd,vs,rel,dd⟩:=Zee I.hok e
  have hz:vs.length<=sizeLine:=by rw[<- rel.length];exact z
  have hl:(Z30 kvs k v).length<=sizeLine:=by have:=Z1g kvs k v;omega
  refine wpAny_setItem_pairs (hsz:=hz) (Z9c ry) dd fun h' dd' hs=>h _ ?_
  have he:∃q,h'.get? a=some q:=let ⟨q,_,_,hq,_⟩:=dd';⟨q,hq⟩
  exact Z6g I (by rw[e];exact True.intro) hs he (Z7n hl hd (rel.put k rv) dd')
 ·subst ey eH
  cases (show u=Value.ref b from ry)
  obtain⟨z,hd,xs,rel,dd⟩:=Zo0 I.hok e
  have hz:xs.length<=sizeLine:=by rw[<- Paired.length rel];exact z
  have hl:(Z30 kvs k v).length<=sizeLine:=by have:=Z1g kvs k v;omega
  refine wpAny_setItem_heap (hsz:=hz) (tupleKind_room_in1 hu) (Zbg I.hok eb) dd fun h' dd' hs=>h _ ?_
  obtain⟨q,es,ep,hq,h2,h3,h4,_,h5⟩:=dd'
  refine Z6g I (by rw[e];exact True.intro) hs ⟨q,hq⟩ ⟨hl,hd,_,(rel.put k eb rv).keeps fun c ys ec=>?_,q,es,ep,hq,h2,h3,h4,h5⟩
  rw[Z09 (Z3k ec e (fun z=>nomatch z))]
  exact ec
end
def Zp5 (i:Expr):Prop:=∀ov iv,subscripted i false ov iv=operate [ov,iv] (getItem ov iv)
theorem Zjo {prog:Program}{w:World}{A:Around}{E:Value->Shared->Prop}{s:Shared}{env:Env}{value slice:Expr}{pos:Pos}{T id:String}{Q:Value->Shared->Prop}
  (hl:typeLookup (.type T) "__getitem__"=pure (some (.builtin id))) (hs:Zp5 slice)
  (h:wpAny (model prog w) A (eval value env) (fun o s₁=>wpAny (model prog w) A (eval slice env) (fun i s₂=>s₂.TypeIs o T/\wpAny (model prog w) A (getItem o i) Q E s₂) E s₁) E s):
  wpAny (model prog w) A (eval (.Subscript value slice pos) env) Q E s:=by
 refine Subscript_ (wpAny_mono h (fun o s₁ h₁=>wpAny_mono h₁ (fun i s₂ h₂=>?_) fun _ _ x=>x) fun _ _ x=>x)
 obtain⟨hT,h₂⟩:=h₂
 unfold subscriptTail
 refine wpAny_bind ?_
 rw[getitemInPython_of_ne hT.not_modules]
 refine wpAny_bind (wpAny_specialOf hT hl ?_)
 have fin:wpAny (model prog w) A (subscripted slice false o i) (fun r s₃=>wpAny (model prog w) A (letTemporaryGo value o r >>= fun _=>pure r) Q E s₃) E s₂:=by
  rw[hs o i]
  exact wpAny_operating (wpAny_mono h₂ (fun r s₃ h₃=>wpAny_bind (wpAny_letTemporaryGo (wpAny_pure h₃))) fun _ _ x=>x)
 first
  |exact wpAny_pure (wpAny_bind fin)
  |exact wpAny_bind (wpAny_pure (wpAny_bind fin))
  |exact wpAny_bind fin
theorem Zag {X:Cx}{pins:List (Addr×Obj)}{σ:St}{H:Hp}{s:Shared}{a:Addr}{y:V}{o:Option V}(I:Inv X pins σ H s)(g:DGet H a y o):s.TypeIs (.ref a) "dict":=by
 rcases g with ⟨kvs,k,e,_,_⟩|⟨kvs,k,b,e,_,_,_⟩
 ·obtain⟨_,_,vs,_,dd⟩:=Zcz I.hok e
  exact dd.typeIs
 ·obtain⟨_,_,xs,_,dd⟩:=Zef I.hok e
  exact dd.typeIs
def Zo1 (td ty:TE):TE:=fun σ H Q=>td σ H fun x H1=>ty σ H1 fun y H2=>∃a v,x = .ref a/\DGet H2 a y (some v)/\Q v H2
def Zo2 (td ty tv:TE):TS:=fun D σ H=>tv σ H fun v H1=>td σ H1 fun x H2=>ty σ H2 fun y H3=>∃a H4,x = .ref a/\DPut H3 a y v H4/\D.nx σ H4
section
variable {X:Cx}{o i e value:Expr}{pos pos' tpos:Pos}{td ty tv:TE}
theorem Z0s (hu:X.A.units+1<cLine)(ho:PE X o td)(hi:PE X i ty)(hs:Zp5 i):PE X (.Subscript o i pos) (Zo1 td ty):=by
 intro pins s σ H Q I h
 refine Zjo PySem.F.slot_dict_getitem.lookup hs (thn (ho pins s σ H _ I h) fun u s1 ⟨x,H1,I1,rx,q1⟩=>thn (hi pins s1 σ H1 _ I1 q1) fun iv s2 ⟨y,H2,I2,ry,a,v,ex,g,q2⟩=>?_)
 subst ex
 obtain rfl:u=Value.ref a:=rx
 exact⟨Zag I2 g,Zeg hu I2 g ry fun w' s3 I3 rw'=>⟨v,H2,I3,rw',q2⟩⟩
theorem Z29 (hu:X.A.units+1<cLine)(ho:PE X o td)(hi:PE X i ty)(hv:PE X value tv)(hs:swapsWith value (some (.Subscript o i pos')) pos.line X.env=pure false):
  PS X (.Assign [.Subscript o i pos'] value pos) (Zo2 td ty tv):=by
 intro pins s σ H D I h
 refine wpAny_Assign_Subscript (thn (hv pins s σ H _ I h) fun r s1 ⟨v,H1,I1,rv,q1⟩=>thn (ho pins s1 σ H1 _ I1 q1) fun u s2 ⟨x,H2,I2,rx,q2⟩=>thn (hi pins s2 σ H2 _ I2 q2) fun iv s3 ⟨y,H3,I3,ry,a,H4,ex,g,q3⟩=>?_) hs
 subst ex
 obtain rfl:u=Value.ref a:=rx
 exact Zeh hu I3 g ry rv fun s4 I4=>⟨σ,H4,I4,q3⟩
end
theorem Z8b {P:Program}{w:World}{H:Hp}(h:Heap)(hb:sysModules<h.objs.size):ObjOk P w H (h.push { cls:=.type "dict",data:=.dict #[] }) h.objs.size (.dK []):=
 ⟨Nat.zero_le _,beq_eq_false_iff_ne.mpr (Ne.symm (Nat.ne_of_lt hb)),[],.nil,Heap.DictOf.new h⟩
def tDNewK:TE:=fun _ H Q=>∀p,H p=none->Q (.ref p) (upd H p (.dK []))
section
variable {X:Cx}{pos:Pos}
theorem Zbh:PE X (.Dict [] [] pos) tDNewK:=fun pins s σ H Q I h=>
 wpAny_Dict_empty ⟨.ref s.heap.objs.size,_,I.laid (a:=s.heap.objs.size) (o:=.dK []) (t':=s.toks) (fun _ _ q=>Heap.get?_push_of_some _ q) (Nat.le_refl _) (Z8b s.heap I.big),rfl,h _ (I.hok.fresh (Nat.le_refl _))⟩
end
def Zei:List (TE×TE)->St->Hp->(List (V×V)->Hp->Prop)->Prop
 |[],_,H,Q=>Q [] H
 | (tk,tv)::r,σ,H,Q=>tk σ H fun x H1=>tv σ H1 fun y H2=>Zei r σ H2 fun ps H3=>Q ((x,y)::ps) H3
abbrev VV:List (V×V)->List (Value×Value)->Prop:=Paired fun p q=>RelV p.1 q.1/\RelV p.2 q.2
def PPs (X:Cx)(pos:Pos)(keys:List (Option Expr))(values:List Expr)(trs:List (TE×TE)):Prop:=
 ∀(pins:List (Addr×Obj)) (s:Shared) (σ:St) (H:Hp) (Q:List (V×V)->Hp->Prop),Inv X pins σ H s->Zei trs σ H Q →
  wpAny (model X.prog X.w) X.A (evalPairs (pairTrees keys values X.env pos)) (fun vs s'=>∃ps H',Inv X pins σ H' s'/\VV ps vs/\Q ps H') X.xe s
theorem Zej {X:Cx}{pos:Pos}:PPs X pos [] [] []:=fun pins s σ H Q I h=>pairTrees_nil_walk ⟨[],H,I,.nil,h⟩
theorem Z27 {X:Cx}{pos:Pos}{k v:Expr}{ks:List (Option Expr)}{vs:List Expr}{tk tv:TE}{trs:List (TE×TE)}(hk:PE X k tk)(hv:PE X v tv)(hr:PPs X pos ks vs trs):
  PPs X pos (some k::ks) (v::vs) ((tk,tv)::trs):=fun pins s σ H Q I h=>
 pairTrees_cons_walk (thn (hk pins s σ H _ I h) fun u s1 ⟨x,H1,I1,rx,q1⟩=>thn (hv pins s1 σ H1 _ I1 q1) fun w2 s2 ⟨y,H2,I2,ry,q2⟩=>
  thn (hr pins s2 σ H2 _ I2 q2) fun ws s3 ⟨ps,H3,I3,rel,q3⟩=>⟨(x,y)::ps,H3,I3,.cons ⟨rx,ry⟩ rel,q3⟩)
def Z6h (kvs more:List (Key×V)):List (Key×V):=more.foldl (fun acc kv=>Z30 acc kv.1 kv.2) kvs
theorem KV.merge:∀{more:List (Key×V)} {rs:List (Key×Value)} {kvs:List (Key×V)} {vs:List (Key×Value)},KV more rs->KV kvs vs->KV (Z6h kvs more) (merged vs rs):=by
 intro more rs kvs vs r
 unfold KV at r
 induction r generalizing kvs vs with
 |nil=>intro q;exact q
 | @cons p q ps qs h t ih=>
  intro r0
  have e:KV (Z30 kvs p.1 p.2) (stored vs q.1 q.2):=by
   have:=r0.put p.1 h.2
   rw[<- h.1];exact this
  exact ih e
theorem Z52:∀(more kvs:List (Key×V)),(Z6h kvs more).length<=kvs.length+more.length
 |[],kvs=>by show kvs.length<=kvs.length+0;omega
 |p::r,kvs=>by
  have h1:=Z52 r (Z30 kvs p.1 p.2)
  have h2:=Z1g kvs p.1 p.2
  show(Z6h (Z30 kvs p.1 p.2) r).length<=_
  rw[length_cons];omega
theorem Z7o {P:Program}{w:World}:∀{kvs:List (Key×V)} {ws:List (Value×Value)},VV (kvs.map fun kv=>(kV kv.1,kv.2)) ws->∃rs,Carries (Z0w P w) ws rs/\KV kvs rs
 |[],_,r=>by rw[map_nil] at r;cases r;exact⟨[],True.intro,.nil⟩
 |p::kvs,_,r=>by
  rw[map_cons] at r
  cases r with
  | @cons a b as bs h t=>
   obtain⟨rs,c,q⟩:=Z7o (P:=P) (w:=w) t
   obtain⟨b1,b2⟩:=b
   exact⟨(p.1,b2)::rs,⟨Z9c h.1,rfl,c⟩,.cons ⟨rfl,h.2⟩ q⟩
def Zo3 (trs:List (TE×TE)):TE:=fun σ H Q=>∀p,H p=none->Zei trs σ (upd H p (.dK [])) fun ps H2=>H2 p=some (.dK [])/\∃kvs:List (Key×V),ps=kvs.map (fun kv=>(kV kv.1,kv.2))/\kvs.length<=15/\Q (.ref p) (upd H2 p (.dK (Z6h [] kvs)))
theorem Zek {X:Cx}{pos:Pos}{keys:List (Option Expr)}{values:List Expr}{trs:List (TE×TE)}(h:PPs X pos keys values trs)(hall:keys.all (·.isSome)=true)(hl:keys.length=values.length)(h0:keys ≠ [])
  (h15:keys.length<=15):PE X (.Dict keys values pos) (Zo3 trs):=by
 intro pins s σ H Q I q
 have hn:=I.hok.fresh (Nat.le_refl s.heap.objs.size)
 have I1:=I.laid (a:=s.heap.objs.size) (o:=.dK []) (h':=s.heap.push { cls:=.type "dict",data:=.dict #[] }) (t':=s.toks) (fun _ _ q=>Heap.get?_push_of_some _ q) (Nat.le_refl _) (Z8b s.heap I.big)
 refine wpAny_Dict_walk (knd:=Z0w X.prog X.w) hall hl h0 h15 (thn (h pins _ σ _ _ I1 (q _ hn)) fun ws s2 ⟨ps,H2,I2,rel,e,kvs,ep,lk,q2⟩=>?_)
 subst ep
 obtain⟨rs,c,rk⟩:=Z7o (P:=X.prog) (w:=X.w) rel
 obtain⟨z,hd,vs0,r0,dd⟩:=Zee I2.hok e
 cases r0
 refine⟨rs,c,dd,fun h' dd' hs=>⟨.ref s.heap.objs.size,_,?_,rfl,q2⟩⟩
 have hz:(Z6h [] kvs).length<=sizeLine:=by
  have h1:=Z52 kvs []
  rw[length_nil] at h1
  rw[sizeLine_eq];omega
 have he:∃q,h'.get? s.heap.objs.size=some q:=let ⟨q,_,_,hq,_⟩:=dd';⟨q,hq⟩
 exact Z6g I2 (by rw[e];exact True.intro) hs he (Z7n hz hd (rk.merge .nil) dd')
structure M1 (X:Cx)(o:Expr)(m:Str)(apos:Pos)(e:Expr)(cpos:Pos):Prop where
 base:attributeBase o m X.env (eval o X.env)=eval o X.env
 few:((backTo cpos (starEach [e] X.env)).all (fun x => !x.1)&&(backToKw cpos (keywordEach [] X.env)).all (fun x=>x.1.isSome)
  && decide (([e]:List Expr).length+([]:List Keyword).length+(if ([]:List Keyword).isEmpty then 0 else 1)<30))=true
 line:(apos.endLine==cpos.line)=true
 trees:backTo cpos (starEach [e] X.env) = [(false,eval e X.env)]
structure M2 (X:Cx)(o:Expr)(m:Str)(apos:Pos)(e f:Expr)(cpos:Pos):Prop where
 base:attributeBase o m X.env (eval o X.env)=eval o X.env
 few:((backTo cpos (starEach [e,f] X.env)).all (fun x => !x.1)&&(backToKw cpos (keywordEach [] X.env)).all (fun x=>x.1.isSome)
  && decide (([e,f]:List Expr).length+([]:List Keyword).length+(if ([]:List Keyword).isEmpty then 0 else 1)<30))=true
 line:(apos.endLine==cpos.line)=true
 trees:backTo cpos (starEach [e,f] X.env) = [(false,eval e X.env),(false,eval f X.env)]
def IsD (H:Hp)(a:Addr):Prop:=(∃kvs,Rd H a (.dK kvs))∨∃kvs,Rd H a (.dT kvs)
theorem Ziw {X:Cx}{pins:List (Addr×Obj)}{σ:St}{H:Hp}{s:Shared}{a:Addr}(I:Inv X pins σ H s)(d:IsD H a):
  s.TypeIs (.ref a) "dict"/\(∀b,Value.ref a = .ref b->∃ob,s.heap.get? b=some ob/\ob.dict=none)/\(a==sysModules)=false:=by
 rcases d with ⟨kvs,e⟩|⟨kvs,e⟩
 ·obtain⟨_,hd,vs,_,dd⟩:=Zcz I.hok e
  refine⟨dd.typeIs,fun b q=>?_,hd⟩
  cases q
  obtain⟨ob,_,_,h1,h2,_⟩:=dd
  exact⟨ob,h1,h2.2.1⟩
 ·obtain⟨_,hd,xs,_,dd⟩:=Zef I.hok e
  refine⟨dd.typeIs,fun b q=>?_,hd⟩
  cases q
  obtain⟨ob,_,_,h1,h2,_⟩:=dd
  exact⟨ob,h1,h2.2.1⟩
section
variable {X:Cx}{pins:List (Addr×Obj)}{σ:St}{H:Hp}{s:Shared}{a:Addr}{y d:V}{u r:Value}{o:Option V}{A:Around}{E:Value->Shared->Prop}
theorem Zm2 {Q:Value->Shared->Prop}(hu:A.units+1<cLine)(I:Inv X pins σ H s)(g:DGet H a y o)(ry:RelV y u)(h:∀w' s',Inv X pins σ H s'->RelV (o.getD .non) w'->Q w' s'):
  wpAny (model X.prog X.w) A (call (.builtin "dict.get") [.ref a,u]) Q E s:=by
 rcases g with ⟨kvs,k,e,ey,l⟩|⟨kvs,k,b,e,ey,eb,l⟩
 ·subst ey
  obtain⟨z,hd,vs,rel,dd⟩:=Zcz I.hok e
  refine call_meetsIn PySem.F.slot_dict_get dd.typeIs PySem.F.entry_dict_get (PySem.F.args_dict_get_2 _ _) (meets_dict_get (Z0w X.prog X.w) a (Z9c ry) hd) ⟨_,dd.mapOf,h _ _ (I.tok _) ?_⟩
  rw[l]
  exact(rel.val k).getD rfl
 ·subst ey
  cases (show u=Value.ref b from ry)
  obtain⟨z,hd,xs,rel,dd⟩:=Zef I.hok e
  refine call_meetsIn PySem.F.slot_dict_get dd.typeIs PySem.F.entry_dict_get (PySem.F.args_dict_get_2 _ _) (meetsH_dict_get (tupleKind (Z0w X.prog X.w)) a b hd) ⟨tupleKind_room_in1 hu,k,xs,Zbg I.hok eb,dd,h _ _ (I.tok _) ?_⟩
  rw[l]
  exact(rel.val k).getD rfl
end
def Zm3 (td ty:TE):TE:=fun σ H Q=>td σ H fun x H1=>∃a,x = .ref a/\IsD H1 a/\ty σ H1 fun y H2=>∃o,DGet H2 a y o/\Q (o.getD .non) H2
section
variable {X:Cx}{o e f:Expr}{apos cpos:Pos}{td ty tx:TE}
theorem Zh1 (hu:X.A.units+1<cLine)(ho:PE X o td)(he:PE X e ty)(m:M1 X o "get" apos e cpos):PE X (.Call (.Attribute o "get" apos) [e] [] cpos) (Zm3 td ty):=by
 intro pins s σ H Q I h
 refine wpAny_Call_method m.base m.few m.line PySem.F.plainAttrs_dict PySem.F.slot_dict_get PySem.F.type_dict_get (thn (ho pins s σ H _ I h) fun u s1 ⟨x,H1,I1,rx,a,ex,d,q1⟩=>?_)
 subst ex
 obtain rfl:u=Value.ref a:=rx
 obtain⟨t1,t2,_⟩:=Ziw I1 d
 refine⟨t1,t2,?_⟩
 rw[m.trees]
 refine Calls.callWith_builtin rfl (Calls.evalArgs_plain (Calls.spliced_cons (thn (he pins s1 σ H1 _ I1 q1) fun iv s2 ⟨y,H2,I2,ry,ov,g,q2⟩=>Calls.spliced_nil ?_)))
 exact Zm2 hu I2 g ry fun w' s3 I3 rw'=>⟨_,H2,I3,rw',q2⟩
end
section
variable {X:Cx}{pins:List (Addr×Obj)}{σ:St}{H:Hp}{s:Shared}{a:Addr}{kvs:List (Key×V)}{A:Around}{E:Value->Shared->Prop}
theorem Zh2 {Q:Value->Shared->Prop}(I:Inv X pins σ H s)(e:Rd H a (.dK kvs))(h:∀p s',H p=none->Inv X pins σ (upd H p (.dK kvs)) s'->Q (.ref p) s'):wpAny (model X.prog X.w) A (call (.type "dict") [.ref a]) Q E s:=by
 obtain⟨z,hd,vs,rel,dd⟩:=Zcz I.hok e
 refine kt_call_dict hd dd (by rw[<- rel.length];exact z) fun h' dd' hs=>?_
 refine h _ _ (I.hok.fresh (Nat.le_refl _)) (I.laid (a:=s.heap.objs.size) (o:=.dK kvs) (t':=s.toks) (fun b q hq=>?_) (Nat.le_refl _) (Z7n z (beq_eq_false_iff_ne.mpr (Ne.symm (Nat.ne_of_lt I.big))) rel dd'))
 exact(hs.2 b (Nat.ne_of_lt (Heap.lt_size hq))).trans (Heap.get?_push_of_some _ hq)
end
end L2
namespace Att
open PySem PySem.W PySem.Calls PyProof.Rows
theorem Z6i {P:Params}{h:Heap}:∀(ns:List Int) (vs:List Value),WellAll P h vs (ns.map WData.int)->IntsAre vs ns:=by
 intro ns
 induction ns with
 |nil=>
  intro vs w
  rw[map_nil] at w
  cases w
  exact .nil
 |cons n ns ih=>
  intro vs w
  rw[map_cons] at w
  cases w with
  |cons a b=>
   cases a
   exact .cons _ _ (ih _ b)
theorem Zel {l:OpenLaw}{n:Nat}(hn:l.most=some n){P:Params}{h:Heap}{args:List WData}{vals:List Value}
  (hpre:l.row.toRowW.claim.pre args=true) (hwl:WellAll P h vals args):
  ∃a vs ns,vals = [Value.ref a]/\args = [WData.list (ns.map WData.int)]/\h.get? a=some { cls:=.type "list",data:=.seq vs.toArray }/\IntsAre vs ns/\ns.length<=n:=by
 have hsh:WShape.hasAll [] args [.list .int]=true:=(pre_splitW hpre).1
 have hc:l.pre.holds [] { args:=args }=true:=(pre_splitW hpre).2
 obtain⟨d,r,rfl,h1,h2⟩:=hasAllW_cons hsh
 obtain rfl:=hasAllW_nil h2
 obtain⟨xs,rfl,h3⟩:=hasW_list h1
 obtain⟨ns,rfl⟩:=items_int h3
 have hlen:ns.length<=n:=by
  unfold OpenLaw.pre at hc
  have h4:(WTm.not (.lt (.lit (.int (n:Int))) (.len (.arg 0)))).holds [] { args:=[.list (ns.map .int)] }=true:=by
   have h4:=(holds_andW hc).1
   rw[hn] at h4
   exact h4
  have h5:=condW_of h4 (w_not (w_lt w_lit (w_len_list (w_arg rfl))))
  rw[length_map] at h5
  refine Nat.le_of_not_lt fun q=>?_
  have q':(n:Int)<((ns.length:Nat):Int):=by omega
  first
   | (rw[decide_eq_true q'] at h5;exact absurd h5 (by decide))
   | (simp at h5;omega)
 cases hwl with
 |cons w1 w2=>
  cases w2
  cases w1 with
  |list ho hall=>exact⟨_,_,ns,rfl,rfl,ho,Z6i ns _ hall,hlen⟩
theorem Zem (l:OpenLaw)(args:List WData):l.row.toRowW.claim.post args (.bool true) args=true:=
 postW_of (r:=l.row.toRowW) (X:=(true==true))
  (show WShape.has [] (.bool true) .bool=true by first|rfl|decide|simp [WShape.has,WShape.arms,WShape.armsAll])
  (show(WTm.eq .res (.lit (.bool true))).value [] { args:=args,res:=some (.bool true),after:=args }=some (.bool (true==true)) from w_eq_bool (w_res rfl) w_lit) rfl
theorem attach_call {l:OpenLaw}{n:Nat}{q:Program}{loose:List Str}{XP:(Str->Option Value)->Heap->Prop}{YP:World->Heap->Prop}{d:DefRec}
  (hn:l.most=some n) (hdf:d.params.defaults = [])
  (call:∀(w:World) (s₀ s₁:Shared) (mg mb:Str->Option Value) (fa:Addr) (o:Obj) (pm cd doc:Value) (a:Addr) (vs:List Value) (ns:List Int),
   Ground q loose [] XP w s₀ mg mb s₁.heap->YP w s₁.heap →
   s₁.heap.get? fa=some o->o.data = .func (docDef d.name d.params d.body d.scope pm cd doc)->s₁.heap.CodeRec cd d.name->mg d.name=some (.ref fa) →
   s₁.heap.get? a=some { cls:=.type "list",data:=.seq vs.toArray }->IntsAre vs ns->ns.length<=n->s₁.gens = #[] →
   codeAny (model l.prog w) callerA (.call (.ref fa) ⟨[.ref a],[]⟩) (fun r s'=>r = .ok (.ret (.bool true))/\OldK s₁.heap s'.heap/\s'.os=s₁.os/\AllBare s'.gens) s₁):
  WalkO q loose XP YP l.row.toRowW d [] (fun f vs=>PySem.call f vs):=by
 intro w s₀ s₁ mg mb G Y fa o pm cd doc dV kV ho hd hcd hD hmg hg args vals as hpre hlay hrd hwl hlo
 obtain rfl:dV = .none:=Dflts.none hD hdf
 obtain rfl:kV = .none:=Dflts.noKw hD
 obtain⟨a,vs,ns,rfl,rfl,hobj,hints,hlen⟩:=Zel hn hpre hwl
 refine enter_call (codeAny_mono (call w s₀ s₁ mg mb fa o pm cd doc a vs ns G Y ho (fd_plain hd) hcd hmg hobj hints hlen hg) fun r s' hq=>?_)
 obtain⟨rfl,h2,h3,h4⟩:=hq
 exact⟨.inl ⟨.bool true,.bool true,[],rfl,fun _=>rfl,.bool true,Zem l _,fun _=>⟨List.Pairwise.nil,fun _ hm=>(nomatch hm)⟩⟩,h2,h3,h4⟩
end Att
namespace L2
open PySem PySem.Spec PyProof.Rows
theorem Z9e:∀{vs:List Value} {ns:List Int},IntsAre vs ns->Vals (ns.map V.int) vs
 |_,_,.nil=>.nil
 |_,_,.cons n t h=>.cons ⟨t,rfl⟩ (Z9e h)
def Zo4 (H:Hp):Prop:=∀b,H b=none∨∃o xs,H b=some (.frz o (.lst xs))
theorem Zh3 {P:Program}{w:World}{K:PySem.W.Frag}{mg mb:Str->Option Value}{CX:CXT}{k:Nat}{fa a:Addr}{fd:FuncData}{x:Str}{sp:Sp}{s₁:Shared}{vs:List Value}{ns:List Int}
  (KX:K.In s₁.heap) (hns:s₁.heap.Ns mainGlobals mg) (hb:s₁.heap.Ns builtinsNs mb) (hbb:∀x:Str,x≠"__name__"->mb x=bootBuiltins x) (hlim:s₁.heap.NoLimit) (hg:s₁.gens = #[])
  (ha:s₁.heap.get? a=some { cls:=.type "list",data:=.seq vs.toArray }) (hi:IntsAre vs ns) (hl:ns.length<=sizeLine) (hr:Room k callerA)
  (F:∀base:Heap,K.In base->base.Ns mainGlobals mg->FnOk P w K mg base CX k fa fd [x] sp) (hbind:∀(s:Shared) (u:Value),BindsTo s fd ⟨[u],[]⟩ [(x,u)])
  (hsp:∀H:Hp,Zo4 H->SqL K H a (ns.map V.int)->sp [.ref a] H (fun v _=>v = .bl true) fun _ _ _=>False)
  (hCX:∀H e s',CX [] H s₁ (fun _ _ _=>False) e s'->False):
  codeAny (model P w) callerA (.call (.ref fa) ⟨[.ref a],[]⟩) (fun r s'=>r = .ok (.ret (.bool true))/\OldK s₁.heap s'.heap/\s'.os=s₁.os/\AllBare s'.gens) s₁:=by
 have rv:=Z9e hi
 have lenV:=hi.length
 have core:∀H:Hp,Zo4 H->SqL K H a (ns.map V.int)->HOk P w H s₁.heap->(∀b,H b≠none->b=a)->(H a≠none->K.lookup a=none) →
   codeAny (model P w) callerA (.call (.ref fa) ⟨[.ref a],[]⟩) (fun r s'=>r = .ok (.ret (.bool true))/\OldK s₁.heap s'.heap/\s'.os=s₁.os/\AllBare s'.gens) s₁:=by
  intro H hO hS hok hA hK
  have base_of:∀{b:Addr} {o:Obj},s₁.heap.get? b=some o->H b=none->(Zgr s₁.heap H).get? b=some o:=fun e n=>Zgs e n
  have noA:∀{b:Addr} {o:Obj} {es:Array DictEntry} {ep:Nat},s₁.heap.get? b=some o->o.data = .dict es ep->H b=none:=fun {b o es ep} e d=>by
   cases q:H b with
   |none=>rfl
   |some u=>
    have e':b=a:=hA b (by rw[q];simp)
    subst e'
    rw[ha] at e;cases e
    have d':Data.seq vs.toArray _=Data.dict es ep:=d
    cases d'
  have nsK:∀{b:Addr} {m:Str->Option Value},s₁.heap.Ns b m->(Zgr s₁.heap H).Ns b m:=fun {b m} ⟨o,es,ep,e,d,r⟩=>⟨o,es,ep,base_of e (noA e d),d,r⟩
  have hKb:K.In (Zgr s₁.heap H):=fun b o e=>base_of (KX b o e) (by
   cases q:H b with
   |none=>rfl
   |some u=>
    have e':b=a:=hA b (by rw[q];simp)
    subst e'
    rw[hK (by rw[q];simp)] at e;cases e)
  have hM:Mod K mg (Zgr s₁.heap H):=⟨hKb,nsK hns,⟨mb,nsK hb,hbb⟩,let ⟨mc,h1,h2⟩:=hlim;⟨mc,nsK h1,h2⟩⟩
  have e0:Env0 P w K mg (Zgr s₁.heap H) callerA [] s₁ H:=⟨rfl,hM,fun b o e=>Zji e,Nat.le_of_eq (Zdx _ _),trivial,fun b hb=>absurd (show b∈([]:List Addr) from hb) (by simp),hok,.of_eq hg⟩
  refine codeAny_mono ((F _ hKb (nsK hns)).run callerA [] s₁ H ⟨[.ref a],[]⟩ [.ref a] [.ref a] _ _ hr e0 (hbind s₁ (.ref a)) (.cons rfl .nil) (hsp H hO hS)) fun r s' h=>?_
  cases r with
  |error e=>exact(hCX H e s' h).elim
  |ok fl=>
   cases fl with
   |next=>exact False.elim h
   |brk=>exact False.elim h
   |cont=>exact False.elim h
   |ret u=>
    obtain⟨v,H',os,bare,un,hok',r',q⟩:=h
    have q':v = .bl true:=q
    subst q'
    obtain rfl:u=Value.bool true:=r'
    refine⟨rfl,OldK.of_keep fun b o e=>?_,os,bare⟩
    cases q:H b with
    |none=>exact un.keep b o e q (by intro z;exact absurd (show b∈([]:List Addr) from z) (by simp)) (by simp)
    |some u=>
     rcases hO b with z|⟨ob,xs,z⟩
     ·rw[q] at z;cases z
     ·have z2:=un.frzs b ob _ z
      obtain⟨e1,_⟩:=hok b _ z
      obtain⟨e2,_⟩:=hok' b _ z2
      rw[e] at e1;cases e1
      exact e2
 cases hk:K.lookup a with
 |some o=>
  have e:=KX a o hk
  rw[ha] at e
  cases e
  refine core (fun _=>none) (fun _=>.inl rfl) (.inr ⟨_,vs.toArray,_,hk,rfl,rfl,rfl,by rw[size_toArray,lenV];exact hl,by simpa using rv⟩) (fun b u z=>by have z':(none:Option HO)=some u:=z;cases z') (fun b z=>absurd rfl z) fun z=>absurd rfl z
 |none=>
  refine core (fun b=>if b=a then some (.frz { cls:=.type "list",data:=.seq vs.toArray } (.lst (ns.map V.int))) else none) (fun b=>?_) (.inl (.inr ⟨{ cls:=.type "list",data:=.seq vs.toArray },if_pos rfl⟩)) (fun b u z=>?_) (fun b z=>?_) fun _=>hk
  ·by_cases hb:b=a
   ·exact .inr ⟨_,_,if_pos hb⟩
   ·exact .inl (if_neg hb)
  ·by_cases hb:b=a
   ·have z':=(if_pos hb).symm.trans z
    cases z'
    subst hb
    exact⟨ha,by rw[length_map];exact hl,vs,_,rv,ha⟩
   ·have z':=(if_neg hb).symm.trans z
    cases z'
  ·by_cases hb:b=a
   ·exact hb
   ·exact absurd (if_neg hb) z
theorem walk_of {l:PySem.W.OpenLaw}{n k:Nat}{q:Program}{loose:List Str}{XP:(Str->Option Value)->Heap->Prop}{YP:World->Heap->Prop}{d:DefRec}{K:Params->PySem.W.Frag}{CX:World->CXT}{sp:World->Sp}{x:Str}
  (hn:l.most=some n) (hn2:n<=sizeLine) (hdf:d.params.defaults = []) (hr:Room k callerA)
  (hY:∀(w:World) (h:Heap),YP w h->(K w.params).In h)
  (F:∀(w:World) (mg:Str->Option Value) (fa:Addr) (h:Heap),(K w.params).In h->h.Ns mainGlobals mg->mg d.name=some (.ref fa) →
   ∃fd:FuncData,(∀(s:Shared) (u:Value),BindsTo s fd ⟨[u],[]⟩ [(x,u)]) ∧
    ∀base:Heap,(K w.params).In base->base.Ns mainGlobals mg->FnOk l.prog w (K w.params) mg base (CX w) k fa fd [x] (sp w))
  (hsp:∀(w:World) (H:Hp) (a:Addr) (ns:List Int),ns.length<=n->Zo4 H->SqL (K w.params) H a (ns.map V.int)->sp w [.ref a] H (fun v _=>v = .bl true) fun _ _ _=>False)
  (hCX:∀(w:World) (H:Hp) (s:Shared) (e:Value) (s':Shared),CX w [] H s (fun _ _ _=>False) e s'->False):
  PySem.W.WalkO q loose XP YP l.row.toRowW d [] (fun f vs=>PySem.call f vs):=by
 refine Att.attach_call hn hdf fun w s₀ s₁ mg mb fa o pm cd doc a vs ns G Y ho hd hcd hmg hobj hints hlen hg=>?_
 have KX:=hY w _ Y
 obtain⟨fd,hb,hF⟩:=F w mg fa _ KX G.T.g hmg
 exact Zh3 KX G.T.g G.T.b G.T.builtins G.T.nolimit hg hobj hints (Nat.le_trans hlen hn2) hr hF hb (fun H hO hS=>hsp w H a ns hlen hO hS) fun H e s'=>hCX w H s₁ e s'
abbrev CX0:CXT:=fun _ _ _ _ _ _=>False
abbrev E0:XK:=fun _ _ _=>False
theorem Z0f {X:Cx}:Ze9 CX0 X E0:=fun _ _ _ _ _ _ _ h=>h.elim
structure Fun (K:PySem.W.Frag)(x qual:Str)(st:Stmt)(f:Addr)(fd:FuncData):Prop where
 ex:∃(oc:Value) (od:Option Addr) (kV doc pm:Value) (an:Option Addr) (cdv ct:Value) (osl:Array (Option Value)),
  fd=PySem.W.fnOf x qual (Z0q st) (Z0p st) (Z06 st) .none kV doc pm an cdv ct/\K.lookup f=some ⟨oc,od,.func fd,osl⟩/\PySem.W.codeIn K cdv qual=true
 kp:PySem.W.keepIn K (.ref f)=true
section
variable {P:Program}{w:World}{K:PySem.W.Frag}{mg:Str->Option Value}{base:Heap}
theorem Fun.ok {x qual:Str}{st:Stmt}{f:Addr}{fd:FuncData}{N ps:List Str}{k:Nat}{sp:Sp}(F:Fun K x qual st f fd)(S:FnScope N ps (Z06 st))(len:∀vs H Q E,sp vs H Q E->vs.length=ps.length)
  (hbody:∀(cdv:Value) (A:Around) (outer:List Env) (s:Shared) (H:Hp) (vs:List V) (Q:VK) (E:XK),Room k (A.deeper (envOfC qual (Z06 st) s.heap.objs.size f cdv))->sp vs H Q E →
   ∃t,PSs (Zgy CX0 P w K mg base N qual (Z06 st) f cdv A outer s H E).nox (Z0p st) t/\t { nx:=fun _ H'=>Q .non H',rt:=Q } (Z95 N vs) H):FnOk P w K mg base CX0 (k+1) f fd ps sp:=by
 obtain⟨oc,od,kV,doc,pm,an,cdv,ct,osl,rfl,lk,hcd⟩:=F.ex
 refine Zny lk hcd S len fun A outer s H vs Q E hr hsp=>?_
 obtain⟨t,h,q⟩:=hbody cdv A outer s H vs Q E hr hsp
 exact⟨t,h.nox,q⟩
theorem Fun.binds {x qual:Str}{st:Stmt}{f:Addr}{fd:FuncData}{ps:List Str}(F:Fun K x qual st f fd)
  (h:∀(kV doc pm:Value) (an:Option Addr) (cdv ct:Value) (us:List Value),us.length=ps.length->bindArgs (PySem.W.fnOf x qual (Z0q st) (Z0p st) (Z06 st) .none kV doc pm an cdv ct) ⟨us,[]⟩=pure (ps.zip us)):Binds K fd ps []:=by
 obtain⟨oc,od,kV,doc,pm,an,cdv,ct,osl,rfl,lk,hcd⟩:=F.ex
 exact .all (h kV doc pm an cdv ct)
theorem Z11 {x qual:Str}{st:Stmt}{f:Addr}{oc:Value}{od an:Option Addr}{osl:Array (Option Value)}{kV doc pm cdv ct:Value}(l:K.lookup f=some ⟨oc,od,.func (PySem.W.fnOf x qual (Z0q st) (Z0p st) (Z06 st) .none kV doc pm an cdv ct),osl⟩)
  (c:PySem.W.codeIn K cdv qual=true) (k:PySem.W.keepIn K (.ref f)=true):Fun K x qual st f (PySem.W.fnOf x qual (Z0q st) (Z0p st) (Z06 st) .none kV doc pm an cdv ct):=⟨⟨oc,od,kV,doc,pm,an,cdv,ct,osl,rfl,l,c⟩,k⟩
end
theorem Zm4 {A:Around}{k:Nat}(hr:Room k A):A.units+1<cLine:=Nat.lt_of_le_of_lt (Nat.add_le_add_left (by decide:1<=64) _) hr.units
section
variable {X:Cx}
theorem pv (i:Nat){x:Str}{pos:Pos}(hN:X.N[i]? = some x:=by rfl)(hv:Vis X.env.scope x:=by first|exact Or.inl rfl|exact Or.inr (Or.inl rfl)|exact Or.inr (Or.inr rfl))(hd:(x==("__debug__":Str))=false:=by decide)
  (hcd:(x==("__classdict__":Str))=false:=by decide):PE X (.Name x pos) (tVar i):=Zln hN hv hd hcd
end
theorem Zab {A B:Prop}(h:B):if false=true then A else B:=by
 rw[if_neg Bool.false_ne_true]
 exact h
theorem Z9f {A B:Prop}(h:A):if true=true then A else B:=by
 rw[if_pos rfl]
 exact h
theorem Z1b {c A B:Prop}[Decidable c](h1:c->A)(h2:¬c->B):if c then A else B:=by
 by_cases h:c
 ·rw[if_pos h]
  exact h1 h
 ·rw[if_neg h]
  exact h2 h
def Same (H H':Hp):Prop:=∀b o,H b=some o->H' b=some o
theorem Same.refl (H:Hp):Same H H:=fun _ _ h=>h
theorem Same.trans {H H1 H2:Hp}(a:Same H H1)(b:Same H1 H2):Same H H2:=fun c o h=>b c o (a c o h)
theorem Same.seq {K:PySem.W.Frag}{H H':Hp}{a:Addr}{xs:List V}(e:Same H H')(h:SqL K H a xs):SqL K H' a xs:=by
 rcases h with (h|⟨o,h⟩)|h
 ·exact .inl (.inl (e _ _ h))
 ·exact .inl (.inr ⟨o,e _ _ h⟩)
 ·exact .inr h
section
variable {prog:Program}{w:World}{A:Around}{E:Value->Shared->Prop}{R:Result->Shared->Prop}{s:Shared}
theorem Z9g {elt target iter:Expr}{ifs:List Expr}{scope:Scope}{pos:Pos}{it acc:Value}{env:Env}(I:Nat->Shared->Prop)
  (turn:∀n s,I n s->wpAny (model prog w) A (pyNext it) (fun r s1=>match r with
   |none=>R (.ok .next) s1
   |some v=>wpAny (model prog w) A (letOwnedTupleGo target it v) (fun _ s1'=>wpAny (model prog w) A (assign target env v) (fun _ s2=>
     wpAny (model prog w) A (forIn ifs true fun c r=>if r=true then do let ok ← isTrue c env (eval c env);pure (ForInStep.yield ok) else pure (ForInStep.yield r)) (fun ok s3=>
      if ok=true then wpAny (model prog w) A (eval elt env) (fun x s4=>
       wpAny (model prog w) A (call (.builtin "list.append") [acc,x]) (fun _ s5=>∃m,m<n/\I m s5) (fun _ _=>False) s4) (fun _ _=>False) s3
      else ∃m,m<n/\I m s3) (fun _ _=>False) s2) (fun _ _=>False) s1') (fun _ _=>False) s1) (fun _ _=>False) s)
  (n:Nat) (h:I n s):
  codeAny (model prog w) A (.compLoop (.ListComp elt [⟨target,iter,ifs,0⟩] scope pos) 0 it acc env) R s:=by
 refine codeAny_loop rfl I (fun n s hI=>?_) n h
 show wpAny _ A ((compTurn (.ListComp elt [⟨target,iter,ifs,0⟩] scope pos) 0 it acc env).onRaise (fun x=>do noteFrame x env;theTreesLotGoes x)) _ _ s
 refine wpAny_noted ?_
 rw[compTurn_list]
 refine wpAny_bind (wpAny_standAt (wpAny_bind (wpAny_mono (turn n s hI) (fun r s₁ h₁=>?_) fun _ _ h'=>h'.elim)))
 cases r with
 |none=>exact wpAny_pure h₁
 |some v=>
  refine wpAny_bind (wpAny_mono h₁ (fun _ s1' h1'=>?_) fun _ _ h'=>h'.elim)
  refine wpAny_bind (wpAny_mono h1' (fun _ s₂ h₂=>wpAny_bind (wpAny_mono h₂ (fun ok s₃ h₃=>?_) fun _ _ h'=>h'.elim)) fun _ _ h'=>h'.elim)
  cases ok with
  |false=>exact wpAny_pure ⟨rfl,h₃⟩
  |true=>
   exact wpAny_bind (wpAny_bind (wpAny_mono h₃ (fun x s₄ h₄=>wpAny_bind (wpAny_mono h₄ (fun _ s₅ h₅=>wpAny_pure (wpAny_pure ⟨rfl,h₅⟩)) fun _ _ h'=>h'.elim)) fun _ _ h'=>h'.elim))
end
theorem Z5g {env:Env}:∀(names:List (Str×NameKind)) (cs:List (Str×Addr)),(∀n,(n,NameKind.free)∈names->∃c,env.cells.lookup n=some c) →
  ∃cl,(forIn names cs fun(x:Str×NameKind) (r:List (Str×Addr))=>match x with
   | (name,kind)=>if (kind==NameKind.free)=true then do let c ← cellOf env name;pure (ForInStep.yield ((name,c)::r)) else pure (ForInStep.yield r):Sem (List (Str×Addr)))=pure cl ∧
   (∀p∈cl,p∈cs∨env.cells.lookup p.1=some p.2)/\(∀p∈cs,p∈cl)/\(∀n,(n,NameKind.free)∈names->∃c,(n,c)∈cl)
 |[],cs,_=>⟨cs,by simp,fun p hp=>.inl hp,fun p hp=>hp,fun n hn=>by cases hn⟩
 | (n,k)::r,cs,h=>by
  by_cases hk:(k==NameKind.free)=true
  ·have hk':k=NameKind.free:=eq_of_beq hk
   subst hk'
   obtain⟨c,hc⟩:=h n (mem_cons_self)
   obtain⟨cl,e,h1,h2,h3⟩:=Z5g r ((n,c)::cs) fun m hm=>h m (mem_cons_of_mem _ hm)
   refine⟨cl,?_,fun p hp=>?_,fun p hp=>h2 p (mem_cons_of_mem _ hp),fun m hm=>?_⟩
   ·rw[forIn_cons]
    simp only [hk,if_true]
    unfold cellOf
    rw[hc]
    exact e
   ·rcases h1 p hp with q|q
    ·rcases mem_cons.mp q with q|q
     ·subst q;exact .inr hc
     ·exact .inl q
    ·exact .inr q
   ·rcases mem_cons.mp hm with q|q
    ·cases q;exact⟨c,h2 _ mem_cons_self⟩
    ·exact h3 m q
  ·obtain⟨cl,e,h1,h2,h3⟩:=Z5g r cs fun m hm=>h m (mem_cons_of_mem _ hm)
   refine⟨cl,?_,h1,h2,fun m hm=>?_⟩
   ·rw[forIn_cons]
    simp only [hk]
    exact e
   ·rcases mem_cons.mp hm with q|q
    ·cases q;exact absurd rfl hk
    ·exact h3 m q
theorem Z7p {κ : Type}[BEq κ][LawfulBEq κ]{β : Type}:∀{l:List (κ × β)} {x : κ} {c : β},l.lookup x=some c->(x,c)∈l
 |[],_,_,h=>by simp at h
 | (n,k)::r,x,c,h=>by
  cases hx:x==n with
  |true=>
   simp only [lookup_cons,hx] at h
   cases h
   have e:=eq_of_beq hx
   subst e
   exact mem_cons_self
  |false=>
   simp only [lookup_cons,hx] at h
   exact mem_cons_of_mem _ (Z7p h)
theorem Z7q {κ : Type}[BEq κ][LawfulBEq κ]{β : Type}:∀{l:List (κ × β)} {x : κ} {c : β},(x,c)∈l->∃c',l.lookup x=some c'
 | (n,k)::r,x,c,h=>by
  cases hx:x==n with
  |true=>exact⟨k,by simp only [lookup_cons,hx]⟩
  |false=>
   rcases mem_cons.mp h with q|q
   ·cases q;simp at hx
   ·obtain⟨c',e⟩:=Z7q q
    exact⟨c',by simp only [lookup_cons,hx];exact e⟩
theorem Z5h {scope:Scope}{env:Env}(h:∀n,(n,NameKind.free)∈scope.names->∃c,env.cells.lookup n=some c):
  ∃cl,closureFor scope env=pure cl/\(∀x c,cl.lookup x=some c->env.cells.lookup x=some c)/\∀n,(n,NameKind.free)∈scope.names->∃c,cl.lookup n=some c:=by
 obtain⟨cl,e,h1,_,h3⟩:=Z5g scope.names [] h
 refine⟨cl,?_,fun x c hx=>?_,fun n hn=>?_⟩
 ·have e2:closureFor scope env=((forIn scope.names ([]:List (Str×Addr)) fun(x:Str×NameKind) (r:List (Str×Addr))=>match x with
     | (name,kind)=>if (kind==NameKind.free)=true then do let c ← cellOf env name;pure (ForInStep.yield ((name,c)::r)) else pure (ForInStep.yield r):Sem (List (Str×Addr))) >>= fun r=>pure r):=rfl
  rw[e2,e]
  rfl
 ·rcases h1 _ (Z7p hx) with q|q
  ·cases q
  ·exact q
 ·obtain⟨c,hc⟩:=h3 n hn
  exact Z7q hc
def Z1e (X:Cx)(N':List Str)(scope:Scope)(cl:List (Str×Addr))(C:Addr)(ex:List Addr)(s0:Shared)(H0:Hp):Cx:=
 { X with N:=N',s₀:=s0,H₀:=H0,env:=compEnvC scope cl C X.env,outer:=X.stack,stack:=X.stack,ex:=ex,fn:=fun _=>false,pn:=[],xe:=fun _ _=>False }
section
variable {X:Cx}{pins:List (Addr×Obj)}{σ:St}{H:Hp}{s:Shared}
theorem Inv.track {a:Addr}{o:HO}(I:Inv X pins σ H s)(f:Z3x X pins H a)(new:ObjOk X.prog X.w (upd H a o) s.heap a o):Inv X pins σ (upd H a o) s:=by
 obtain⟨f0,f1,f2,f3,f4,f5⟩:=f
 have ne:∀b u,H b=some u->b≠a:=fun b u e=>Z0e e f0
 refine⟨I.ok,I.os,I.bare,⟨I.base.keep,I.base.slot,fun b ob e n hx=>?_,I.base.there,fun b xs e=>?_,fun b ob u e=>?_,fun b ps e=>?_⟩,I.loc,I.cell,?_,fun x c e=>?_,fun p hp=>?_,fun b u e=>?_,I.len⟩
 ·have hb:b≠a:=by
   rintro rfl
   rcases f3 with z|z
   ·exact hx z
   ·exact absurd (Nat.lt_of_lt_of_le (Heap.lt_size e) z) (Nat.lt_irrefl _)
  rw[Z09 hb]
  exact I.base.free b ob e n hx
 ·have q:=I.base.tups b xs e
  rw[Z09 (ne _ _ q)];exact q
 ·have q:=I.base.frzs b ob u e
  rw[Z09 (ne _ _ q)];exact q
 ·obtain⟨more,q⟩:=I.base.tbls b ps e
  exact⟨more,by rw[Z09 (ne _ _ q)];exact q⟩
 ·rw[Z09 (Ne.symm f1)];exact I.free
 ·rw[Z09 (f4 x c e)];exact I.freeC x c e
 ·obtain⟨e,n,ne',nf,d⟩:=I.pin p hp
  exact⟨e,by rw[Z09 (f5 p hp)];exact n,ne',nf,d⟩
 ·by_cases hb:b=a
  ·subst hb
   rw[Z00] at e;cases e
   exact new
  ·rw[Z09 hb] at e
   exact(I.hok b u e).stay (fun c v _ q=>q) (fun c q=>by rw[Z09 (ne _ _ q)];exact q) fun c xs q=>by rw[Z09 (ne _ _ q)];exact q
end
def PTs (X:Cx)(ifs:List Expr)(t:TT):Prop:=
 ∀(pins:List (Addr×Obj)) (s:Shared) (σ:St) (H:Hp) (Q:Bool->Hp->Prop),Inv X pins σ H s->t σ H Q →
  wpAny (model X.prog X.w) X.A (forIn ifs true fun c r=>if r=true then do let ok ← isTrue c X.env (eval c X.env);pure (ForInStep.yield ok) else pure (ForInStep.yield r)) (TP X pins σ Q) X.xe s
def tNoTest:TT:=fun _ H Q=>Q true H
theorem Z1k {X:Cx}:PTs X [] tNoTest:=fun _ _ _ H _ I h=>wpAny_tests_nil ⟨H,I,h⟩
theorem Z5i {X:Cx}{c:Expr}{t:TT}(h:PT X c t):PTs X [c] t:=fun pins s σ H Q I q=>wpAny_tests_one (h pins s σ H Q I q)
def Zen (src:List (Option Nat))(σ:St):St:=src.map fun o=>match o with|some j=>(σ[j]?).getD none|none=>none
def Zm5 (src:List (Option Nat))(wi:TI)(g:TG)(tt:TT)(te:TE):TE:=fun σ H Q=>wi σ H fun J H1=>∃W:Nat->Nat->List V->St->Hp->Prop,(∃m,W 0 m [] (Zen src σ) H1)/\∀i m ys σc H,W i m ys σc H →
 (J.stop i H/\∀l,H l=none->Q (.ref l) (upd H l (.lst ys))) ∨
 (J.go i H/\ys.length<sizeLine/\∀x H',J.yld i H x H'->g x σc H' fun σ2 H2=>tt σ2 H2 fun b H3=>
  if b=true then te σ2 H3 fun v H4=>∃m',m'<m/\W (i+1) m' (ys ++ [v]) σ2 H4 else ∃m',m'<m/\W (i+1) m' ys σ2 H3)
section
variable {X:Cx}{elt tg iter:Expr}{ifs:List Expr}{scope:Scope}{pos:Pos}{N':List Str}{src:List (Option Nat)}{wi:TI}{g:TG}{tt:TT}{te:TE}
theorem Z3z {env:Env}:∀{names:List (Str×NameKind)} {x:Str} {k:NameKind},(names.map fun(n,k)=>if (k==NameKind.free&&env.scope.kind == .function&&env.kindOf n==some .cell) then (n,NameKind.cell) else (n,k)).lookup x=some k →
  (k = .cell∨k = .free)->(∀y∈names,y.2 ≠ .cell)->(x,NameKind.free)∈names
 |[],_,_,h,_,_=>by simp at h
 | (n,k')::r,x,k,h,hk,hc=>by
  have ih:=@Z3z env r x k
  have h':List.lookup x ((if (k'==NameKind.free&&env.scope.kind == .function&&env.kindOf n==some .cell)=true then (n,NameKind.cell) else (n,k'))::(r.map fun(n,k)=>if (k==NameKind.free&&env.scope.kind == .function&&env.kindOf n==some .cell) then (n,NameKind.cell) else (n,k)))=some k:=h
  by_cases hx:x=n
  ·subst hx
   by_cases hf:k' = .free
   ·subst hf;exact mem_cons_self
   ·have e:(k'==NameKind.free)=false:=by simpa using hf
    rw[e] at h'
    simp only [Bool.false_and,Bool.false_eq_true,if_false,lookup_cons,beq_self_eq_true] at h'
    have e':k'=k:=Option.some.inj h'
    rcases hk with q|q
    ·exact absurd (e'.trans q) (hc (x,k') mem_cons_self)
    ·exact absurd (e'.trans q) hf
  ·have e:(x==n)=false:=by simpa using hx
   have h2:(r.map fun(n,k)=>if (k==NameKind.free&&env.scope.kind == .function&&env.kindOf n==some .cell) then (n,NameKind.cell) else (n,k)).lookup x=some k:=by
    by_cases hc2:(k'==NameKind.free&&env.scope.kind == .function&&env.kindOf n==some .cell)=true
    ·rw[if_pos hc2] at h';simp only [lookup_cons,e] at h';exact h'
    ·rw[if_neg hc2] at h';simp only [lookup_cons,e] at h';exact h'
   exact mem_cons_of_mem _ (ih h2 hk fun y hy=>hc y (mem_cons_of_mem _ hy))
structure CompScope (X:Cx)(scope:Scope)(N':List Str)(src:List (Option Nat)):Prop where
 kind:scope.kind = .function
 cell:∀y∈scope.names,y.2 ≠ .cell
 names:∀x∈scope.names,x.2 = .local->scope.names.lookup x.1=some .local
 fr:∀n,(n,NameKind.free)∈scope.names->X.env.kindOf n=some .cell∨X.env.kindOf n=some .free
 excl:∀n,(n,NameKind.free)∈scope.names->¬scope.names.lookup n=some .local
 len:N'.length=src.length
 src:∀(i j:Nat),src[i]? = some (some j)->∃x:Str,N'[i]? = some x/\X.N[j]? = some x/\(x,NameKind.free)∈scope.names
theorem Z5j {cl:List (Str×Addr)}{C D:Addr}{fp:List Addr}{pins:List (Addr×Obj)}{σ:St}{H:Hp}{s3:Shared}{h1:Heap}{tk:Nat}(S:CompScope X scope N' src)(I3:Inv X pins σ H s3)
  (hcl1:∀x c,cl.lookup x=some c->X.env.cells.lookup x=some c) (hcl2:∀n,(n,NameKind.free)∈scope.names->∃c,cl.lookup n=some c) (hC:C=s3.heap.objs.size)
  (hf:∀b∈D::fp,Z3x X pins H b) (hlt:∀b∈D::fp,b<s3.heap.objs.size) (hns:h1.Ns C (fun _=>none)) (hk:∀b o,s3.heap.get? b=some o->h1.get? b=some o):
  Inv (Z1e X N' scope cl C (D::fp) s3 H) [] (Zen src σ) H { s3 with heap:=h1,toks:=tk }:=by
 have neC:∀b o,s3.heap.get? b=some o->b≠C:=fun b o e=>by rw[hC];exact Nat.ne_of_lt (Heap.lt_size e)
 have HC:H C=none:=I3.hok.fresh (Nat.le_of_eq hC.symm)
 have ok:(Z1e X N' scope cl C (D::fp) s3 H).Ok:=by
  refine⟨I3.ok.mod,S.kind,I3.ok.glob,I3.ok.blt,Nat.le_of_eq hC.symm,fun x y c e1 e2=>I3.ok.inj x y c (hcl1 x c e1) (hcl1 y c e2),fun x hx=>?_,fun x c z=>absurd z Bool.false_ne_true,I3.ok.hd,I3.ok.frames,.inl rfl,fun b hb=>⟨?_,fun x c e=>?_⟩,I3.bs,Nat.le_trans I3.ok.bsz I3.sz,fun b o e hb=>?_,fun b hb=>?_,I3.stack,I3.stkFree⟩
  ·refine hcl2 x ?_
   rcases hx with z|z
   ·exact Z3z (env:=X.env) (show((scope.names.map _).lookup x)=some .cell from z) (.inl rfl) S.cell
   ·exact Z3z (env:=X.env) (show((scope.names.map _).lookup x)=some .free from z) (.inr rfl) S.cell
  ·show b≠C
   rw[hC];exact Nat.ne_of_lt (hlt b hb)
  ·exact(hf b hb).2.2.2.2.1 x c (hcl1 x c e)
  ·rcases(hf b hb).2.2.2.1 with z|z
   ·exact I3.ok.noex b o e z
   ·exact absurd (Nat.lt_of_lt_of_le (Nat.lt_of_lt_of_le (Heap.lt_size e) I3.ok.bsz) z) (Nat.lt_irrefl _)
  ·intro z
   have z':b∈frs X.stack:=z
   rcases mem_cons.mp (I3.stkSub b z') with q|q
   ·exact(hf b hb).2.1 q
   ·exact(hf b hb).2.2.1 q
 refine⟨ok,rfl,I3.bare,Un.kept hk,⟨_,hns,fun i x v e1 e2 e3=>?_⟩,fun x c e=>?_,HC,fun x c e=>I3.freeC x c (hcl1 x c e),fun p hp=>absurd (show p∈([]:List (Addr×Obj)) from hp) (by simp),I3.hok.kept hk,?_⟩
 ·have e2':(src.map fun o=>match o with|some j=>(σ[j]?).getD none|none=>none)[i]? = some (some v):=e2
  rw[List.getElem?_map] at e2'
  cases q:src[i]? with
  |none=>rw[q] at e2';cases e2'
  |some o=>
   rw[q] at e2'
   cases o with
   |none=>cases e2'
   |some j=>
    obtain⟨x',hx1,hx2,hx3⟩:=S.src i j q
    have ex:x'=x:=Option.some.inj (hx1.symm.trans e1)
    subst ex
    have ev:σ[j]? = some (some v):=by
     cases q2:σ[j]? with
     |none=>simp [q2] at e2'
     |some o=>simp [q2] at e2';rw[e2']
    obtain⟨m,hn,hl⟩:=I3.loc
    have hkind:=S.fr x' hx3
    obtain⟨u,r,l⟩:=hl j x' v hx2 ev (by
     rcases hkind with z|z
     ·exact .inr (.inl z)
     ·exact .inr (.inr z))
    refine⟨u,r,.inr ⟨?_,?_⟩⟩
    ·rcases e3 with z|z|z
     ·exfalso
      have z':(scope.names.map fun(n,k)=>if (k==NameKind.free&&X.env.scope.kind == .function&&X.env.kindOf n==some .cell) then (n,NameKind.cell) else (n,k)).lookup x'=some .local:=z
      rcases l with ⟨k,_⟩|⟨_,c,hc,hcell⟩
      ·rcases hkind with y|y <;> (rw[y] at k;cases k)
      ·exact(show False by
        have:=S.names
        have hm:=hx3
        clear e2 e2'
        have key:∀(names:List (Str×NameKind)),(names.map fun(n,k)=>if (k==NameKind.free&&X.env.scope.kind == .function&&X.env.kindOf n==some .cell) then (n,NameKind.cell) else (n,k)).lookup x'=some .local →
          names.lookup x'=some .local:=by
         intro names
         induction names with
         |nil=>intro h;simp at h
         |cons y r ih=>
          obtain⟨n,k⟩:=y
          intro h
          have h':List.lookup x' ((if (k==NameKind.free&&X.env.scope.kind == .function&&X.env.kindOf n==some .cell)=true then (n,NameKind.cell) else (n,k))::(r.map fun(n,k)=>if (k==NameKind.free&&X.env.scope.kind == .function&&X.env.kindOf n==some .cell) then (n,NameKind.cell) else (n,k)))=some .local:=h
          by_cases hx:(x'==n)=true
          ·by_cases hc2:(k==NameKind.free&&X.env.scope.kind == .function&&X.env.kindOf n==some .cell)=true
           ·rw[if_pos hc2] at h';simp only [lookup_cons,hx] at h';cases h'
           ·rw[if_neg hc2] at h';simp only [lookup_cons,hx] at h' ⊢;exact h'
          ·have hx':(x'==n)=false:=by simpa using hx
           by_cases hc2:(k==NameKind.free&&X.env.scope.kind == .function&&X.env.kindOf n==some .cell)=true
           ·rw[if_pos hc2] at h';simp only [lookup_cons,hx'] at h' ⊢;exact ih h'
           ·rw[if_neg hc2] at h';simp only [lookup_cons,hx'] at h' ⊢;exact ih h'
        have z2:=key _ z'
        obtain⟨c2,hc2⟩:=hcl2 x' hx3
        exact S.excl x' hx3 z2)
     ·exact .inl z
     ·exact .inr z
    ·rcases l with ⟨k,_⟩|⟨_,c,hc,hcell⟩
     ·rcases hkind with y|y <;> (rw[y] at k;cases k)
     ·obtain⟨c2,hc2⟩:=hcl2 x' hx3
      have e:=hcl1 x' c2 hc2
      rw[hc] at e;cases e
      obtain⟨oc,ho,hd⟩:=hcell
      exact⟨c,hc2,oc,hk c oc ho,hd⟩
 ·obtain⟨v,oc,ho,hd⟩:=I3.cell x c (hcl1 x c e)
  exact⟨v,oc,hk c oc ho,hd⟩
 ·show(src.map _).length=N'.length
  rw[length_map,S.len]
theorem Z7r {cl:List (Str×Addr)}{C D:Addr}{fp:List Addr}{pins pinsY:List (Addr×Obj)}{σ σc:St}{H H':Hp}{s3 s4:Shared}{h':Heap}{ys:List V}{us:List Value}(I3:Inv X pins σ H s3)(hC:C=s3.heap.objs.size)
  (hf:∀b∈D::fp,Z3x X pins H b) (hlt:∀b∈D::fp,b<s3.heap.objs.size) (IY:Inv (Z1e X N' scope cl C (D::fp) s3 H) pinsY σc H' s4) (hD:H' D=none) (pl:s4.heap.PlainList D us.toArray) (rv:Vals ys us) (hz:ys.length<=sizeLine)
  (hs:Heap.SameBut C s4.heap h'):Inv X pins σ (upd H' D (.lst ys)) { s4 with heap:=h' }:=by
 have J:Inv X pins σ H' s4:=I3.call' IY.os IY.base IY.hok IY.bare (ch:=D::fp) fun b hb=>⟨(hf b hb).2.2.2.1,(hf b hb).2.1,(hf b hb).2.2.2.2.1,(hf b hb).2.2.2.2.2⟩
 have fC:Z3x X pins H' C:=I3.fpOk (Nat.le_of_eq hC.symm) IY.free
 have J2:Inv X pins σ H' { s4 with heap:=h' }:=J.turned (t':=s4.toks) (fun b o hb e=>(hs.2 b hb).trans e) fC.1 fC.2.1 fC.2.2.2.1 fC.2.2.2.2.1 fC.2.2.2.2.2
 have hDC:D≠C:=by rw[hC];exact Nat.ne_of_lt (hlt D mem_cons_self)
 obtain⟨n,e⟩:=pl
 have fD:=hf D mem_cons_self
 exact J2.track ⟨hD,fD.2⟩ ⟨hz,us,n,rv,(hs.2 D hDC).trans e⟩
theorem Zbi {cl:List (Str×Addr)}{C D it:Addr}{fp:List Addr}{tn:Nat->Heap->Prop}{J:It}{pins:List (Addr×Obj)}{σ σ0:St}{H:Hp}{s3 s4:Shared}{R:Result->Shared->Prop}{W:Nat->Nat->List V->St->Hp->Prop}{m0:Nat}{Q:List V->Hp->Prop}
  (hc:X.calm=true) (T:Turn X.prog X.w X.K tg J fp it tn) (I3:Inv X pins σ H s3) (hC:C=s3.heap.objs.size)
  (hf:∀b∈D::fp,Z3x X pins H b) (hlt:∀b∈D::fp,b<s3.heap.objs.size) (hDf:D∉fp) (IY:Inv (Z1e X N' scope cl C (D::fp) s3 H) [] σ0 H s4) (st:tn 0 s4.heap) (pl:s4.heap.PlainList D #[])
  (hg:PG (Z1e X N' scope cl C (D::fp) s3 H) tg g) (ht:PTs (Z1e X N' scope cl C (D::fp) s3 H) ifs tt) (he:PE (Z1e X N' scope cl C (D::fp) s3 H) elt te) (w0:W 0 m0 [] σ0 H)
  (turn:∀i m ys σc H,W i m ys σc H->(J.stop i H/\Q ys H)∨(J.go i H/\ys.length<sizeLine/\∀x H',J.yld i H x H'->g x σc H' fun σ2 H2=>tt σ2 H2 fun b H3=>
   if b=true then te σ2 H3 fun v H4=>∃m',m'<m/\W (i+1) m' (ys ++ [v]) σ2 H4 else ∃m',m'<m/\W (i+1) m' ys σ2 H3))
  (fin:∀s5 σc H' ys us pinsY,Inv (Z1e X N' scope cl C (D::fp) s3 H) pinsY σc H' s5->H' D=none->s5.heap.PlainList D us.toArray->Vals ys us->ys.length<=sizeLine->Q ys H'->R (.ok .next) s5):
  codeAny (model X.prog X.w) X.A (.compLoop (.ListComp elt [⟨tg,iter,ifs,0⟩] scope pos) 0 (.ref it) (.ref D) (compEnvC scope cl C X.env)) R s4:=by
 have eY:(Z1e X N' scope cl C (D::fp) s3 H).env=compEnvC scope cl C X.env:=rfl
 generalize hY:Z1e X N' scope cl C (D::fp) s3 H=Y at *
 have e1:Y.prog=X.prog:=by rw[<- hY];rfl
 have e2:Y.w=X.w:=by rw[<- hY];rfl
 have e3:Y.K=X.K:=by rw[<- hY];rfl
 have e4:Y.A=X.A:=by rw[<- hY];rfl
 have e5:Y.calm=true:=by rw[<- hY];exact hc
 have e6:Y.xe=fun _ _=>False:=by rw[<- hY];rfl
 have e7:Y.env.locals=C:=by rw[eY];rfl
 have e8:Y.ex=D::fp:=by rw[<- hY];rfl
 have e9:Y.pn = []:=by rw[<- hY];rfl
 have e10:Y.fs=frs X.stack:=by rw[<- hY];rfl
 have e11:∀x c,Y.env.cells.lookup x=some c->∀b∈D::fp,c≠b:=fun x c e b hb=>(IY.ok.exf b (by rw[e8];exact hb)).2 x c e
 have nst:∀b∈D::fp,b∉Y.fs:=fun b hb=>IY.ok.exfs b (by rw[e8];exact hb)
 have fpY:∀(pinsY:List (Addr×Obj)) (H':Hp),(∀p∈pinsY,p.1=D)->∀b∈fp,H' b=none->Z3x Y pinsY H' b:=fun pinsY H' hp b hb hn=>
  ⟨hn,by rw[e7,hC];exact Nat.ne_of_lt (hlt b (mem_cons_of_mem _ hb)),nst b (mem_cons_of_mem _ hb),.inl (by rw[e8];exact mem_cons_of_mem _ hb),fun x c e=>e11 x c e b (mem_cons_of_mem _ hb),fun p hp' z=>by
   rw[e9,nil_append] at hp'
   have q:=hp p hp'
   rw[z] at q
   rw[q] at hb
   exact hDf hb⟩
 have fpD:∀(pinsY:List (Addr×Obj)) (H':Hp),(∀p∈pinsY,p.1≠D)->H' D=none->Z3x Y pinsY H' D:=fun pinsY H' hp hn=>
  ⟨hn,by rw[e7,hC];exact Nat.ne_of_lt (hlt D mem_cons_self),nst D mem_cons_self,.inl (by rw[e8];exact mem_cons_self),fun x c e=>e11 x c e D mem_cons_self,fun p hp'=>by
   rw[e9,nil_append] at hp'
   exact hp p hp'⟩
 have T':Turn Y.prog Y.w Y.K tg J fp it tn:=by rw[e1,e2,e3];exact T
 rw[<- eY,<- e1,<- e2,<- e4]
 refine Z9g (fun n s'=>∃i ys us σc H',Inv Y [] σc H' s'/\tn i s'.heap/\(∀b∈fp,H' b=none)/\H' D=none/\s'.heap.PlainList D (us:List Value).toArray/\Vals ys us/\ys.length<=sizeLine/\W i n ys σc H') ?_ m0
  ⟨0,[],[],σ0,H,IY,st,fun b hb=>(hf b (mem_cons_of_mem _ hb)).1,(hf D mem_cons_self).1,pl,.nil,Nat.zero_le _,w0⟩
 rintro n s5 ⟨i,ys,us,σc,H5,I5,st5,fr5,hD5,pl5,rv5,hz5,w5⟩
 obtain⟨nn,hob⟩:=id pl5
 have I5':Inv Y [(D,{ cls:=.type "list",data:=.seq us.toArray nn })] σc H5 s5:=I5.pins_of fun p hp=>by
  rw[mem_singleton] at hp
  subst hp
  exact⟨hob,hD5,by rw[e7,hC];exact Nat.ne_of_lt (hlt D mem_cons_self),nst D mem_cons_self,fun v z=>by
   have z':Data.seq us.toArray nn=Data.cell v:=z
   cases z'⟩
 have f5:∀b∈fp,Z3x Y [(D,{ cls:=.type "list",data:=.seq us.toArray nn })] H5 b:=fun b hb=>fpY _ _ (fun p hp=>by rw[mem_singleton] at hp;rw[hp]) b hb (fr5 b hb)
 rcases turn i n ys σc H5 w5 with ⟨stop,q⟩|⟨go,hz,step⟩
 ·refine thn (T'.done Y rfl rfl rfl e5 i _ s5 σc H5 (fun _ _=>False) I5' f5 st5 stop) fun r s6 ⟨hr,I6⟩=>?_
  subst hr
  exact fin s6 σc H5 ys us _ I6 hD5 ⟨nn,(I6.pin (D,_) (mem_append_right _ mem_cons_self)).1⟩ rv5 hz5 q
 ·refine thn (T'.item Y rfl rfl rfl e5 i _ s5 σc H5 (fun _ _=>False) I5' f5 st5 go) fun r s6 ⟨u,hr,h6⟩=>?_
  subst hr
  refine thn h6 fun _ s7 ⟨x,H7,I7,r7,y7,st7,fr7⟩=>?_
  have f7:∀b∈fp,Z3x Y [(D,{ cls:=.type "list",data:=.seq us.toArray nn })] H7 b:=fun b hb=>fpY _ _ (fun p hp=>by rw[mem_singleton] at hp;rw[hp]) b hb (fr7 b hb)
  have I7':=I7.pinned f7 (T.obj _ _ st7)
  have hx:=hg _ s7 σc H7 x u _ I7' r7 (step x H7 y7)
  rw[e6] at hx
  refine thn hx fun _ s8 ⟨σ8,H8,I8,q8⟩=>?_
  have hx2:=ht _ s8 σ8 H8 _ I8 q8
  rw[e6] at hx2
  have keepT:∀{σ9:St} {H9:Hp} {s9:Shared},Inv Y ([(D,{ cls:=.type "list",data:=.seq us.toArray nn })]++Z7k fp s7.heap) σ9 H9 s9->tn (i+1) s9.heap/\(∀b∈fp,H9 b=none)/\H9 D=none/\s9.heap.get? D=some { cls:=.type "list",data:=.seq us.toArray nn }:=fun {σ9 H9 s9} I9=>by
   have pD:=I9.pin (D,_) (mem_append_right _ (mem_append_left _ mem_cons_self))
   refine⟨T.keep _ _ _ st7 fun b hb o e=>(I9.pin (b,o) (mem_append_right _ (mem_append_right _ (Z2u hb e)))).1,fun b hb=>?_,pD.2.1,pD.1⟩
   obtain⟨o,e,d⟩:=T.obj _ _ st7 b hb
   exact(I9.pin (b,o) (mem_append_right _ (mem_append_right _ (Z2u hb e)))).2.1
  refine thn hx2 fun ok s9 ⟨H9,I9,q9⟩=>?_
  cases ok with
  |false=>
   rw[if_neg Bool.false_ne_true] at q9
   rw[if_neg Bool.false_ne_true]
   obtain⟨m',hm,w9⟩:=q9
   obtain⟨k1,k2,k3,k4⟩:=keepT I9
   exact⟨m',hm,i+1,ys,us,σ8,H9,I9.pins_of (fun p hp=>nomatch hp),k1,k2,k3,⟨nn,k4⟩,rv5,hz5,w9⟩
  |true=>
   rw[if_pos rfl] at q9
   rw[if_pos rfl]
   have hx3:=he _ s9 σ8 H9 _ I9 q9
   rw[e6] at hx3
   refine thn hx3 fun xv s10 ⟨v,H10,I10,r10,m',hm,w10⟩=>?_
   obtain⟨k1,k2,k3,k4⟩:=keepT I10
   have hl:=rv5.length
   refine wpAny_list_append_plain ⟨nn,k4⟩ (fun h' pl' sb=>?_) (by rw[size_toArray];omega)
   have fD:=fpD [] H10 (fun p hp=>nomatch hp) k3
   have I11:Inv Y [] σ8 H10 { s10 with heap:=h' }:=(I10.pins_of (pins':=[]) fun p hp=>nomatch hp).turned (t':=s10.toks) (fun b o hb e=>(sb.2 b hb).trans e) fD.1 fD.2.1 fD.2.2.2.1 fD.2.2.2.2.1 fD.2.2.2.2.2
   refine⟨m',hm,i+1,ys ++ [v],us ++ [xv],σ8,H10,I11,T.keep _ _ _ k1 (fun b hb o e=>(sb.2 b ?_).trans e),k2,k3,?_,rv5.append (.cons r10 .nil),?_,w10⟩
   ·intro z;rw[z] at hb;exact hDf hb
   ·rw[show(us ++ [xv]).toArray=us.toArray.push xv by simp];exact pl'
   ·rw[length_append,length_singleton];exact hz
theorem Z1n (hc:X.calm=true)(S:CompScope X scope N' src)(hi:PI X tg iter wi)
  (hb:∀cl C ex s0 H0,PG (Z1e X N' scope cl C ex s0 H0) tg g/\PTs (Z1e X N' scope cl C ex s0 H0) ifs tt/\PE (Z1e X N' scope cl C ex s0 H0) elt te)
  (hs:∀x,foldedSetIterable iter X.env x=pure x:=by intro _;rfl):PE X (.ListComp elt [⟨tg,iter,ifs,0⟩] scope pos) (Zm5 src wi g tt te):=by
 intro pins s σ H Q I h
 obtain⟨cl,hclos,hcl1,hcl2⟩:=Z5h (scope:=scope) (env:=X.env) fun n hn=>I.ok.has n (S.fr n hn)
 rw[eval_ListComp]
 refine wpAny_comprehension_free (use:=none) rfl hs hclos S.kind S.names ?_
 refine thn (hi pins s σ H _ I h) fun v s1 h1=>thn h1 fun itv s2 h2=>?_
 obtain⟨it,fp,tn,J,H2,e,I2,T,st2,f2,W,⟨m0,w0⟩,turn⟩:=h2
 subst e
 refine wpAny_newObj_type (wpAny_newFunctionEnv S.cell (by intro y hy;simp at hy) (fun h₁ hns₁ hsb₁=>?_) S.kind)
 dsimp only at hns₁ hsb₁ ⊢
 generalize hH3:s2.heap.push { cls:=.type "list",dict:=none,data:=.seq ([]:List Value).toArray }=H3 at hns₁ hsb₁ ⊢
 have hsz:H3.objs.size=s2.heap.objs.size+1:=by rw[<- hH3,Heap.size_push]
 have I3:Inv X pins σ H2 { s2 with heap:=H3 }:=I2.kept (t':=s2.toks) fun b o e=>by rw[<- hH3];exact Heap.get?_push_of_some _ e
 have fD:Z3x X pins H2 s2.heap.objs.size:=I2.fpOk (Nat.le_refl _) (I2.hok.fresh (Nat.le_refl _))
 have hDf:s2.heap.objs.size∉fp:=fun hm=>by
  obtain⟨o,e,_⟩:=T.obj 0 _ st2 _ hm
  exact Nat.lt_irrefl _ (Heap.lt_size e)
 have hf:∀b∈s2.heap.objs.size::fp,Z3x X pins H2 b:=fun b hb=>by
  rcases mem_cons.mp hb with z|z
  ·rw[z];exact fD
  ·exact f2 b z
 have hlt:∀b∈s2.heap.objs.size::fp,b<H3.objs.size:=fun b hb=>by
  rcases mem_cons.mp hb with z|z
  ·rw[z,hsz];exact Nat.lt_succ_self _
  ·obtain⟨o,e,_⟩:=T.obj 0 _ st2 b z
   rw[hsz];exact Nat.lt_succ_of_lt (Heap.lt_size e)
 have kp:∀b o,H3.get? b=some o->h₁.get? b=some o:=fun b o e=>hsb₁.extBut b o (Nat.ne_of_lt (Heap.lt_size e)) (Heap.get?_push_of_some _ e)
 have kp0:∀b o,s2.heap.get? b=some o->h₁.get? b=some o:=fun b o e=>kp b o (by rw[<- hH3];exact Heap.get?_push_of_some _ e)
 have hacc:h₁.PlainList s2.heap.objs.size #[]:=⟨_,kp _ _ (by rw[<- hH3];exact Heap.get?_push_size _ rfl)⟩
 have st1:tn 0 h₁:=T.keep _ _ _ st2 fun b _ o e=>kp0 b o e
 have IY:=Z5j (N':=N') (src:=src) (scope:=scope) (cl:=cl) (C:=H3.objs.size) (D:=s2.heap.objs.size) (fp:=fp) (s3:={ s2 with heap:=H3 }) (h1:=h₁) (tk:=s2.toks) S I3 hcl1 hcl2 rfl hf hlt hns₁ kp
 obtain⟨hg,ht,he⟩:=hb cl H3.objs.size (s2.heap.objs.size::fp) { s2 with heap:=H3 } H2
 have loop:=Zbi (R:=compPost (model X.prog X.w) X.A X.xe none (EP X pins σ Q) (.ref s2.heap.objs.size) H3.objs.size) (elt:=elt) (iter:=iter) (ifs:=ifs) (pos:=pos) (Q:=fun ys H=>∀l,H l=none->Q (.ref l) (upd H l (.lst ys)))
  hc T I3 rfl hf hlt hDf IY st1 hacc hg ht he w0 turn (fun s5 σc H' ys us pinsY IY5 hD pl rv hz q=>by
   obtain⟨m,hn,_⟩:=IY5.loc
   refine⟨m,hn,fun h' hs'=>⟨.ref s2.heap.objs.size,upd H' s2.heap.objs.size (.lst ys),?_,rfl,q _ hD⟩⟩
   exact Z7r I3 rfl hf hlt IY5 hD pl rv hz hs')
 exact codeAny_compStart_list loop (T.self _ 0 _ _ _ st1 loop)
end
section
variable {X:Cx}{tg:Expr}
inductive rSlS (x:V)(lo:Option Int)(hi:Option Int)(H:Hp)(Q:VK):Prop
 |mk (z:_) (_:x = .str z) (_:z.length<=sizeLine) (_:Q (.str (Txt.slice z lo hi)) H):rSlS x lo hi H Q
theorem Zeo:SlR X rSlS:=by
 intro pins s σ H x v vl vu lo hi sl Q I rx hs pl pu h
 obtain⟨z,rfl,hz,q⟩:=h
 obtain⟨t,rfl⟩:=rx
 refine⟨"str",_,F.slot_str_getitem.lookup,typeIs_str _ _ _,?_⟩
 obtain⟨os,hos,hcs,hds⟩:=id hs
 have fin:∀t' k,EP X pins σ Q (.str (Txt.slice z lo hi) t') { s with toks:=k }:=fun t' k=>⟨.str _,H,I.tok _,⟨_,rfl⟩,q⟩
 cases pl with
 |none=>
  cases pu with
  |none=>exact wpAny_getItem_str_slice (l:=none) (u:=none) (st:=none) ⟨os,hos,hcs,hds⟩ rfl (post_val_or_str ⟨Nat.le_trans (Txt.slice_le z _ _) hz,fin⟩)
  |int j uj=>exact wpAny_getItem_str_slice (l:=none) (u:=some (j,uj)) (st:=none) ⟨os,hos,hcs,hds⟩ rfl (post_val_or_str ⟨Nat.le_trans (Txt.slice_le z _ _) hz,fin⟩)
 |int i ui=>
  cases pu with
  |none=>exact wpAny_getItem_str_slice (l:=some (i,ui)) (u:=none) (st:=none) ⟨os,hos,hcs,hds⟩ rfl (post_val_or_str ⟨Nat.le_trans (Txt.slice_le z _ _) hz,fin⟩)
  |int j uj=>exact wpAny_getItem_str_slice (l:=some (i,ui)) (u:=some (j,uj)) (st:=none) ⟨os,hos,hcs,hds⟩ rfl (post_val_or_str ⟨Nat.le_trans (Txt.slice_le z _ _) hz,fin⟩)
theorem Zah:Z3l X (.builtin "isinstance") (fun xs H Q=>∃x T ty b,xs = [x,.ty T]/\TyOf X.K H x ty/\PySem.W.kitOne X.K ty (.type T)=some b/\Q (.bl b) H):=by
 intro pins s σ H xs us Q I r h
 obtain⟨x,T,ty,b,rfl,h1,h2,q⟩:=h
 obtain⟨u,w',rfl,rx,rT⟩:=Zlx r
 cases (show w'=Value.type T from rT)
 exact Ze7 I rx h1 h2 fun tk=>⟨.bl b,H,I.tok _,rfl,q⟩
theorem Zbj:∀{bs:List Bool} {us:List Value},Vals (bs.map V.bl) us->us=bs.map Value.bool
 |[],us,r=>by cases r;rfl
 |b::bs,us,r=>by
  cases r with
  |cons r1 r2=>cases r1;rw[Zbj r2];rfl
theorem Zd0 (bs:List Bool):((List.range bs.length).all fun i=>(bs[i]?).getD true)=bs.all id:=by
 rw[Bool.eq_iff_iff,all_eq_true,all_eq_true]
 constructor
 ·intro h b hb
  obtain⟨i,hi,rfl⟩:=List.getElem_of_mem hb
  have:=h i (mem_range.mpr hi)
  simpa [List.getElem?_eq_getElem hi] using this
 ·intro h i hi
  have hi':=mem_range.mp hi
  rw[List.getElem?_eq_getElem hi']
  exact h _ (getElem_mem hi')
theorem Zai (hc:X.calm=true):Z3l X (.builtin "all") (fun xs H Q=>∃(p:Addr) (bs:List Bool),xs = [.ref p]/\SqL X.K H p (bs.map V.bl)/\Q (.bl (bs.all id)) H):=by
 intro pins s σ H xs us Q I r h
 obtain⟨p,bs,rfl,hq,q⟩:=h
 obtain⟨u,rfl,rx⟩:=Z6c r
 cases rx
 obtain⟨its,r',pl,hz⟩:=I.list hq
 have e:=Zbj r'
 subst e
 have hlt:p<s.heap.objs.size:=by obtain⟨_,e,_⟩:=pl.isList;exact Heap.lt_size e
 refine call_all_walk (wpAny_pyIter_list pl.isList ?_)
 refine⟨s.heap.objs.size,[s.heap.objs.size,p],[s.heap.objs.size],(bs.map Value.bool).toArray.size,_,_,fun i=>(bs[i]?).getD true,rfl,Walks.list (A:=X.A.in1) (I.ok.hd hc) _ p (Nat.ne_of_lt hlt) (bs.map Value.bool).toArray,
  ⟨⟨_,Heap.get?_push_size _ rfl,rfl,rfl⟩,pl.isList.push _⟩,fun i v s' Q' E' hP hQ=>?_,fun h' tk hk=>?_⟩
 ·have hP':(bs.map Value.bool)[i]? = some v:=by simpa using hP
  rw[List.getElem?_map] at hP'
  cases e:bs[i]? with
  |none=>rw[e] at hP';cases hP'
  |some b=>
   rw[e] at hP'
   cases hP'
   simp only [e,Option.getD_some] at hQ
   exact wpAny_truthy_bool hQ
 ·have e:((List.range (bs.map Value.bool).toArray.size).all fun i=>(bs[i]?).getD true)=bs.all id:=by
   rw[size_toArray,length_map];exact Zd0 bs
  rw[e]
  refine⟨.bl _,H,I.kept fun b o eb=>hk b o ?_ (Heap.get?_push_of_some _ eb),rfl,q⟩
  intro z
  rw[mem_singleton.mp z] at eb
  exact Nat.lt_irrefl _ (Heap.lt_size eb)
def Zo5 (xs ys:List V):Bool:=xs.length==ys.length&&(List.range xs.length).all fun j=>eqV (xs.getD j .non) (ys.getD j .non)
end
section
variable {X:Cx}{elt tg iter:Expr}{ifs:List Expr}{scope:Scope}{pos:Pos}{N':List Str}{src:List (Option Nat)}{wi:TI}{g:TG}{tt:TT}{te:TE}
theorem Z2v {i:Nat}{x:Str}{pos' spos:Pos}(hc:X.calm=true)(hN:X.N.Nodup)(hix:X.N[i]? = some x)(hx:Loc X.env.scope x)(S:CompScope X scope N' src)(hi:PI X tg iter wi)
  (hb:∀cl C ex s0 H0,PG (Z1e X N' scope cl C ex s0 H0) tg g/\PTs (Z1e X N' scope cl C ex s0 H0) ifs tt/\PE (Z1e X N' scope cl C ex s0 H0) elt te)
  (hsw:swapsWith (.ListComp elt [⟨tg,iter,ifs,0⟩] scope pos) (some (.Name x pos')) spos.line X.env=pure true:=by rfl)
  (hs:∀x,foldedSetIterable iter X.env x=pure x:=by intro _;rfl)
  (hfn:X.fn x=true∨X.env.scope.names.lookup x=some .local:=by first|exact .inl rfl|exact .inr rfl|assumption):
  PS X (.Assign [.Name x pos'] (.ListComp elt [⟨tg,iter,ifs,0⟩] scope pos) spos) (Zno (Zm5 src wi g tt te) (Zcq i)):=by
 intro pins s σ H D I h
 obtain⟨cl,hclos,hcl1,hcl2⟩:=Z5h (scope:=scope) (env:=X.env) fun n hn=>I.ok.has n (S.fr n hn)
 rw[exec_Assign_Name_used _ _ _ _ hsw]
 refine wpAny_bind (wpAny_standAt (wpAny_bind ?_))
 show wpAny _ _ (do let _ ← comprehension (.ListComp elt [⟨tg,iter,ifs,0⟩] scope pos) scope X.env _ (newList []) false (eval iter X.env) (some (assign (.Name x pos') X.env))) _ _ s
 refine wpAny_bind (wpAny_mono (wpAny_comprehension_free (use:=some (assign (.Name x pos') X.env)) (Q:=fun _ s'=>SP X pins D .next s') rfl hs hclos S.kind S.names ?_) (fun _ s' hq=>wpAny_pure (wpAny_pure hq)) fun _ _ e=>e)
 refine thn (hi pins s σ H _ I h) fun v s1 h1=>thn h1 fun itv s2 h2=>?_
 obtain⟨it,fp,tn,J,H2,e,I2,T,st2,f2,W,⟨m0,w0⟩,turn⟩:=h2
 subst e
 refine wpAny_newObj_type (wpAny_newFunctionEnv S.cell (by intro y hy;simp at hy) (fun h₁ hns₁ hsb₁=>?_) S.kind)
 dsimp only at hns₁ hsb₁ ⊢
 generalize hH3:s2.heap.push { cls:=.type "list",dict:=none,data:=.seq ([]:List Value).toArray }=H3 at hns₁ hsb₁ ⊢
 have hsz:H3.objs.size=s2.heap.objs.size+1:=by rw[<- hH3,Heap.size_push]
 have I3:Inv X pins σ H2 { s2 with heap:=H3 }:=I2.kept (t':=s2.toks) fun b o e=>by rw[<- hH3];exact Heap.get?_push_of_some _ e
 have fD:Z3x X pins H2 s2.heap.objs.size:=I2.fpOk (Nat.le_refl _) (I2.hok.fresh (Nat.le_refl _))
 have hDf:s2.heap.objs.size∉fp:=fun hm=>by
  obtain⟨o,e,_⟩:=T.obj 0 _ st2 _ hm
  exact Nat.lt_irrefl _ (Heap.lt_size e)
 have hf:∀b∈s2.heap.objs.size::fp,Z3x X pins H2 b:=fun b hb=>by
  rcases mem_cons.mp hb with z|z
  ·rw[z];exact fD
  ·exact f2 b z
 have hlt:∀b∈s2.heap.objs.size::fp,b<H3.objs.size:=fun b hb=>by
  rcases mem_cons.mp hb with z|z
  ·rw[z,hsz];exact Nat.lt_succ_self _
  ·obtain⟨o,e,_⟩:=T.obj 0 _ st2 b z
   rw[hsz];exact Nat.lt_succ_of_lt (Heap.lt_size e)
 have kp:∀b o,H3.get? b=some o->h₁.get? b=some o:=fun b o e=>hsb₁.extBut b o (Nat.ne_of_lt (Heap.lt_size e)) (Heap.get?_push_of_some _ e)
 have kp0:∀b o,s2.heap.get? b=some o->h₁.get? b=some o:=fun b o e=>kp b o (by rw[<- hH3];exact Heap.get?_push_of_some _ e)
 have hacc:h₁.PlainList s2.heap.objs.size #[]:=⟨_,kp _ _ (by rw[<- hH3];exact Heap.get?_push_size _ rfl)⟩
 have st1:tn 0 h₁:=T.keep _ _ _ st2 fun b _ o e=>kp0 b o e
 have IY:=Z5j (N':=N') (src:=src) (scope:=scope) (cl:=cl) (C:=H3.objs.size) (D:=s2.heap.objs.size) (fp:=fp) (s3:={ s2 with heap:=H3 }) (h1:=h₁) (tk:=s2.toks) S I3 hcl1 hcl2 rfl hf hlt hns₁ kp
 obtain⟨hg,ht,he⟩:=hb cl H3.objs.size (s2.heap.objs.size::fp) { s2 with heap:=H3 } H2
 have loop:=Zbi (R:=compPost (model X.prog X.w) X.A X.xe (some (assign (.Name x pos') X.env)) (fun _ s'=>SP X pins D .next s') (.ref s2.heap.objs.size) H3.objs.size) (elt:=elt) (iter:=iter) (ifs:=ifs) (pos:=pos) (Q:=fun ys H=>∀l,H l=none->D.nx (σ.set i (some (.ref l))) (upd H l (.lst ys)))
  hc T I3 rfl hf hlt hDf IY st1 hacc hg ht he w0 turn (fun s5 σc H' ys us pinsY IY5 hD pl rv hz q=>by
   have IX:Inv X pins σ (upd H' s2.heap.objs.size (.lst ys)) s5:=Z7r (h':=s5.heap) I3 rfl hf hlt IY5 hD pl rv hz (.refl ..)
   show wpAny _ _ (assign (.Name x pos') X.env (.ref s2.heap.objs.size)) _ _ s5
   refine wpAny_assign_Name (Z8v (v:=.ref s2.heap.objs.size) IX hN hix hx rfl (fun s6 I6 ⟨a,sb,ha⟩=>?_) hfn)
   obtain⟨m,hn,_⟩:=IY5.loc
   have fC:Z3x X pins (upd H' s2.heap.objs.size (.lst ys)) H3.objs.size:=I3.fpOk (Nat.le_refl _) (by
    rw[Z09 (by rw[hsz];exact Nat.ne_of_gt (Nat.lt_succ_self _))]
    exact IY5.free)
   have hCa:H3.objs.size≠a:=by
    rcases ha with z|z
    ·rw[z];exact fC.2.1
    ·exact fun q=>fC.2.2.2.2.1 x a z q.symm
   refine⟨m,hn.sameBut sb hCa,fun h' hs'=>⟨_,_,I6.turned (t':=s6.toks) (fun b o hb e=>(hs'.2 b hb).trans e) fC.1 fC.2.1 fC.2.2.2.1 fC.2.2.2.2.1 fC.2.2.2.2.2,q _ hD⟩⟩)
 exact codeAny_compStart_list loop (T.self _ 0 _ _ _ st1 loop)
end
section
variable {X:Cx}
def Zo6 (_ j:Int):Prop:=0<j/\j<18446744073709551616
theorem Z62:OpR X (binaryOp .FloorDiv) (rI Zo6 fun i j=>.int (i / j)):=opI fun i j _ _ _ _ _ hc q=>by
 have h1:(0:Int)<j:=hc.1
 have h2:j<18446744073709551616:=hc.2
 refine floordiv_int (by omega) (by rw[Int.fdiv_eq_ediv_of_nonneg i (by omega)];exact q) (.inl (PyProof.noPylong_of_log2 ?_))
 have h64:j.natAbs.log2<64:=(Nat.log2_lt (by omega)).mpr (by omega)
 omega
theorem Z48 (hu:X.A.units<cLine):OpR X (compareOp .NotEq) (fun x y H Q=>∃a b xs ys,x = .ref a/\y = .ref b/\SqL X.K H a xs/\SqL X.K H b ys/\xs.all Z4l=true/\ys.all Z4l=true/\Q (.bl (!Zo5 xs ys)) H):=by
 intro pins s σ H x y v u Q I rx ry h
 obtain⟨a,b,xs,ys,rfl,rfl,hx,hy,fx,fy,q⟩:=h
 cases rx
 cases ry
 obtain⟨its,r,pl,hz⟩:=I.list hx
 obtain⟨its2,r2,pl2,hz2⟩:=I.list hy
 have hl:=r.length
 have hl2:=r2.length
 by_cases hs:xs.length=ys.length
 ·refine SeqAt.RcNeAt.lists (e:=fun j=>eqV (xs.getD j .non) (ys.getD j .non)) pl.isList pl2.isList (by simp only [size_toArray];omega) hu (fun j h1 h2=>?_) X.prog X.w _ _ ?_
  ·simp only [size_toArray] at h1 h2
   have g1:xs[j]? = some xs[j]:=List.getElem?_eq_getElem (by omega)
   have g2:ys[j]? = some ys[j]:=List.getElem?_eq_getElem (by omega)
   obtain⟨u1,e1,ru1⟩:=r.get g1
   obtain⟨u2,e2,ru2⟩:=r2.get g2
   have k1:its.toArray[j]=u1:=by
    have:its[j]? = some its[j]:=List.getElem?_eq_getElem h1
    rw[e1] at this
    simpa using (Option.some.inj this).symm
   have k2:its2.toArray[j]=u2:=by
    have:its2[j]? = some its2[j]:=List.getElem?_eq_getElem h2
    rw[e2] at this
    simpa using (Option.some.inj this).symm
   rw[k1,k2,show xs.getD j .non=xs[j] by simp [List.getD,g1],show ys.getD j .non=ys[j] by simp [List.getD,g2]]
   exact Z98 ru1 ru2 (all_eq_true.mp fx _ (getElem_mem _)) (all_eq_true.mp fy _ (getElem_mem _))
  ·refine Z10 I q ?_
   unfold Zo5
   rw[size_toArray,<- hl,hs]
   simp
 ·refine SeqAt.RcNeAt.lists_lengths pl.isList pl2.isList (by simp only [size_toArray,bne_iff_ne];omega) hu X.prog X.w _ _ ?_
  refine Z10 I q ?_
  unfold Zo5
  rw[beq_eq_false_iff_ne.mpr hs]
  rfl
end
inductive tCut (t u:TS)(D:Ends)(σ:St)(H:Hp):Prop
 |mk (Pv:St->Hp->Prop) (_:t { D with nx:=Pv } σ H) (_:∀ σ' H',Pv σ' H'->u D σ' H'):tCut t u D σ H
section
variable {X:Cx}{st:Stmt}{rest:List Stmt}{t u:TS}
theorem Z0m (h1:PS X st t)(h2:PSs X rest u):PSs X (st::rest) (tCut t u):=by
 intro pins s σ H D I h
 obtain⟨Pv,h,hr⟩:=h
 refine wpAny_execs_cons (thn (h1 pins s σ H { D with nx:=Pv } I h) fun f s1 q=>?_)
 cases f with
 |next=>
  obtain⟨σ',H',I',q⟩:=q
  exact h2 pins s1 σ' H' D I' (hr σ' H' q)
 |ret v=>exact q
 |brk=>exact q
 |cont=>exact q
end
def Zbk (kindOf:Str->Option NameKind)(XN:List Str)(scope:Scope)(N':List Str)(src:List (Option Nat)):Bool:=
 (scope.kind == .function)&&(scope.names.all fun y=>(y.2 != .cell)&&(y.2 != .local||scope.names.lookup y.1==some .local)&&(y.2 != .free||((kindOf y.1==some .cell||kindOf y.1==some .free)&&scope.names.lookup y.1 != some .local))) &&
 (N'.length==src.length)&&((List.range src.length).all fun i=>match src[i]? with
  |some (some j)=>(match N'[i]?,XN[j]? with|some x,some y=>x==y&&scope.names.contains (x,NameKind.free)|_,_=>false)
  |_=>true)
theorem Z0j {X:Cx}{scope:Scope}{N':List Str}{src:List (Option Nat)}(sc:Scope)(hsc:X.env.scope=sc)(N:List Str)(hN:X.N=N)(h:Zbk (fun x=>sc.names.lookup x) N scope N' src=true):CompScope X scope N' src:=by
 subst hsc hN
 unfold Zbk at h
 simp only [Bool.and_eq_true,all_eq_true,beq_iff_eq,bne_iff_ne,ne_eq,Bool.or_eq_true] at h
 obtain⟨⟨⟨h1,h2⟩,h3⟩,h4⟩:=h
 refine⟨h1,fun y hy=>(h2 y hy).1.1,fun y hy hl=>?_,fun n hn=>?_,fun n hn=>?_,h3,fun i j e=>?_⟩
 ·rcases(h2 y hy).1.2 with z|z
  ·exact absurd hl z
  ·exact z
 ·rcases(h2 _ hn).2 with z|z
  ·exact absurd rfl z
  ·exact z.1
 ·rcases(h2 _ hn).2 with z|z
  ·exact absurd rfl z
  ·exact z.2
 ·have hi:i<src.length:=(List.getElem?_eq_some_iff.mp e).1
  have q:=h4 i (mem_range.mpr hi)
  rw[e] at q
  dsimp only at q
  cases e1:N'[i]? with
  |none=>rw[e1] at q;cases q
  |some x=>
   cases e2:X.N[j]? with
   |none=>rw[e1,e2] at q;cases q
   |some y=>
    rw[e1,e2] at q
    simp only [Bool.and_eq_true,beq_iff_eq] at q
    obtain⟨rfl,q⟩:=q
    exact⟨x,rfl,rfl,by simpa using q⟩
def Nx (N i:Nat)(P:Prop):Prop:=∃m',m'<N-i/\m'=N-(i+1)/\i+1<=N/\P
theorem nx {N i:Nat}{P:Prop}(h:i<N)(p:P):Nx N i P:=⟨_,by omega,rfl,h,p⟩
section
variable {x:Str}{σ0:St}{H:Hp}{g:TG}{tt:TT}{te:TE}{Q:List V->Hp->Prop}
theorem Z5k {lo:Int}{n:Nat}(Pv:Nat->List V->St->Hp->Prop)(h0:Pv 0 [] σ0 H)
  (hs:∀i ys σc H,i<n->Pv i ys σc H->ys.length<sizeLine/\g (.int (lo+i)) σc H fun σ2 H2=>tt σ2 H2 fun b H3=>
   if b=true then te σ2 H3 fun v H4=>Nx n i (Pv (i+1) (ys ++ [v]) σ2 H4) else Nx n i (Pv (i+1) ys σ2 H3))
  (hd:∀ys σc H,Pv n ys σc H->Q ys H):
  ∃W:Nat->Nat->List V->St->Hp->Prop,(∃m,W 0 m [] σ0 H)/\∀i m ys σc H,W i m ys σc H →
   ((Itr lo n).stop i H/\Q ys H)∨((Itr lo n).go i H/\ys.length<sizeLine/\∀v H',(Itr lo n).yld i H v H'->g v σc H' fun σ2 H2=>tt σ2 H2 fun b H3=>
    if b=true then te σ2 H3 fun v H4=>∃m',m'<m/\W (i+1) m' (ys ++ [v]) σ2 H4 else ∃m',m'<m/\W (i+1) m' ys σ2 H3):=by
 refine⟨fun i m ys σc H=>m=n-i/\i<=n/\Pv i ys σc H,⟨_,rfl,Nat.zero_le _,h0⟩,?_⟩
 rintro i m ys σc H ⟨rfl,hi,p⟩
 by_cases hlt:i<n
 ·obtain⟨z,_⟩:=hs i ys σc H hlt p
  refine .inr ⟨hlt,z,fun v H' y=>?_⟩
  obtain⟨e,ev⟩:=y
  subst e ev
  exact(hs i ys σc _ hlt p).2
 ·have e:i=n:=by omega
  subst e
  exact .inl ⟨Nat.le_refl _,hd ys σc H p⟩
end
theorem Z02 {H:Hp}{a:Addr}{o:HO}(h:H a=none):Same H (upd H a o):=fun b u e=>by rw[Z09 (Z0e e h)];exact e
theorem Zm6 {α : Type}{xs:List α}(h:0<xs.length)(i:Int):∃v,v∈xs/\atI xs (i % (xs.length:Int))=some v:=by
 have h0:0<=i % (xs.length:Int):=Int.emod_nonneg _ (by omega)
 have h1:i % (xs.length:Int)<xs.length:=Int.emod_lt_of_pos _ (by omega)
 obtain⟨j,hj⟩:=Int.eq_ofNat_of_zero_le h0
 have hl:j<xs.length:=by omega
 refine⟨xs[j],getElem_mem hl,?_⟩
 rw[hj]
 exact Z23 (List.getElem?_eq_getElem hl)
theorem Z34 {α : Type}{xs:List α}{i:Int}(h0:0<=i)(h1:i<xs.length):∃v,v∈xs/\atI xs i=some v:=by
 obtain⟨j,hj⟩:=Int.eq_ofNat_of_zero_le h0
 have hl:j<xs.length:=by omega
 refine⟨xs[j],getElem_mem hl,?_⟩
 rw[hj]
 exact Z23 (List.getElem?_eq_getElem hl)
section
variable {X:Cx}{es:List Expr}{te:TE}{t:TA}
theorem Z1d {c:Const}{j:Nat}{p:Pos}(h:PE X (.Constant c j p) te)(hr:PA X es t):PA X (.Constant c j p::es) (Ze8 te t):=Z0b h hr rfl
theorem Z0d {x:Str}{p:Pos}(h:PE X (.Name x p) te)(hr:PA X es t):PA X (.Name x p::es) (Ze8 te t):=Z0b h hr rfl
theorem Zm7 {xs:List Expr}{j:Nat}{p:Pos}(h:PE X (.Tuple xs j p) te)(hr:PA X es t):PA X (.Tuple xs j p::es) (Ze8 te t):=Z0b h hr rfl
theorem Z2a {f:Expr}{xs:List Expr}{ks:List Keyword}{p:Pos}(h:PE X (.Call f xs ks p) te)(hr:PA X es t):PA X (.Call f xs ks p::es) (Ze8 te t):=Z0b h hr rfl
end
def Z7s:Expr->Option V
 | .Constant (.int i) _ _=>some (.int i)
 | .Constant (.str x) _ _=>some (.str x)
 | .Constant (.bool b) _ _=>some (.bl b)
 | .Constant .none _ _=>some .non
 |_=>none
theorem Z9h {X:Cx}:∀{es:List Expr} {vs:List V},es.map Z7s=vs.map some->PA X es (fun _ H Q=>Q vs H)
 |[],[],_=>Z01
 |[],v::vs,h=>by cases h
 |e::es,[],h=>by cases h
 |e::es,v::vs,h=>by
  rw[map_cons,map_cons] at h
  injection h with h1 h2
  have ih:=Z9h (X:=X) h2
  cases e with
  |Constant c j p=>
   cases c with
   |int i=>cases h1;exact Z1d Z03 ih
   |str x=>cases h1;exact Z1d Z08 ih
   |bool b=>cases h1;exact Z1d Z8w ih
   |none=>cases h1;exact Z1d Zb8 ih
   |_=>cases h1
  |_=>cases h1
theorem nd1 (x:Str) : [x].Nodup:=by simp
section
variable {K:PySem.W.Frag}{a:Addr}{xs:List V}{σ0:St}{H:Hp}{g:TG}{tt:TT}{te:TE}{Q:List V->Hp->Prop}
theorem Z49 (Pv:Nat->List V->St->Hp->Prop)(h0:Pv 0 [] σ0 H)(hl:∀i ys σc H,Pv i ys σc H->SqT K H a xs)
  (hs:∀i x ys σc H,xs[i]? = some x->i<xs.length->Pv i ys σc H->ys.length<sizeLine/\g x σc H fun σ2 H2=>tt σ2 H2 fun b H3=>
   if b=true then te σ2 H3 fun v H4=>Nx xs.length i (Pv (i+1) (ys ++ [v]) σ2 H4) else Nx xs.length i (Pv (i+1) ys σ2 H3))
  (hd:∀ys σc H,Pv xs.length ys σc H->Q ys H):
  ∃W:Nat->Nat->List V->St->Hp->Prop,(∃m,W 0 m [] σ0 H)/\∀i m ys σc H,W i m ys σc H →
   ((Itt K a).stop i H/\Q ys H)∨((Itt K a).go i H/\ys.length<sizeLine/\∀v H',(Itt K a).yld i H v H'->g v σc H' fun σ2 H2=>tt σ2 H2 fun b H3=>
    if b=true then te σ2 H3 fun v H4=>∃m',m'<m/\W (i+1) m' (ys ++ [v]) σ2 H4 else ∃m',m'<m/\W (i+1) m' ys σ2 H3):=by
 refine⟨fun i m ys σc H=>m=xs.length-i/\i<=xs.length/\Pv i ys σc H,⟨_,rfl,Nat.zero_le _,h0⟩,?_⟩
 rintro i m ys σc H ⟨rfl,hi,p⟩
 have q:=hl i ys σc H p
 by_cases hlt:i<xs.length
 ·have hx:xs[i]? = some xs[i]:=List.getElem?_eq_getElem hlt
  obtain⟨z,_⟩:=hs i _ ys σc H hx hlt p
  refine .inr ⟨⟨xs,xs[i],q,hx⟩,z,fun v H' y=>?_⟩
  obtain⟨e,y⟩:=y
  subst e
  exact(hs i v ys σc _ (y xs q) hlt p).2
 ·have e:i=xs.length:=by omega
  subst e
  exact .inl ⟨⟨xs,q,Nat.le_refl _⟩,hd ys σc H p⟩
theorem Z1i (Pv:Nat->List V->St->Hp->Prop)(h0:Pv 0 [] σ0 H)(hl:∀i ys σc H,Pv i ys σc H->SqL K H a xs)
  (hs:∀i x ys σc H,xs[i]? = some x->i<xs.length->Pv i ys σc H->ys.length<sizeLine/\g x σc H fun σ2 H2=>tt σ2 H2 fun b H3=>
   if b=true then te σ2 H3 fun v H4=>Nx xs.length i (Pv (i+1) (ys ++ [v]) σ2 H4) else Nx xs.length i (Pv (i+1) ys σ2 H3))
  (hd:∀ys σc H,Pv xs.length ys σc H->Q ys H):
  ∃W:Nat->Nat->List V->St->Hp->Prop,(∃m,W 0 m [] σ0 H)/\∀i m ys σc H,W i m ys σc H →
   ((Itl K a).stop i H/\Q ys H)∨((Itl K a).go i H/\ys.length<sizeLine/\∀v H',(Itl K a).yld i H v H'->g v σc H' fun σ2 H2=>tt σ2 H2 fun b H3=>
    if b=true then te σ2 H3 fun v H4=>∃m',m'<m/\W (i+1) m' (ys ++ [v]) σ2 H4 else ∃m',m'<m/\W (i+1) m' ys σ2 H3):=by
 refine⟨fun i m ys σc H=>m=xs.length-i/\i<=xs.length/\Pv i ys σc H,⟨_,rfl,Nat.zero_le _,h0⟩,?_⟩
 rintro i m ys σc H ⟨rfl,hi,p⟩
 have q:=hl i ys σc H p
 by_cases hlt:i<xs.length
 ·have hx:xs[i]? = some xs[i]:=List.getElem?_eq_getElem hlt
  obtain⟨z,_⟩:=hs i _ ys σc H hx hlt p
  refine .inr ⟨⟨xs,xs[i],q,hx⟩,z,fun v H' y=>?_⟩
  obtain⟨e,y⟩:=y
  subst e
  exact(hs i v ys σc _ (y xs q) hlt p).2
 ·have e:i=xs.length:=by omega
  subst e
  exact .inl ⟨⟨xs,q,Nat.le_refl _⟩,hd ys σc H p⟩
end
theorem Z31 {X:Cx}{K:PySem.W.Frag}(hK:X.K=K):Z3l X (.builtin "isinstance") (fun xs H Q=>∃x T ty b,xs = [x,.ty T]/\TyOf K H x ty/\PySem.W.kitOne K ty (.type T)=some b/\Q (.bl b) H):=by
 subst hK
 exact Zah
theorem Zix {X:Cx}{e st:Expr}{te ts:TE}{pos p2:Pos}(he:PE X e te)(hst:PE X st ts):PE X (.Subscript e (.Slice none none (some st) p2) pos)
  (fun σ H Q=>te σ H fun x H1=>ts σ H1 fun y H2=>y = .int (-1)/\∃a xs,x = .ref a/\SqL X.K H2 a xs/\∀p,H2 p=none->Q (.ref p) (upd H2 p (.lst xs.reverse))):=by
 intro pins s σ H Q I h
 refine Subscript_ (thn (he pins s σ H _ I h) fun v s1 ⟨x,H1,I1,r1,q1⟩=>?_)
 refine wpAny_Slice ?_
 rw[evalPart_none]
 refine wpAny_pure (wpAny_pure ?_)
 rw[evalPart_some]
 refine thn (hst pins s1 σ H1 _ I1 q1) fun vs s3 ⟨y,H3,I3,ry,ey,a,xs,ex,hx,q⟩=>?_
 subst ey ex
 cases r1
 obtain⟨t,rfl⟩:=ry
 have I4:Inv X pins σ H3 { s3 with heap:=s3.heap.push { cls:=.type "slice",data:=.fields #[.none,.none,.int (-1) t] } }:=I3.kept (t':=s3.toks) fun b ob q=>Heap.get?_push_of_some _ q
 obtain⟨its,r,ht,hz⟩:=I4.list hx
 have hlen:=r.length
 refine tail_any (ops:=[.ref a,.ref s3.heap.objs.size]) ht.isList.typeIs slot_list_getitem.lookup (wpAny_getItem_list_slice ht.isList (Heap.IsSliceOf.new ..) .none .none (.int (-1) t) (by simp) ?_ (by rw[size_toArray] <;> omega)) (by with_unfolding_all rfl)
 rw[PySem.W.krv_pick]
 refine⟨.ref _,_,I4.laid (t':=s3.toks) (o:=.lst xs.reverse) (fun b ob q=>Heap.get?_push_of_some _ q) (Nat.le_refl _) ?_,rfl,q _ (I4.hok.fresh (Nat.le_refl _))⟩
 exact⟨by rw[length_reverse];exact hz,its.reverse,0,r.reverse,by
  rw[show(its.toArray.toList.reverse).toArray=its.reverse.toArray by simp]
  exact Heap.get?_push_size _ rfl⟩
theorem Z4a {α : Type}{l:List α}{i:Nat}{c : α}(p : α -> Bool)(h:l[i]? = some c):(l.take (i+1)).filter p=(l.take i).filter p++(if p c=true then [c] else []):=by
 rw[take_add_one,h,filter_append]
 cases hp:p c <;> simp [hp]
section
variable {X:Cx}{K:PySem.W.Frag}
theorem Zd1 (hK:X.K=K):OpR X (compareOp .In) (rIn K false):=by subst hK;exact Z2k
theorem Z8c (hK:X.K=K):OpR X (compareOp .NotIn) (rIn K true):=by subst hK;exact Z5w
theorem Zjp (hK:X.K=K):IxR X (rIxT K):=by subst hK;exact Z0v
theorem Zbl (hK:X.K=K):IxR X (rIxL K):=by subst hK;exact Z0z
end
inductive PV where
 |at (v:V)
 |tup (xs:List PV)
mutual
def Z6j:PV->PV->Bool
 | .at v,.at w=>eqV v w
 | .tup xs,.tup ys=>Z2r xs ys
 | .at _,.tup _=>false
 | .tup _,.at _=>false
def Z2r:List PV->List PV->Bool
 |[],[]=>true
 |x::xs,y::ys=>Z6j x y&&Z2r xs ys
 |[],_::_=>false
 |_::_,[]=>false
end
mutual
inductive IsPV (K:PySem.W.Frag)(H:Hp):Nat->V->PV->Prop where
 |at {n:Nat} {v:V} (f:Z4l v=true):IsPV K H n v (.at v)
 |tup {n:Nat} {a:Addr} {vs:List V} {ts:List PV} (h:SqT K H a vs) (r:IsPVs K H n vs ts):IsPV K H (n+1) (.ref a) (.tup ts)
inductive IsPVs (K:PySem.W.Frag)(H:Hp):Nat->List V->List PV->Prop where
 |nil {n:Nat}:IsPVs K H n [] []
 |cons {n:Nat} {v:V} {vs:List V} {t:PV} {ts:List PV} (h:IsPV K H n v t) (r:IsPVs K H n vs ts):IsPVs K H n (v::vs) (t::ts)
end
theorem IsPVs.length {K:PySem.W.Frag}{H:Hp}{n:Nat}:∀{vs:List V} {ts:List PV},IsPVs K H n vs ts->vs.length=ts.length
 |_,_,.nil=>rfl
 |_,_,.cons _ r=>congrArg (· + 1) r.length
theorem IsPVs.get {K:PySem.W.Frag}{H:Hp}{n:Nat}:∀{vs:List V} {ts:List PV} {j:Nat} {v:V},IsPVs K H n vs ts->vs[j]? = some v->∃t,ts[j]? = some t/\IsPV K H n v t
 |_,_,_,_,.nil,e=>by simp at e
 |_,_,0,_,.cons h _,e=>by simp at e;subst e;exact⟨_,rfl,h⟩
 |_,_,j+1,_,.cons _ r,e=>by
  rw[List.getElem?_cons_succ] at e
  obtain⟨t,e2,h⟩:=r.get e
  exact⟨t,by rw[List.getElem?_cons_succ];exact e2,h⟩
theorem Zbm:∀{v:V},Z4l v=true->eqV v v=true:=by
 intro v h
 cases v with
 |non=>rfl
 |bl b=>exact beq_self_eq_true b
 |int i=>exact beq_self_eq_true i
 |str x=>exact beq_self_eq_true x
 |_=>cases h
theorem Z9i:∀(ts us:List PV),((List.range (min ts.length us.length)).all (fun j=>Z6j (ts.getD j (.at .non)) (us.getD j (.at .non)))&&ts.length==us.length)=Z2r ts us
 |[],[]=>by unfold Z2r;rfl
 |[],_::_=>by unfold Z2r;simp
 |_::_,[]=>by unfold Z2r;simp
 |t::ts,u::us=>by
  have ih:=Z9i ts us
  unfold Z2r
  rw[<- ih]
  simp only [length_cons,Nat.add_min_add_right,List.range_succ_eq_map,all_cons,all_map,Bool.and_assoc]
  simp [Function.comp_def]
section
variable {X:Cx}{pins:List (Addr×Obj)}{σ:St}{H:Hp}{s:Shared}
theorem Z6k {n:Nat}(ih:∀{v:V} {t u:PV},IsPV X.K H n v t->IsPV X.K H n v u->Z6j t u=true):∀(vs:List V) {ts us:List PV},IsPVs X.K H n vs ts->IsPVs X.K H n vs us->Z2r ts us=true:=by
 intro vs
 induction vs with
 |nil=>
  intro ts us h h'
  cases h
  cases h'
  unfold Z2r
  rfl
 |cons v vs ihv=>
  intro ts us h h'
  cases h with
  |cons a b=>
   cases h' with
   |cons a' b'=>
    unfold Z2r
    rw[ih a a',ihv b b']
    rfl
theorem Zjq (I:Inv X pins σ H s):∀(n:Nat) {v:V} {t u:PV},IsPV X.K H n v t->IsPV X.K H n v u->Z6j t u=true:=by
 intro n
 induction n with
 |zero=>
  intro v t u h h'
  cases h with
  | «at» f =>
   cases h' with
   | «at» g => unfold Z6j; exact Zbm f
 |succ n ih=>
  intro v t u h h'
  cases h with
  | «at» f =>
   cases h' with
   | «at» g => unfold Z6j; exact Zbm f
   |tup a b=>exact absurd (show false=true from f) Bool.false_ne_true
  |tup a r=>
   cases h' with
   | «at» g => exact absurd (show false = true from g) Bool.false_ne_true
   |tup a' r'=>
    have e:=I.tuple_inj a a'
    subst e
    unfold Z6j
    exact Z6k ih _ r r'
theorem Zh4 (I:Inv X pins σ H s){n:Nat}{vs:List V}{ts us:List PV}(h:IsPVs X.K H n vs ts)(h':IsPVs X.K H n vs us):Z2r ts us=true:=Z6k (Zjq I n) _ h h'
theorem Zm8 (I:Inv X pins σ H s){n:Nat}{A:Around}{vs ws:List V}{ts us:List PV}{its its2:List Value}(r:IsPVs X.K H n vs ts)(r':IsPVs X.K H n ws us)(v1:Vals vs its)(v2:Vals ws its2)
  (ih:∀{x y:V} {t u:PV} {v w:Value},IsPV X.K H n x t->IsPV X.K H n y u->RelV x v->RelV y w->SeqAt.EqAt A s v w (Z6j t u)):
  (∀j (h1:j<its.toArray.size) (h2:j<its2.toArray.size),SeqAt.EqAt A s its.toArray[j] its2.toArray[j] ((fun j=>Z6j (ts.getD j (.at .non)) (us.getD j (.at .non))) j)) ∧
  ((List.range (min its.toArray.size its2.toArray.size)).all (fun j=>Z6j (ts.getD j (.at .non)) (us.getD j (.at .non)))&&its.toArray.size==its2.toArray.size)=Z2r ts us:=by
 have l1:=v1.length
 have l2:=v2.length
 have l3:=r.length
 have l4:=r'.length
 constructor
 ·intro j h1 h2
  simp only [size_toArray] at h1 h2
  have g1:vs[j]? = some vs[j]:=List.getElem?_eq_getElem (by omega)
  have g2:ws[j]? = some ws[j]:=List.getElem?_eq_getElem (by omega)
  obtain⟨u1,e1,ru1⟩:=v1.get g1
  obtain⟨u2,e2,ru2⟩:=v2.get g2
  obtain⟨t1,f1,p1⟩:=r.get g1
  obtain⟨t2,f2,p2⟩:=r'.get g2
  have k1:its.toArray[j]=u1:=by
   have:its[j]? = some its[j]:=List.getElem?_eq_getElem h1
   rw[e1] at this
   simpa using (Option.some.inj this).symm
  have k2:its2.toArray[j]=u2:=by
   have:its2[j]? = some its2[j]:=List.getElem?_eq_getElem h2
   rw[e2] at this
   simpa using (Option.some.inj this).symm
  rw[k1,k2]
  show SeqAt.EqAt A s u1 u2 (Z6j (ts.getD j (.at .non)) (us.getD j (.at .non)))
  rw[show ts.getD j (.at .non)=t1 by simp [List.getD,f1],show us.getD j (.at .non)=t2 by simp [List.getD,f2]]
  exact ih p1 p2 ru1 ru2
 ·rw[size_toArray,size_toArray,<- l1,<- l2,l3,l4]
  exact Z9i ts us
theorem Zh5 (I:Inv X pins σ H s){n:Nat}{A:Around}(hu:A.units+(n+1)<cLine)
  (ih:∀(A:Around),A.units+n<cLine->∀{x y:V} {t u:PV} {v w:Value},IsPV X.K H n x t->IsPV X.K H n y u->RelV x v->RelV y w->SeqAt.EqAt A s v w (Z6j t u))
  {a b:Addr} {vs ws:List V} {ts us:List PV} {its its2:List Value} (h:SqT X.K H a vs) (r:IsPVs X.K H n vs ts) (h':SqT X.K H b ws) (r':IsPVs X.K H n ws us)
  (v1:Vals vs its) (pl:IsTup s.heap a its.toArray) (v2:Vals ws its2) (pl2:IsTup s.heap b its2.toArray):SeqAt.EqAt A s (.ref a) (.ref b) (Z2r ts us):=by
 by_cases hab:a=b
 ·subst hab
  have e:=I.tuple_inj h h'
  subst e
  rw[Zh4 I r r']
  exact SeqAt.EqAt.same _
 ·obtain⟨e1,e2⟩:=Zm8 (A:=A.in1) I r r' v1 v2 (fun hx hy rx ry=>ih A.in1 (by show A.units+1+n<cLine;omega) hx hy rx ry)
  rw[<- e2]
  exact SeqAt.EqAt.of_refs hab (SeqAt.RcAt.tuples pl pl2 (by omega) e1)
theorem Zjr (I:Inv X pins σ H s):∀(n:Nat) (A:Around),A.units+n<cLine->∀{x y:V} {t u:PV} {v w:Value},IsPV X.K H n x t->IsPV X.K H n y u->RelV x v->RelV y w->SeqAt.EqAt A s v w (Z6j t u):=by
 intro n
 induction n with
 |zero=>
  intro A hu x y t u v w hx hy rx ry
  cases hx with
  | «at» f =>
   cases hy with
   | «at» g => unfold Z6j; exact Z98 rx ry f g
 |succ n ih=>
  intro A hu x y t u v w hx hy rx ry
  have hu0:A.units<cLine:=by omega
  cases hx with
  | «at» f =>
   cases hy with
   | «at» g => unfold Z6j; exact Z98 rx ry f g
   |tup h r=>
    cases ry
    obtain⟨its,_,pl,_⟩:=I.tuple h
    unfold Z6j
    cases x with
    |non=>cases rx;exact SeqAt.EqAt.none_tuple pl hu0
    |bl b=>cases rx;exact SeqAt.EqAt.bool_tuple b pl hu0
    |int i=>obtain⟨k,rfl⟩:=rx;exact SeqAt.EqAt.int_tuple i k pl hu0
    |str z=>obtain⟨k,rfl⟩:=rx;exact SeqAt.EqAt.str_tuple z k pl hu0
    |_=>cases f
  |tup h r=>
   cases rx
   obtain⟨its,v1,pl,_⟩:=I.tuple h
   cases hy with
   | «at» g =>
    unfold Z6j
    cases y with
    |non=>cases ry;exact SeqAt.EqAt.tuple_none pl hu0
    |bl b=>cases ry;exact SeqAt.EqAt.tuple_bool b pl hu0
    |int i=>obtain⟨k,rfl⟩:=ry;exact SeqAt.EqAt.tuple_int i k pl hu0
    |str z=>obtain⟨k,rfl⟩:=ry;exact SeqAt.EqAt.tuple_str z k pl hu0
    |_=>cases g
   |tup h' r'=>
    cases ry
    obtain⟨its2,v2,pl2,_⟩:=I.tuple h'
    unfold Z6j
    exact Zh5 I hu ih h r h' r' v1 pl v2 pl2
end
end L2
namespace L2
open PySem PySem.Spec PyProof.Rows PySem.Builtin PySem.Builtin.Str
theorem Zjs {n:Nat}{j:Int}(h:(n:Int)<=j):(strSliceIndices none (some j) 1 n).length=n:=by
 unfold strSliceIndices sliceRange
 simp only [show(1:Int)>0 by decide,if_true,length_map,length_range]
 split <;> (try split) <;> (try split) <;> (try simp only [Int.ediv_one]) <;> omega
theorem Zjt {x:Str}{j:Int}(hx:0<x.length)(hj:1<=j):0<(Txt.slice x none (some j)).length:=by
 have hl:x.cps.toList.length=x.length:=by simp [Str.length]
 by_cases h:j<=x.length
 ·have e:=beq_iff_eq.mp (slice_closes_to (x:=x) (j:=j) ⟨by omega,by rw[hl];exact h⟩)
  rw[e]
  show 0<(List.toArray _).size
  rw[size_toArray,length_take,length_drop,hl]
  omega
 ·have e:Txt.slice x none (some j)=x:=by
   unfold Txt.slice
   rw[Zjs (show((x.length:Nat):Int)<=j by omega)]
   simp
  rw[e];exact hx
theorem Ziy {x:Str}{j:Int}(hj:0<=j):((Txt.slice x none (some j)).length:Int)<=j:=by
 have hl:x.cps.toList.length=x.length:=by simp [Str.length]
 by_cases h:j<=x.length
 ·have e:=beq_iff_eq.mp (slice_closes_to (x:=x) (j:=j) ⟨hj,by rw[hl];exact h⟩)
  rw[e]
  show(((List.toArray _).size:Nat):Int)<=j
  rw[size_toArray,length_take,length_drop,hl]
  omega
 ·have:=Txt.slice_le x none (some j)
  omega
theorem Zh6 {x:Str}{i:Int}(h0:0<=i)(h:i<=x.length):((Txt.slice x (some i) none).length:Int)=x.length-i:=by
 have hl:x.cps.toList.length=x.length:=by simp [Str.length]
 rw[slice_from_eq h0 h rfl]
 show(((List.toArray _).size:Nat):Int)=_
 rw[size_toArray,length_take,length_drop,hl]
 omega
end L2
namespace L2
open PySem PySem.Spec PyProof.Rows
def Zh7:Expr->Option (List V)
 | .List es _=>es.mapM Z7s
 |_=>none
theorem Zh8:∀{es:List Expr} {vs:List V},es.mapM Z7s=some vs->es.map Z7s=vs.map some:=by
 intro es
 induction es with
 |nil=>
  intro vs h
  rw[List.mapM_nil] at h
  have:vs = []:=(Option.some.inj h).symm
  subst this
  rfl
 |cons e es ih=>
  intro vs h
  rw[List.mapM_cons] at h
  cases he:Z7s e with
  |none=>rw[he] at h;cases h
  |some v=>
   cases hr:es.mapM Z7s with
   |none=>rw[he,hr] at h;cases h
   |some r=>
    rw[he,hr] at h
    have:vs=v::r:=(Option.some.inj h).symm
    subst this
    rw[map_cons,map_cons,he,ih hr]
theorem Z53 {X:Cx}{e:Expr}{vs:List V}(h:Zh7 e=some vs):PE X e (Zp4 (fun _ H Q=>Q vs H)):=by
 cases e with
 |List es p=>exact Z0x (Z9h (Zh8 h))
 |_=>cases h
inductive Th where
 |at (v:V)
 |tup (xs:List Th)
 |lst (xs:List Th)
def smallV:V->Bool
 | .str x=>decide (x.length<=1000)
 |v=>Z4l v
theorem smallV.flat {v:V}(h:smallV v=true):Z4l v=true:=by
 cases v with
 |str x=>rfl
 |_=>exact h
mutual
inductive IsTh (H:Hp):V->Th->Prop where
 |at {v:V} (f:smallV v=true):IsTh H v (.at v)
 |tup {a:Addr} {vs:List V} {ts:List Th} (h:H a=some (.tup vs)) (r:IsThs H vs ts):IsTh H (.ref a) (.tup ts)
 |lst {a:Addr} {vs:List V} {ts:List Th} (h:H a=some (.lst vs)) (r:IsThs H vs ts):IsTh H (.ref a) (.lst ts)
inductive IsThs (H:Hp):List V->List Th->Prop where
 |nil:IsThs H [] []
 |cons {v:V} {vs:List V} {t:Th} {ts:List Th} (h:IsTh H v t) (r:IsThs H vs ts):IsThs H (v::vs) (t::ts)
end
def Kp (H H':Hp):Prop:=∀a o,H a=some o->(∀kvs,o ≠ .dK kvs)->H' a=some o
theorem Kp.of {H H1:Hp}(a:Same H H1):Kp H H1:=fun c o e _=>a c o e
mutual
theorem IsTh.kp {H H':Hp}(k:Kp H H'):∀{v:V} {t:Th},IsTh H v t->IsTh H' v t
 |_,_,.at f=>.at f
 |_,_,.tup h r=>.tup (k _ _ h (fun _ z=>by cases z)) (IsThs.kp k r)
 |_,_,.lst h r=>.lst (k _ _ h (fun _ z=>by cases z)) (IsThs.kp k r)
theorem IsThs.kp {H H':Hp}(k:Kp H H'):∀{vs:List V} {ts:List Th},IsThs H vs ts->IsThs H' vs ts
 |_,_,.nil=>.nil
 |_,_,.cons h r=>.cons (IsTh.kp k h) (IsThs.kp k r)
end
theorem IsThs.len {H:Hp}:∀(vs:List V) {ts:List Th},IsThs H vs ts->vs.length=ts.length:=by
 intro vs
 induction vs with
 |nil=>intro ts h;cases h;rfl
 |cons v vs ih=>
  intro ts h
  cases h with
  |cons a b=>rw[length_cons,length_cons,ih b]
theorem IsThs.app {H:Hp}:∀(vs:List V) {ws:List V} {ts us:List Th},IsThs H vs ts->IsThs H ws us->IsThs H (vs++ws) (ts++us):=by
 intro vs
 induction vs with
 |nil=>intro ws ts us h g;cases h;exact g
 |cons v vs ih=>
  intro ws ts us h g
  cases h with
  |cons a b=>exact .cons a (ih b g)
section
variable {X:Cx}
theorem Zju {c:TT}{tb:TS}{D:Ends}{σ:St}{H:Hp}(Pv:Nat->St->Hp->Prop)(m0:Nat)(h0:Pv m0 σ H)
  (hs:∀m σ H,Pv m σ H->c σ H fun b H1=>if b=true then tb { D with nx:=fun σ' H'=>∃m',m'<m/\Pv m' σ' H',ct:=fun σ' H'=>∃m',m'<m/\Pv m' σ' H',bk:=D.nx } σ H1 else D.nx σ H1)
  (mono:∀ σ H Q Q',(∀b H1,Q b H1->Q' b H1)->c σ H Q->c σ H Q'):tWhile c tb D σ H:=by
 refine⟨Pv,⟨m0,h0⟩,?_⟩
 intro m σ H p
 refine mono σ H _ _ (fun b H1 q=>?_) (hs m σ H p)
 cases b with
 |true=>exact⟨_,fun σ' H' z=>z,q⟩
 |false=>exact q
end
end L2
namespace L2
open PySem PySem.Spec PyProof.Rows PySem.Builtin PySem.Builtin.Str
end L2
namespace L2
open PySem PySem.Spec PyProof.Rows
section
variable {X:Cx}
theorem Z54 (hu:X.A.units<cLine):OpR X (compareOp .Eq) (fun x y H Q=>∃a b xs,x = .ref a/\y = .ref b/\SqL X.K H a xs/\SqL X.K H b []/\Q (.bl xs.isEmpty) H):=by
 intro pins s σ H x y v u Q I rx ry h
 obtain⟨a,b,xs,rfl,rfl,hx,hy,q⟩:=h
 cases rx
 cases ry
 obtain⟨its,r,pl,hz⟩:=I.list hx
 obtain⟨its2,r2,pl2,hz2⟩:=I.list hy
 cases r2
 cases r with
 |nil=>
  refine SeqAt.eq_listAt (e:=fun _=>true) pl.isList pl2.isList rfl hu (fun j h1 h2=>absurd h2 (by simp)) ?_
  exact Z10 I q (by simp)
 |cons r1 r'=>
  refine SeqAt.eq_list_lengthsAt pl.isList pl2.isList (by simp) hu ?_
  exact Z10 I q rfl
end
end L2
namespace HT
open PySem PySem.Spec PyProof.Rows
section
variable {prog:Program}{w:World}{A:Around}{E:Value->Shared->Prop}{s:Shared}
theorem getItem_tuple_all {t sl:Addr}{items:Array Value}{vl vu:Value}{lo hi:Option Int}{Q:Value->Shared->Prop}(ht:IsTup s.heap t items)(hs:s.heap.IsSliceOf sl vl vu .none)(pl:IsPart vl lo)(pu:IsPart vu hi)
  (hw:sIx items.size 0 lo=0/\sIx items.size items.size hi=items.size) (h:Q (.ref t) s):wpAny (model prog w) A (getItem (.ref t) (.ref sl)) Q E s:=by
 obtain⟨os,hos,hcs,hds⟩:=id hs
 have hTs:s.TypeIs (.ref sl) "slice":=⟨os,hos,hcs⟩
 unfold getItem
 try with_reducible refine wpAny_holding ?_
 first|refine wpAny_bind (wpAny_pure ?_)|skip
 refine wpAny_bind (wpAny_sequenceKey ht.typeIs (by decide) ?_)
 refine wpAny_bind (wpAny_callSpecial?_slot (name:=Str.ofString "__getitem__") ht.typeIs PyProof.Rows.slot_tuple_getitem
  (wpAny_call_entry PyProof.Rows.slot_tuple_getitem ht.typeIs entry_tuple_getitem ?_ (args_tuple_getitem _ _)))
 show wpAny _ _ (Builtin.Tuple.tupleItemsOf (.ref t) >>= _) _ _ s
 refine wpAny_bind (tupleItemsOf_ ht ?_)
 refine wpAny_bind (wpAny_typeOf hTs ?_)
 rw[if_pos (by decide)]
 refine wpAny_bind (Z3s hs pl pu ?_)
 have hno:((((sIx items.size 0 lo:Nat):Int)==0&&(1:Int)==1&&(sIx items.size items.size hi-sIx items.size 0 lo)==items.size)=true):=by
  rw[hw.1,hw.2];simp
 show wpAny _ _ (if (((sIx items.size 0 lo:Nat):Int)==0&&(1:Int)==1&&(sIx items.size items.size hi-sIx items.size 0 lo)==items.size)=true then _ else _) _ _ s
 rw[if_pos hno]
 refine wpAny_bind (m:=Builtin.Tuple.tupleIsExact _) (wpAny_bind (wpAny_typeOf ht.typeIs (wpAny_pure ?_)))
 rw[if_pos (by decide)]
 refine wpAny_bind (wpAny_rule ?_)
 exact wpAny_pure ⟨_,rfl,wpAny_pure h⟩
end
end HT
namespace L2
open PySem PySem.Spec PyProof.Rows
section
variable {X:Cx}
theorem Zh9 {xs:List V}{lo hi:Option Int}(h:HT.sIx xs.length 0 lo=0/\HT.sIx xs.length xs.length hi=xs.length):Z5v xs lo hi=xs:=by
 unfold Z5v
 rw[h.1,h.2,drop_zero,Nat.sub_zero,take_of_length_le (Nat.le_refl _)]
theorem Zbn (hc:X.calm=true):Z3l X (.builtin "sum") (fun xs H Q=>∃(a:Addr) (ns:List Int),xs = [.ref a]/\SqL X.K H a (ns.map V.int)/\Q (.int ns.sum) H):=by
 intro pins s σ H xs us Q I r h
 obtain⟨a,ns,rfl,ha,q⟩:=h
 obtain⟨u,rfl,ru⟩:=Z6c r
 cases ru
 obtain⟨its,r1,pl,hz⟩:=I.list ha
 have hi:=Zcw r1
 obtain⟨ys,hys⟩:=hi.allInts.items
 have e1:(intItems ys).toList=its:=by rw[<- hys]
 have e2:preSum (numAt ys) ys.size=ns.sum:=by
  rw[preSum_eq,take_of_length_le (by simp),<- nums_intItems,e1,hi.numsOf]
 refine sum_intListG (I.ok.hd hc) (hys▸pl.isList) fun h' tk t' hk=>?_
 rw[e2]
 exact⟨.int ns.sum,H,I.kept hk,⟨_,rfl⟩,q⟩
end
section
variable {X:Cx}
inductive rSlP (x:V)(lo:Option Int)(hi:Option Int)(H:Hp)(Q:VK):Prop
 |mk (a xs:_) (_:x = .ref a) (_:H a=some (.tup xs)) (_:∀p H',Same H H'->H' p=some (.tup (Z5v xs lo hi))->Q (.ref p) H'):rSlP x lo hi H Q
theorem Z4r:SlR X rSlP:=by
 intro pins s σ H x v vl vu lo hi sl Q I rx hs pl pu h
 obtain⟨a,xs,rfl,hx,q⟩:=h
 by_cases hw:HT.sIx xs.length 0 lo=0/\HT.sIx xs.length xs.length hi=xs.length
 ·cases rx
  obtain⟨its,r,ht,hz⟩:=I.tuple (SqT.of hx)
  have hlen:its.toArray.size=xs.length:=by rw[size_toArray];exact r.length.symm
  refine⟨"tuple",_,PyProof.Rows.slot_tuple_getitem.lookup,ht.typeIs,?_⟩
  refine HT.getItem_tuple_all ht hs pl pu (by rw[hlen];exact hw) ?_
  exact⟨.ref a,H,I,rfl,q a H (Same.refl H) (by rw[Zh9 hw];exact hx)⟩
 ·exact Zm0 pins s σ H (.ref a) v vl vu lo hi sl Q I rx hs pl pu ⟨a,xs,rfl,SqT.of hx,hw,fun p hp=>q p _ (Z02 hp) Z00⟩
inductive rCatP (x:V)(y:V)(H:Hp)(Q:VK):Prop
 |mk (a b xs ys:_) (_:x = .ref a) (_:y = .ref b) (_:H a=some (.tup xs)) (_:H b=some (.tup ys)) (_:xs.length+ys.length<=sizeLine) (_:∀p H',Same H H'->H' p=some (.tup (xs++ys))->Q (.ref p) H'):rCatP x y H Q
theorem Z8d:OpR X (binaryOp .Add) rCatP:=by
 intro pins s σ H x y v u Q I rx ry h
 obtain⟨a,b,xs,ys,rfl,rfl,ha,hb,hz,q⟩:=h
 by_cases hx:xs = []
 ·subst hx
  cases rx
  cases ry
  obtain⟨its,r1,p1,_⟩:=I.tuple (SqT.of ha)
  obtain⟨its2,r2,p2,_⟩:=I.tuple (SqT.of hb)
  cases r1
  obtain⟨⟨cls,dd,data,sl⟩,ho,hc,n,hd⟩:=id p1
  obtain⟨⟨cls2,dd2,data2,sl2⟩,ho2,hc2,n2,hd2⟩:=id p2
  simp only at hc hd hc2 hd2
  subst hc hd hc2 hd2
  exact concat_meets ⟨_,ho,rfl⟩ ⟨_,ho2,rfl⟩ noFill_tuple_add seq_tuple_add PySem.F.slot_tuple_add PySem.F.entry_tuple_add (PySem.F.args_tuple_add_2 _ _)
   (tuple_addW0 a b _ _ n n2 dd dd2 sl sl2 (by simp)) ⟨ho,ho2,⟨.ref b,H,I,rfl,q b H (Same.refl H) hb⟩⟩
 ·refine Zjm pins s σ H (.ref a) (.ref b) v u Q I rx ry ⟨a,b,xs,ys,rfl,rfl,SqT.of ha,SqT.of hb,hx,hz,fun hy=>?_,fun hy p hp=>?_⟩
  ·subst hy
   exact q a H (Same.refl H) (by rw[append_nil];exact ha)
  ·exact q p _ (Z02 hp) Z00
end
section
variable {X:Cx}{pins:List (Addr×Obj)}{σ:St}{H:Hp}{s:Shared}{h':Heap}
theorem Inv.turnedL {t':Nat}{ch:List Addr}(I:Inv X pins σ H s)(k:∀b o,b∉ch->s.heap.get? b=some o->h'.get? b=some o)(hf:∀b∈ch,Z3x X pins H b):Inv X pins σ H { s with heap:=h',toks:=t' }:=by
 have nit:∀b u,H b=some u->b∉ch:=fun b u e z=>by rw[(hf b z).1] at e;cases e
 refine I.step (g':=s.gens) (d':=s.drawn) (ch:=ch) (fun b hb=>?_) (fun b o _ _ hc e _=>k b o hc e) (fun b o _ _ hc e _=>⟨o.slots,k b o hc e⟩) (fun _ _ _ _ n=>n)
  (fun b o hc e=>⟨o,k b o hc e⟩) (fun _ _ e=>e) (fun _ _ _ e=>e) (fun b ps e=>⟨#[],by rw[e];simp⟩) (fun m hm=>?_) (fun b u e=>?_) I.bare
 ·obtain⟨f0,f1,f2,f3,f4,f5⟩:=hf b hb
  exact⟨f3,f1,f4,f5⟩
 ·obtain⟨o,es,ep,ho,r⟩:=hm
  exact⟨o,es,ep,k _ o (fun z=>(hf _ z).2.1 rfl) ho,r⟩
 ·refine(I.hok b u e).stay (fun c v hc q=>k c v ?_ q) (fun _ q=>q) fun _ _ q=>q
  rcases hc with z|z
  ·rw[z];exact nit b u e
  ·exact nit c _ z
theorem Inv.turnedLaid {t':Nat}{ch:List Addr}{a:Addr}{o:HO}(I:Inv X pins σ H s)(k:∀b o,b∉ch->s.heap.get? b=some o->h'.get? b=some o)(hf:∀b∈ch,Z3x X pins H b)(hp:s.heap.objs.size<=a)(new:ObjOk X.prog X.w (upd H a o) h' a o):
  Inv X pins σ (upd H a o) { s with heap:=h',toks:=t' }:=by
 have nit:∀b u,H b=some u->b∉ch:=fun b u e z=>by rw[(hf b z).1] at e;cases e
 have hn:H a=none:=I.hok.fresh hp
 have old:∀b u,H b=some u->upd H a o b=some u:=fun b u e=>by rw[Z09 (Z0e e hn)];exact e
 refine I.step (g':=s.gens) (d':=s.drawn) (ch:=ch) (fun b hb=>?_) (fun b o _ _ hc e _=>k b o hc e) (fun b o _ _ hc e _=>⟨o.slots,k b o hc e⟩) (fun b u _ e n=>?_)
  (fun b o hc e=>⟨o,k b o hc e⟩) (fun _ _ e=>old _ _ e) (fun _ _ _ e=>old _ _ e) (fun b ps e=>⟨#[],by rw[old _ _ e];simp⟩) (fun m hm=>?_) (fun b u e=>?_) I.bare
 ·obtain⟨f0,f1,f2,f3,f4,f5⟩:=hf b hb
  exact⟨f3,f1,f4,f5⟩
 ·rw[Z09 (fun z=>by subst z;exact absurd (Nat.lt_of_lt_of_le (Heap.lt_size e) hp) (Nat.lt_irrefl _))]
  exact n
 ·obtain⟨o,es,ep,ho,r⟩:=hm
  exact⟨o,es,ep,k _ o (fun z=>(hf _ z).2.1 rfl) ho,r⟩
 ·by_cases hb:b=a
  ·subst hb;rw[Z00] at e;cases e;exact new
  ·rw[Z09 hb] at e
   refine(I.hok b u e).stay (fun c v hc q=>k c v ?_ q) (fun c q=>old _ _ q) fun c xs q=>old _ _ q
   rcases hc with z|z
   ·rw[z];exact nit b u e
   ·exact nit c _ z
end
def Ite (K:PySem.W.Frag)(a:Addr):It:=
 ⟨fun i H=>∃xs x,SqL K H a xs/\xs[i]? = some x,fun i H v H'=>∃T x,v = .ref T/\H T=none/\(∀xs,SqL K H a xs->xs[i]? = some x)/\H'=upd H T (.tup [.int i,x]),fun i H=>∃xs,SqL K H a xs/\xs.length=i⟩
theorem Zep {P:Program}{w:World}{K:PySem.W.Frag}{elts:List Expr}{k:Nat}{pos:Pos}(a e it:Addr)(hne:e≠it):
  Turn P w K (.Tuple elts k pos) (Ite K a) [e,it] e (fun i h=>(∃old,IsEnum h e it (i:Nat) old)/\h.IsListIter it a i) where
 mem:=by simp
 obj:=fun i h st b hb=>by
  obtain⟨⟨old,s1⟩,o,s2,_,s3⟩:=st
  rcases mem_cons.mp hb with z|z
  ·subst z
   exact⟨_,s1,fun v z=>by cases z⟩
  ·have z:b=it:=by simpa using z
   subst z
   exact⟨o,s2,fun v z=>by rw[s3] at z;cases z⟩
 keep:=fun i h h' st k=>by
  obtain⟨⟨old,s1⟩,s2⟩:=st
  exact⟨⟨old,k e (by simp) _ s1⟩,s2.at fun o e=>k it (by simp) o e⟩
 item:=by
  intro X hP hw hK hc i pins s σ H E I hf st hg
  subst hP hw hK
  obtain⟨xs,x,hq,hx⟩:=hg
  obtain⟨its,rv,p,hz⟩:=I.list hq
  obtain⟨u,hu,ru⟩:=rv.get hx
  have hae:a≠e:=fun z=>by
   obtain⟨⟨old,s1⟩,_⟩:=st
   obtain⟨o,q1,q2,_⟩:=p.isList
   rw[z,s1] at q1
   cases q1
   injection q2 with q2
   exact absurd q2 (by decide)
  have hai:a≠it:=fun z=>by
   obtain⟨_,o',s2,s3,_⟩:=st
   obtain⟨o,q1,q2,_⟩:=p.isList
   rw[z,s2] at q1
   cases q1
   rw[s3] at q2
   injection q2 with q2
   exact absurd q2 (by decide)
  have W:=WalksT.enumerate (prog:=X.prog) (w:=X.w) (I.ok.hd hc) e it a hne hae hai its.toArray
  have hi:i<its.toArray.size:=by
   rw[size_toArray]
   exact(List.getElem?_eq_some_iff.mp hu).1
  refine W.item i s _ _ hi ⟨st.1,st.2,p.isList⟩ fun T vals h' tk hv hT hTup mid kk=>?_
  obtain⟨t,x',hx',rfl⟩:=hv
  have ex:x'=u:=by
   have:its.toArray[i]? = some u:=by simpa using hu
   rw[this] at hx'
   exact(Option.some.inj hx').symm
  subst ex
  refine⟨_,rfl,W.go elts k pos i T _ _ _ mid fun h'' st'' kk2=>?_⟩
  have hTw:T ∉ [e,it]:=W.apart i T _ mid
  have hfresh:H T=none:=I.hok.fresh hT
  refine⟨.ref T,_,I.turnedLaid (a:=T) (o:=.tup [.int i,x]) (ch:=[e,it]) (fun b o hb q=>kk2 b o hb (kk b o hb q)) hf hT ?_,rfl,⟨T,x,rfl,hfresh,fun ys hy=>by rw[I.list_inj hy hq];exact hx,rfl⟩,⟨st''.1,st''.2.1⟩,fun b hb=>?_⟩
  ·refine⟨by show 2<=sizeLine;decide,[Value.int (i:Nat) t,x'],.cons ⟨t,rfl⟩ (.cons ru .nil),?_⟩
   obtain⟨o,q1,q2⟩:=hTup
   exact⟨o,kk2 T o hTw q1,q2⟩
  ·rw[Z09 (fun z=>hTw (by rw[<- z];exact hb))]
   exact(hf b hb).1
 done:=by
  intro X hP hw hK hc i pins s σ H E I hf st hg
  subst hP hw hK
  obtain⟨xs,hq,hx⟩:=hg
  obtain⟨its,rv,p,hz⟩:=I.list hq
  have hae:a≠e:=fun z=>by
   obtain⟨⟨old,s1⟩,_⟩:=st
   obtain⟨o,q1,q2,_⟩:=p.isList
   rw[z,s1] at q1
   cases q1
   injection q2 with q2
   exact absurd q2 (by decide)
  have hai:a≠it:=fun z=>by
   obtain⟨_,o',s2,s3,_⟩:=st
   obtain⟨o,q1,q2,_⟩:=p.isList
   rw[z,s2] at q1
   cases q1
   rw[s3] at q2
   injection q2 with q2
   exact absurd q2 (by decide)
  have W:=WalksT.enumerate (prog:=X.prog) (w:=X.w) (I.ok.hd hc) e it a hne hae hai its.toArray
  have hl:=rv.length
  have hi:i=its.toArray.size:=by rw[size_toArray];omega
  subst hi
  exact W.done s _ _ ⟨st.1,st.2,p.isList⟩ fun h' tk kk=>⟨rfl,I.turnedL (ch:=[e,it]) (fun b o hb q=>kk b o hb q) hf⟩
 self:=by
  intro A i s Q E st h
  obtain⟨⟨old,s1⟩,_⟩:=st
  exact wpAny_pyIter_enum s1 h
end L2
namespace L2
open PySem PySem.Spec PyProof.Rows PySem.Builtin PySem.AutoSeq1
section
variable {P:Program}{w:World}{B:Around}{G:Value->Shared->Prop}{z:Shared}
theorem Z3a {gi tp:Addr}{n:Nat}{ys:Array Value}{y:Value}{R:Value->Shared->Prop}(g:z.heap.IsTupleIter gi tp n)(t:z.heap.IsTuple tp ys)(hy:ys[n]? = some y)
  (q:∀k,k.IsTupleIter gi tp (n+1)->Heap.SameBut gi z.heap k->R y { z with heap:=k }):wpAny (model P w) B (SmallTypes.nextOf (.ref gi)) R G z:=by
 obtain⟨og,g1,g2,g3⟩:=id g
 obtain⟨ot,t1,t2,m,t3⟩:=t
 unfold SmallTypes.nextOf
 refine wpAny_bind (wpAny_callSpecial?_slot (name:=Str.ofString "__next__") g.typeIs F.slot_tuple_iterator_next (wpAny_call_entry F.slot_tuple_iterator_next g.typeIs F.entry_tuple_iterator_next ?_ (F.args_tuple_iterator_next_1 _)))
 show wpAny _ _ (field (.ref gi) 0 >>= _) _ _ z
 refine wpAny_bind (wpAny_field g1 g3 (x:=.ref tp) rfl ?_)
 show wpAny _ _ (if (Value.ref tp==Value.none)=true then _ else _) _ _ z
 rw[if_neg (show ¬ ((Value.ref tp==Value.none)=true) from Bool.false_ne_true)]
 show wpAny _ _ (field (.ref gi) 1 >>= _) _ _ z
 refine wpAny_bind (wpAny_field g1 g3 (x:=.int n 0) rfl ?_)
 show wpAny _ _ (seqItems? (.ref tp) >>= _) _ _ z
 refine wpAny_bind (wpAny_seqItems t1 t3 ?_)
 simp only [Int.toNat_natCast,hy]
 refine wpAny_bind (wpAny_setField g1 g3 (by simp) (wpAny_pure ⟨y,rfl,wpAny_pure (q _ ?_ (Heap.SameBut.update ..))⟩))
 exact⟨_,Heap.get?_update_self _ g1 (Obj.isFreed_of_fields (Obj.data_mapFields g3 _)),(Obj.cls_mapFields ..).trans g2,by rw[Obj.data_mapFields g3];simp [rawInt]⟩
theorem Z6l {gi tp:Addr}{n:Nat}{ys:Array Value}{R:Value->Shared->Prop}(hb:B.handled=none)(g:z.heap.IsTupleIter gi tp n)(t:z.heap.IsTuple tp ys)(hy:ys[n]? = none)
  (q:∀k e,Heap.ExtBut gi z.heap k->(∃o,k.get? e=some o/\o.cls = .type "StopIteration")->G (.ref e) { z with heap:=k }):wpAny (model P w) B (SmallTypes.nextOf (.ref gi)) R G z:=by
 obtain⟨og,g1,g2,g3⟩:=id g
 obtain⟨ot,t1,t2,m,t3⟩:=t
 unfold SmallTypes.nextOf
 refine wpAny_bind (wpAny_callSpecial?_slot (name:=Str.ofString "__next__") g.typeIs F.slot_tuple_iterator_next (wpAny_call_entry F.slot_tuple_iterator_next g.typeIs F.entry_tuple_iterator_next ?_ (F.args_tuple_iterator_next_1 _)))
 show wpAny _ _ (field (.ref gi) 0 >>= _) _ _ z
 refine wpAny_bind (wpAny_field g1 g3 (x:=.ref tp) rfl ?_)
 show wpAny _ _ (if (Value.ref tp==Value.none)=true then _ else _) _ _ z
 rw[if_neg (show ¬ ((Value.ref tp==Value.none)=true) from Bool.false_ne_true)]
 show wpAny _ _ (field (.ref gi) 1 >>= _) _ _ z
 refine wpAny_bind (wpAny_field g1 g3 (x:=.int n 0) rfl ?_)
 show wpAny _ _ (seqItems? (.ref tp) >>= _) _ _ z
 refine wpAny_bind (wpAny_seqItems t1 t3 ?_)
 simp only [Int.toNat_natCast,hy]
 refine wpAny_bind (wpAny_rule (wpAny_bind (wpAny_setField g1 g3 (by simp) ?_)))
 refine wpAny_bind (m:=newExc (.type "StopIteration") []) ?_
 simp only [newExc,newTuple];refine wpAny_bind (wpAny_newObj_type ?_ (by size_fits))
 refine wpAny_bind (m:=firstArgMember _ _) (wpAny_of_eq (a:=Value.none) (by first|rfl | (simp only [firstArgMember];rfl)) ?_);refine wpAny_newObj_type ?_ (by size_fits)
 simp only [raiseNew];refine wpAny_bind (wpAny_handled ?_)
 first|rw[show B.in1.handled=none from hb] | rw[hb]
 refine wpAny_bind (wpAny_pure (wpAny_throw ?_));exact q _ _ (((Heap.SameBut.update ..).extBut.push _).push _) ⟨_,Heap.get?_push_size _ rfl,rfl⟩
theorem Ziz (hb:B.handled=none)(gi tp:Addr)(hne:tp≠gi)(ys:Array Value):Draws P w B gi [gi,tp] ys.size (fun i v=>ys[i]? = some v) (fun i k=>k.IsTupleIter gi tp i/\k.IsTuple tp ys) where
 live:=fun _ _ st=>let ⟨o,ho,_⟩:=st.1;⟨o,ho⟩
 frame:=fun _ _ _ st k=>⟨st.1.at fun o e=>k gi (by simp) o e,let ⟨o,q1,q2⟩:=st.2;⟨o,k tp (by simp) o q1,q2⟩⟩
 item:=fun i z R G hi st q=>by
  refine Z3a st.1 st.2 (y:=ys[i]) (by simp [hi]) fun k g sb=>?_
  refine q _ k z.toks (by simp [hi]) ⟨g,?_⟩ sb
  obtain⟨o,q1,q2⟩:=st.2
  exact⟨o,(sb.2 tp hne).trans q1,q2⟩
 done:=fun z R G st q=>Z6l hb st.1 st.2 (by simp) q
theorem Zeq (tp:Addr)(ys:Array Value)(n:Nat)(dd:Option Addr)(sl:Array (Option Value)):
  Meets (Builtin.«enumerate.__new__» ⟨[.type "enumerate", .ref tp], []⟩) (fun _ R s => s.heap.get? tp = some { cls := .type "tuple", dict := dd, data := .seq ys n, slots := sl } ∧
   R (.ok (.ret (.ref (s.heap.push { cls:=.type "tuple_iterator",data:=.fields #[.ref tp,.int 0 0] }).objs.size)))
    { s with heap:=(s.heap.push { cls:=.type "tuple_iterator",data:=.fields #[.ref tp,.int 0 0] }).push { cls:=.type "enumerate",data:=.fields #[.none,.bool false,.ref s.heap.objs.size,rawInt 0,.none,.none] } }):=
 .of_wp fun prog w A R s h=>by
  obtain⟨hp,g,d,tk,os⟩:=s
  obtain⟨ht,h⟩:=h
  have hsub:=sub_enumerate
  have hT:Heap.IsTuple (Shared.heap ⟨hp,g,d,tk,os⟩) tp ys:=⟨_,ht,rfl,n,rfl⟩
  wp_walk using wpAny_loadPart' ht
  refine wpAny_stack_any fun st=>wpAny_pure ?_
  split
  ·rename_i c _ _ _ _ _
   cases (c==Value.type "enumerate")
   ·wp_walk using wpAny_loadPart' ht,wpAny_pyIter_tuple hT
    exact⟨_,rfl,h⟩
   ·wp_walk using wpAny_loadPart' ht,wpAny_pyIter_tuple hT
    exact⟨_,rfl,h⟩
  ·wp_walk using wpAny_loadPart' ht,wpAny_pyIter_tuple hT
   exact⟨_,rfl,h⟩
theorem Zd2 {tp:Addr}{ys:Array Value}{R:Value->Shared->Prop}(t:z.heap.IsTuple tp ys)
  (h:∀k,IsEnum k (z.heap.objs.size+1) z.heap.objs.size 0 .none->k.IsTupleIter z.heap.objs.size tp 0->(∀b o,z.heap.get? b=some o->k.get? b=some o)->R (.ref (z.heap.objs.size+1)) { z with heap:=k }):
  wpAny (model P w) B (call (.type "enumerate") [.ref tp]) R G z:=by
 obtain⟨⟨c,dd,dt,sl⟩,t1,t2,n,t3⟩:=t
 simp only at t2 t3
 subst t2 t3
 refine callType_new F.called_enumerate (by decide) (F.typeCall_enumerate_1 _) (F.newCall_enumerate_1 _) (fun obj=>F.args_object_init_2 obj _) F.entry_enumerate_new (Zeq tp ys n dd sl) ⟨t1,?_⟩
 have hz:(z.heap.push { cls:=.type "tuple_iterator",data:=.fields #[.ref tp,.int 0 0] }).objs.size=z.heap.objs.size+1:=Heap.size_push ..
 show _/\_
 rw[hz]
 have he:=Heap.get?_push_size (z.heap.push { cls:=.type "tuple_iterator",data:=.fields #[.ref tp,.int 0 0] }) (o:={ cls:=.type "enumerate",data:=.fields #[.none,.bool false,.ref z.heap.objs.size,rawInt 0,.none,.none] }) rfl
 rw[hz] at he
 exact⟨⟨_,he,rfl⟩,h _ he ⟨_,Heap.get?_push_of_some _ (Heap.get?_push_size _ rfl),rfl,rfl⟩ fun b o x=>Heap.get?_push_of_some _ (Heap.get?_push_of_some _ x)⟩
end
end L2
namespace L2
open PySem PySem.Spec PyProof.Rows
def Itf (K:PySem.W.Frag)(a:Addr):It:=
 ⟨fun i H=>∃xs x,SqT K H a xs/\xs[i]? = some x,fun i H v H'=>∃T x,v = .ref T/\H T=none/\(∀xs,SqT K H a xs->xs[i]? = some x)/\H'=upd H T (.tup [.int i,x]),fun i H=>∃xs,SqT K H a xs/\xs.length=i⟩
theorem Zd3 {P:Program}{w:World}{K:PySem.W.Frag}{elts:List Expr}{k:Nat}{pos:Pos}(a e it:Addr)(hne:e≠it):
  Turn P w K (.Tuple elts k pos) (Itf K a) [e,it] e (fun i h=>(∃old,IsEnum h e it (i:Nat) old)/\h.IsTupleIter it a i) where
 mem:=by simp
 obj:=fun i h st b hb=>by
  obtain⟨⟨old,s1⟩,o,s2,_,s3⟩:=st
  rcases mem_cons.mp hb with z|z
  ·subst z
   exact⟨_,s1,fun v z=>by cases z⟩
  ·have z:b=it:=by simpa using z
   subst z
   exact⟨o,s2,fun v z=>by rw[s3] at z;cases z⟩
 keep:=fun i h h' st k=>by
  obtain⟨⟨old,s1⟩,s2⟩:=st
  exact⟨⟨old,k e (by simp) _ s1⟩,s2.at fun o e=>k it (by simp) o e⟩
 item:=by
  intro X hP hw hK hc i pins s σ H E I hf st hg
  subst hP hw hK
  obtain⟨xs,x,hq,hx⟩:=hg
  obtain⟨its,rv,p,hz⟩:=I.tuple hq
  obtain⟨u,hu,ru⟩:=rv.get hx
  have p':s.heap.IsTuple a its.toArray:=p
  have hae:a≠e:=fun z=>by
   obtain⟨⟨old,s1⟩,_⟩:=st
   obtain⟨o,q1,q2,_⟩:=p'
   rw[z,s1] at q1
   cases q1
   injection q2 with q2
   exact absurd q2 (by decide)
  have hai:a≠it:=fun z=>by
   obtain⟨_,o',s2,s3,_⟩:=st
   obtain⟨o,q1,q2,_⟩:=p'
   rw[z,s2] at q1
   cases q1
   rw[s3] at q2
   injection q2 with q2
   exact absurd q2 (by decide)
  have W:=WalksT.enumerateD (prog:=X.prog) (w:=X.w) (A:=X.A) (Ziz (B:=X.A.in1) (I.ok.hd hc) it a hai its.toArray) e hne (by simp [hne,Ne.symm hae]) (by simp)
  have hi:i<its.toArray.size:=by
   rw[size_toArray]
   exact(List.getElem?_eq_some_iff.mp hu).1
  refine W.item i s _ _ hi ⟨st.1,st.2,p'⟩ fun T vals h' tk hv hT hTup mid kk=>?_
  obtain⟨t,x',hx',rfl⟩:=hv
  have ex:x'=u:=by
   have:its.toArray[i]? = some u:=by simpa using hu
   rw[this] at hx'
   exact(Option.some.inj hx').symm
  subst ex
  refine⟨_,rfl,W.go elts k pos i T _ _ _ mid fun h'' st'' kk2=>?_⟩
  have hTw:T ∉ [e,it]:=W.apart i T _ mid
  have hfresh:H T=none:=I.hok.fresh hT
  refine⟨.ref T,_,I.turnedLaid (a:=T) (o:=.tup [.int i,x]) (ch:=[e,it]) (fun b o hb q=>kk2 b o hb (kk b o hb q)) hf hT ?_,rfl,⟨T,x,rfl,hfresh,fun ys hy=>by rw[I.tuple_inj hy hq];exact hx,rfl⟩,⟨st''.1,st''.2.1⟩,fun b hb=>?_⟩
  ·refine⟨by show 2<=sizeLine;decide,[Value.int (i:Nat) t,x'],.cons ⟨t,rfl⟩ (.cons ru .nil),?_⟩
   obtain⟨o,q1,q2⟩:=hTup
   exact⟨o,kk2 T o hTw q1,q2⟩
  ·rw[Z09 (fun z=>hTw (by rw[<- z];exact hb))]
   exact(hf b hb).1
 done:=by
  intro X hP hw hK hc i pins s σ H E I hf st hg
  subst hP hw hK
  obtain⟨xs,hq,hx⟩:=hg
  obtain⟨its,rv,p,hz⟩:=I.tuple hq
  have p':s.heap.IsTuple a its.toArray:=p
  have hae:a≠e:=fun z=>by
   obtain⟨⟨old,s1⟩,_⟩:=st
   obtain⟨o,q1,q2,_⟩:=p'
   rw[z,s1] at q1
   cases q1
   injection q2 with q2
   exact absurd q2 (by decide)
  have hai:a≠it:=fun z=>by
   obtain⟨_,o',s2,s3,_⟩:=st
   obtain⟨o,q1,q2,_⟩:=p'
   rw[z,s2] at q1
   cases q1
   rw[s3] at q2
   injection q2 with q2
   exact absurd q2 (by decide)
  have W:=WalksT.enumerateD (prog:=X.prog) (w:=X.w) (A:=X.A) (Ziz (B:=X.A.in1) (I.ok.hd hc) it a hai its.toArray) e hne (by simp [hne,Ne.symm hae]) (by simp)
  have hl:=rv.length
  have hi:i=its.toArray.size:=by rw[size_toArray];omega
  subst hi
  exact W.done s _ _ ⟨st.1,st.2,p'⟩ fun h' tk kk=>⟨rfl,I.turnedL (ch:=[e,it]) (fun b o hb q=>kk b o hb q) hf⟩
 self:=by
  intro A i s Q E st h
  obtain⟨⟨old,s1⟩,_⟩:=st
  exact wpAny_pyIter_enum s1 h
section
variable {X:Cx}
def Zo7 (K:PySem.W.Frag)(ta:TA):TI:=fun σ H R=>ta σ H fun vs H1=>∃a,vs = [.ref a]/\(((∃xs,SqL K H1 a xs)/\R (Ite K a) H1)∨((∃xs,SqT K H1 a xs)/\R (Itf K a) H1))
theorem Zjv {a:Expr}{ta:TA}{p pos qq:Pos}{elts:List Expr}{kn:Nat}(hg:Gl X "enumerate")(hm:X.mg "enumerate"=none)(ha:PA X [a] ta)(hs:starEach [a] X.env = [(false,eval a X.env)]:=by rfl):
  PI X (.Tuple elts kn qq) (.Call (.Name "enumerate" p) [a] [] pos) (Zo7 X.K ta):=by
 intro pins s σ H R I h
 refine Call_ (Z50 I hg hm boot_enumerate (PyProof.Rows.callWith_type1 (thn (ha pos pins s σ H _ I h) fun us s1 ⟨vs,H1,I1,r1,q1⟩=>?_) hs rfl))
 obtain⟨l,e,q1⟩:=q1
 subst e
 cases r1 with
 |cons r rr=>
  cases rr
  cases r
  have fin:∀{k:Heap} {J:It} {tn:Nat->Heap->Prop},(∀b o,s1.heap.get? b=some o->k.get? b=some o)->IsEnum k (s1.heap.objs.size+1) s1.heap.objs.size 0 .none →
    Turn X.prog X.w X.K (.Tuple elts kn qq) J [s1.heap.objs.size+1,s1.heap.objs.size] (s1.heap.objs.size+1) tn->tn 0 k->R J H1 →
    wpAny (model X.prog X.w) X.A (pyIter (.ref (s1.heap.objs.size+1))) (PIE X pins σ (.Tuple elts kn qq) R) X.xe { s1 with heap:=k }:=fun {k J tn} kk ie T t0 hR=>by
   refine wpAny_pyIter_enum ie ?_
   refine⟨_,_,tn,J,H1,rfl,I1.kept (t':=s1.toks) kk,T,t0,fun b hb=>?_,hR⟩
   rcases mem_cons.mp hb with z|z
   ·subst z;exact I1.fpOk (Nat.le_succ _) (I1.hok.fresh (Nat.le_succ _))
   ·have z:b=s1.heap.objs.size:=by simpa using z
    subst z;exact I1.fpOk (Nat.le_refl _) (I1.hok.fresh (Nat.le_refl _))
  rcases q1 with ⟨⟨xs,hq⟩,hR⟩|⟨⟨xs,hq⟩,hR⟩
  ·obtain⟨its,rv,pl,hz⟩:=I1.list hq
   exact call_enumerate_list pl.isList fun k ie il _ kk=>fin kk ie (Zep l _ _ (Nat.succ_ne_self _)) ⟨⟨_,ie⟩,il⟩ hR
  ·obtain⟨its,rv,pl,hz⟩:=I1.tuple hq
   exact Zd2 (show s1.heap.IsTuple l its.toArray from pl) fun k ie il kk=>fin kk ie (Zd3 l _ _ (Nat.succ_ne_self _)) ⟨⟨_,ie⟩,il⟩ hR
end
def Zbo:V->PyData
 | .bl b=>.bool b
 | .int i=>.int i
 | .str x=>.str x
 |_=>.none
mutual
def dat:Th->PyData
 | .at v=>Zbo v
 | .tup xs=>.tuple (Z5d xs)
 | .lst xs=>.list (Z5d xs)
def Z5d:List Th->List PyData
 |[]=>[]
 |x::xs=>dat x::Z5d xs
end
mutual
theorem Z7t:∀t:Th,(dat t).hasDict=false
 | .at v=>by cases v <;> simp only [dat,Zbo,PyData.hasDict]
 | .tup xs=>by simp only [dat,PyData.hasDict];exact Z4s xs
 | .lst xs=>by simp only [dat,PyData.hasDict];exact Z4s xs
theorem Z4s:∀ts:List Th,PyData.hasDictAll (Z5d ts)=false
 |[]=>by simp only [Z5d,PyData.hasDictAll]
 |t::ts=>by simp only [Z5d,PyData.hasDictAll,Z7t t,Z4s ts,Bool.or_self]
end
mutual
theorem Zbp {X:Cx}{pins:List (Addr×Obj)}{σ:St}{H:Hp}{s:Shared}(I:Inv X pins σ H s):∀{v:V} {t:Th} {u:Value},IsTh H v t->RelV v u->∃as,Reads s.heap u (dat t) as
 |v,_,u,.at f,r=>by
  cases v with
  |non=>cases r;exact⟨[],.none⟩
  |bl b=>cases r;exact⟨[],.bool b⟩
  |int i=>obtain⟨k,rfl⟩:=r;exact⟨[],.int i k⟩
  |str x=>obtain⟨k,rfl⟩:=r;exact⟨[],.str x k⟩
  |_=>cases f
 |_,_,u,.tup h q,r=>by
  cases r
  obtain⟨its,v1,p,_⟩:=I.tuple (SqT.of (K:=X.K) h)
  obtain⟨as,ra⟩:=Z4t I q v1
  obtain⟨o,o1,o2,n,o3⟩:=(show s.heap.IsTuple _ its.toArray from p)
  exact⟨as,.tuple o1 o2 o3 ra⟩
 |_,_,u,.lst h q,r=>by
  cases r
  obtain⟨its,v1,p,_⟩:=I.list (SqL.of (K:=X.K) h)
  obtain⟨as,ra⟩:=Z4t I q v1
  obtain⟨o,o1,o2,n,o3⟩:=p.isList
  exact⟨_,.list o1 o2 o3 ra⟩
theorem Z4t {X:Cx}{pins:List (Addr×Obj)}{σ:St}{H:Hp}{s:Shared}(I:Inv X pins σ H s):∀{vs:List V} {ts:List Th} {us:List Value},IsThs H vs ts->Vals vs us->∃as,ReadsAll s.heap us (Z5d ts) as
 |_,_,us,.nil,r=>by cases r;exact⟨[],.nil⟩
 |_,_,us,.cons h q,r=>by
  cases r with
  |cons r1 r2=>
   obtain⟨a1,e1⟩:=Zbp I h r1
   obtain⟨a2,e2⟩:=Z4t I q r2
   exact⟨_,.cons e1 e2⟩
end
section
variable {X:Cx}
theorem Z9j (hg:X.A.guards=some []):Z3l X (.builtin "repr") (fun xs H Q=>∃(a:Addr) (t:Th),xs = [.ref a]/\IsTh H (.ref a) t/\(dat t).showable=true/\X.A.units+((dat t).depth+1)<cLine/\(dat t).shown.length<=sizeLine/\Q (.str (dat t).shown) H):=by
 intro pins s σ H xs us Q I r h
 obtain⟨a,t,rfl,ha,h1,h2,h3,q⟩:=h
 obtain⟨u,rfl,ru⟩:=Z6c r
 obtain⟨as,rd⟩:=Zbp I ha ru
 cases ru
 exact repr_of_reads' rd h1 (fun z=>by rw[Z7t] at z;cases z) hg h2 (fun b o e=>e) (fun h' u tk k=>⟨.str _,H,I.kept k,⟨u,rfl⟩,q⟩) h3
end
def isTup:Th->Bool
 | .tup _=>true
 |_=>false
def Znq:Th->String
 | .at .non=>"NoneType"
 | .at (.bl _)=>"bool"
 | .at (.int _)=>"int"
 | .at (.str _)=>"str"
 | .tup _=>"tuple"
 | .lst _=>"list"
 |_=>""
def Zo8:Th->Bool
 | .at (.bl _)=>true
 |_=>false
def Zm9:Th->Bool
 | .at (.int _)=>true
 | .at (.bl _)=>true
 |_=>false
theorem Zha {K:PySem.W.Frag}{H:Hp}{v:V}{t:Th}(h:IsTh H v t):TyOf K H v (.type (Znq t)):=by
 cases h with
 | «at» f =>
  cases v with
  |non=>exact .non
  |bl b=>exact .bl b
  |int i=>exact .int i
  |str x=>exact .str x
  |_=>exact absurd (show false=true from f) Bool.false_ne_true
 |tup e r=>exact .tup e
 |lst e r=>exact .lst e
structure Kits (K:PySem.W.Frag):Prop where
 int:∀{H:Hp} {v:V} {t:Th},IsTh H v t->PySem.W.kitOne K (.type (Znq t)) (.type "int")=some (Zm9 t)
 bl:∀{H:Hp} {v:V} {t:Th},IsTh H v t->PySem.W.kitOne K (.type (Znq t)) (.type "bool")=some (Zo8 t)
 tup:∀{H:Hp} {v:V} {t:Th},IsTh H v t->PySem.W.kitOne K (.type (Znq t)) (.type "tuple")=some (isTup t)
theorem Z1o {H:Hp}:∀(vs:List V) {ts:List Th} {i:Nat} {v:V},IsThs H vs ts->vs[i]? = some v->∃t,ts[i]? = some t/\IsTh H v t:=by
 intro vs
 induction vs with
 |nil=>intro ts i v h e;cases e
 |cons u vs ih=>
  intro ts i v h e
  cases h with
  |cons a b=>
   cases i with
   |zero=>
    have e':u=v:=by simpa using e
    subst e'
    exact⟨_,rfl,a⟩
   |succ i=>
    rw[List.getElem?_cons_succ] at e
    obtain⟨t,e1,e2⟩:=ih b e
    exact⟨t,by rw[List.getElem?_cons_succ];exact e1,e2⟩
theorem Zma {H:Hp}:∀(vs:List V) {ts:List Th} {i:Nat} {t:Th},IsThs H vs ts->ts[i]? = some t->∃v,vs[i]? = some v/\IsTh H v t:=by
 intro vs
 induction vs with
 |nil=>intro ts i t h e;cases h;simp at e
 |cons v vs ih=>
  intro ts i t h e
  cases h with
  |cons a b=>
   cases i with
   |zero=>simp at e;subst e;exact⟨v,rfl,a⟩
   |succ i=>simp at e;obtain⟨w,e1,e2⟩:=ih b e;exact⟨w,by simpa using e1,e2⟩
theorem Z1j {H:Hp}{v:V}{ts:List Th}(h:IsTh H v (.tup ts)):∃a vs,v = .ref a/\H a=some (.tup vs)/\IsThs H vs ts:=by
 cases h with
 |tup e r=>exact⟨_,_,rfl,e,r⟩
theorem Zj0 {H:Hp}{v:V}{ts:List Th}(h:IsTh H v (.lst ts)):∃a vs,v = .ref a/\H a=some (.lst vs)/\IsThs H vs ts:=by
 cases h with
 |lst e r=>exact⟨_,_,rfl,e,r⟩
theorem Z1p {H:Hp}{v w:V}(h:IsTh H v (.at w)):v=w/\smallV w=true:=by
 cases h with
 | «at» f => exact ⟨rfl, f⟩
theorem Zhb {H:Hp}:∀(ws:List V) {us:List Th},IsThs H ws us->ws ≠ []->∃ws' y us' u,ws=ws' ++ [y]/\us=us' ++ [u]/\IsThs H ws' us'/\IsTh H y u:=by
 intro ws
 induction ws with
 |nil=>intro us h n;exact absurd rfl n
 |cons v vs ih=>
  intro us h _
  cases h with
  | @cons _ _ t ts a b=>
   cases vs with
   |nil=>cases b;exact⟨[],v,[],t,rfl,rfl,.nil,a⟩
   |cons v2 vs2=>
    obtain⟨ws',y,us',u,e1,e2,h1,h2⟩:=ih b (by intro z;cases z)
    exact⟨v::ws',y,t::us',u,by rw[e1];rfl,by rw[e2];rfl,.cons a h1,h2⟩
theorem Zjw {H:Hp}:∀(vs:List V) {ts:List Th},IsThs H vs ts->IsThs H vs.reverse ts.reverse:=by
 intro vs
 induction vs with
 |nil=>intro ts h;cases h;exact .nil
 |cons v vs ih=>
  intro ts h
  cases h with
  |cons a b=>
   rw[reverse_cons,reverse_cons]
   exact IsThs.app _ (ih b) (.cons a .nil)
mutual
def Th.sz:Th->Nat
 | .at _=>1
 | .tup xs=>1+szs xs
 | .lst xs=>1+szs xs
def szs:List Th->Nat
 |[]=>0
 |x::xs=>Th.sz x+szs xs
end
theorem Zmb (t:Th):1<=Th.sz t:=by
 cases t with
 | «at» v => simp [Th.sz]
 |tup xs=>simp [Th.sz]
 |lst xs=>simp [Th.sz]
theorem Zer:∀us ws:List Th,szs (us++ws)=szs us+szs ws:=by
 intro us
 induction us with
 |nil=>intro ws;simp [szs]
 |cons u us ih=>intro ws;rw[cons_append,szs,szs,ih];omega
theorem Zaj:∀ts:List Th,ts.length<=szs ts:=by
 intro ts
 induction ts with
 |nil=>simp [szs]
 |cons t ts ih=>have:=Zmb t;rw[length_cons,szs];omega
theorem Zmc:∀(ts:List Th) (t:Th),t∈ts->Th.sz t<=szs ts:=by
 intro ts
 induction ts with
 |nil=>intro t h;cases h
 |cons u ts ih=>
  intro t h
  rw[szs]
  rcases mem_cons.mp h with z|z
  ·subst z;omega
  ·have:=ih t z;omega
def Z18 (ts:List Th):List Th:=ts.filter isTup
def OkT:Nat->Th->Prop
 | 0,_=>False
 |n+1,t=>∃(w:Str) (ts:List Th),t = .tup (.at (.str w)::ts)/\(w="let"->(Z18 ts).length=2)/\∀x∈ts,isTup x=true->OkT n x
theorem OkT.up:∀(n:Nat) {t:Th},OkT n t->OkT (n+1) t:=by
 intro n
 induction n with
 |zero=>intro t h;exact h.elim
 |succ n ih=>
  intro t h
  obtain⟨w,ts,e,h1,h2⟩:=h
  exact⟨w,ts,e,h1,fun x hx hx2=>ih (h2 x hx hx2)⟩
theorem Z1z {H H':Hp}{p:Addr}(s:Same H H')(h:H' p=none):H p=none:=by
 cases e:H p with
 |none=>rfl
 |some o=>rw[s p o e] at h;cases h
theorem Zo9 (x:V)(xs:List V):Z5v (x::xs) (some 1) none=xs:=by
 have e1:HT.sIx (x::xs).length 0 (some 1)=min 1 (x::xs).length:=rfl
 have e2:HT.sIx (x::xs).length (x::xs).length none=(x::xs).length:=rfl
 unfold Z5v
 rw[e1,e2,length_cons]
 have e3:min 1 (xs.length+1)=1:=by omega
 rw[e3]
 show List.take (xs.length+1-1) xs=xs
 exact take_of_length_le (by omega)
end L2
namespace L2
open PySem
def Z2n (xs:List Th):Bool:=match xs with
 | .at (.str w)::_=>decide (w="let")
 |_=>false
def Z3b (l:Bool)(me:Th):Nat->List (Str×Th)
 | 0=>if l=true then [(("opened":Str),me)] else []
 | 1=>if l=true then [(("closed":Str),me)] else []
 |_=>[]
mutual
def Z0u:Th->List (Str×Th)
 | .tup xs=>(("node":Str),Th.tup xs)::Z3t (Z2n xs) (.tup xs) 0 xs
 | .at _=>[]
 | .lst _=>[]
def Z3t (l:Bool)(me:Th):Nat->List Th->List (Str×Th)
 |_,[]=>[]
 |i,x::xs=>if isTup x=true then Z0u x++(Z3b l me i++Z3t l me (i+1) xs) else Z3t l me i xs
end
def Z2o (l:Bool)(me:Th):Nat->List Th->List (Str×Th)
 |_,[]=>[]
 |i,k::ks=>Z0u k++(Z3b l me i++Z2o l me (i+1) ks)
theorem Z3c (l:Bool)(me:Th):∀(xs:List Th) (i:Nat),Z3t l me i xs=Z2o l me i (Z18 xs):=by
 intro xs
 induction xs with
 |nil=>intro i;simp [Z3t,Z2o,Z18]
 |cons x xs ih=>
  intro i
  rw[Z3t]
  unfold Z18
  rw[filter_cons]
  split
  ·rw[Z2o,ih];rfl
  ·rw[ih];rfl
theorem Z40 (me:Th):∀(ks:List Th) (i:Nat),Z2o false me i ks=(ks.map Z0u).flatten:=by
 intro ks
 induction ks with
 |nil=>intro i;rfl
 |cons k ks ih=>
  intro i
  have e:Z3b false me i = []:=by
   match i with
   | 0=>rfl
   | 1=>rfl
   |_+2=>rfl
  rw[Z2o,ih,e,map_cons,flatten_cons,nil_append]
theorem Zak {xs:List Th}(h:Z2n xs=false):Z0u (.tup xs)=(("node":Str),Th.tup xs)::((Z18 xs).map Z0u).flatten:=by
 rw[Z0u,Z3c,h,Z40]
theorem Zes {xs:List Th}{k1 k2:Th}(h:Z2n xs=true)(hk:Z18 xs = [k1,k2]):Z0u (.tup xs)=(("node":Str),Th.tup xs)::(Z0u k1++((("opened":Str),Th.tup xs)::(Z0u k2 ++ [(("closed":Str),Th.tup xs)]))):=by
 rw[Z0u,Z3c,h,hk]
 simp [Z2o,Z3b]
def Z5l (p:Str×Th):List (Str×Th):=if p.1="node" then Z0u p.2 else [p]
def Z2m (st:List (Str×Th)):List (Str×Th):=(st.reverse.map Z5l).flatten
theorem Z55 (st:List (Str×Th))(x:Str×Th):Z2m (st ++ [x])=Z5l x++Z2m st:=by
 unfold Z2m;simp
theorem Zbq (st r:List (Str×Th)):Z2m (st++r.reverse)=(r.map Z5l).flatten++Z2m st:=by
 unfold Z2m;simp
theorem Z4b (t:Th):Z5l (("node":Str),t)=Z0u t:=by unfold Z5l;simp
theorem Zd4 (t:Th):Z5l (("opened":Str),t) = [(("opened":Str),t)]:=by
 unfold Z5l;rw[if_neg (by show ¬ (("opened":Str)="node");decide+kernel)]
theorem Zal (t:Th):Z5l (("closed":Str),t) = [(("closed":Str),t)]:=by
 unfold Z5l;rw[if_neg (by show ¬ (("closed":Str)="node");decide+kernel)]
theorem Zd5 {st:List (Str×Th)}{xs:List Th}(h:Z2n xs=false):Z2m (st ++ [(("node":Str),Th.tup xs)])=(("node":Str),Th.tup xs)::Z2m (st++((Z18 xs).map fun k=>(("node":Str),k)).reverse):=by
 rw[Z55,Zbq,Z4b,Zak h,map_map]
 show _::(_++_)=_::(_++_)
 congr 2
theorem Zhc {st:List (Str×Th)}{xs:List Th}{k1 k2:Th}(h:Z2n xs=true)(hk:Z18 xs = [k1,k2]):
  Z2m (st ++ [(("node":Str),Th.tup xs)])=(("node":Str),Th.tup xs)::Z2m (st++([(("node":Str),k1),(("opened":Str),Th.tup xs),(("node":Str),k2),(("closed":Str),Th.tup xs)]:List (Str×Th)).reverse):=by
 rw[Z55,Zbq,Z4b,Zes h hk]
 simp [Z4b,Zd4,Zal]
def pr (p:Str×Th):Th:=.tup [.at (.str p.1),p.2]
mutual
def cnt:Th->Nat
 | .tup xs=>1+Z1r xs
 | .at _=>0
 | .lst _=>0
def Z1r:List Th->Nat
 |[]=>0
 |x::xs=>cnt x+Z1r xs
end
mutual
def dp:Th->Nat
 | .tup xs=>1+dps xs
 | .at _=>0
 | .lst _=>0
def dps:List Th->Nat
 |[]=>0
 |x::xs=>max (dp x) (dps xs)
end
theorem Zjx (t:Th)(h:isTup t=false):cnt t=0:=by
 cases t with
 | «at» v => simp [cnt]
 |lst xs=>simp [cnt]
 |tup xs=>cases h
theorem Zet:∀xs:List Th,Z1r xs=Z1r (Z18 xs):=by
 intro xs
 induction xs with
 |nil=>rfl
 |cons x xs ih=>
  unfold Z18
  rw[Z1r,filter_cons]
  split
  ·rw[Z1r,ih];rfl
  ·rw[Zjx x (by simp_all),Nat.zero_add,ih];rfl
def Z2l (l:List (Str×Th)):List (Str×Th):=l.filter fun p=>decide (p.1="node")
end L2
namespace L2
open PySem PySem.Spec PyProof.Rows
end L2
namespace Srt
open PySem PyProof.Rows
end Srt
namespace Srt
open PySem PyProof.Rows PySem.Spec
end Srt
namespace L2
open PySem PySem.Spec PyProof.Rows Srt
end L2
namespace L2
open PySem PySem.Spec PyProof.Rows
mutual
def plT:Th->Bool
 | .at (.int _)=>true
 | .at (.str _)=>true
 | .at _=>false
 | .tup xs=>Z4o xs
 | .lst _=>false
def Z4o:List Th->Bool
 |[]=>true
 |x::xs=>plT x&&Z4o xs
end
mutual
def pvT:Th->PV
 | .at v=>.at v
 | .tup xs=>.tup (Z5x xs)
 | .lst _=>.at .non
def Z5x:List Th->List PV
 |[]=>[]
 |x::xs=>pvT x::Z5x xs
end
mutual
theorem Zoa {K:PySem.W.Frag}{H:Hp}:∀{v:V} {t:Th},IsTh H v t->∀n,plT t=true->dp t<=n->IsPV K H n v (pvT t)
 |_,_,.at f,n,hp,hd=>by rw[pvT];exact .at (smallV.flat f)
 |_,_,.tup h r,n,hp,hd=>by
  rw[dp] at hd
  rw[plT] at hp
  rw[pvT]
  cases n with
  |zero=>exact absurd hd (by omega)
  |succ n=>exact .tup (SqT.of h) (Zbr r n hp (by omega))
 |_,_,.lst h r,n,hp,hd=>by rw[plT] at hp;cases hp
theorem Zbr {K:PySem.W.Frag}{H:Hp}:∀{vs:List V} {ts:List Th},IsThs H vs ts->∀n,Z4o ts=true->dps ts<=n->IsPVs K H n vs (Z5x ts)
 |_,_,.nil,n,hp,hd=>by rw[Z5x];exact .nil
 |_,_,.cons h r,n,hp,hd=>by
  rw[Z4o,Bool.and_eq_true] at hp
  rw[dps] at hd
  rw[Z5x]
  exact .cons (Zoa h n hp.1 (by omega)) (Zbr r n hp.2 (by omega))
end
theorem Zeu {v w:V}(hv:plT (.at v)=true)(hw:plT (.at w)=true):eqV v w=true↔v=w:=by
 cases v with
 |int i=>
  cases w with
  |int j=>simp [eqV]
  |str y=>simp [eqV]
  |_=>simp [plT] at hw
 |str x=>
  cases w with
  |int j=>simp [eqV]
  |str y=>simp [eqV]
  |_=>simp [plT] at hw
 |_=>simp [plT] at hv
mutual
theorem Zhd:∀(t u:Th),plT t=true->plT u=true->(Z6j (pvT t) (pvT u)=true↔t=u)
 | .at v,.at w,ht,hu=>by rw[pvT,pvT,Z6j,Zeu ht hu];simp
 | .at v,.tup ys,ht,hu=>by rw[pvT,pvT,Z6j];simp
 | .tup xs,.at w,ht,hu=>by rw[pvT,pvT,Z6j];simp
 | .tup xs,.tup ys,ht,hu=>by rw[plT] at ht hu;rw[pvT,pvT,Z6j,Z6m xs ys ht hu];simp
 | .lst _,_,ht,hu=>by rw[plT] at ht;cases ht
 |_,.lst _,ht,hu=>by rw[plT] at hu;cases hu
theorem Z6m:∀(ts us:List Th),Z4o ts=true->Z4o us=true->(Z2r (Z5x ts) (Z5x us)=true↔ts=us)
 |[],[],_,_=>by rw[Z5x,Z2r];simp
 |[],y::ys,_,_=>by rw[Z5x,Z5x,Z2r];simp
 |x::xs,[],_,_=>by rw[Z5x,Z5x,Z2r];simp
 |x::xs,y::ys,ht,hu=>by
  rw[Z4o,Bool.and_eq_true] at ht hu
  rw[Z5x,Z5x,Z2r,Bool.and_eq_true,Zhd x y ht.1 hu.1,Z6m xs ys ht.2 hu.2]
  simp
end
section
variable {X:Cx}
inductive rSame (neg:Bool)(n:Nat)(mk:List Th->Th)(x:V)(y:V)(H:Hp)(Q:VK):Prop
 |mk (ts us:_) (_:IsTh H x (mk ts)) (_:IsTh H y (mk us)) (_:Z4o ts=true) (_:Z4o us=true) (_:dps ts<=n) (_:dps us<=n) (_:(ts=us->Q (.bl (!neg)) H)) (_:(ts≠us->Q (.bl neg) H)):rSame neg n mk x y H Q
theorem Zev {n:Nat}{ts us:List Th}{Q:V->Hp->Prop}{H:Hp}{b neg:Bool}(p1:Z4o ts=true)(p2:Z4o us=true)(q1:ts=us->Q (.bl (!neg)) H)(q2:ts≠us->Q (.bl neg) H)(e:b=if neg then !Z2r (Z5x ts) (Z5x us) else Z2r (Z5x ts) (Z5x us)):Q (.bl b) H:=by
 have hi:=Z6m ts us p1 p2
 by_cases z:ts=us
 ·rw[hi.mpr z] at e
  have:b = !neg:=by rw[e];cases neg <;> rfl
  rw[this]
  exact q1 z
 ·have hf:Z2r (Z5x ts) (Z5x us)=false:=by
   cases h:Z2r (Z5x ts) (Z5x us) with
   |false=>rfl
   |true=>exact absurd (hi.mp h) z
  rw[hf] at e
  have:b=neg:=by rw[e];cases neg <;> rfl
  rw[this]
  exact q2 z
theorem Zjy {K:PySem.W.Frag}(hK:X.K=K)(n:Nat)(hu:X.A.units+(n+1)<cLine):OpR X (compareOp .NotEq) (rSame true n .lst):=by
 subst hK
 intro pins s σ H x y v u Q I rx ry h
 obtain⟨ts,us,hx,hy,p1,p2,d1,d2,q1,q2⟩:=h
 obtain⟨a,vs,rfl,ha,hvs⟩:=Zj0 hx
 obtain⟨b,ws,rfl,hb,hws⟩:=Zj0 hy
 cases rx
 cases ry
 obtain⟨its,v1,pl,_⟩:=I.list (SqL.of ha)
 obtain⟨its2,v2,pl2,_⟩:=I.list (SqL.of hb)
 have r:=Zbr (K:=X.K) hvs n p1 d1
 have r':=Zbr (K:=X.K) hws n p2 d2
 obtain⟨e1,e2⟩:=Zm8 (A:=X.A.in1) I r r' v1 v2 (fun hx hy rx ry=>Zjr I n X.A.in1 (by show X.A.units+1+n<cLine;omega) hx hy rx ry)
 have hl1:=v1.length
 have hl2:=v2.length
 by_cases hs:its.length=its2.length
 ·refine SeqAt.RcNeAt.lists pl.isList pl2.isList (by simp only [size_toArray];exact hs) (by omega) e1 X.prog X.w _ _ ?_
  refine Z10 I (Zev (n:=n) (neg:=true) p1 p2 q1 q2 rfl) ?_
  show(!Z2r (Z5x ts) (Z5x us))=_
  rw[<- e2]
  simp [hs]
 ·refine SeqAt.RcNeAt.lists_lengths pl.isList pl2.isList (by simp only [size_toArray,bne_iff_ne];exact hs) (by omega) X.prog X.w _ _ ?_
  refine Z10 I (Zev (n:=n) (neg:=true) p1 p2 q1 q2 rfl) ?_
  show(!Z2r (Z5x ts) (Z5x us))=_
  rw[<- e2]
  simp [hs]
end
def Zmd (td ty tx:TE):TE:=fun σ H Q=>td σ H fun x H1=>∃a,x = .ref a/\IsD H1 a/\ty σ H1 fun y H2=>tx σ H2 fun z H3=>∃kvs k,H3 a=some (.dK kvs)/\y=kV k/\kvs.length<sizeLine ∧
 (∀v,Z2h kvs k=some v->Q v H3)/\(Z2h kvs k=none->Q z (upd H3 a (.dK (Z30 kvs k z))))
section
variable {X:Cx}{o e f:Expr}{apos cpos:Pos}{td ty tx:TE}
theorem Zhe (ho:PE X o td)(he:PE X e ty)(hf:PE X f tx)(m:M2 X o "setdefault" apos e f cpos):PE X (.Call (.Attribute o "setdefault" apos) [e,f] [] cpos) (Zmd td ty tx):=by
 intro pins s σ H Q I h
 refine wpAny_Call_method m.base m.few m.line PySem.F.plainAttrs_dict PySem.F.slot_dict_setdefault PySem.F.type_dict_setdefault (thn (ho pins s σ H _ I h) fun u s1 ⟨x,H1,I1,rx,a,ex,d,q1⟩=>?_)
 subst ex
 obtain rfl:u=Value.ref a:=rx
 obtain⟨t1,t2,_⟩:=Ziw I1 d
 refine⟨t1,t2,?_⟩
 rw[m.trees]
 refine Calls.callWith_builtin rfl (Calls.evalArgs_plain (Calls.spliced_cons (thn (he pins s1 σ H1 _ I1 q1) fun iv s2 ⟨y,H2,I2,ry,q2⟩=>
  Calls.spliced_cons (thn (hf pins s2 σ H2 _ I2 q2) fun fv s3 ⟨z,H3,I3,rz,kvs,k,ea,ey,hl,q3,q4⟩=>Calls.spliced_nil ?_))))
 subst ey
 obtain⟨hz,hd,vs,rel,dd⟩:=Zee I3.hok ea
 refine call_meetsIn PySem.F.slot_dict_setdefault dd.typeIs PySem.F.entry_dict_setdefault (PySem.F.args_dict_setdefault_3 _ _ _) (kt_meets_setdefault (Z0w X.prog X.w) a (Z9c ry) hd fv) ⟨vs,dd,by rw[<- rel.length];exact hz,fun v' hv=>?_,fun hn h' dd' hs=>?_⟩
 ·cases l:Z2h kvs k with
  |none=>
   have hn:valueAt vs k=none:=RelO.none_of (by rw[<- l];exact rel.val k)
   rw[hn] at hv
   cases hv
  |some v=>
   obtain⟨w',hw,rw'⟩:=RelO.some_of (v:=v) (o:=valueAt vs k) (by rw[<- l];exact rel.val k)
   rw[hw] at hv
   cases hv
   exact⟨v,H3,I3.tok _,rw',q3 v l⟩
 ·have l:Z2h kvs k=none:=by
   cases l:Z2h kvs k with
   |none=>rfl
   |some v=>
    obtain⟨w',hw,rw'⟩:=RelO.some_of (v:=v) (o:=valueAt vs k) (by rw[<- l];exact rel.val k)
    rw[hw] at hn
    cases hn
  have he:∃q,h'.get? a=some q:=let ⟨q,_,_,hq,_⟩:=dd';⟨q,hq⟩
  have hl':(Z30 kvs k z).length<=sizeLine:=by have:=Z1g kvs k z;omega
  exact⟨z,_,Z6g I3 (by rw[ea];exact True.intro) hs he (Z7n hl' hd (rel.put k rz) dd'),rz,q4 l⟩
end
end L2
namespace L2
open PySem PySem.Spec PyProof.Rows PySem.Builtin PySem.AutoSeq1
abbrev Zac (h:Heap)(z TI TO:Addr)(f0 f1:Value):Prop:=h.get? z=some { cls:=.type "zip",dict:=none,data:=.fields #[f0,f1,.bool false,.ref TI,.ref TO],slots:=#[] }
structure ZAt (h:Heap)(z TI TO i1 i2 t1 t2:Addr)(xs ys:Array Value)(i:Nat):Prop where
 z:∃f0 f1,(f0 = .none∨∃a t,f0 = .int a t)/\Zac h z TI TO f0 f1
 ti:IsPair h TI (.ref i1) (.ref i2)
 to:∃a b,IsPair h TO a b
 g1:h.IsTupleIter i1 t1 i
 g2:h.IsTupleIter i2 t2 i
 u1:h.IsTuple t1 xs
 u2:h.IsTuple t2 ys
theorem Z56 {h h':Heap}{b t:Addr}{xs:Array Value}(x:h.IsTuple t xs)(hs:Heap.ExtBut b h h')(hb:t≠b):h'.IsTuple t xs:=by
 obtain⟨o,q1,q2⟩:=x
 exact⟨o,hs _ _ hb q1,q2⟩
section
variable {prog:Program}{w:World}{A:Around}{E:Value->Shared->Prop}{s:Shared}
theorem Zhf {M:Model}{a:Addr}{Q:Option Obj->Shared->Prop}(h:Q (s.heap.get? a) s):wpAny M A (loadIfAlive a) Q E s:=fun _ _ _=>h
theorem Zbs {z TI TO:Addr}{f0 f1:Value}{Q:Bool->Shared->Prop}(h0:f0 = .none∨∃a t,f0 = .int a t)(hz:Zac s.heap z TI TO f0 f1)
  (q1:Q true s) (q2:∀h' f1',Zac h' z TI TO f0 f1'->h'.objs.size=s.heap.objs.size->Heap.ExtBut z s.heap h'->Q false { s with heap:=h' }):wpAny (model prog w) A (SmallTypes.ownedTupleIsFree (.ref z)) Q E s:=by
 unfold SmallTypes.ownedTupleIsFree
 rcases h0 with rfl|⟨a,t,rfl⟩
 ·exact wpAny_bind (wpAny_field hz rfl (x:=.none) rfl (wpAny_pure q1))
 ·refine wpAny_bind (wpAny_field hz rfl (x:=.int a t) rfl ?_)
  refine wpAny_bind (Zhf ?_)
  refine wpAny_ite_split (fun _=>wpAny_pure q1) (fun _=>?_)
  refine wpAny_bind (wpAny_field hz rfl (x:=f1) rfl ?_)
  refine wpAny_ite_split (fun _=>?_) (fun _=>?_)
  ·refine wpAny_bind (wpAny_setField_rec hz (by simp) fun h' hz' hs=>wpAny_pure ?_)
   exact q2 h' (.bool true) hz' hs.1 hs.extBut
  ·exact wpAny_pure (q2 s.heap f1 hz rfl fun _ _ _ e=>e)
theorem Zhg {z TI TO i1 i2 t1 t2:Addr}{i:Nat}{xs ys:Array Value}{x y:Value}{Q:Value->Shared->Prop}(D:ZipApart z TI TO i1 i2 t1 t2)(Z:ZAt s.heap z TI TO i1 i2 t1 t2 xs ys i)(hx:xs[i]? = some x)(hy:ys[i]? = some y)
  (hQ:∀h' T,s.heap.objs.size<=T->ZAt h' z TI TO i1 i2 t1 t2 xs ys (i+1)->IsPair h' T x y->(∀c o,c≠z->c≠TO->c≠i1->c≠i2->s.heap.get? c=some o->h'.get? c=some o)->Q (.ref T) { s with heap:=h' }):
  wpAny (model prog w) A (Builtin.«zip.__next__» ⟨[.ref z], []⟩) (fun fin s' => ∃ v, fin = .done (.ret v) /\ Q v s') E s := by
 obtain⟨⟨f0,f1,h0,hz⟩,hTI,⟨a,b,hTO⟩,h1,h2,hl1,hl2⟩:=Z
 show wpAny _ _ (field (.ref z) 2 >>= _) _ _ _
 refine wpAny_bind (wpAny_field hz rfl (x:=.bool false) rfl ?_)
 show wpAny _ _ (field (.ref z) 3 >>= _) _ _ _
 refine wpAny_bind (wpAny_field hz rfl (x:=.ref TI) rfl ?_)
 refine wpAny_bind (wpAny_seqItems hTI rfl ?_)
 show wpAny _ _ (Builtin.SmallTypes.ownedTupleIsFree (.ref z) >>= _) _ _ _
 refine wpAny_bind (Zbs h0 hz ?_ fun h₁ f1' hz₁ sz₁ hs₁=>?_)
 ·simp only [if_true]
  refine wpAny_bind (wpAny_rule ?_)
  refine wpAny_bind (wpAny_field hz rfl (x:=.ref TO) rfl ?_)
  refine wpAny_bind (wpAny_setField_rec hz (by simp) fun h₁ hz₁ hs₁=>?_)
  replace hz₁:Zac h₁ z TI TO .ellipsis f1:=hz₁
  refine wpAny_bind ?_
  simp only [zipIdx_cons,zipIdx_nil,forIn_cons,forIn_nil]
  refine wpAny_bind (wpAny_bind (wpAny_onRaise ?_))
  show wpAny _ _ (Builtin.SmallTypes.nextOf (.ref i1) >>= _) _ _ _
  refine wpAny_bind (Z3a (h1.extBut hs₁.extBut D.i1z) (Z56 hl1 hs₁.extBut D.l1z) hx fun h₂ h1₂ hs₂=>wpAny_pure ?_)
  have hTO₂:IsPair h₂ TO a b:=hs₂.extBut _ _ D.TOi1 (hs₁.extBut _ _ D.TOz hTO)
  refine wpAny_bind (wpAny_seqItems hTO₂ rfl ?_)
  refine wpAny_bind (wpAny_updateSeq_pair hTO₂ fun h₃ hTO₃ hs₃=>?_)
  replace hTO₃:IsPair h₃ TO x b:=hTO₃
  refine wpAny_bind (wpAny_letGo (wpAny_pure ?_))
  refine wpAny_bind (wpAny_bind (wpAny_onRaise ?_))
  show wpAny _ _ (Builtin.SmallTypes.nextOf (.ref i2) >>= _) _ _ _
  refine wpAny_bind (Z3a (((h2.extBut hs₁.extBut D.i2z).extBut hs₂.extBut D.i12.symm).extBut hs₃.extBut D.TOi2.symm)
   (Z56 (Z56 (Z56 hl2 hs₁.extBut D.l2z) hs₂.extBut D.l2i1) hs₃.extBut D.l2TO) hy fun h₄ h2₄ hs₄=>wpAny_pure ?_)
  have hTO₄:IsPair h₄ TO x b:=hs₄.extBut _ _ D.TOi2 hTO₃
  refine wpAny_bind (wpAny_seqItems hTO₄ rfl ?_)
  refine wpAny_bind (wpAny_updateSeq_pair hTO₄ fun h₅ hTO₅ hs₅=>?_)
  replace hTO₅:IsPair h₅ TO x y:=hTO₅
  refine wpAny_bind (wpAny_letGo (wpAny_pure (wpAny_pure ?_)))
  refine wpAny_bind (wpAny_seqItems hTO₅ rfl ?_)
  refine wpAny_bind (wpAny_newTuple ?_)
  have hsz:h₅.objs.size=s.heap.objs.size:=by rw[hs₅.1,hs₄.1,hs₃.1,hs₂.1,hs₁.1]
  have hz₅:Zac h₅ z TI TO .ellipsis f1:=hs₅.extBut _ _ D.TOz.symm (hs₄.extBut _ _ D.i2z.symm (hs₃.extBut _ _ D.TOz.symm (hs₂.extBut _ _ D.i1z.symm hz₁)))
  have hk₅:∀c o,c≠z->c≠TO->c≠i1->c≠i2->s.heap.get? c=some o->h₅.get? c=some o:=fun c o c1 c2 c3 c4 e=>
   hs₅.extBut _ _ c2 (hs₄.extBut _ _ c4 (hs₃.extBut _ _ c2 (hs₂.extBut _ _ c3 (hs₁.extBut _ _ c1 e))))
  have h1₅:h₅.IsTupleIter i1 t1 (i+1):=((h1₂.extBut hs₃.extBut D.TOi1.symm).extBut hs₄.extBut D.i12).extBut hs₅.extBut D.TOi1.symm
  have h2₅:h₅.IsTupleIter i2 t2 (i+1):=h2₄.extBut hs₅.extBut D.TOi2.symm
  have hzlt:z<h₅.objs.size:=Heap.lt_size hz₅
  show wpAny _ _ (Builtin.SmallTypes.ownedTupleHandOut (.ref z) (.ref h₅.objs.size) >>= _) _ _ _
  refine wpAny_bind ?_
  unfold Builtin.SmallTypes.ownedTupleHandOut
  have hz₆:Zac (h₅.push { cls:=.type "tuple",data:=.seq #[x,y] }) z TI TO .ellipsis f1:=Heap.get?_push_of_some _ hz₅
  refine wpAny_bind (wpAny_setField_rec hz₆ (by simp) fun h₇ hz₇ hs₇=>?_)
  replace hz₇:Zac h₇ z TI TO (rawInt h₅.objs.size) f1:=hz₇
  refine wpAny_setField_rec hz₇ (by simp) fun h₈ hz₈ hs₈=>?_
  replace hz₈:Zac h₈ z TI TO (rawInt h₅.objs.size) (.bool false):=hz₈
  have up:∀c o,c≠z->h₅.get? c=some o->h₈.get? c=some o:=fun c o c1 e=>hs₈.extBut _ _ c1 (hs₇.extBut _ _ c1 (Heap.get?_push_of_some _ e))
  have hT₈:IsPair h₈ h₅.objs.size x y:=hs₈.extBut _ _ (Nat.ne_of_gt hzlt) (hs₇.extBut _ _ (Nat.ne_of_gt hzlt) (Heap.get?_push_size _ rfl))
  have al:∀c o,c≠z->c≠TO->c≠i1->c≠i2->s.heap.get? c=some o->h₈.get? c=some o:=fun c o c1 c2 c3 c4 e=>up c o c1 (hk₅ c o c1 c2 c3 c4 e)
  refine wpAny_pure ⟨_,rfl,hQ h₈ h₅.objs.size (Nat.le_of_eq hsz.symm) ⟨⟨_,_,.inr ⟨_,_,rfl⟩,hz₈⟩,al _ _ D.TIz D.TITO D.TIi1 D.TIi2 hTI,⟨_,_,up _ _ D.TOz hTO₅⟩,h1₅.at fun o e=>up _ o D.i1z e,h2₅.at fun o e=>up _ o D.i2z e,?_,?_⟩ hT₈ al⟩
  ·obtain⟨o,e1,e2⟩:=hl1
   exact⟨o,al _ _ D.l1z D.l1TO D.l1i1 D.l1i2 e1,e2⟩
  ·obtain⟨o,e1,e2⟩:=hl2
   exact⟨o,al _ _ D.l2z D.l2TO D.l2i1 D.l2i2 e1,e2⟩
 ·simp only [Bool.false_eq_true,if_false]
  refine wpAny_bind ?_
  simp only [List.forIn_toArray,forIn_cons,forIn_nil]
  refine wpAny_bind (wpAny_bind (wpAny_holding ?_))
  show wpAny _ _ (Builtin.SmallTypes.nextOf (.ref i1) >>= _) _ _ _
  refine wpAny_bind (Z3a (z:={ s with heap:=h₁ }) (h1.extBut hs₁ D.i1z) (Z56 hl1 hs₁ D.l1z) hx fun h₂ h1₂ hs₂=>wpAny_pure ?_)
  refine wpAny_pure ?_
  refine wpAny_bind (wpAny_bind (wpAny_holding ?_))
  show wpAny _ _ (Builtin.SmallTypes.nextOf (.ref i2) >>= _) _ _ _
  refine wpAny_bind (Z3a (z:={ s with heap:=h₂ }) ((h2.extBut hs₁ D.i2z).extBut hs₂.extBut D.i12.symm) (Z56 (Z56 hl2 hs₁ D.l2z) hs₂.extBut D.l2i1) hy fun h₃ h2₃ hs₃=>wpAny_pure ?_)
  refine wpAny_pure (wpAny_pure ?_)
  refine wpAny_bind (wpAny_newTuple ?_ (by show 2<=sizeLine;decide))
  have hsz:h₃.objs.size=s.heap.objs.size:=by rw[hs₃.1,hs₂.1];exact sz₁
  have al:∀c o,c≠z->c≠i1->c≠i2->s.heap.get? c=some o->(h₃.push { cls:=.type "tuple",data:=.seq #[x,y] }).get? c=some o:=fun c o c1 c3 c4 e=>
   Heap.get?_push_of_some _ (hs₃.extBut _ _ c4 (hs₂.extBut _ _ c3 (hs₁ _ _ c1 e)))
  have u3:∀c o,h₃.get? c=some o->(h₃.push { cls:=.type "tuple",data:=.seq #[x,y] }).get? c=some o:=fun c o e=>Heap.get?_push_of_some _ e
  refine wpAny_pure ⟨_,rfl,hQ _ h₃.objs.size (Nat.le_of_eq hsz.symm) ⟨⟨_,_,h0,u3 _ _ (hs₃.extBut _ _ D.i2z.symm (hs₂.extBut _ _ D.i1z.symm hz₁))⟩,al _ _ D.TIz D.TIi1 D.TIi2 hTI,⟨_,_,al _ _ D.TOz D.TOi1 D.TOi2 hTO⟩,(h1₂.extBut hs₃.extBut D.i12).at fun o e=>u3 _ o e,h2₃.at fun o e=>u3 _ o e,?_,?_⟩ (Heap.get?_push_size _ rfl) fun c o c1 _ c3 c4 e=>al c o c1 c3 c4 e⟩
  ·obtain⟨o,e1,e2⟩:=hl1
   exact⟨o,al _ _ D.l1z D.l1i1 D.l1i2 e1,e2⟩
  ·obtain⟨o,e1,e2⟩:=hl2
   exact⟨o,al _ _ D.l2z D.l2i1 D.l2i2 e1,e2⟩
theorem Zhh {z TI TO i1 i2 t1 t2:Addr}{i:Nat}{xs ys:Array Value}{Q:Fin->Shared->Prop}(hh:A.handled=none)(D:ZipApart z TI TO i1 i2 t1 t2)(Z:ZAt s.heap z TI TO i1 i2 t1 t2 xs ys i)(hx:xs[i]? = none)
  (hE:∀h' e,(∀c o,c≠z->c≠TO->c≠i1->c≠i2->s.heap.get? c=some o->h'.get? c=some o)->(∃o,h'.get? e=some o/\o.cls = .type "StopIteration")->E (.ref e) { s with heap:=h' }):
  wpAny (model prog w) A (Builtin.«zip.__next__» ⟨[.ref z], []⟩) Q E s := by
 obtain⟨⟨f0,f1,h0,hz⟩,hTI,⟨a,b,hTO⟩,h1,h2,hl1,hl2⟩:=Z
 show wpAny _ _ (field (.ref z) 2 >>= _) _ _ _
 refine wpAny_bind (wpAny_field hz rfl (x:=.bool false) rfl ?_)
 show wpAny _ _ (field (.ref z) 3 >>= _) _ _ _
 refine wpAny_bind (wpAny_field hz rfl (x:=.ref TI) rfl ?_)
 refine wpAny_bind (wpAny_seqItems hTI rfl ?_)
 show wpAny _ _ (Builtin.SmallTypes.ownedTupleIsFree (.ref z) >>= _) _ _ _
 refine wpAny_bind (Zbs h0 hz ?_ fun h₁ f1' hz₁ sz₁ hs₁=>?_)
 ·simp only [if_true]
  refine wpAny_bind (wpAny_rule ?_)
  refine wpAny_bind (wpAny_field hz rfl (x:=.ref TO) rfl ?_)
  refine wpAny_bind (wpAny_setField_rec hz (by simp) fun h₁ hz₁ hs₁=>?_)
  replace hz₁:Zac h₁ z TI TO .ellipsis f1:=hz₁
  refine wpAny_bind ?_
  simp only [zipIdx_cons,zipIdx_nil,forIn_cons,forIn_nil]
  refine wpAny_bind (wpAny_bind (wpAny_onRaise ?_))
  show wpAny _ _ (Builtin.SmallTypes.nextOf (.ref i1) >>= _) _ _ _
  refine wpAny_bind (Z6l hh (h1.extBut hs₁.extBut D.i1z) (Z56 hl1 hs₁.extBut D.l1z) hx fun h₂ e hs₂ he=>?_)
  obtain⟨oe,hoe,hce⟩:=he
  have hz₂:Zac h₂ z TI TO .ellipsis f1:=hs₂ _ _ D.i1z.symm hz₁
  have hez:e≠z:=fun x=>by subst x;rw[hz₂] at hoe;cases hoe;simp at hce
  refine wpAny_setField_rec hz₂ (by simp) fun h₃ _ hs₃=>hE h₃ e (fun c o c1 _ c3 _ x=>hs₃.extBut _ _ c1 (hs₂ _ _ c3 (hs₁.extBut _ _ c1 x))) ⟨oe,hs₃.extBut _ _ hez hoe,hce⟩
 ·simp only [Bool.false_eq_true,if_false]
  refine wpAny_bind ?_
  simp only [List.forIn_toArray,forIn_cons,forIn_nil]
  refine wpAny_bind (wpAny_bind (wpAny_holding ?_))
  show wpAny _ _ (Builtin.SmallTypes.nextOf (.ref i1) >>= _) _ _ _
  refine wpAny_bind (Z6l (z:={ s with heap:=h₁ }) hh (h1.extBut hs₁ D.i1z) (Z56 hl1 hs₁ D.l1z) hx fun h₂ e hs₂ he=>?_)
  exact hE h₂ e (fun c o c1 _ c3 _ x=>hs₂ _ _ c3 (hs₁ _ _ c1 x)) he
theorem Zhi {z TI TO i1 i2 t1 t2:Addr}{i:Nat}{xs ys:Array Value}{x y:Value}{Q:Option Value->Shared->Prop}(D:ZipApart z TI TO i1 i2 t1 t2)(Z:ZAt s.heap z TI TO i1 i2 t1 t2 xs ys i)(hx:xs[i]? = some x)(hy:ys[i]? = some y)
  (hQ:∀h' T,s.heap.objs.size<=T->ZAt h' z TI TO i1 i2 t1 t2 xs ys (i+1)->IsPair h' T x y->(∀c o,c≠z->c≠TO->c≠i1->c≠i2->s.heap.get? c=some o->h'.get? c=some o)->Q (some (.ref T)) { s with heap:=h' }):
  wpAny (model prog w) A (pyNext (.ref z)) Q E s:=by
 have hT:s.TypeIs (.ref z) "zip":=by obtain⟨f0,f1,_,hz⟩:=Z.z;exact⟨_,hz,rfl⟩
 unfold pyNext
 exact wpAny_bind (wpAny_attempt (wpAny_callSpecial?_slot (name:=Str.ofString "__next__") hT F.slot_zip_next
  (wpAny_call_entry F.slot_zip_next hT F.entry_zip_next
   (Zhg D Z hx hy fun h' T a1 a2 a3 a4=>wpAny_pure (hQ h' T a1 a2 a3 a4)) (F.args_zip_next_1 _))))
theorem Zew {z TI TO i1 i2 t1 t2:Addr}{i:Nat}{xs ys:Array Value}{Q:Option Value->Shared->Prop}(hh:A.handled=none)(D:ZipApart z TI TO i1 i2 t1 t2)(Z:ZAt s.heap z TI TO i1 i2 t1 t2 xs ys i)(hx:xs[i]? = none)
  (hQ:∀h',(∀c o,c≠z->c≠TO->c≠i1->c≠i2->s.heap.get? c=some o->h'.get? c=some o)->Q none { s with heap:=h' }):wpAny (model prog w) A (pyNext (.ref z)) Q E s:=by
 have hT:s.TypeIs (.ref z) "zip":=by obtain⟨f0,f1,_,hz⟩:=Z.z;exact⟨_,hz,rfl⟩
 unfold pyNext
 refine wpAny_bind (wpAny_attempt (wpAny_callSpecial?_slot (name:=Str.ofString "__next__") hT F.slot_zip_next
  (wpAny_call_entry F.slot_zip_next hT F.entry_zip_next (Zhh hh D Z hx fun h' e hk he=>?_) (F.args_zip_next_1 _))))
 obtain⟨o,ho,hc⟩:=he
 refine wpAny_bind (wpAny_isInstance (T:="StopIteration") (b:=true) ⟨o,ho,hc⟩ isSubtype_stop ?_)
 exact wpAny_pure (hQ _ hk)
end
abbrev zH1 (h:Heap)(l1:Addr):Heap:=h.push { cls:=.type "tuple_iterator",data:=.fields #[.ref l1,.int 0 0] }
abbrev zH2 (h:Heap)(l1 l2:Addr):Heap:=(zH1 h l1).push { cls:=.type "tuple_iterator",data:=.fields #[.ref l2,.int 0 0] }
abbrev zH3 (h:Heap)(l1 l2:Addr):Heap:=(zH2 h l1 l2).push { cls:=.type "tuple",data:=.seq #[.ref h.objs.size,.ref (zH1 h l1).objs.size] }
abbrev zH4 (h:Heap)(l1 l2:Addr):Heap:=(zH3 h l1 l2).push { cls:=.type "tuple",data:=.seq #[.none,.none] }
abbrev zH5 (h:Heap)(l1 l2:Addr):Heap:=(zH4 h l1 l2).push { cls:=.type "zip",data:=.fields #[.none,.bool false,.bool false,.ref (zH2 h l1 l2).objs.size,.ref (zH3 h l1 l2).objs.size] }
theorem Zjz {h:Heap}{t:Addr}{xs:Array Value}(x:h.IsTuple t xs)(o:Obj):(h.push o).IsTuple t xs:=by
 obtain⟨q,q1,q2⟩:=x
 exact⟨q,Heap.get?_push_of_some _ q1,q2⟩
theorem Zhj (l1 l2:Addr)(xs ys:Array Value):
  Meets (Builtin.«zip.__new__» ⟨[.type "zip", .ref l1, .ref l2], []⟩) (fun _ R s => s.heap.IsTuple l1 xs /\ s.heap.IsTuple l2 ys ∧
   R (.ok (.ret (.ref (zH4 s.heap l1 l2).objs.size))) { s with heap:=zH5 s.heap l1 l2 }):=
 .of_wp fun prog w A R s h=>by
  obtain⟨hp,g,d,tk,os⟩:=s;obtain⟨hl1,hl2,h⟩:=h
  have hsub:=sub_zip
  have hL1:Heap.IsTuple (Shared.heap ⟨hp,g,d,tk,os⟩) l1 xs:=hl1
  have hL2:Heap.IsTuple (Shared.heap ⟨hp.push { cls:=.type "tuple_iterator",data:=.fields #[.ref l1,.int 0 0] },g,d,tk,os⟩) l2 ys:=Zjz hl2 _
  wp_walk using wpAny_pyIter_tuple hL1,wpAny_pyIter_tuple hL2
  exact⟨_,rfl,h⟩
section
variable {prog:Program}{w:World}{A:Around}{E:Value->Shared->Prop}{s:Shared}
theorem Zex {l1 l2:Addr}{xs ys:Array Value}{Q:Value->Shared->Prop}(hl1:s.heap.IsTuple l1 xs)(hl2:s.heap.IsTuple l2 ys)
  (h:∀h',ZAt h' (s.heap.objs.size+4) (s.heap.objs.size+2) (s.heap.objs.size+3) s.heap.objs.size (s.heap.objs.size+1) l1 l2 xs ys 0->ZipApart (s.heap.objs.size+4) (s.heap.objs.size+2) (s.heap.objs.size+3) s.heap.objs.size (s.heap.objs.size+1) l1 l2 →
   (∀c o,s.heap.get? c=some o->h'.get? c=some o)->Q (.ref (s.heap.objs.size+4)) { s with heap:=h' }):
  wpAny (model prog w) A (call (.type "zip") [.ref l1,.ref l2]) Q E s:=by
 refine callType_new F.called_zip (by decide) (F.typeCall_zip_2 _ _) (F.newCall_zip_2 _ _) (fun obj=>F.args_object_init_3 obj _ _) F.entry_zip_new
  (Zhj l1 l2 xs ys) ⟨hl1,hl2,?_⟩
 have z1:(zH1 s.heap l1).objs.size=s.heap.objs.size+1:=Heap.size_push ..
 have z2:(zH2 s.heap l1 l2).objs.size=s.heap.objs.size+2:=by rw[Heap.size_push,z1]
 have z3:(zH3 s.heap l1 l2).objs.size=s.heap.objs.size+3:=by rw[Heap.size_push,z2]
 have z4:(zH4 s.heap l1 l2).objs.size=s.heap.objs.size+4:=by rw[Heap.size_push,z3]
 have g5:(zH5 s.heap l1 l2).get? (zH4 s.heap l1 l2).objs.size=some _:=Heap.get?_push_size _ rfl
 have g4:(zH5 s.heap l1 l2).get? (zH3 s.heap l1 l2).objs.size=some _:=Heap.get?_push_of_some _ (Heap.get?_push_size _ rfl)
 have g3:(zH5 s.heap l1 l2).get? (zH2 s.heap l1 l2).objs.size=some _:=Heap.get?_push_of_some _ (Heap.get?_push_of_some _ (Heap.get?_push_size _ rfl))
 have g2:(zH5 s.heap l1 l2).get? (zH1 s.heap l1).objs.size=some _:=Heap.get?_push_of_some _ (Heap.get?_push_of_some _ (Heap.get?_push_of_some _ (Heap.get?_push_size _ rfl)))
 have g1:(zH5 s.heap l1 l2).get? s.heap.objs.size=some _:=Heap.get?_push_of_some _ (Heap.get?_push_of_some _ (Heap.get?_push_of_some _ (Heap.get?_push_of_some _ (Heap.get?_push_size _ rfl))))
 show _/\_
 rw[z2,z3,z4] at g5
 rw[z1,z2] at g3
 rw[z3] at g4
 rw[z1] at g2
 rw[z4]
 have kp:∀c o,s.heap.get? c=some o->(zH5 s.heap l1 l2).get? c=some o:=fun c o x=>
  Heap.get?_push_of_some _ (Heap.get?_push_of_some _ (Heap.get?_push_of_some _ (Heap.get?_push_of_some _ (Heap.get?_push_of_some _ x))))
 have lt:∀{t xs},s.heap.IsTuple t xs->t<s.heap.objs.size:=fun⟨_,e,_⟩=>Heap.lt_size e
 refine⟨⟨_,g5,rfl⟩,h _ ⟨⟨_,_,.inl rfl,g5⟩,g3,⟨_,_,g4⟩,⟨_,g1,rfl,rfl⟩,⟨_,g2,rfl,rfl⟩,?_,?_⟩ (zipApart_new (lt hl1) (lt hl2)) kp⟩
 ·obtain⟨o,e1,e2⟩:=hl1;exact⟨o,kp _ _ e1,e2⟩
 ·obtain⟨o,e1,e2⟩:=hl2;exact⟨o,kp _ _ e1,e2⟩
theorem Zd6:typeLookup (.type "zip") "__len__"=pure none:=by rw[typeLookup_type,builtinLookup_eq_fast];kernel_rfl
theorem Zam:typeLookup (.type "zip") "__length_hint__"=pure none:=by rw[typeLookup_type,builtinLookup_eq_fast];kernel_rfl
theorem Zhk {z:Addr}{Q:Bool->Shared->Prop}(hT:s.TypeIs (.ref z) "zip")(h:Q true s):wpAny (model prog w) A (List.listLengthHint (.ref z)) Q E s:=by
 unfold List.listLengthHint
 refine wpAny_bind (wpAny_specialOf hT Zd6 ?_)
 dsimp only
 rw[if_neg (by decide+kernel)]
 rw[if_neg (by decide+kernel)]
 refine wpAny_bind (wpAny_specialOf hT Zam ?_)
 exact wpAny_pure h
end
structure Zipd (H:Hp)(l:Addr)(xs ys:List V)(i:Nat)(H':Hp):Prop where
 same:∀b o,b≠l->H b=some o->H' b=some o
 ps:∃ps:List Addr,ps.length=i/\H' l=some (.lst (ps.map V.ref))/\∀(j:Nat) (p:Addr),ps[j]? = some p->p≠l/\∃x y,xs[j]? = some x/\ys[j]? = some y/\H' p=some (.tup [x,y])
section
variable {X:Cx}{pins:List (Addr×Obj)}{σ:St}
theorem Zhl {H0:Hp}{S z TI TO i1 i2 t1 t2:Addr}{xs ys:List V}{us ws:List Value}(hc:X.calm=true){A:Around}(hA:A.handled=none)(D:ZipApart z TI TO i1 i2 t1 t2)(v1:Vals xs us)(v2:Vals ys ws)(hl:xs.length=ys.length)(hz:xs.length<=sizeLine)
  (nS:S≠z/\S≠TO/\S≠i1/\S≠i2/\S≠TI/\S≠t1/\S≠t2) {res:Value} {R:Result->Shared->Prop} (hR:∀s' H',Inv X pins σ H' s'->Zipd H0 S xs ys xs.length H'->R (.ok (.ret res)) s'):
  ∀(k i:Nat) (s:Shared) (H:Hp),xs.length-i=k->i<=xs.length->Inv X pins σ H s->(∀b ∈ [z,TO,i1,i2],Z3x X pins H b)->ZAt s.heap z TI TO i1 i2 t1 t2 us.toArray ws.toArray i->Zipd H0 S xs ys i H →
   codeAny (model X.prog X.w) A (.builtin "list.extend.loop" ⟨[.ref S,.ref z,res],[]⟩) R s:=by
 have l1:=v1.length
 have l2:=v2.length
 intro k
 induction k with
 |zero=>
  intro i s H hk hi I hf Z zp
  have hin:i=xs.length:=by omega
  subst hin
  refine codeAny_builtin F.entry_extend_loop ?_
  rw[Around.under_plainId F.plain_extend_loop _]
  show wpAny _ A.in1 (pyNext (.ref z) >>= _) _ _ s
  refine wpAny_bind (Zew (A:=A.in1) hA D Z (by simp;omega) fun h' kk=>?_)
  refine wpAny_pure (hR _ H (I.turnedL (t':=s.toks) (ch:=[z,TO,i1,i2]) (fun b o hb e=>?_) hf) zp)
  simp only [mem_cons,not_mem_nil,or_false,not_or] at hb
  exact kk b o hb.1 hb.2.1 hb.2.2.1 hb.2.2.2 e
 |succ k ih=>
  intro i s H hk hi I hf Z zp
  have hlt:i<xs.length:=by omega
  have e1:xs[i]? = some xs[i]:=List.getElem?_eq_getElem hlt
  have e2:ys[i]? = some (ys[i]'(by omega)):=List.getElem?_eq_getElem (by omega)
  obtain⟨u1,f1,r1⟩:=v1.get e1
  obtain⟨u2,f2,r2⟩:=v2.get e2
  refine codeAny_builtin F.entry_extend_loop ?_
  rw[Around.under_plainId F.plain_extend_loop _]
  show wpAny _ A.in1 (pyNext (.ref z) >>= _) _ _ s
  refine wpAny_bind (Zhi (A:=A.in1) D Z (x:=u1) (y:=u2) (by simp [f1]) (by simp [f2]) fun h' T hT Z' hp kk=>?_)
  have nT:H T=none:=I.hok.fresh hT
  have I1:Inv X pins σ (upd H T (.tup [xs[i],ys[i]'(by omega)])) { s with heap:=h',toks:=s.toks }:=by
   refine I.turnedLaid (a:=T) (ch:=[z,TO,i1,i2]) (fun b o hb e=>?_) hf hT ⟨by show 2<=sizeLine;decide,[u1,u2],.cons r1 (.cons r2 .nil),?_⟩
   ·simp only [mem_cons,not_mem_nil,or_false,not_or] at hb
    exact kk b o hb.1 hb.2.1 hb.2.2.1 hb.2.2.2 e
   ·exact⟨_,hp,rfl,_,rfl⟩
  obtain⟨sm,ps,pl,hS,pj⟩:=zp
  have hTS:S≠T:=fun q=>by rw[q,nT] at hS;cases hS
  have hS1:upd H T (.tup [xs[i],ys[i]'(by omega)]) S=some (.lst (ps.map V.ref)):=by rw[Z09 hTS];exact hS
  obtain⟨zz,its,n,rv,hll,hget⟩:=I1.lstM hS1
  have hl3:its.length=i:=by rw[<- hll,length_map,pl]
  show wpAny _ A.in1 (updateSeq S (·.push (.ref T)) >>= _) _ _ _
  refine wpAny_bind ?_
  refine wpAny_updateSeq hget rfl (wpAny_pure ⟨plainId_quiet F.plain_extend_loop _,?_⟩) (by rw[size_toArray];omega) (by show(its.toArray.push (.ref T)).size<=sizeLine+1;rw[Array.size_push,size_toArray];omega)
  have I2:=I1.lset (ys:=ps.map V.ref ++ [.ref T]) (t':=s.toks) (f:=fun x=>x.push (.ref T)) (its':=its ++ [.ref T]) hS1 hget (by simp) (rv.append (.cons (show RelV (.ref T) (Value.ref T) from rfl) .nil)) (by rw[length_append,length_map,pl];show i+1<=sizeLine;omega)
  have kz:∀b o,b≠S->h'.get? b=some o->(h'.update S (Obj.mapSeq fun x=>x.push (.ref T))).get? b=some o:=fun b o hb e=>(Heap.get?_update_other _ _ (Ne.symm hb)).trans e
  refine ih (i+1) _ _ (by omega) hlt I2 (fun b hb=>?_) ?_ ?_
  ·have q:=hf b hb
   refine⟨?_,q.2⟩
   have hbS:b≠S:=fun z=>by rw[z] at q;rw[q.1] at hS;cases hS
   have hbT:b≠T:=fun y=>by
    have lt:b<s.heap.objs.size:=by
     simp only [mem_cons,not_mem_nil,or_false] at hb
     rcases hb with rfl|rfl|rfl|rfl
     ·obtain⟨_,_,_,e⟩:=Z.z;exact Heap.lt_size e
     ·obtain⟨_,_,e⟩:=Z.to;exact Heap.lt_size e
     ·obtain⟨_,e,_⟩:=Z.g1;exact Heap.lt_size e
     ·obtain⟨_,e,_⟩:=Z.g2;exact Heap.lt_size e
    exact absurd (Nat.lt_of_lt_of_le lt hT) (by rw[y];exact Nat.lt_irrefl _)
   rw[Z09 hbS,Z09 hbT]
   exact q.1
  ·obtain⟨⟨f0,f1,h0,hz'⟩,hTI,⟨a,b,hTO⟩,g1,g2,ul1,ul2⟩:=Z'
   refine⟨⟨f0,f1,h0,kz _ _ nS.1.symm hz'⟩,kz _ _ nS.2.2.2.2.1.symm hTI,⟨a,b,kz _ _ nS.2.1.symm hTO⟩,g1.at fun o e=>kz _ o nS.2.2.1.symm e,g2.at fun o e=>kz _ o nS.2.2.2.1.symm e,?_,?_⟩
   ·obtain⟨o,q1,q2⟩:=ul1;exact⟨o,kz _ _ nS.2.2.2.2.2.1.symm q1,q2⟩
   ·obtain⟨o,q1,q2⟩:=ul2;exact⟨o,kz _ _ nS.2.2.2.2.2.2.symm q1,q2⟩
  ·refine⟨fun b o hb e=>?_,ps ++ [T],by rw[length_append,pl];rfl,by rw[Z00,map_append];rfl,fun j p hj=>?_⟩
   ·have:=sm b o hb e
    rw[Z09 hb,Z09 (Z0e this nT)]
    exact this
   ·by_cases hji:j<ps.length
    ·rw[List.getElem?_append_left hji] at hj
     obtain⟨np,x,y,a1,a2,a3⟩:=pj j p hj
     refine⟨np,x,y,a1,a2,?_⟩
     rw[Z09 np,Z09 (Z0e a3 nT)]
     exact a3
    ·rw[List.getElem?_append_right (by omega)] at hj
     have hj0:j-ps.length=0:=by
      cases q:j-ps.length with
      |zero=>rfl
      |succ m=>rw[q] at hj;simp at hj
     rw[hj0] at hj
     have hp':T=p:=by simpa using hj
     subst hp'
     have hji':j=i:=by omega
     subst hji'
     exact⟨hTS.symm,_,_,e1,e2,by rw[Z09 hTS.symm,Z00]⟩
end
end L2
namespace L2
open PySem PySem.Spec PyProof.Rows
end L2
namespace L2
open PySem PySem.Spec PyProof.Rows
open Sem (wp)
open AutoSeq1 (wpAny_loadPart')
section
variable {P:Program}{w:World}{A:Around}{E:Value->Shared->Prop}{s:Shared}
theorem Z6n {d:Addr}{kvs:List (Key×Value)}{Q:Value->Shared->Prop}(hh:A.handled=none)(lo:(d==sysModules)=false)(dd:s.heap.DictOf (Z0w P w) d kvs)(lz:kvs.length<=sizeLine)
  (h:∀(h':Heap) (tk:Nat) (acc:Array Value),acc.size=kvs.length->(∀(j:Nat) (v:Value),acc[j]? = some v->∃k x,kvs[j]? = some (k,x)/\(Z0w P w).is k v=true) →
   (∀b o,s.heap.get? b=some o->h'.get? b=some o)->Q (.ref h'.objs.size) { s with heap:=h'.push { cls:=.type "tuple",data:=.seq acc },toks:=tk }):
  codeAny (model P w) A (.call (.builtin "tuple.__new__") ⟨[.type "tuple",.ref d],[]⟩) (wants Q E) s:=by
 obtain⟨ep,hat⟩:=dd.dictAt
 refine codeAny_of_tree ?_
 show wpAny _ A.in1 (do checkBuiltinCall "tuple.__new__" ⟨[.type "tuple",.ref d],[]⟩;again (.builtin "tuple.__new__" ⟨[.type "tuple",.ref d],[]⟩)) _ _ s
 refine wpAny_bind (wpAny_of_eq (PySem.F.newCall_tuple_1 _) (wpAny_pure ⟨plainId_quiet PySem.F.plain_tuple_new _,codeAny_builtin PySem.F.entry_tuple_new ?_⟩))
 rw[Around.under_plainId PySem.F.plain_tuple_new _]
 have hsub:=sub_tuple_self
 have hinit:=init_tuple_lookup
 have hmh:=madeHere_tuple
 have hTI:s.TypeIs (.ref d) "dict":=dd.typeIs
 have hh1:A.in1.handled=none:=hh
 have src:=W.kdl_dict (prog:=P) (w:=w) (knd:=Z0w P w) (kvs:=kvs) (ep:=ep) lo
 wp_walk using wpAny_typeOf hTI,W.kdu_collect (A:=A.in1) src hh1 hat lz
 intro h' tk acc hk hacc
 show wpAny _ _ (Builtin.Tuple.tupleExact acc.toList.toArray >>= fun v=>ret v) _ _ _
 unfold Builtin.Tuple.tupleExact
 have e:acc.toList.toArray=acc:=by simp
 refine wpAny_bind (wpAny_newObj_type ?_ (by show acc.toList.toArray.size<=sizeLine;rw[e,hacc.1];exact lz))
 refine wpAny_pure ?_
 rw[e]
 refine h h' tk acc hacc.1 (fun j v hv=>?_) hk
 obtain⟨k,x,hx,hq⟩:=hacc.2 j v hv
 exact⟨k,x,hx,hq⟩
theorem Zd7 {d:Addr}{kvs:List (Key×Value)}{Q:Value->Shared->Prop}(hh:A.handled=none)(lo:(d==sysModules)=false)(dd:s.heap.DictOf (Z0w P w) d kvs)(lz:kvs.length<=sizeLine)
  (h:∀(h':Heap) (tk:Nat) (acc:Array Value),acc.size=kvs.length->(∀(j:Nat) (v:Value),acc[j]? = some v->∃k x,kvs[j]? = some (k,x)/\(Z0w P w).is k v=true) →
   (∀b o,s.heap.get? b=some o->h'.get? b=some o)->Q (.ref h'.objs.size) { s with heap:=h'.push { cls:=.type "tuple",data:=.seq acc },toks:=tk }):
  wpAny (model P w) A (call (.type "tuple") [.ref d]) Q E s:=by
 refine callType_codes (Q₁:=fun obj s₁=>s₁.TypeIs obj "tuple"/\Q obj s₁) PySem.F.called_tuple (PySem.F.typeCall_tuple_1 _) PySem.F.entry_object_init
  (Z6n hh lo dd lz fun h' tk acc a b c=>⟨⟨_,Heap.get?_push_size _ rfl,rfl⟩,h h' tk acc a b c⟩) fun obj s₁ h₁=>?_
 exact⟨h₁.1,PySem.F.args_object_init_2 obj _,object_init_meets PySem.F.called_tuple.init.lookup PySem.F.called_tuple.made (by decide) P w A.in1 _ s₁ ⟨h₁.1,rfl,h₁.2⟩⟩
theorem Zk0 {x:Str}{v:Value}(h:(Z0w P w).is (.inr x) v=true):∃t,v = .str x t:=by
 have h:Zad (.inr x) v=true:=h
 rcases Z1f h with ⟨i,t,e,_⟩|⟨y,t,e,rfl⟩
 ·cases e
 ·cases e
  exact⟨t,rfl⟩
end
section
variable {X:Cx}
theorem Z9k {P:Program}{w:World}:∀(ks:List Str) (vs:List Value),vs.length=ks.length->(∀(j:Nat) (v:Value) (k:Str),vs[j]? = some v->ks[j]? = some k->∃t,v = .str k t)->Vals (ks.map V.str) vs:=by
 intro ks
 induction ks with
 |nil=>
  intro vs hl _
  rw[eq_nil_of_length_eq_zero hl]
  exact .nil
 |cons n ns ih=>
  intro vs hl h
  match vs,hl with
  |v::vs,hl=>
   obtain⟨t,rfl⟩:=h 0 v n rfl rfl
   exact .cons ⟨t,rfl⟩ (ih vs (by simpa using hl) fun j u m hu hm=>h (j+1) u m (by simpa using hu) (by simpa using hm))
theorem Z6o (hc:X.calm=true):Z3l X (.type "tuple") (fun xs H Q=>∃(p:Addr) (kvs:List (Key×V)) (ks:List Str),xs = [.ref p]/\H p=some (.dK kvs)/\kvs.map (·.1)=ks.map .inr ∧
  ∀a,H a=none->Q (.ref a) (upd H a (.tup (ks.map V.str)))):=by
 intro pins s σ H xs us Q I r h
 obtain⟨p,kvs,ks,rfl,hp,hks,q⟩:=h
 obtain⟨u,rfl,rx⟩:=Z6c r
 cases rx
 obtain⟨z,hd,vs,rel,dd⟩:=Zee I.hok hp
 have hkv:=KV.keys rel
 have hlv:vs.length=ks.length:=by
  have h1:=congrArg List.length hkv
  have h2:=congrArg List.length hks
  simp only [length_map] at h1 h2
  omega
 have hz:vs.length<=sizeLine:=by rw[<- rel.length];exact z
 refine Zd7 (I.ok.hd hc) hd dd hz fun h' tk acc ha hi kp=>?_
 have I1:Inv X pins σ H { s with heap:=h',toks:=tk }:=I.kept (t':=tk) kp
 have hv:Vals (ks.map V.str) acc.toList:=by
  refine Z9k (P:=X.prog) (w:=X.w) ks acc.toList (by rw[Array.length_toList];omega) fun j v k hv hk=>?_
  obtain⟨k',x,hx,hq⟩:=hi j v (by rw[<- Array.getElem?_toList];exact hv)
  have e:(vs.map (·.1))[j]? = some k':=by rw[List.getElem?_map,hx];rfl
  rw[<- hkv,hks,List.getElem?_map,hk] at e
  cases e
  exact Zk0 hq
 have I2:Inv X pins σ (upd H h'.objs.size (.tup (ks.map V.str))) { s with heap:=h'.push { cls:=.type "tuple",data:=.seq acc },toks:=tk }:=
  I1.laid (t':=tk) (fun b o e=>Heap.get?_push_of_some _ e) (Nat.le_refl _) (show ObjOk X.prog X.w _ _ _ (.tup (ks.map V.str)) from⟨by rw[length_map];omega,acc.toList,hv,by simpa using IsTup.new _ _⟩)
 exact⟨.ref h'.objs.size,_,I2,rfl,q _ (I1.hok.fresh (Nat.le_refl _))⟩
end
end L2
namespace L2
open PySem PySem.Spec PyProof.Rows PySem.Builtin PySem.AutoSeq1
end L2
namespace L2
open PySem PySem.Spec PyProof.Rows
end L2
namespace L2
open PySem PySem.Spec PyProof.Rows PySem.Builtin PySem.AutoSeq1
end L2
namespace L2
open PySem PySem.Spec PyProof.Rows
theorem Z9l {xs:List V}{z:Int}(h0:0<=z)(h1:z.toNat<=xs.length):Z5v xs none (some z)=xs.take z.toNat:=by
 have e:HT.sIx xs.length xs.length (some z)=z.toNat:=by
  show(if z<0 then (z+(xs.length:Int)).toNat else min z.toNat xs.length)=_
  rw[if_neg (by omega)]
  omega
 unfold Z5v
 rw[e]
 show(xs.drop 0).take (z.toNat-0)=_
 rw[drop_zero,Nat.sub_zero]
theorem Z2b {xs:List V}{z:Int}(h0:0<=z)(h1:z.toNat<=xs.length):Z5v xs (some z) none=xs.drop z.toNat:=by
 have e:HT.sIx xs.length 0 (some z)=z.toNat:=by
  show(if z<0 then (z+(xs.length:Int)).toNat else min z.toNat xs.length)=_
  rw[if_neg (by omega)]
  omega
 unfold Z5v
 rw[e]
 show(xs.drop z.toNat).take (xs.length-z.toNat)=_
 rw[take_of_length_le (by rw[length_drop];omega)]
theorem Zbt {H:Hp}:∀(n:Nat) {vs:List V} {ts:List Th},IsThs H vs ts->IsThs H (vs.take n) (ts.take n)
 | 0,_,_,_=>by simp only [take_zero];exact .nil
 |_+1,_,_,.nil=>.nil
 |n+1,_,_,.cons h r=>.cons h (Zbt n r)
end L2
namespace K13
open PySem L2
abbrev Z9m:Stmt:=top 4
abbrev Z6p:Stmt:=top 5
abbrev Z7u:Stmt:=top 6
abbrev Z3d:Stmt:=top 8
abbrev Z7v:Stmt:=top 9
abbrev Z3e:Stmt:=top 10
abbrev Z3f:Stmt:=top 12
abbrev Z3g:Stmt:=top 14
abbrev Z2c:Stmt:=top 15
abbrev Z7w:Stmt:=top 16
abbrev Zey:Stmt:=top 18
abbrev Zez:Stmt:=top 19
abbrev Z3h:Stmt:=top 20
abbrev Z57:Stmt:=top 21
abbrev Z32:Stmt:=top 22
abbrev Z9n:Stmt:=top 23
abbrev Z28:Stmt:=top 24
abbrev Zd8:Stmt:=top 25
abbrev Z6q:Stmt:=top 26
abbrev Z4c:Stmt:=top 27
abbrev Z7x:Stmt:=top 28
abbrev Zf0:Stmt:=top 29
abbrev Z5m:Stmt:=top 30
abbrev Z6r:Stmt:=top 31
abbrev Z4u:Stmt:=top 32
abbrev Z6s:Stmt:=top 33
abbrev Z4v:Stmt:=top 34
abbrev Z8e:Stmt:=top 35
abbrev Z9o:Stmt:=top 36
abbrev Z9p:Stmt:=top 37
abbrev Z41:Stmt:=top 38
abbrev Zj1:Stmt:=top 39
abbrev Zk1:Stmt:=top 40
abbrev Z3n:Stmt:=top 41
abbrev Z5n:Stmt:=top 42
abbrev Zan:Stmt:=top 43
abbrev Zdt:Stmt:=top 44
def Z1s (l:Addr)(n:Nat)(z:Int):List (Key×V):=[(Sum.inr "cells",.ref l),(Sum.inr "at",.int n),(Sum.inr "left",.int z)]
structure Feed (H:Hp)(d l:Addr)(ns:List Int)(n:Nat):Prop where
 dc:∃z,H d=some (.dK (Z1s l n z))
 ls:H l=some (.lst (ns.map V.int))
 sz:ns.length<=63
def But (d:Addr)(H H':Hp):Prop:=∀b o,H b=some o->b≠d->H' b=some o
theorem But.refl (d:Addr)(H:Hp):But d H H:=fun _ _ e _=>e
theorem But.trans {d:Addr}{H H1 H2:Hp}(a:But d H H1)(b:But d H1 H2):But d H H2:=fun c o e n=>b c o (a c o e n) n
theorem But.of {d:Addr}{H H1:Hp}(a:Same H H1):But d H H1:=fun c o e _=>a c o e
theorem Zhm (l:Addr)(n:Nat)(z:Int):Z2h (Z1s l n z) (Sum.inr "cells")=some (.ref l):=by with_unfolding_all rfl
theorem Zob (l:Addr)(n:Nat)(z:Int):Z2h (Z1s l n z) (Sum.inr "at")=some (.int n):=by with_unfolding_all rfl
theorem Zk2 (l:Addr)(n:Nat)(z:Int):Z2h (Z1s l n z) (Sum.inr "left")=some (.int z):=by with_unfolding_all rfl
theorem Zme (l:Addr)(n:Nat)(z:Int):Z30 (Z1s l n z) (Sum.inr "at") (.int ((n:Int)+1))=Z1s l (n+1) z:=by with_unfolding_all rfl
theorem Zhn (l:Addr)(n:Nat)(z y:Int):Z30 (Z1s l n z) (Sum.inr "left") (.int y)=Z1s l n y:=by with_unfolding_all rfl
theorem Z6t {H:Hp}{d l:Addr}{n:Nat}{z:Int}(h:H d=some (.dK (Z1s l n z))):DGet H d (.str "cells") (some (.ref l)):=by
 have:=DGet.k (k:=Sum.inr "cells") h;rw[Zhm] at this;exact this
theorem Zmf {H:Hp}{d l:Addr}{n:Nat}{z:Int}(h:H d=some (.dK (Z1s l n z))):DGet H d (.str "at") (some (.int n)):=by
 have:=DGet.k (k:=Sum.inr "at") h;rw[Zob] at this;exact this
theorem Z8f {H:Hp}{d l:Addr}{n:Nat}{z:Int}(h:H d=some (.dK (Z1s l n z))):DGet H d (.str "left") (some (.int z)):=by
 have:=DGet.k (k:=Sum.inr "left") h;rw[Zk2] at this;exact this
theorem Zmg {H:Hp}{d l:Addr}{n:Nat}{z:Int}(h:H d=some (.dK (Z1s l n z))):DPut H d (.str "at") (.int ((n:Int)+1)) (upd H d (.dK (Z1s l (n+1) z))):=by
 have:=DPut.k (k:=Sum.inr "at") (v:=.int ((n:Int)+1)) h (by show 3<sizeLine;decide);rw[Zme] at this;exact this
theorem Zbu {H:Hp}{d l:Addr}{n:Nat}{z y:Int}(h:H d=some (.dK (Z1s l n z))):DPut H d (.str "left") (.int y) (upd H d (.dK (Z1s l n y))):=by
 have:=DPut.k (k:=Sum.inr "left") (v:=.int y) h (by show 3<sizeLine;decide);rw[Zhn] at this;exact this
theorem Feed.ne {H:Hp}{d l:Addr}{ns:List Int}{n:Nat}(F:Feed H d l ns n):l≠d:=by
 obtain⟨⟨z,h⟩,g,_⟩:=F
 exact Z3k g h (by intro q;cases q)
theorem Feed.but {H H':Hp}{d l:Addr}{ns:List Int}{n m:Nat}{z:Int}(F:Feed H d l ns n)(b:But d H H')(h:H' d=some (.dK (Z1s l m z))):Feed H' d l ns m:=⟨⟨z,h⟩,b l _ F.ls F.ne,F.sz⟩
theorem But.upd {d:Addr}{H:Hp}{o:HO}:But d H (upd H d o):=fun c u e n=>by rw[Z09 n];exact e
inductive spFeed_ (K:PySem.W.Frag)(vs:List V)(H:Hp)(Q:VK):Prop
 |mk (a:Addr) (ns:List Int) (_:vs = [.ref a]) (_:SqL K H a (ns.map V.int)) (_:ns.length<=63) (_:∀d l H',Feed H' d l ns 0->H d=none->Same H H'->Q (.ref d) H'):spFeed_ K vs H Q
def Zj2 (K:PySem.W.Frag):Sp:=fun vs H Q _=>spFeed_ K vs H Q
inductive spDraw_ (vs:List V)(H:Hp)(Q:VK):Prop
 |mk (d l:Addr) (ns:List Int) (n:Nat) (m:Int) (_:vs = [.ref d,.int m]) (_:Feed H d l ns n) (_:n<=1000000000000) (_:0<m) (_:m<18446744073709551616) (_:∀r n' H',0<=r->r<m->n'<=n+1->Feed H' d l ns n'->But d H H'->Q (.int r) H'):spDraw_ vs H Q
def spDraw:Sp:=fun vs H Q _=>spDraw_ vs H Q
theorem Zoc {ns:List Int}(h:ns.length<=63):Z5v (ns.map V.int) none (some 63)=ns.map V.int:=by
 have e1:HT.sIx (ns.map V.int).length 0 none=0:=rfl
 have e2:HT.sIx (ns.map V.int).length (ns.map V.int).length (some 63)=min 63 (ns.map V.int).length:=rfl
 unfold Z5v
 rw[e1,e2,drop_zero,take_of_length_le]
 rw[length_map];omega
theorem Zp6 (x:Int) : -(2 ^ 64)<x % 2147483629:=by omega
theorem Zp7 (x:Int):x % 2147483629<2 ^ 64:=by omega
theorem Zf1 (ns:List Int):(ns.map V.int).all Z4l=true:=by
 rw[all_map];exact all_eq_true.mpr fun _ _=>rfl
theorem Feed.same {H H':Hp}{d l:Addr}{ns:List Int}{n:Nat}(F:Feed H d l ns n)(s:Same H H'):Feed H' d l ns n:=let ⟨⟨z,h⟩,g,q⟩:=F;⟨⟨z,s _ _ h⟩,s _ _ g,q⟩
theorem Z58 {xs:List V}(h:xs.length<=1000):xs.length<=sizeLine:=Nat.le_trans h (by decide)
structure Txt0 (mg:Str->Option Value):Prop where
 len:mg "len"=none
 list:mg "list"=none
 range:mg "range"=none
section
variable {P:Program}{w:World}{K:PySem.W.Frag}{mg:Str->Option Value}{base:Heap}
theorem Zmh:FnScope ["_law_script"] ["_law_script"] (Z06 Zey):=⟨rfl,rfl,rfl,by decide+kernel,rfl,by decide+kernel,by decide+kernel⟩
theorem Zk3 {f:Addr}{fd:FuncData}(F:Fun K "_law_feed" "_law_feed" Zey f fd)(T:Txt0 mg):FnOk P w K mg base CX0 1 f fd ["_law_script"] (Zj2 K):=by
 refine F.ok Zmh (fun vs H Q E h=>?_) (fun cdv A outer s H vs Q E hr h=>?_)
 ·obtain⟨a,ns,rfl,_⟩:=h
  rfl
 ·obtain⟨a,ns,rfl,hS,hl,k⟩:=h
  refine⟨_,Z07 (Z0i (Zek (Z27 Z08 (Z16 Z9a (by rfl) T.list (by rfl) (Z0b (Z17 Z3m (pv 0) Z1m (Z1h Z03)) Z01)) (Z27 Z08 Z03 (Z27 Z08 Z03 Zej))) rfl rfl (by intro z;cases z) (by decide))),?_⟩
  intro d hd
  refine⟨_,rfl,_,rfl,a,_,rfl,(Z02 hd).seq hS,fun p hp=>?_⟩
  refine⟨p,_,rfl,.inl (SqL.of Z00),fun l hl'=>?_⟩
  have hdl:d≠l:=Z0e (H:=upd (upd H d (.dK [])) p (.lst (Z5v (ns.map V.int) none (some 63)))) (by rw[Z09 (Z0e Z00 hp)];exact Z00) hl'
  have hpd:p≠d:=fun z=>by rw[z,Z00] at hp;cases hp
  refine⟨by rw[Z09 hdl,Z09 hpd.symm];exact Z00,Z1s l 0 0,rfl,by show 3<=15;decide,?_⟩
  have em:Z6h [] (Z1s l 0 0)=Z1s l 0 0:=by with_unfolding_all rfl
  rw[em]
  refine k d l _ ⟨⟨0,Z00⟩,?_,hl⟩ hd ?_
  ·rw[Z09 hdl.symm,Z00,Zoc hl]
  ·intro b o e
   have hb:(upd H d (.dK [])) b=some o:=Z02 hd b o e
   have hb2:=Z02 (o:=.lst (Z5v (ns.map V.int) none (some 63))) hp b o hb
   rw[Z09 (Z0e e hd)]
   exact Z02 hl' b o hb2
theorem scDraw:FnScope ["_law_feed_here","_law_many","_law_found","_law_at","_law_cell","_law_number"] ["_law_feed_here","_law_many"] (Z06 Zez):=⟨rfl,rfl,rfl,by decide+kernel,rfl,by decide+kernel,by decide+kernel⟩
theorem Z8g {f:Addr}{fd:FuncData}(F:Fun K "_law_draw" "_law_draw" Zez f fd)(T:Txt0 mg):FnOk P w K mg base CX0 1 f fd ["_law_feed_here","_law_many"] spDraw:=by
 refine F.ok scDraw (fun vs H Q E h=>?_) (fun cdv A outer s H vs Q E hr h=>?_)
 ·obtain⟨d,l,ns,n,m,rfl,_⟩:=h
  rfl
 ·obtain⟨d,l,ns,n,m,rfl,FD,hn,hm0,hm1,k⟩:=h
  have hu:=Zm4 hr
  have hu0:=hr.units0
  obtain⟨⟨z,hd⟩,hls,hsz⟩:=id FD
  refine⟨_,Z04 (Z0y (Z0a Zgw (Z0s hu (pv 0) Z08 (fun _ _=>rfl)) Z03 (Z0k _))
    (Z04 (Z0c (i:=2) scDraw.nd rfl (Or.inl rfl) (Z0l Z37 (Z0s hu (pv 0) Z08 (fun _ _=>rfl)) (pv 1))) <|
     Z04 (Z29 hu (pv 0) Z08 (Z0l Z62 (Z0s hu (pv 0) Z08 (fun _ _=>rfl)) (pv 1)) rfl) <|
     Z07 (Z0i (pv 2))) Z0h) <|
   Z04 (Z0c (i:=3) scDraw.nd rfl (Or.inl rfl) (Z0s hu (pv 0) Z08 (fun _ _=>rfl))) <|
   Z04 (Z29 hu (pv 0) Z08 (Z0l Z1q (pv 3) Z03) rfl) <|
   Z04 (Z0c (i:=4) scDraw.nd rfl (Or.inl rfl) (Z0l Z1q (Z0l Z22 (pv 3) (pv 3)) Z03)) <|
   Z0m (Z0y (Z0a (Z48 hu0) (Z0s hu (pv 0) Z08 (fun _ _=>rfl)) (Z0x Z01) (Z0k _))
    (Z07 (Z0c (i:=4) scDraw.nd rfl (Or.inl rfl) (Z0r Z0z (Z0s hu (pv 0) Z08 (fun _ _=>rfl)) (Z0l Z37 (pv 3) (Z0n Z0o (by rfl) T.len PySem.boot_len (Z0b (Z0s hu (pv 0) Z08 (fun _ _=>rfl)) Z01))) (fun _ _=>rfl)))) Z0h) <|
   Z04 (Z0y (Z0a Zlt (pv 4) (Z0l Ziq Z03 Z03) (Z0k _))
    (Z04 (Z29 hu (pv 0) Z08 (Z0l Z62 (pv 4) (pv 1)) rfl) <| Z07 (Z0i (Z0l Z37 (pv 4) (pv 1)))) Z0h) <|
   Z04 (Z0c (i:=5) scDraw.nd rfl (Or.inl rfl) (Z0l Z37 (Z0l Z22 (Z0l Z1q (Z0l Z1q (Z0l Z37 (pv 4) Z03) (Z0l Z22 Z03 (pv 3))) Z03) Z03) Z03)) <|
   Z04 (Z0c (i:=5) scDraw.nd rfl (Or.inl rfl) (Z0l Z37 (Z0l Z1q (Z0l Z1q (Z0l Z22 (pv 5) (pv 5)) (Z0l Z22 Z03 (pv 3))) Z03) Z03)) <|
   Z04 (Z0c (i:=5) scDraw.nd rfl (Or.inl rfl) (Z0l Z37 (Z0l Z1q (Z0l Z22 (pv 5) Z03) (pv 3)) Z03)) <|
   Z07 (Z0i (Z0l Z37 (Z0l Z62 (Z0l Z37 (Z0l Z22 (pv 5) (pv 5)) Z03) Z03) (pv 1))),?_⟩
  refine⟨_,rfl,d,.int z,rfl,Z8f hd,_,_,rfl,rfl,_,rfl,?_⟩
  refine Z1b (fun hz=>?_) (fun hz=>?_)
  ·refine⟨_,rfl,d,.int z,rfl,Z8f hd,_,rfl,_,_,rfl,rfl,hm0,?_⟩
   refine⟨_,rfl,d,.int z,rfl,Z8f hd,_,rfl,_,_,rfl,rfl,⟨hm0,hm1⟩,_,rfl,d,_,rfl,Zbu hd,_,rfl,?_⟩
   exact k _ n _ (Int.emod_nonneg _ (by omega)) (Int.emod_lt_of_pos _ hm0) (Nat.le_succ _) (FD.but But.upd Z00) But.upd
  ·refine⟨_,rfl,d,.int n,rfl,Zmf hd,?_⟩
   refine⟨_,rfl,_,_,rfl,rfl,_,rfl,d,_,rfl,Zmg hd,?_⟩
   have hd1:upd H d (.dK (Z1s l (n+1) z)) d=some (.dK (Z1s l (n+1) z)):=Z00
   have F1:Feed (upd H d (.dK (Z1s l (n+1) z))) d l ns (n+1):=FD.but But.upd Z00
   have B1:But d H (upd H d (.dK (Z1s l (n+1) z))):=But.upd
   generalize upd H d (.dK (Z1s l (n+1) z))=H1 at hd1 F1 B1 ⊢
   have hls1:=F1.ls
   refine⟨_,rfl,_,rfl,_,_,rfl,rfl,.inl ⟨by omega,by omega⟩,_,_,rfl,rfl,?_⟩
   refine⟨fun σ' H'=>∃c o,σ' = [some (.ref d),some (.int m),o,some (.int n),some (.int c),none]/\Feed H' d l ns (n+1)/\But d H H',?_,?_⟩
   ·refine⟨_,rfl,d,.ref l,rfl,Z6t hd1,Nat.zero_le _,fun e he=>⟨l,e,ns.map V.int,[],rfl,rfl,SqL.of (Z02 he _ _ hls1),SqL.of Z00,Zf1 ns,rfl,_,rfl,?_⟩⟩
    have F2:=F1.same (Z02 (o:=.lst []) he)
    have B2:But d H (upd H1 e (.lst [])):=B1.trans (But.of (Z02 he))
    obtain⟨⟨z2,hd2⟩,hls2,_⟩:=id F2
    refine Z1b (fun hne=>?_) (fun hne=>?_)
    ·have hpos:0<(ns.map V.int).length:=by
      cases ns with
      |nil=>exact absurd hne (by decide)
      |cons _ _=>exact Nat.succ_pos _
     obtain⟨v,hv,hat⟩:=Zm6 hpos (n:Int)
     obtain⟨c,_,rfl⟩:=mem_map.mp hv
     refine⟨_,rfl,d,.ref l,rfl,Z6t hd2,_,rfl,_,rfl,d,.ref l,rfl,Z6t hd2,l,ns.map V.int,rfl,.inl (SqL.of hls2),_,_,rfl,rfl,(by show(0:Int)<((ns.map V.int).length:Int);omega),l,ns.map V.int,_,.int c,rfl,rfl,SqL.of hls2,hat,?_⟩
     exact⟨c,none,rfl,F2,B2⟩
    ·exact⟨_,none,rfl,F2,B2⟩
   ·rintro σ' H2 ⟨c,o,rfl,F2,B2⟩
    obtain⟨⟨z2,hd2⟩,hls2,_⟩:=id F2
    refine⟨_,rfl,_,_,rfl,rfl,⟨by decide,by decide,by decide⟩,_,_,rfl,rfl,_,rfl,?_⟩
    refine Z1b (fun hge=>?_) (fun hge=>?_)
    ·refine⟨_,rfl,_,rfl,_,_,rfl,rfl,⟨hm0,hm1⟩,_,rfl,d,_,rfl,Zbu hd2,_,rfl,_,rfl,_,_,rfl,rfl,hm0,?_⟩
     exact k _ (n+1) _ (Int.emod_nonneg _ (by omega)) (Int.emod_lt_of_pos _ hm0) (Nat.le_refl _) (F2.but But.upd Z00) (B2.trans But.upd)
    ·refine⟨_,rfl,_,_,rfl,rfl,(by show(0:Int)<2147483647;decide),_,rfl,_,_,rfl,rfl,.inl ⟨by decide,by decide⟩,_,_,rfl,rfl,_,_,rfl,rfl,_,_,rfl,rfl,.inr ⟨by decide,by decide⟩,_,_,rfl,rfl,(by show(0:Int)<2147483629;decide),?_⟩
     refine⟨_,rfl,_,rfl,_,_,rfl,rfl,.inl ⟨Zp6 _,Zp7 _⟩,_,rfl,_,_,rfl,rfl,.inl ⟨by decide,by decide⟩,_,_,rfl,rfl,_,_,rfl,rfl,_,_,rfl,rfl,(by show(0:Int)<2147483647;decide),?_⟩
     refine⟨_,rfl,_,_,rfl,rfl,.inr ⟨by decide,by decide⟩,_,rfl,_,_,rfl,rfl,_,_,rfl,rfl,(by show(0:Int)<2147483629;decide),?_⟩
     refine⟨_,rfl,_,rfl,_,_,rfl,rfl,.inl ⟨Zp6 _,Zp7 _⟩,_,_,rfl,rfl,(by show(0:Int)<2147483587;decide),_,_,rfl,rfl,⟨by decide,by decide⟩,_,rfl,_,_,rfl,rfl,hm0,?_⟩
     exact k _ (n+1) _ (Int.emod_nonneg _ (by omega)) (Int.emod_lt_of_pos _ hm0) (Nat.le_refl _) F2 B2
def Low (t:Str):Prop:=∀c∈t.cps.toList,97<=c/\c<=122
theorem Zk4:Low "":=by
 have e:("":Str).cps.toList = []:=by decide+kernel
 intro c hc
 rw[e] at hc
 cases hc
theorem Z6u {x y:Str}(a:Low x)(b:Low y):Low (x++y):=by
 intro c hc
 have e:(x++y).cps.toList=x.cps.toList++y.cps.toList:=by
  show(x.cps++y.cps).toList=_
  rw[Array.toList_append]
 rw[e] at hc
 rcases mem_append.mp hc with z|z
 ·exact a c z
 ·exact b c z
theorem Zao {c:Nat}(h:97<=c/\c<=122):Low ⟨#[c]⟩:=by
 intro d hd
 have:d=c:=by simpa using hd
 subst this
 exact h
def Zf2 (t:Str)(x m:Int):Prop:=((t.length:Int)=m/\Low t)/\(0<m->t.cps.toList[0]? = some (97+(x % 26).toNat))
inductive spSpelled_ (vs:List V)(H:Hp)(Q:VK):Prop
 |mk (x m:Int) (_:vs = [.int x,.int m]) (_:0<=m) (_:m<=10) (_:∀t:Str,Zf2 t x m->Q (.str t) H):spSpelled_ vs H Q
def spSpelled:Sp:=fun vs H Q _=>spSpelled_ vs H Q
abbrev abc:Str:="abcdefghijklmnopqrstuvwxyz"
theorem Zmi:∀k:Fin 26,abc.cps.toList[k.val]? = some (97+k.val):=by decide+kernel
theorem Zmj (y:Int):atI abc.cps.toList (y % 26)=some (97+(y % 26).toNat):=by
 have h0:0<=y % 26:=by omega
 have h1:y % 26<26:=by omega
 have e:y % 26=((y % 26).toNat:Int):=by omega
 have h:=Z23 (Zmi ⟨(y % 26).toNat,by omega⟩)
 rw[<- e] at h
 exact h
theorem scSpelled:FnScope ["_law_number","_law_long","_law_word","_law_k"] ["_law_number","_law_long"] (Z06 Z57):=⟨rfl,rfl,rfl,by decide+kernel,rfl,by decide+kernel,by decide+kernel⟩
theorem Zd9 {f:Addr}{fd:FuncData}(F:Fun K "_law_spelled" "_law_spelled" Z57 f fd)(T:Txt0 mg):FnOk P w K mg base CX0 1 f fd ["_law_number","_law_long"] spSpelled:=by
 refine F.ok scSpelled (fun vs H Q E h=>?_) (fun cdv A outer s H vs Q E hr h=>?_)
 ·obtain⟨x,m,rfl,_⟩:=h
  rfl
 ·obtain⟨x,m,rfl,h0,h1,k⟩:=h
  refine⟨_,Z04 (Z0c (i:=2) scSpelled.nd rfl (Or.inl rfl) Z08) <|
   Z04 (Z4n PassesOwn.never rfl (Z1y rfl T.range (Z0b (pv 1) Z01)) (Z0t (i:=3) scSpelled.nd rfl (Or.inl rfl))
    (Z04 (Z0c (i:=2) scSpelled.nd rfl (Or.inl rfl) (Z0l Z38 (pv 2) (Z0r Z96 Z08 (Z0l Z37 (pv 0) Z03) (fun _ _=>rfl)))) <|
     Z07 (Z0c (i:=0) scSpelled.nd rfl (Or.inl rfl) (Z0l Z62 (pv 0) Z03)))) <|
   Z07 (Z0i (pv 2)),?_⟩
  refine⟨_,rfl,m,rfl,by omega,by omega,Z2x (n:=m.toNat) (fun i σ H'=>∃y t o,σ = [some (.int y),some (.int m),some (.str t),o]/\t.length=i/\Low t/\(i=0->y=x)/\(0<i->t.cps.toList[0]? = some (97+(x % 26).toNat))/\H'=H) ⟨x,_,none,rfl,rfl,Zk4,fun _=>rfl,fun z=>absurd z (Nat.lt_irrefl _),rfl⟩ ?_ ?_⟩
  ·rintro i σ H' hi ⟨y,t,o,rfl,ht,hlow,hy,hf,rfl⟩
   have hat:=Zmj y
   refine⟨_,rfl,_,rfl,_,_,rfl,rfl,(by show(0:Int)<26;decide),abc,_,_,rfl,rfl,(by decide+kernel),hat,_,_,rfl,rfl,?_,_,rfl,_,_,rfl,rfl,⟨by decide,by decide⟩,?_⟩
   ·show t.length+1<=sizeLine
    have:sizeLine=16777216:=sizeLine_eq
    omega
   ·refine⟨_,_,_,rfl,by rw[PySem.Str.length_append,ht];rfl,Z6u hlow (Zao (by omega)),fun z=>absurd z (Nat.succ_ne_zero _),fun _=>?_,rfl⟩
    show(t.cps ++ #[97+(y % 26).toNat]).toList[0]? = _
    by_cases hz:i=0
    ·have h2:t.cps.toList = []:=by
      apply eq_nil_of_length_eq_zero
      rw[Array.length_toList]
      show t.length=0
      omega
     rw[Array.toList_append,h2,hy hz]
     rfl
    ·have h2:=hf (by omega)
     rw[Array.toList_append,List.getElem?_append_left (by rw[Array.length_toList];show 0<t.length;omega)]
     exact h2
  ·rintro σ H' ⟨y,t,o,rfl,ht,hlow,_,hf,rfl⟩
   exact⟨_,rfl,k t ⟨⟨by omega,hlow⟩,fun z=>hf (by omega)⟩⟩
end
theorem Z1t (ts:List Str):(ts.map V.str).all Z4l=true:=by
 rw[all_map]
 exact all_eq_true.mpr fun _ _=>rfl
instance (t:Str):Decidable (Low t):=by unfold Low;exact inferInstance
theorem Z6v {x:Str}{lo hi:Option Int}(h:Low x):Low (Txt.slice x lo hi):=by
 unfold Txt.slice
 split
 ·exact h
 ·intro c hc
  have hc':=hc
  simp only [mem_filterMap] at hc'
  obtain⟨i,_,e⟩:=hc'
  refine h c ?_
  rw[Array.mem_toList_iff]
  exact Array.mem_of_getElem? e
def words8:List Str:=["num","name","op","pick","let","set","say","take"]
def words5:List Str:=["do","again","call","own","hole"]
def words13:List Str:=words8++words5
def short12:List Str:=["a","b","c","d","x","y","z","n","v","aa","ab","tmp"]
theorem Zda:∀t∈words13,(1<=t.length/\t.length<=5)/\Low t:=by decide+kernel
theorem Zdb:∀t∈short12,(1<=t.length/\t.length<=5)/\Low t:=by decide+kernel
theorem Z1u (t:Str)(ts:List Str):inV (.str t) (ts.map V.str)=true↔t∈ts:=by
 unfold inV
 rw[List.any_map,List.any_eq_true]
 constructor
 ·rintro⟨y,hy,e⟩
  have e':(y==t)=true:=e
  rw[<- beq_iff_eq.mp e']
  exact hy
 ·intro h
  exact⟨t,h,beq_self_eq_true t⟩
theorem But.lst {d a:Addr}{H H':Hp}{kvs:List (Key×V)}{xs:List V}(b:But d H H')(hd:H d=some (.dK kvs))(h:H a=some (.lst xs)):H' a=some (.lst xs):=b a _ h (Z3k h hd (by intro q;cases q))
theorem Z5o (x y:Str):(x++y).length=x.length+y.length:=PySem.Str.length_append x y
theorem Z5p {x:Str}(h:x.length<=1000):x.length<=sizeLine:=Nat.le_trans h (by decide)
abbrev Nm (t:Str):Prop:=(1<=t.length/\t.length<=8)/\Low t
inductive spLawName_ (vs:List V)(H:Hp)(Q:VK):Prop
 |mk (d l a:Addr) (ns:List Int) (n:Nat) (ts:List Str) (_:vs = [.ref d,.ref a]) (_:Feed H d l ns n) (_:n<=900000000000) (_:H a=some (.lst (ts.map V.str))) (_:ts.length<=89) (_:(∀t∈ts,Nm t)) (_:∀(t:Str) n' H',Nm t->t∉ts->t∉words13->n'<=n+8->Feed H' d l ns n'->But d H H'->Q (.str t) H'):spLawName_ vs H Q
def spLawName:Sp:=fun vs H Q _=>spLawName_ vs H Q
theorem Zbv {t:Str}(h:1<=t.length):∃c,atI t.cps.toList 0=some c:=by
 have hl:t.cps.toList.length=t.length:=by simp [Str.length]
 obtain⟨c,_,e⟩:=Z34 (xs:=t.cps.toList) (i:=0) (by decide) (by rw[hl];omega)
 exact⟨c,e⟩
theorem Zj3 {t:Str}{i:Int}{c:Nat}(h:Low t)(e:atI t.cps.toList i=some c):97<=c/\c<=122:=by
 obtain⟨j,_,e2,_⟩:=Z6e e
 exact h c (mem_of_getElem? e2)
def mi (m:Int)(i:Nat):Int:=(m-1+i) % 8+1
def Z60 (x m:Int)(u:Str)(j:Nat):Prop:=(u.length:Int)=mi m j/\u.cps.toList[0]? = some (97+((x+j) % 26).toNat)
instance (x m:Int)(u:Str)(j:Nat):Decidable (Z60 x m u j):=by unfold Z60;exact inferInstance
theorem Zf3 {x m:Int}{u:Str}{i j:Nat}(hi:i<=103)(hj:j<i)(a:Z60 x m u i)(b:Z60 x m u j):False:=by
 obtain⟨a1,a2⟩:=a
 obtain⟨b1,b2⟩:=b
 unfold mi at a1 b1
 rw[a2] at b2
 have b3:=Option.some.inj b2
 have h1:0<=(x+i) % 26:=by omega
 have h2:0<=(x+j) % 26:=by omega
 omega
structure Left (x m:Int)(ex R:List Str)(i:Nat):Prop where
 few:R.length+i<=103
 all:∀u∈ex,u∈R∨∃j,j<i/\Z60 x m u j
theorem Left.zero {x m:Int}{ex:List Str}(h:ex.length<=102):Left x m ex ex 0:=⟨by omega,fun u hu=>.inl hu⟩
theorem Left.one {x m:Int}{ex R:List Str}(h:ex.length<=102):Left x m ex ex 1:=⟨by omega,fun u hu=>.inl hu⟩
theorem Left.next {x m:Int}{ex R:List Str}{i:Nat}{t:Str}(h:Left x m ex R i)(ht:t∈ex)(k:Z60 x m t i):Left x m ex (R.filter fun u => !decide (Z60 x m u i)) (i+1):=by
 have hR:t∈R:=by
  rcases h.all t ht with z|⟨j,hj,kj⟩
  ·exact z
  ·exact(Zf3 (by have:=h.few;omega) hj k kj).elim
 have hlt:(R.filter fun u => !decide (Z60 x m u i)).length<R.length:=by
  rw[List.length_filter_lt_length_iff_exists]
  exact⟨t,hR,by simp [k]⟩
 refine⟨by have:=h.few;omega,fun u hu=>?_⟩
 rcases h.all u hu with z|⟨j,hj,kj⟩
 ·by_cases q:Z60 x m u i
  ·exact .inr ⟨i,Nat.lt_succ_self _,q⟩
  ·exact .inl (mem_filter.mpr ⟨z,by simp [q]⟩)
 ·exact .inr ⟨j,by omega,kj⟩
theorem Zf4 {X:Cx}{i:Nat}{x:Str}{e:Expr}{te:TE}{pos pos':Pos}(hN:X.N.Nodup)(hi:X.N[i]? = some x)(hx:Loc X.env.scope x)(he:PE X e te)(hs:swapsWith e (some (.Name x pos')) pos.line X.env=pure false)(hf:X.fn x=true∨X.env.scope.names.lookup x=some .local):
  PS X (.Assign [.Name x pos'] e pos) (Zno te (Zcq i)):=Z0c hN hi hx he hs hf
section
variable {P:Program}{w:World}{K:PySem.W.Frag}{mg:Str->Option Value}{base:Heap}
structure Helpers (K:PySem.W.Frag)(mg:Str->Option Value)(fD fS:Addr)(dD dS:FuncData):Prop where
 T:Txt0 mg
 D:Fun K "_law_draw" "_law_draw" Zez fD dD
 bD:Binds K dD ["_law_feed_here","_law_many"] []
 mD:mg "_law_draw"=some (.ref fD)
 S:Fun K "_law_spelled" "_law_spelled" Z57 fS dS
 bS:Binds K dS ["_law_number","_law_long"] []
 mS:mg "_law_spelled"=some (.ref fS)
theorem scLawName:FnScope ["_law_feed_here","_law_taken","_law_words","_law_way","_law_long","_law_number","_law_name_here","_law_word","_law_at"] ["_law_feed_here","_law_taken"] (Z06 Z32):=⟨rfl,rfl,rfl,by decide+kernel,rfl,by decide+kernel,by decide+kernel⟩
inductive Mid (d l a wd:Addr)(ns:List Int)(n k:Nat)(ts:List Str)(H:Hp)(way m x:Int)(σ':St)(H':Hp):Prop
 |mk (t:Str) (n':Nat) (o7 o8:Option V) (_:σ' = [some (.ref d),some (.ref a),some (.ref wd),some (.int way),some (.int m),some (.int x),some (.str t),o7,o8]) (_:Nm t) (_:n'<=n+k) (_:Feed H' d l ns n') (_:H' a=some (.lst (ts.map V.str))) (_:H' wd=some (.lst (words13.map V.str))) (_:But d H H'):Mid d l a wd ns n k ts H way m x σ' H'
theorem Z7y {f fD fS:Addr}{fd dD dS:FuncData}(F:Fun K "_law_name" "_law_name" Z32 f fd)(U:Helpers K mg fD fS dD dS):FnOk P w K mg base CX0 2 f fd ["_law_feed_here","_law_taken"] spLawName:=by
 have GD:FnOk P w K mg base CX0 1 fD dD ["_law_feed_here","_law_many"] spDraw:=Z8g U.D U.T
 have GS:FnOk P w K mg base CX0 1 fS dS ["_law_number","_law_long"] spSpelled:=Zd9 U.S U.T
 refine F.ok scLawName (fun vs H Q E h=>?_) (fun cdv A outer s H vs Q E hr h=>?_)
 ·obtain⟨d,l,a,ns,n,ts,rfl,_⟩:=h
  rfl
 ·obtain⟨d,l,a,ns,n,ts,rfl,F0,hn,A0,hts,hall,k⟩:=h
  have hu0:=hr.units0
  have hsz:sizeLine=16777216:=sizeLine_eq
  have hr1:Room 1 _:=hr.mono (by decide)
  refine'⟨?tt,?body,?fin⟩
  case body=>
   refine' Z04 ?s1 (Z04 ?s2 (Z04 ?s3 (Z04 ?s4 (Z04 ?s5 (Z04 ?s6 (Z0m ?s7 (Z0m ?s8 (Z0m ?s9 (Z0m ?s10 (Z04 ?s11 (Z07 ?s12)))))))))))
   case s1=>exact Z0c (i:=2) scLawName.nd rfl (Or.inl rfl) (Z53 (vs:=words8.map V.str) (by decide+kernel))
   case s2=>exact Z0c (i:=2) scLawName.nd rfl (Or.inl rfl) (Z0l Z24 (pv 2) (Z53 (vs:=words5.map V.str) (by decide+kernel)))
   case s3=>exact Z0c (i:=3) scLawName.nd rfl (Or.inl rfl) (Z05 GD hr1 (by rfl) U.mD U.D.kp U.bD .nil Z0f (Z0d (pv 0) (Z1d Z03 Z01)))
   case s4=>exact Z0c (i:=4) scLawName.nd rfl (Or.inl rfl) (Z0l Z1q Z03 (Z05 GD hr1 (by rfl) U.mD U.D.kp U.bD .nil Z0f (Z0d (pv 0) (Z1d Z03 Z01))))
   case s5=>exact Z0c (i:=5) scLawName.nd rfl (Or.inl rfl) (Z0l Z1q (Z0l Z22 (Z05 GD hr1 (by rfl) U.mD U.D.kp U.bD .nil Z0f (Z0d (pv 0) (Z1d Z03 Z01))) Z03) (Z05 GD hr1 (by rfl) U.mD U.D.kp U.bD .nil Z0f (Z0d (pv 0) (Z1d Z03 Z01))))
   case s6=>exact Z0c (i:=6) scLawName.nd rfl (Or.inl rfl) (Z05 GS hr1 (by rfl) U.mS U.S.kp U.bS .nil Z0f (Z0d (pv 5) (Z0d (pv 4) Z01)))
   case s7=>
    refine' Z0y (Z0a Z1c (pv 3) Z03 (Z0k _)) (Z07 ?b) Z0h
    case b=>
     refine' Z0c (i:=6) scLawName.nd rfl (Or.inl rfl) (Z0l Z38 ?l ?r)
     case l=>exact Z0r Z0z (pv 2) (Z05 GD hr1 (by rfl) U.mD U.D.kp U.bD .nil Z0f (Z0d (pv 0) (Z1d Z03 Z01))) (fun _ _=>rfl)
     case r=>exact Z0r Z96 (pv 6) Z03 (fun _ _=>rfl)
   case s8=>
    refine' Z0y (Z0a Z1c (pv 3) Z03 (Z0k _)) (Z07 ?b) Z0h
    case b=>
     refine' Zf4 (i:=6) ?ha ?hb ?hc ?hd ?he ?hf
     case ha=>exact scLawName.nd
     case hb=>exact rfl
     case hc=>exact(Or.inl rfl)
     case he=>exact rfl
     case hf=>exact(.inr rfl)
     case hd=>
      refine' @Z0r ((Zgy CX0 P w K mg base ["_law_feed_here","_law_taken","_law_words","_law_way","_law_long","_law_number","_law_name_here","_law_word","_law_at"] "_law_name" (Z06 Z32) f cdv A outer s H E).nox) _ _ _ _ _ _ Z0z ?hl (Z05 GD hr1 (by rfl) U.mD U.D.kp U.bD .nil Z0f (Z0d (pv 0) (Z1d Z03 Z01))) ?hp
      case hl=>
       refine' @Z53 ((Zgy CX0 P w K mg base ["_law_feed_here","_law_taken","_law_words","_law_way","_law_long","_law_number","_law_name_here","_law_word","_law_at"] "_law_name" (Z06 Z32) f cdv A outer s H E).nox) _ (short12.map V.str) ?q
       case q=>decide+kernel
      case hp=>exact(fun _ _=>rfl)
   case s9=>
    refine' Z0y ?c (Z07 ?b) Z0h
    case c=>exact(Z4m (Z0a Z1c (pv 3) Z03 (Z0k _)) (Z33 (Z0a (Z48 hu0) (pv 1) (Z0x Z01) (Z0k _)))).pt
    case b=>
     refine' Z0c (i:=6) scLawName.nd rfl (Or.inl rfl) (Z17 Zeo (Z0l Z38 (Z0r Z0z ?x ?y (fun _ _=>rfl)) ?z) Z1m (Z1h ?u))
     case x=>exact pv 1
     case y=>exact(Z05 GD hr1 (by rfl) U.mD U.D.kp U.bD .nil Z0f (Z0d (pv 0) (Z2a (Z0n Z0o (by rfl) U.T.len PySem.boot_len (Z0d (pv 1) Z01)) Z01)))
     case z=>exact pv 6
     case u=>exact Z0l Z1q Z03 (Z0l Z37 (pv 5) Z03)
   case s10=>
    refine' Z0y ?c (Z04 ?b1 (Z04 ?b2 (Z07 ?b3))) Z0h
    case c=>exact(Z4m (Z0a Z1c (pv 3) Z03 (Z0k _)) (Z33 (Z0a (Z48 hu0) (pv 1) (Z0x Z01) (Z0k _)))).pt
    case b1=>
     refine' Z0c (i:=7) scLawName.nd rfl (Or.inl rfl) (Z0r Z0z ?x ?y (fun _ _=>rfl))
     case x=>exact pv 1
     case y=>exact(Z05 GD hr1 (by rfl) U.mD U.D.kp U.bD .nil Z0f (Z0d (pv 0) (Z2a (Z0n Z0o (by rfl) U.T.len PySem.boot_len (Z0d (pv 1) Z01)) Z01)))
    case b2=>exact Z0c (i:=8) scLawName.nd rfl (Or.inl rfl) (Z0l Z37 (pv 5) (Z0n Z99 (by rfl) U.T.len PySem.boot_len (Z0d (pv 7) Z01)))
    case b3=>
     refine' Z0c (i:=6) scLawName.nd rfl (Or.inl rfl) (Z0l Z38 (Z0l Z38 ?x ?y) ?z)
     case x=>exact Z17 Zeo (pv 7) Z1m (Z1h (pv 8))
     case y=>exact Z0r Z96 (pv 6) Z03 (fun _ _=>rfl)
     case z=>exact Z17 Zeo (pv 7) (Z1h (Z0l Z1q (pv 8) Z03)) Z1m
   case s11=>
    refine' Zba PassesOwn.never ?c (Z04 ?b1 (Z04 ?b2 (Z07 ?b3)))
    case c=>exact(Z69 (Z0a Z2k (pv 6) (pv 1) (by with_unfolding_all rfl)) (Z5u (Z0a Z2k (pv 6) (pv 2) (by with_unfolding_all rfl)))).pt
    case b1=>exact Z0c (i:=5) scLawName.nd rfl (Or.inl rfl) (Z0l Z1q (pv 5) Z03)
    case b2=>exact Z0c (i:=4) scLawName.nd rfl (Or.inl rfl) (Z0l Z1q (Z0l Z37 (pv 4) Z03) Z03)
    case b3=>exact Z0c (i:=6) scLawName.nd rfl (Or.inl rfl) (Z05 GS hr1 (by rfl) U.mS U.S.kp U.bS .nil Z0f (Z0d (pv 5) (Z0d (pv 4) Z01)))
   case s12=>exact Z0i (pv 6)
  case fin=>
   refine⟨Z58 (by decide+kernel),fun p hp=>?_⟩
   refine⟨_,rfl,Z58 (by decide+kernel),fun q hq=>⟨p,q,words8.map V.str,words5.map V.str,rfl,rfl,Z02 hq _ _ Z00,Z00,(by decide+kernel),fun wd hwd=>?_⟩⟩
   have s1:=((Z02 (o:=.lst (words8.map V.str)) hp).trans (Z02 (o:=.lst (words5.map V.str)) hq)).trans (Z02 (o:=.lst (words8.map V.str++words5.map V.str)) hwd)
   have W1:upd (upd (upd H p (.lst (words8.map V.str))) q (.lst (words5.map V.str))) wd (.lst (words8.map V.str++words5.map V.str)) wd=some (.lst (words13.map V.str)):=by
    rw[Z00,words13,map_append]
   have F1:=F0.same s1
   have A1:=s1 _ _ A0
   have B1:But d H _:=But.of s1
   generalize upd (upd (upd H p (.lst (words8.map V.str))) q (.lst (words5.map V.str))) wd (.lst (words8.map V.str++words5.map V.str))=H1 at W1 F1 A1 B1 ⊢
   refine⟨_,rfl,d,l,ns,n,_,rfl,F1,by omega,by decide,by decide,fun way n2 H2 _ _ hn2 F2 B2=>?_⟩
   obtain⟨z1,hd1⟩:=F1.dc
   have A2:=B2.lst hd1 A1
   have W2:=B2.lst hd1 W1
   have B2':=B1.trans B2
   refine⟨_,rfl,d,l,ns,n2,_,rfl,F2,by omega,by decide,by decide,fun lg n3 H3 lg0 lg1 hn3 F3 B3=>?_⟩
   obtain⟨z2,hd2⟩:=F2.dc
   have A3:=B3.lst hd2 A2
   have W3:=B3.lst hd2 W2
   have B3':=B2'.trans B3
   refine⟨_,_,rfl,rfl,?_⟩
   refine⟨_,rfl,d,l,ns,n3,_,rfl,F3,by omega,by decide,by decide,fun r4 n4 H4 r40 r41 hn4 F4 B4=>?_⟩
   obtain⟨z3,hd3⟩:=F3.dc
   have A4:=B4.lst hd3 A3
   have W4:=B4.lst hd3 W3
   have B4':=B3'.trans B4
   refine⟨_,_,rfl,rfl,.inr ⟨by decide,by decide⟩,?_⟩
   refine⟨_,rfl,d,l,ns,n4,_,rfl,F4,by omega,by decide,by decide,fun r5 n5 H5 r50 r51 hn5 F5 B5=>?_⟩
   obtain⟨z4,hd4⟩:=F4.dc
   have A5:=B5.lst hd4 A4
   have W5:=B5.lst hd4 W4
   have B5':=B4'.trans B5
   refine⟨_,_,rfl,rfl,?_⟩
   have hx0:0<=r4*456976+r5:=by omega
   refine⟨_,rfl,_,rfl,r4*456976+r5,1+lg,rfl,by omega,by omega,fun t5 ht5=>?_⟩
   obtain⟨⟨hl5,hw5⟩,hf5⟩:=ht5
   have hm0:1<=1+lg:=by omega
   have hm1:1+lg<=8:=by omega
   refine⟨Mid d l a wd ns n 5 ts H way (1+lg) (r4*456976+r5),?_,?_⟩
   ·refine⟨_,rfl,rfl,_,rfl,Z1b (fun _=>?_) (fun _=>?_)⟩
    ·refine⟨_,rfl,_,rfl,d,l,ns,n5,_,rfl,F5,by omega,by decide,by decide,fun r6 n6 H6 r60 r61 hn6 F6 B6=>?_⟩
     obtain⟨z5,hd5⟩:=F5.dc
     have A6:=B6.lst hd5 A5
     have W6:=B6.lst hd5 W5
     obtain⟨v6,hv6,hat6⟩:=Z34 (xs:=words13.map V.str) (i:=r6) r60 (Int.lt_of_lt_of_le r61 (by decide+kernel))
     obtain⟨t6,ht6,rfl⟩:=mem_map.mp hv6
     have h6:=Zda t6 ht6
     obtain⟨c6,hc6⟩:=Zbv (t:=t5) (by omega)
     refine⟨wd,words13.map V.str,r6,.str t6,rfl,rfl,SqL.of W6,hat6,?_⟩
     refine⟨_,rfl,t5,0,c6,rfl,rfl,Z5p (by omega),hc6,?_⟩
     refine⟨t6,⟨#[c6]⟩,rfl,rfl,(by show t6.length+1<=sizeLine;omega),?_⟩
     exact⟨_,n6,none,none,rfl,⟨⟨by rw[Z5o];show 1<=t6.length+1;omega,by rw[Z5o];show t6.length+1<=8;omega⟩,Z6u h6.2 (Zao (Zj3 hw5 hc6))⟩,by omega,F6,A6,W6,B5'.trans B6⟩
    ·exact⟨t5,n5,none,none,rfl,⟨⟨by omega,by omega⟩,hw5⟩,by omega,F5,A5,W5,B5'⟩
   generalize r4*456976+r5=x at hx0 ⊢
   generalize 1+lg=m at hm0 hm1 ⊢
   rintro σ6 H6 ⟨t6,n6,o67,o68,rfl,ht6,hn6,F6,A6,W6,B6⟩
   obtain⟨z6,hd6⟩:=F6.dc
   refine⟨Mid d l a wd ns n 6 ts H way m x,?_,?_⟩
   ·refine⟨_,rfl,rfl,_,rfl,Z1b (fun _=>?_) (fun _=>?_)⟩
    ·refine⟨Z58 (by decide+kernel),fun e he=>?_⟩
     have se:=Z02 (o:=.lst (short12.map V.str)) he
     refine⟨_,rfl,d,l,ns,n6,_,rfl,F6.same se,by omega,by decide,by decide,fun r7 n7 H7 r70 r71 hn7 F7 B7=>?_⟩
     have E7:H7 e=some (.lst (short12.map V.str)):=B7.lst (se _ _ hd6) Z00
     have A7:=B7.lst (se _ _ hd6) (se _ _ A6)
     have W7:=B7.lst (se _ _ hd6) (se _ _ W6)
     obtain⟨v7,hv7,hat7⟩:=Z34 (xs:=short12.map V.str) (i:=r7) r70 (Int.lt_of_lt_of_le r71 (by decide+kernel))
     obtain⟨t7,ht7,rfl⟩:=mem_map.mp hv7
     have h7:=Zdb t7 ht7
     refine⟨e,short12.map V.str,r7,.str t7,rfl,rfl,SqL.of E7,hat7,?_⟩
     exact⟨_,n7,o67,o68,rfl,⟨⟨by omega,by omega⟩,h7.2⟩,by omega,F7,A7,W7,(B6.trans (But.of se)).trans B7⟩
    ·exact⟨t6,n6,o67,o68,rfl,ht6,by omega,F6,A6,W6,B6⟩
   rintro σ7 H7 ⟨t7,n7,o77,o78,rfl,ht7,hn7,F7,A7,W7,B7⟩
   obtain⟨z7,hd7⟩:=F7.dc
   refine⟨Mid d l a wd ns n 7 ts H way m x,?_,?_⟩
   ·refine⟨_,rfl,rfl,_,rfl,Z1b (fun _=>?_) (fun _=>Zab ⟨t7,n7,o77,o78,rfl,ht7,by omega,F7,A7,W7,B7⟩)⟩
    refine⟨_,rfl,Nat.zero_le _,fun e he=>⟨a,e,ts.map V.str,[],rfl,rfl,SqL.of (Z02 he _ _ A7),SqL.of Z00,Z1t ts,rfl,_,rfl,?_⟩⟩
    have se:=Z02 (o:=.lst []) he
    have F7':=F7.same se
    have A7':=se _ _ A7
    have W7':=se _ _ W7
    have B7':=B7.trans (But.of (d:=d) se)
    obtain⟨z7',hd7'⟩:=F7'.dc
    generalize upd H7 e (.lst [])=H7e at F7' A7' W7' B7' hd7' ⊢
    refine Z1b (fun hne=>?_) (fun _=>⟨t7,n7,o77,o78,rfl,ht7,by omega,F7',A7',W7',B7'⟩)
    have hpos:0<(ts.map V.str).length:=by
     cases ts with
     |nil=>exact absurd hne (by decide)
     |cons _ _=>exact Nat.succ_pos _
    have hfew:(ts.map V.str).length<=89:=by rw[length_map];exact hts
    refine⟨_,rfl,_,rfl,_,rfl,a,ts.map V.str,rfl,.inl (SqL.of A7'),d,l,ns,n7,_,rfl,F7',by omega,(by show(0:Int)<((ts.map V.str).length:Int);omega),(by show((ts.map V.str).length:Int)<18446744073709551616;omega),fun r8 n8 H8 r80 r81 hn8 F8 B8=>?_⟩
    have A8:=B8.lst hd7' A7'
    have W8:=B8.lst hd7' W7'
    obtain⟨v8,hv8,hat8⟩:=Z34 (xs:=ts.map V.str) (i:=r8) r80 r81
    obtain⟨t8,ht8,rfl⟩:=mem_map.mp hv8
    have h8:=hall t8 ht8
    refine⟨a,ts.map V.str,r8,.str t8,rfl,rfl,SqL.of A8,hat8,?_⟩
    refine⟨_,rfl,t8,t7,rfl,rfl,(by omega),?_⟩
    have hlen:(t8++t7).length=t8.length+t7.length:=Z5o _ _
    refine⟨_,rfl,_,_,rfl,rfl,(by show(0:Int)<8;decide),_,_,rfl,rfl,_,rfl,_,rfl,Z5p (by omega),?_⟩
    have hj:1<=1+x % 8:=by omega
    have hj2:1+x % 8<=8:=by omega
    have q1:=Zjt (x:=t8++t7) (j:=1+x % 8) (by omega) hj
    have q2:=Ziy (x:=t8++t7) (j:=1+x % 8) (by omega)
    exact⟨_,n8,o77,o78,rfl,⟨⟨q1,by omega⟩,Z6v (Z6u h8.2 ht7.2)⟩,by omega,F8,A8,W8,B7'.trans B8⟩
   rintro σ8 H8 ⟨t8,n8,o87,o88,rfl,ht8,hn8,F8,A8,W8,B8⟩
   obtain⟨z8,hd8⟩:=F8.dc
   refine⟨Mid d l a wd ns n 8 ts H way m x,?_,?_⟩
   ·refine⟨_,rfl,rfl,_,rfl,Z1b (fun _=>?_) (fun _=>Zab ⟨t8,n8,o87,o88,rfl,ht8,by omega,F8,A8,W8,B8⟩)⟩
    refine⟨_,rfl,Nat.zero_le _,fun e he=>⟨a,e,ts.map V.str,[],rfl,rfl,SqL.of (Z02 he _ _ A8),SqL.of Z00,Z1t ts,rfl,_,rfl,?_⟩⟩
    have se:=Z02 (o:=.lst []) he
    have F8':=F8.same se
    have A8':=se _ _ A8
    have W8':=se _ _ W8
    have B8':=B8.trans (But.of (d:=d) se)
    obtain⟨z8',hd8'⟩:=F8'.dc
    generalize upd H8 e (.lst [])=H8e at F8' A8' W8' B8' hd8' ⊢
    refine Z1b (fun hne=>?_) (fun _=>⟨t8,n8,o87,o88,rfl,ht8,by omega,F8',A8',W8',B8'⟩)
    have hpos:0<(ts.map V.str).length:=by
     cases ts with
     |nil=>exact absurd hne (by decide)
     |cons _ _=>exact Nat.succ_pos _
    have hfew:(ts.map V.str).length<=89:=by rw[length_map];exact hts
    refine⟨_,rfl,_,rfl,_,rfl,a,ts.map V.str,rfl,.inl (SqL.of A8'),d,l,ns,n8,_,rfl,F8',by omega,(by show(0:Int)<((ts.map V.str).length:Int);omega),(by show((ts.map V.str).length:Int)<18446744073709551616;omega),fun r9 n9 H9 r90 r91 hn9 F9 B9=>?_⟩
    have A9:=B9.lst hd8' A8'
    have W9:=B9.lst hd8' W8'
    obtain⟨v9,hv9,hat9⟩:=Z34 (xs:=ts.map V.str) (i:=r9) r90 r91
    obtain⟨t9,ht9,rfl⟩:=mem_map.mp hv9
    have h9:=hall t9 ht9
    refine⟨a,ts.map V.str,r9,.str t9,rfl,rfl,SqL.of A9,hat9,?_⟩
    refine⟨_,rfl,_,rfl,t9,rfl,Z5p (by omega),_,_,rfl,rfl,(by show(0:Int)<(t9.length:Int);omega),?_⟩
    have at0:0<=x % (t9.length:Int):=Int.emod_nonneg _ (by omega)
    have at1:x % (t9.length:Int)<t9.length:=Int.emod_lt_of_pos _ (by omega)
    obtain⟨c9,hc9⟩:=Zbv (t:=t8) ht8.1.1
    have q1:=Ziy (x:=t9) (j:=x % (t9.length:Int)) at0
    have q2:=Zh6 (x:=t9) (i:=x % (t9.length:Int)+1) (by omega) (by omega)
    refine⟨_,rfl,_,rfl,_,rfl,t9,rfl,Z5p (by omega),_,rfl,t8,0,c9,rfl,rfl,Z5p (by omega),hc9,_,⟨#[c9]⟩,rfl,rfl,(by show _+1<=sizeLine;omega),?_⟩
    have hlen:(Txt.slice t9 none (some (x % (t9.length:Int)))++(⟨#[c9]⟩:Str)).length=(Txt.slice t9 none (some (x % (t9.length:Int)))).length+1:=Z5o _ _
    refine⟨_,rfl,_,rfl,_,_,rfl,rfl,_,rfl,t9,rfl,Z5p (by omega),_,_,rfl,rfl,(by omega),?_⟩
    exact⟨_,n9,_,_,rfl,⟨⟨by rw[Z5o];omega,by rw[Z5o];omega⟩,Z6u (Z6u (Z6v h9.2) (Zao (Zj3 ht8.2 hc9))) (Z6v h9.2)⟩,by omega,F9,A9,W9,B8'.trans B9⟩
   rintro σ9 H9 ⟨t9,n9,o97,o98,rfl,ht9,hn9,F9,A9,W9,B9⟩
   have hex:(ts++words13).length<=102:=by
    rw[length_append]
    have:words13.length=13:=by decide+kernel
    omega
   refine Zgv (fun σ H'=>∃(i:Nat) (R:List Str) (t:Str),σ = [some (.ref d),some (.ref a),some (.ref wd),some (.int way),some (.int (mi m i)),some (.int (x+i)),some (.str t),o97,o98]/\Nm t/\Left x m (ts++words13) R i/\(0<i->Z60 x m t i)/\H'=H9)
    (fun(σ:St) (_:Hp)=>match σ[5]? with|some (some (V.int z))=>(x+200-z).toNat|_=>0) ⟨0,_,t9,?_,ht9,Left.zero hex,fun z=>absurd z (Nat.lt_irrefl _),rfl⟩ ?_ ?_
   ·have e1:mi m 0=m:=by unfold mi;omega
    have e2:x+((0:Nat):Int)=x:=by omega
    rw[e1,e2]
   ·rintro σ H' ⟨i,R,t,rfl,ht,hL,hK,rfl⟩
    have hi:i<=103:=by have:=hL.few;omega
    have e1:mi m i % 8+1=mi m (i+1):=by unfold mi;omega
    have e2:x+(i:Int)+1=x+((i+1:Nat):Int):=by omega
    have e3:1<=mi m (i+1)/\mi m (i+1)<=8:=by unfold mi;omega
    have body:t∈ts++words13->∀t':Str,Zf2 t' (x+((i+1:Nat):Int)) (mi m (i+1)) →
      ∃R',Nm t'/\Left x m (ts++words13) R' (i+1)/\(0<i+1->Z60 x m t' (i+1)):=by
     intro hin t' ht'
     have hk:Z60 x m t' (i+1):=⟨ht'.1.1,ht'.2 (by omega)⟩
     have hl:=ht'.1.1
     by_cases hz:i=0
     ·subst hz
      exact⟨_,⟨⟨by omega,by omega⟩,ht'.1.2⟩,Left.one (R:=R) hex,fun _=>hk⟩
     ·exact⟨_,⟨⟨by omega,by omega⟩,ht'.1.2⟩,hL.next hin (hK (by omega)),fun _=>hk⟩
    refine⟨_,rfl,_,rfl,a,ts.map V.str,rfl,.inl (SqL.of A9),rfl,Z1t ts,_,rfl,Z1b (fun g=>Z9f ?_) (fun g=>?_)⟩
    ·refine⟨_,rfl,_,_,rfl,rfl,_,rfl,_,_,rfl,rfl,(by show(0:Int)<8;decide),_,_,rfl,rfl,_,rfl,_,rfl,_,_,rfl,(by rw[e1];omega),(by rw[e1];omega),fun t' ht'=>?_⟩
     rw[e1,e2] at ht'
     obtain⟨R',q1,q2,q3⟩:=body (mem_append.mpr (.inl ((Z1u t ts).mp g))) t' ht'
     refine⟨⟨i+1,R',t',?_,q1,q2,q3,rfl⟩,?_⟩
     ·show[some (.ref d),some (.ref a),some (.ref wd),some (.int way),some (.int (mi m i % 8+1)),some (.int (x+i+1)),some (.str t'),o97,o98]=_
      rw[e1,e2]
     ·show(x+200-(x+i+1)).toNat<(x+200-(x+i)).toNat
      omega
    ·refine⟨_,rfl,_,rfl,wd,words13.map V.str,rfl,.inl (SqL.of W9),rfl,Z1t words13,_,rfl,Z1b (fun g2=>?_) (fun g2=>?_)⟩
     ·refine⟨_,rfl,_,_,rfl,rfl,_,rfl,_,_,rfl,rfl,(by show(0:Int)<8;decide),_,_,rfl,rfl,_,rfl,_,rfl,_,_,rfl,(by rw[e1];omega),(by rw[e1];omega),fun t' ht'=>?_⟩
      rw[e1,e2] at ht'
      obtain⟨R',q1,q2,q3⟩:=body (mem_append.mpr (.inr ((Z1u t words13).mp g2))) t' ht'
      refine⟨⟨i+1,R',t',?_,q1,q2,q3,rfl⟩,?_⟩
      ·show[some (.ref d),some (.ref a),some (.ref wd),some (.int way),some (.int (mi m i % 8+1)),some (.int (x+i+1)),some (.str t'),o97,o98]=_
       rw[e1,e2]
      ·show(x+200-(x+i+1)).toNat<(x+200-(x+i)).toNat
       omega
     ·exact⟨_,rfl,k t n9 _ ht (fun z=>g ((Z1u t ts).mpr z)) (fun z=>g2 ((Z1u t words13).mpr z)) hn9 F9 B9⟩
   ·rintro σ H' Q1 Q2 hq ⟨v,f1,w1,f2,p,xs,f3,f4,f5,f6,c,f7,q⟩
    refine⟨v,f1,w1,f2,p,xs,f3,f4,f5,f6,c,f7,?_⟩
    cases c with
    |true=>exact Z9f (hq _ _ (by simpa using q))
    |false=>
     refine Zab ?_
     simp only [Bool.false_eq_true,if_false] at q
     obtain⟨v,f1,w1,f2,p,xs,f3,f4,f5,f6,c,f7,q⟩:=q
     exact⟨v,f1,w1,f2,p,xs,f3,f4,f5,f6,c,f7,hq _ _ q⟩
end
theorem Z7z {l:List Str}{x:Str}(h:l.Nodup)(hx:x∉l):(l ++ [x]).Nodup:=by
 rw[List.nodup_append]
 refine⟨h,by simp,fun a ha b hb e=>?_⟩
 rw[mem_singleton] at hb
 rw[e,hb] at ha
 exact hx ha
inductive spNames_ (vs:List V)(H:Hp)(Q:VK):Prop
 |mk (d l:Addr) (ns:List Int) (n:Nat) (m:Int) (_:vs = [.ref d,.int m]) (_:Feed H d l ns n) (_:n<=800000000000) (_:0<=m) (_:m<=89) (_:∀(nm:Addr) (ts:List Str) n' H',H nm=none->H' nm=some (.lst (ts.map V.str))->(ts.length:Int)=m->(∀t∈ts,Nm t)->ts.Nodup->n'<=n+8*m.toNat->Feed H' d l ns n'->But d H H'->Q (.ref nm) H'):spNames_ vs H Q
def spNames:Sp:=fun vs H Q _=>spNames_ vs H Q
section
variable {P:Program}{w:World}{K:PySem.W.Frag}{mg:Str->Option Value}{base:Heap}
theorem scNames:FnScope ["_law_feed_here","_law_many","_law_names_here","_law_k"] ["_law_feed_here","_law_many"] (Z06 Z9n):=⟨rfl,rfl,rfl,by decide+kernel,rfl,by decide+kernel,by decide+kernel⟩
theorem Zho {f fN fD fS:Addr}{fd dN dD dS:FuncData}(F:Fun K "_law_names" "_law_names" Z9n f fd)(U:Helpers K mg fD fS dD dS)
  (FN:Fun K "_law_name" "_law_name" Z32 fN dN) (bN:Binds K dN ["_law_feed_here","_law_taken"] []) (mN:mg "_law_name"=some (.ref fN)):FnOk P w K mg base CX0 3 f fd ["_law_feed_here","_law_many"] spNames:=by
 have GN:FnOk P w K mg base CX0 2 fN dN ["_law_feed_here","_law_taken"] spLawName:=Z7y FN U
 refine F.ok scNames (fun vs H Q E h=>?_) (fun cdv A outer s H vs Q E hr h=>?_)
 ·obtain⟨d,l,ns,n,m,rfl,_⟩:=h
  rfl
 ·obtain⟨d,l,ns,n,m,rfl,F0,hn,hm0,hm1,k⟩:=h
  have hsz:sizeLine=16777216:=sizeLine_eq
  refine⟨_,Z04 (Z0c (i:=2) scNames.nd rfl (Or.inl rfl) (Z0x Z01)) <|
   Z04 (Z4n PassesOwn.never rfl (Z1y (by rfl) U.T.range (Z0d (pv 1) Z01)) (Z0t (i:=3) scNames.nd rfl (Or.inl rfl))
    (Z07 (Z3y (Z7g PySem.F.plainAttrs_list PySem.F.slot_list_append PySem.F.type_list_append Z39 (pv 2) (Z2a (Z05 GN hr (by rfl) mN FN.kp bN .nil Z0f (Z0d (pv 0) (Z0d (pv 2) Z01))) Z01))))) <|
   Z07 (Z0i (pv 2)),?_⟩
  refine⟨Nat.zero_le _,fun nm hnm=>?_⟩
  refine⟨_,rfl,m,rfl,by omega,by omega,Z2x (n:=m.toNat) (fun i σ H'=>∃(ts:List Str) (n':Nat) (o:Option V),σ = [some (.ref d),some (.int m),some (.ref nm),o]/\ts.length=i/\(∀t∈ts,Nm t)/\ts.Nodup/\n'<=n+8*i/\Feed H' d l ns n'/\H' nm=some (.lst (ts.map V.str))/\But d H H')
   ⟨[],n,none,rfl,rfl,(fun t ht=>absurd ht not_mem_nil),nodup_nil,Nat.le_refl _,F0.same (Z02 hnm),Z00,But.of (Z02 hnm)⟩ ?_ ?_⟩
  ·rintro i σ H' hi ⟨ts,n',o,rfl,hl,hall,hnd,hn',F',L',B'⟩
   refine⟨_,rfl,.inl ⟨rfl,_,SqL.of L'⟩,_,rfl,_,rfl,d,l,nm,ns,n',ts,rfl,F',by omega,L',by omega,hall,fun t n2 H2 ht htn _ hn2 F2 B2=>?_⟩
   obtain⟨z,hd⟩:=F'.dc
   have L2:=B2.lst hd L'
   refine⟨nm,_,_,rfl,rfl,L2,(by rw[length_map];omega),?_⟩
   have hne:nm≠d:=(Z3k L2 (F2.dc.choose_spec) (by intro q;cases q))
   have hne2:nm≠l:=fun e=>by
    have h0:H l=some _:=F0.ls
    rw[<- e,hnm] at h0
    cases h0
   refine⟨ts ++ [t],n2,_,rfl,by rw[length_append,hl];rfl,?_,Z7z hnd htn,by omega,?_,?_,?_⟩
   ·intro u hu
    rcases mem_append.mp hu with z|z
    ·exact hall u z
    ·rw[mem_singleton.mp z];exact ht
   ·obtain⟨⟨z2,hd2⟩,hls,hz⟩:=F2
    exact⟨⟨z2,by rw[Z09 (Ne.symm hne)];exact hd2⟩,by rw[Z09 (Ne.symm hne2)];exact hls,hz⟩
   ·rw[Z00,map_append];rfl
   ·intro b u e hb
    rw[Z09 (Z0e e hnm)]
    exact B2 b u (B' b u e hb) hb
  ·rintro σ H' ⟨ts,n',o,rfl,hl,hall,hnd,hn',F',L',B'⟩
   exact⟨_,rfl,k nm ts n' H' hnm L' (by omega) hall hnd hn' F' B'⟩
end
theorem But.kp {d l:Addr}{ns:List Int}{n:Nat}{H H':Hp}(b:But d H H')(F:Feed H d l ns n):Kp H H':=by
 obtain⟨⟨z,hd⟩,_,_⟩:=F
 intro a o h hk
 exact b a o h (fun q=>by subst q;rw[hd] at h;cases h;exact hk _ rfl)
theorem Feed.lst {d l a:Addr}{ns:List Int}{n:Nat}{H H':Hp}{xs:List V}(F:Feed H d l ns n)(b:But d H H')(h:H a=some (.lst xs)):H' a=some (.lst xs):=by
 obtain⟨⟨z,hd⟩,_,_⟩:=F
 exact b.lst hd h
inductive spValue_ (vs:List V)(H:Hp)(Q:VK):Prop
 |mk (d l:Addr) (ns:List Int) (n:Nat) (_:vs = [.ref d]) (_:Feed H d l ns n) (_:n<=900000000000) (_:∀(i:Int) n' H',0<=i->i<=1000000000->n'<=n+3->Feed H' d l ns n'->But d H H'->Q (.int i) H'):spValue_ vs H Q
def spValue:Sp:=fun vs H Q _=>spValue_ vs H Q
section
variable {P:Program}{w:World}{K:PySem.W.Frag}{mg:Str->Option Value}{base:Heap}
theorem scLawValue:FnScope ["_law_feed_here","_law_way"] ["_law_feed_here"] (Z06 Z3h):=⟨rfl,rfl,rfl,by decide+kernel,rfl,by decide+kernel,by decide+kernel⟩
theorem Zhp {f fD fS:Addr}{fd dD dS:FuncData}(F:Fun K "_law_value" "_law_value" Z3h f fd)(U:Helpers K mg fD fS dD dS):FnOk P w K mg base CX0 2 f fd ["_law_feed_here"] spValue:=by
 have GD:FnOk P w K mg base CX0 1 fD dD ["_law_feed_here","_law_many"] spDraw:=Z8g U.D U.T
 refine F.ok scLawValue (fun vs H Q E h=>?_) (fun cdv A outer s H vs Q E hr h=>?_)
 ·obtain⟨d,l,ns,n,rfl,_⟩:=h
  rfl
 ·obtain⟨d,l,ns,n,rfl,F0,hn,k⟩:=h
  have hr1:Room 1 _:=hr.mono (by decide)
  refine'⟨?tt,?body,?fin⟩
  case body=>
   refine' Z04 ?s1 (Z04 ?s2 (Z04 ?s3 (Z07 ?s4)))
   case s1=>exact Z0c (i:=1) scLawValue.nd rfl (Or.inl rfl) (Z05 GD hr1 (by rfl) U.mD U.D.kp U.bD .nil Z0f (Z0d (pv 0) (Z1d Z03 Z01)))
   case s2=>exact Z0y (Z0a Z1c (pv 1) Z03 (Z0k _)) (Z07 (Z0i (Z0l Z1v Z03 (Z05 GD hr1 (by rfl) U.mD U.D.kp U.bD .nil Z0f (Z0d (pv 0) (Z1d Z03 Z01)))))) Z0h
   case s3=>exact Z0y (Z0a Z1c (pv 1) Z03 (Z0k _)) (Z07 (Z0i (Z0l Z1q (Z0l Z22 (Z05 GD hr1 (by rfl) U.mD U.D.kp U.bD .nil Z0f (Z0d (pv 0) (Z1d Z03 Z01))) Z03) (Z05 GD hr1 (by rfl) U.mD U.D.kp U.bD .nil Z0f (Z0d (pv 0) (Z1d Z03 Z01)))))) Z0h
   case s4=>exact Z0i (Z05 GD hr1 (by rfl) U.mD U.D.kp U.bD .nil Z0f (Z0d (pv 0) (Z0b (Z0l Z1v (Z0l Z22 Z03 (pv 1)) Z03) Z01)))
  case fin=>
   refine⟨_,rfl,d,l,ns,n,_,rfl,F0,by omega,by decide,by decide,fun way n1 H1 w0 w1 hn1 F1 b1=>?_⟩
   refine⟨_,rfl,rfl,_,rfl,Z1b (fun g=>?_) (fun g=>?_)⟩
   ·refine⟨_,rfl,d,l,ns,n1,_,rfl,F1,by omega,by decide,by decide,fun i n2 H2 i0 i1 hn2 F2 b2=>⟨_,_,rfl,rfl,?_⟩⟩
    exact k _ n2 H2 (by omega) (by omega) (by omega) F2 (b1.trans b2)
   ·refine⟨_,rfl,rfl,_,rfl,Z1b (fun g2=>?_) (fun g2=>?_)⟩
    ·refine⟨_,rfl,d,l,ns,n1,_,rfl,F1,by omega,by decide,by decide,fun i n2 H2 i0 i1 hn2 F2 b2=>⟨_,_,rfl,rfl,.inr ⟨by decide,by decide⟩,?_⟩⟩
     refine⟨_,rfl,d,l,ns,n2,_,rfl,F2,by omega,by decide,by decide,fun j n3 H3 j0 j1 hn3 F3 b3=>⟨_,_,rfl,rfl,?_⟩⟩
     exact k _ n3 H3 (by omega) (by omega) (by omega) F3 ((b1.trans b2).trans b3)
    ·have g':way≠0:=fun z=>g (by rw[z];decide)
     have g2':way≠1:=fun z=>g2 (by rw[z];decide)
     refine⟨_,rfl,_,rfl,_,_,rfl,rfl,.inl ⟨by decide,by decide⟩,_,_,rfl,rfl,d,l,ns,n1,3*way-3,rfl,F1,by omega,by omega,by omega,fun i n2 H2 i0 i1 hn2 F2 b2=>?_⟩
     exact k i n2 H2 i0 (by omega) (by omega) F2 (b1.trans b2)
end
structure TxtT (mg:Str->Option Value):Prop where
 isi:mg "isinstance"=none
 int:mg "int"=none
 bl:mg "bool"=none
 tup:mg "tuple"=none
 len:mg "len"=none
def Z2p (t:Th):Bool := !isTup t
def Z9q (ts:List Th):List Th:=ts.filter Z2p
def lfV:V->Bool
 | .str x=>decide (x.length<=16)&&x.cps.toList.all fun c=>decide (c<16 ^ 8)
 | .int i=>decide (i.natAbs<10 ^ 12)
 |_=>true
structure SS where
 c:List Str
 u:List Str
abbrev NmU (S:SS)(t:Str):Prop:=Nm t/\t∈S.u
theorem Zdc {S:SS}{t:Str}(h:NmU S t):lfV (.str t)=true:=by
 show(decide (t.length<=16)&&t.cps.toList.all fun c=>decide (c<16 ^ 8))=true
 rw[Bool.and_eq_true]
 refine⟨decide_eq_true (by have:=h.1.1.2;omega),all_eq_true.mpr fun c hc=>decide_eq_true ?_⟩
 have:=h.1.2 c hc
 omega
inductive Sh (S:SS):Str->List V->Nat->Prop where
 |num {i:Int}:0<=i->i<=1000000000->Sh S "num" [.int i] 0
 |name {x:Str}:NmU S x->Sh S "name" [.str x] 0
 |take:Sh S "take" [] 0
 |op {c:Nat}:c∈("+-*/<=":Str).cps.toList->Sh S "op" [.str ⟨#[c]⟩] 2
 |pick:Sh S "pick" [] 3
 |lt {x:Str}:NmU S x->Sh S "let" [.str x] 2
 |set {x:Str}:NmU S x->Sh S "set" [.str x] 1
 |say:Sh S "say" [] 1
 |seq {n:Nat}:1<=n->n<=6->Sh S "do" [] n
 |again {i:Int}:0<=i->i<=5->Sh S "again" [.int i] 1
 |call {x:Str} {n:Nat}:x∈S.c->NmU S x->n<=6->Sh S "call" [.str x] n
theorem Sh.turn {S:SS}{w x y:Str}{n:Nat}(h:Sh S w [.str x] n)(hw:w="name"∨w="set")(hy:NmU S y):Sh S w [.str y] n:=by
 cases h with
 |name a=>exact .name hy
 |set a=>exact .set hy
 |op a=>rcases hw with q|q <;> exact absurd q (by decide+kernel)
 |lt a=>rcases hw with q|q <;> exact absurd q (by decide+kernel)
 |call a b c=>rcases hw with q|q <;> exact absurd q (by decide+kernel)
structure HdE (S:SS)(w:Str)(hd:List V)(n:Nat):Prop where
 st:w="set"∨w="name"->∃x:Str,hd = [.str x]
 ca:w="call"->∃x:Str,hd = [.str x]/\x∈S.c
 ag:w="again"->∃i:Int,hd = [.int i]/\0<=i/\i<=5
 lv:∀v∈hd,lfV v=true
 lw:lfV (.str w)=true
 sh:Sh S w hd n
def nd (w:Str)(hd:List V)(ks:List Th):Th:=.tup (.at (.str w)::(hd.map Th.at++ks))
def PfT (S:SS):Nat->Th->Prop
 | 0,_=>False
 |n+1,t=>∃(w:Str) (hd:List V) (ks:List Th),t=nd w hd ks/\hd.length<=1/\(∀v∈hd,plT (.at v)=true)/\(w="let"->(∃x:Str,hd = [.str x])/\ks.length=2)/\HdE S w hd ks.length/\ks.length<=6/\∀k∈ks,PfT S n k
section
variable {S:SS}
theorem PfT.up:∀(n:Nat) {t:Th},(PfT S) n t->(PfT S) (n+1) t:=by
 intro n
 induction n with
 |zero=>intro t h;exact h.elim
 |succ n ih=>
  intro t h
  obtain⟨w,hd,ks,e,h1,h2,h3,h4,h5,h6⟩:=h
  exact⟨w,hd,ks,e,h1,h2,h3,h4,h5,fun k hk=>ih (h6 k hk)⟩
theorem PfT.le {n m:Nat}{t:Th}(h:(PfT S) n t)(hm:n<=m):(PfT S) m t:=by
 induction hm with
 |refl=>exact h
 |step _ ih=>exact PfT.up _ ih
theorem PfT.isTup {n:Nat}{t:Th}(h:(PfT S) n t):isTup t=true:=by
 cases n with
 |zero=>exact h.elim
 |succ n=>obtain⟨w,hd,ks,rfl,_⟩:=h;rfl
theorem Z63 (hd:List V):(hd.map Th.at).filter L2.isTup = []:=by
 induction hd with
 |nil=>rfl
 |cons v hd ih=>rw[map_cons,filter_cons];simpa [L2.isTup] using ih
theorem Z8h (hd:List V):(hd.map Th.at).filter Z2p=hd.map Th.at:=by
 induction hd with
 |nil=>rfl
 |cons v hd ih=>rw[map_cons,filter_cons,if_pos (by rfl),ih]
theorem Z64:∀{ks:List Th},(∀k∈ks,L2.isTup k=true)->ks.filter L2.isTup=ks:=fun h=>List.filter_eq_self.mpr h
theorem Z6w {ks:List Th}(h:∀k∈ks,L2.isTup k=true):ks.filter Z2p = []:=by
 rw[List.filter_eq_nil_iff]
 intro k hk
 unfold Z2p
 rw[h k hk]
 decide
theorem Z42 {w:Str}{hd:List V}{ks:List Th}(h:∀k∈ks,L2.isTup k=true):Z18 (.at (.str w)::(hd.map Th.at++ks))=ks:=by
 unfold Z18
 rw[filter_cons,if_neg (by simp [L2.isTup]),filter_append,Z63,nil_append,Z64 h]
theorem Z35 {w:Str}{hd:List V}{ks:List Th}(h:∀k∈ks,L2.isTup k=true):Z9q (.at (.str w)::(hd.map Th.at++ks)) = .at (.str w)::hd.map Th.at:=by
 unfold Z9q
 rw[filter_cons,if_pos (by rfl),filter_append,Z8h,Z6w h,append_nil]
theorem Zf5:∀{a b:List V},a.map Th.at=b.map Th.at->a=b:=by
 intro a
 induction a with
 |nil=>intro b h;cases b with
  |nil=>rfl
  |cons=>cases h
 |cons x a ih=>intro b h;cases b with
  |nil=>cases h
  |cons y b=>
   rw[map_cons,map_cons] at h
   injection h with h1 h2
   injection h1 with h1
   rw[h1,ih h2]
theorem Zbw:∀a b:List Th,Z4o (a++b)=(Z4o a&&Z4o b):=by
 intro a
 induction a with
 |nil=>intro b;rw[nil_append,Z4o,Bool.true_and]
 |cons x a ih=>intro b;rw[cons_append,Z4o,Z4o,ih,Bool.and_assoc]
theorem Z2s:∀{a:List Th},(∀x∈a,plT x=true)->Z4o a=true:=by
 intro a
 induction a with
 |nil=>intro _;rw[Z4o]
 |cons x a ih=>intro h;rw[Z4o,h x (mem_cons_self ..),ih fun y hy=>h y (mem_cons_of_mem _ hy)];rfl
theorem PfT.pl:∀(n:Nat) {t:Th},(PfT S) n t->plT t=true:=by
 intro n
 induction n with
 |zero=>intro t h;exact h.elim
 |succ n ih=>
  intro t h
  obtain⟨w,hd,ks,rfl,h1,h2,h3,h4,h5,h6⟩:=h
  unfold nd
  rw[plT,Z4o,Zbw,Z2s (a:=hd.map Th.at) fun x hx=>?_,Z2s (a:=ks) fun x hx=>ih (h6 x hx),plT]
  ·rfl
  ·obtain⟨v,hv,rfl⟩:=mem_map.mp hx
   exact h2 v hv
theorem Zmk {n:Nat}:∀{a:List Th},(∀x∈a,dp x<=n)->dps a<=n:=by
 intro a
 induction a with
 |nil=>intro _;rw[dps];exact Nat.zero_le _
 |cons x a ih=>intro h;rw[dps];exact Nat.max_le.mpr ⟨h x (mem_cons_self ..),ih fun y hy=>h y (mem_cons_of_mem _ hy)⟩
end
inductive spLawParts_ (vs:List V)(H:Hp)(Q:VK):Prop
 |mk (v:V) (w0:Str) (ts:List Th) (_:vs = [v]) (_:IsTh H v (.tup (.at (.str w0)::ts))) (_:ts.length<=1000000) (_:∀(p:Addr) (ws:List V) H',Same H H'->H p=none->H' p=some (.lst ws)->IsThs H' ws (Z18 ts)->Q (.ref p) H'):spLawParts_ vs H Q
def spLawParts:Sp:=fun vs H Q _=>spLawParts_ vs H Q
inductive spWith_ (vs:List V)(H:Hp)(Q:VK):Prop
 |mk (v:V) (la:Addr) (ts ks:List Th) (ws:List V) (_:vs = [v,.ref la]) (_:IsTh H v (.tup ts)) (_:ts.length<=1000) (_:H la=some (.lst ws)) (_:IsThs H ws ks) (_:ks.length<=1000) (_:∀(p:Addr) H',Same H H'->IsTh H' (.ref p) (.tup (Z9q ts++ks))->Q (.ref p) H'):spWith_ vs H Q
def spWith:Sp:=fun vs H Q _=>spWith_ vs H Q
inductive spNodes_ (S:SS)(N:Nat)(vs:List V)(H:Hp)(Q:VK):Prop
 |mk (v:V) (t:Th) (_:vs = [v]) (_:IsTh H v t) (_:(PfT S) N t) (_:∀H',Same H H'->Q (.int (cnt t:Nat)) H'):spNodes_ S N vs H Q
def Z6x (S:SS)(N:Nat):Sp:=fun vs H Q _=>spNodes_ S N vs H Q
theorem Z43 {hd:List V}{ks:List Th}(h:∀k∈ks,L2.isTup k=true):Z18 (hd.map Th.at++ks)=ks:=by
 unfold Z18
 rw[filter_append,Z63,nil_append,Z64 h]
theorem Z1l {w:Str}{hd:List V}{ks:List Th}(h:∀k∈ks,L2.isTup k=true):cnt (nd w hd ks)=1+Z1r ks:=by
 unfold nd
 rw[cnt,Zet,Z42 h]
theorem Z3i:∀(a:List Th) (x:Th),Z1r (a ++ [x])=Z1r a+cnt x:=by
 intro a
 induction a with
 |nil=>intro x;simp [Z1r]
 |cons y a ih=>intro x;rw[cons_append,Z1r,Z1r,ih];omega
section
variable {P:Program}{w:World}{K:PySem.W.Frag}{mg:Str->Option Value}{base:Heap}
variable {S:SS}
theorem Zdd:FnScope ["_law_e"] ["_law_e"] (Z06 Z28):=⟨rfl,rfl,rfl,by decide+kernel,rfl,by decide+kernel,by decide+kernel⟩
theorem Z20 {f:Addr}{fd:FuncData}(F:Fun K "_law_parts" "_law_parts" Z28 f fd)(T:TxtT mg)(KI:Kits K):FnOk P w K mg base CX0 1 f fd ["_law_e"] spLawParts:=by
 refine F.ok Zdd (fun vs H Q E h=>?_) (fun cdv A outer s H vs Q E hr h=>?_)
 ·obtain⟨v,w0,ts,rfl,_⟩:=h
  rfl
 ·obtain⟨v,w0,ts,rfl,hv,hz,k⟩:=h
  refine⟨_,Z07 (Z0i (Z1n (N':=["_law_part"]) (src:=[none]) rfl (Z0j (Z06 Z28) rfl ["_law_e"] rfl (by decide+kernel)) (Z7j (Z17 Z4r (pv 0) (Z1h Z03) Z1m))
   (fun cl C ex s0 H0=>⟨Z0t (i:=0) (nd1 _) rfl (Or.inl rfl),Z5i (Z68 (Z0n (id:="isinstance") (Z31 (K:=K) rfl) (by rfl) T.isi (by decide+kernel) (Z0d (pv 0) (Z0d (Z87 (v:=.ty "tuple") (by rfl) T.tup (by decide+kernel) rfl) Z01)))),pv 0⟩))),?_⟩
  obtain⟨a,vs,rfl,a1,a2⟩:=Z1j hv
  cases a2 with
  | @cons x xs _ _ c1 c2=>
   refine⟨_,rfl,_,rfl,a,x::xs,rfl,a1,fun p H1 s1 hp=>?_⟩
   rw[Zo9] at hp
   have hl:=IsThs.len _ c2
   refine⟨p,rfl,⟨_,SqT.of hp⟩,Z49 (K:=K) (a:=p) (xs:=xs) (fun i ys σc H'=>∃o,σc = [o]/\IsThs H ys ((ts.take i).filter isTup)/\ys.length<=i/\H'=H1) ⟨none,rfl,by rw[take_zero];exact .nil,Nat.le_refl _,rfl⟩ (fun i ys σc H' ⟨_,_,_,_,e⟩=>by rw[e];exact SqT.of hp) ?_ ?_⟩
   ·rintro i x ys σc H' hx hi ⟨o,rfl,hys,hyl,rfl⟩
    obtain⟨t,ht,h1⟩:=Z1o _ c2 hx
    have hnext:(ts.take (i+1)).filter isTup=(ts.take i).filter isTup++(if isTup t=true then [t] else []):=Z4a _ ht
    refine⟨by have:sizeLine=16777216:=sizeLine_eq;omega,?_⟩
    refine⟨_,rfl,_,_,_,_,rfl,Zha (IsTh.kp (Kp.of s1) h1),KI.tup h1,_,rfl,Z1b (fun g=>?_) (fun g=>?_)⟩
    ·refine⟨_,rfl,nx hi ⟨_,rfl,?_,by rw[length_append];show ys.length+1<=i+1;omega,rfl⟩⟩
     rw[hnext,if_pos g]
     exact IsThs.app _ hys (.cons h1 .nil)
    ·refine nx hi ⟨_,rfl,?_,by omega,rfl⟩
     rw[hnext,if_neg g,append_nil]
     exact hys
   ·rintro ys σc H' ⟨o,rfl,hys,hyl,rfl⟩ q hq
    rw[take_of_length_le (by omega)] at hys
    have sA:=s1.trans (Z02 (o:=.lst ys) hq)
    exact k q ys _ sA (Z1z s1 hq) Z00 (IsThs.kp (Kp.of sA) hys)
theorem Zml:FnScope ["_law_e","_law_inner"] ["_law_e","_law_inner"] (Z06 Zd8):=⟨rfl,rfl,rfl,by decide+kernel,rfl,by decide+kernel,by decide+kernel⟩
theorem Zap {f:Addr}{fd:FuncData}(F:Fun K "_law_with" "_law_with" Zd8 f fd)(T:TxtT mg)(KI:Kits K):FnOk P w K mg base CX0 1 f fd ["_law_e","_law_inner"] spWith:=by
 refine F.ok Zml (fun vs H Q E h=>?_) (fun cdv A outer s H vs Q E hr h=>?_)
 ·obtain⟨v,la,ts,ks,ws,rfl,_⟩:=h
  rfl
 ·obtain⟨v,la,ts,ks,ws,rfl,hv,hz,hla,hws,hkz,k⟩:=h
  have hsz:sizeLine=16777216:=sizeLine_eq
  refine'⟨?tt,?body,?fin⟩
  case body=>
   refine' Z07 ?s1
   case s1=>
    refine' Z0i ?r
    case r=>
     refine' Z16 Z14 (by rfl) T.tup (by decide+kernel) ?a
     case a=>
      refine' Z0b ?c Z01
      case c=>
       refine' Z0l Z24 ?x (pv 1)
       case x=>
        refine' Z1n (N':=["_law_part"]) (src:=[none]) ?k1 ?k5 ?k6 ?k7
        case k1=>rfl
        case k5=>exact Z0j (Z06 Zd8) rfl ["_law_e","_law_inner"] rfl (by decide+kernel)
        case k6=>exact Z7j (pv 0)
        case k7=>exact fun cl C ex s0 H0=>⟨Z0t (i:=0) (nd1 _) rfl (Or.inl rfl),Z5i (Z8x (Z68 (Z0n (id:="isinstance") (Z31 (K:=K) rfl) (by rfl) T.isi (by decide+kernel) (Z0d (pv 0) (Z0d (Z87 (v:=.ty "tuple") (by rfl) T.tup (by decide+kernel) rfl) Z01))))),pv 0⟩
  case fin=>
   obtain⟨a,xs,rfl,ha,hts⟩:=Z1j hv
   have hl:=IsThs.len _ hts
   refine⟨_,rfl,a,rfl,⟨_,SqT.of ha⟩,Z49 (K:=K) (a:=a) (xs:=xs) (fun i ys σc H'=>∃o,σc = [o]/\IsThs H ys ((ts.take i).filter Z2p)/\ys.length<=i/\H'=H) ⟨none,rfl,by rw[take_zero];exact .nil,Nat.le_refl _,rfl⟩ (fun i ys σc H' ⟨_,_,_,_,e⟩=>by rw[e];exact SqT.of ha) ?_ ?_⟩
   ·rintro i x ys σc H' hx hi ⟨o,rfl,hys,hyl,rfl⟩
    obtain⟨t,ht,h1⟩:=Z1o _ hts hx
    have hnext:(ts.take (i+1)).filter Z2p=(ts.take i).filter Z2p++(if Z2p t=true then [t] else []):=Z4a _ ht
    refine⟨by omega,?_⟩
    refine⟨_,rfl,_,_,_,_,rfl,Zha h1,KI.tup h1,_,rfl,Z1b (fun g=>?_) (fun g=>?_)⟩
    ·refine⟨_,rfl,nx hi ⟨_,rfl,?_,by rw[length_append];show ys.length+1<=i+1;omega,rfl⟩⟩
     rw[hnext,if_pos (show Z2p t=true from g)]
     exact IsThs.app _ hys (.cons h1 .nil)
    ·refine nx hi ⟨_,rfl,?_,by omega,rfl⟩
     rw[hnext,if_neg (show ¬Z2p t=true from g),append_nil]
     exact hys
   ·rintro ys σc H' ⟨o,rfl,hys,hyl,rfl⟩ l hl'
    rw[take_of_length_le (by omega)] at hys
    have s1:=Z02 (o:=.lst ys) hl'
    have hwl:=IsThs.len _ hws
    refine⟨_,rfl,l,la,ys,ws,rfl,rfl,Z00,s1 _ _ hla,by omega,fun l2 hl2=>?_⟩
    have s2:=Z02 (o:=.lst (ys++ws)) hl2
    refine⟨l2,_,rfl,.inl ⟨SqL.of Z00,fun p hp=>?_⟩⟩
    have s3:=Z02 (o:=.tup (ys++ws)) hp
    have sA:=(s1.trans s2).trans s3
    exact k p _ sA (.tup Z00 (IsThs.app _ (IsThs.kp (Kp.of sA) hys) (IsThs.kp (Kp.of sA) hws)))
theorem Zf6:FnScope ["_law_e"] ["_law_e"] (Z06 Z6q):=⟨rfl,rfl,rfl,by decide+kernel,rfl,by decide+kernel,by decide+kernel⟩
theorem Zbx {f fP:Addr}{fd dP:FuncData}(F:Fun K "_law_nodes" "_law_nodes" Z6q f fd)(b:Binds K fd ["_law_e"] [])(m:mg "_law_nodes"=some (.ref f))(T:TxtT mg)(KI:Kits K)(hsum:mg "sum"=none)
  (FP:Fun K "_law_parts" "_law_parts" Z28 fP dP) (bP:Binds K dP ["_law_e"] []) (mP:mg "_law_parts"=some (.ref fP)):∀N,FnOk P w K mg base CX0 (N+2) f fd ["_law_e"] ((Z6x S) N):=by
 have GP:FnOk P w K mg base CX0 1 fP dP ["_law_e"] spLawParts:=Z20 FP T KI
 intro N
 induction N with
 |zero=>
  refine F.ok Zf6 (fun vs H Q E h=>?_) (fun cdv A outer s H vs Q E hr h=>?_)
  ·obtain⟨v,t,rfl,_⟩:=h
   rfl
  ·obtain⟨v,t,rfl,_,h,_⟩:=h
   exact h.elim
 |succ N ih=>
  refine F.ok Zf6 (fun vs H Q E h=>?_) (fun cdv A outer s H vs Q E hr h=>?_)
  ·obtain⟨v,t,rfl,_⟩:=h
   rfl
  ·obtain⟨v,t,rfl,hv,hD,k⟩:=h
   have hsz:sizeLine=16777216:=sizeLine_eq
   have hr1:Room 1 _:=hr.mono (by omega)
   refine⟨_,Z07 (Z0i (Z0l Z1q Z03 (Z0n (Zbn rfl) (by rfl) hsum (by decide+kernel) (Z0b (Z1n (N':=["_law_part"]) (src:=[none]) rfl (Z0j (Z06 Z6q) rfl ["_law_e"] rfl (by decide+kernel)) (Z1w (Z05 GP hr1 (by rfl) mP FP.kp bP .nil Z0f (Z0d (pv 0) Z01)))
    (fun cl C ex s0 H0=>⟨Z0t (i:=0) (nd1 _) rfl (Or.inl rfl),Z1k,Z05 ih hr (by rfl) m F.kp b .nil Z0f (Z0d (pv 0) Z01)⟩)) Z01)))),?_⟩
   obtain⟨w0,hd,ks,rfl,h1,h2,h3,h4,h5,h6⟩:=hD
   have nk:∀k∈ks,L2.isTup k=true:=fun k hk=>(h6 k hk).isTup
   refine⟨_,rfl,v,w0,hd.map Th.at++ks,rfl,hv,by rw[length_append,length_map];omega,fun p ws H1 s1 hp0 hp hws=>?_⟩
   rw[Z43 nk] at hws
   have hl:=IsThs.len _ hws
   refine⟨p,rfl,⟨_,SqL.of hp⟩,Z1i (K:=K) (a:=p) (xs:=ws) (fun i ys σc H'=>∃(o:Option V) (ms:List Int),σc = [o]/\ys=ms.map V.int/\ms.length=i/\ms.sum=(Z1r (ks.take i):Nat)/\Same H1 H')
    ⟨none,[],rfl,rfl,rfl,by rw[take_zero];rfl,Same.refl _⟩ (fun i ys σc H' ⟨_,_,_,_,_,_,e⟩=>SqL.of (e _ _ hp)) ?_ ?_⟩
   ·rintro i x ys σc H' hx hi ⟨o,ms,rfl,rfl,hm,hsm,s2⟩
    obtain⟨t,ht,hxt⟩:=Z1o _ hws hx
    refine⟨by rw[length_map];omega,?_⟩
    refine⟨_,rfl,x,t,rfl,IsTh.kp (Kp.of s2) hxt,h6 t (mem_of_getElem? ht),fun H2 s3=>nx hi ⟨_,ms ++ [((cnt t:Nat):Int)],rfl,by rw[map_append];rfl,by rw[length_append,hm];rfl,?_,s2.trans s3⟩⟩
    rw[take_add_one,ht,List.sum_append,hsm]
    show _=((Z1r (ks.take i ++ [t]):Nat):Int)
    rw[Z3i]
    simp
   ·rintro ys σc H' ⟨o,ms,rfl,rfl,hm,hsm,s2⟩ q hq
    rw[take_of_length_le (by omega)] at hsm
    refine⟨q,ms,rfl,SqL.of Z00,_,_,rfl,rfl,?_⟩
    have kk:=k _ (s1.trans (s2.trans (Z02 (o:=.lst (ms.map V.int)) hq)))
    rw[Z1l nk] at kk
    rw[hsm]
    simpa using kk
end
structure HW (K:PySem.W.Frag)(mg:Str->Option Value)(fP fW:Addr)(dP dW:FuncData):Prop where
 T:TxtT mg
 KI:Kits K
 P:Fun K "_law_parts" "_law_parts" Z28 fP dP
 bP:Binds K dP ["_law_e"] []
 mP:mg "_law_parts"=some (.ref fP)
 W:Fun K "_law_with" "_law_with" Zd8 fW dW
 bW:Binds K dW ["_law_e","_law_inner"] []
 mW:mg "_law_with"=some (.ref fW)
mutual
theorem Z3u {H H':Hp}{a:Addr}{xs:List V}(h:H a=some (.lst xs))(b:But a H H'):∀{v:V} {t:Th},IsTh H v t->plT t=true->IsTh H' v t
 |_,_,.at f,_=>.at f
 |_,_,.tup e r,p=>by
  rw[plT] at p
  exact .tup (b _ _ e (Z3k e h (by intro q;cases q))) (Z6y h b r p)
 |_,_,.lst e r,p=>by rw[plT] at p;cases p
theorem Z6y {H H':Hp}{a:Addr}{xs:List V}(h:H a=some (.lst xs))(b:But a H H'):∀{vs:List V} {ts:List Th},IsThs H vs ts->Z4o ts=true->IsThs H' vs ts
 |_,_,.nil,_=>.nil
 |_,_,.cons e r,p=>by
  rw[Z4o,Bool.and_eq_true] at p
  exact .cons (Z3u h b e p.1) (Z6y h b r p.2)
end
theorem Zby {vs:List V}{i:Nat}{x:V}(h:vs[i]? = some x):atI vs (0+(i:Int))=some x:=by
 rw[Int.zero_add]
 exact Z23 h
section
variable {S:SS}
theorem Z5y {n:Nat}{t:Th}(h:(PfT S) n t):1<=cnt t:=by
 cases n with
 |zero=>exact h.elim
 |succ n=>
  obtain⟨w,hd,ks,rfl,_⟩:=h
  unfold nd
  rw[cnt]
  omega
theorem Zf7 {w:Str}{hd:List V}{ks ks':List Th}(h:∀k∈ks,L2.isTup k=true):Th.tup (Z9q (.at (.str w)::(hd.map Th.at++ks))++ks')=nd w hd ks':=by
 rw[Z35 h]
 rfl
end
def bdS (k l:Th):Nat:=Th.sz k+cnt k*Th.sz l
inductive spSpoilt_ (S:SS)(N M:Nat)(vs:List V)(H:Hp)(Q:VK):Prop
 |mk (v vl:V) (z:Int) (t l:Th) (_:vs = [v,.int z,vl]) (_:IsTh H v t) (_:(PfT S) N t) (_:IsTh H vl l) (_:(PfT S) M l) (_:∀(v':V) (t':Th) H',Same H H'->IsTh H' v' t'->(PfT S) (N+M) t'->Th.sz t'<=bdS t l->Q v' H'):spSpoilt_ S N M vs H Q
def Z4d (S:SS)(N M:Nat):Sp:=fun vs H Q _=>spSpoilt_ S N M vs H Q
theorem Zk5 {H:Hp}:∀(vs:List V) {us:List Th} (i:Nat) {v:V} {t:Th},IsThs H vs us->IsTh H v t->IsThs H (vs.set i v) (us.set i t):=by
 intro vs
 induction vs with
 |nil=>intro us i v t h _;cases h;exact .nil
 |cons w vs ih=>
  intro us i v t h hv
  cases h with
  |cons a b=>
   cases i with
   |zero=>exact .cons hv b
   |succ i=>exact .cons a (ih i b hv)
theorem Zod {n:Nat}{i:Nat}(h:i<n):ixN n (0+(i:Int))=some i:=by
 unfold ixN
 rw[if_pos (by omega),if_pos (by omega)]
 congr 1
 omega
theorem Zmm {l:Th}:∀(us ks:List Th),us.length=ks.length->(∀(j:Nat) (u k:Th),us[j]? = some u->ks[j]? = some k->Th.sz u<=bdS k l)->szs us<=szs ks+Z1r ks*Th.sz l:=by
 intro us
 induction us with
 |nil=>intro ks _ _;rw[szs];exact Nat.zero_le _
 |cons u us ih=>
  intro ks hl h
  match ks,hl with
  |k::ks,hl=>
   have h1:=h 0 u k rfl rfl
   have h2:=ih ks (by simpa using hl) fun j u k a b=>h (j+1) u k (by simpa using a) (by simpa using b)
   rw[szs,szs,Z1r,Nat.add_mul]
   unfold bdS at h1
   omega
theorem Zk6 {w:Str}{hd:List V}{ks:List Th}:Th.sz (nd w hd ks)=1+(1+(szs (hd.map Th.at)+szs ks)):=by
 unfold nd
 rw[Th.sz,szs,Zer,Th.sz]
section
variable {S:SS}{P:Program}{w:World}{K:PySem.W.Frag}{mg:Str->Option Value}{base:Heap}
theorem scSpoilt:FnScope ["_law_e","_law_at","_law_leaf_here","_law_inner","_law_k","_law_long"] ["_law_e","_law_at","_law_leaf_here"] (Z06 Z6r):=⟨rfl,rfl,rfl,by decide+kernel,rfl,by decide+kernel,by decide+kernel⟩
theorem Z9r {f fP fW fN:Addr}{fd dP dW dN:FuncData}(F:Fun K "_law_spoilt" "_law_spoilt" Z6r f fd)(b:Binds K fd ["_law_e","_law_at","_law_leaf_here"] [])(m:mg "_law_spoilt"=some (.ref f))(U:HW K mg fP fW dP dW)(hrange:mg "range"=none)(hsum:mg "sum"=none)
  (FN:Fun K "_law_nodes" "_law_nodes" Z6q fN dN) (bN:Binds K dN ["_law_e"] []) (mN:mg "_law_nodes"=some (.ref fN)) (M:Nat):∀N,FnOk P w K mg base CX0 (N+3) f fd ["_law_e","_law_at","_law_leaf_here"] ((Z4d S) N M):=by
 have GP:FnOk P w K mg base CX0 1 fP dP ["_law_e"] spLawParts:=Z20 U.P U.T U.KI
 have GW:FnOk P w K mg base CX0 1 fW dW ["_law_e","_law_inner"] spWith:=Zap U.W U.T U.KI
 have GN:∀N,FnOk P w K mg base CX0 (N+2) fN dN ["_law_e"] ((Z6x S) N):=Zbx FN bN mN U.T U.KI hsum U.P U.bP U.mP
 intro N
 induction N with
 |zero=>
  refine F.ok scSpoilt (fun vs H Q E h=>?_) (fun cdv A outer s H vs Q E hr h=>?_)
  ·obtain⟨v,vl,z,t,l,rfl,_⟩:=h
   rfl
  ·obtain⟨v,vl,z,t,l,rfl,_,h,_⟩:=h
   exact h.elim
 |succ N ih=>
  refine F.ok scSpoilt (fun vs H Q E h=>?_) (fun cdv A outer s H vs Q E hr h=>?_)
  ·obtain⟨v,vl,z,t,l,rfl,_⟩:=h
   rfl
  ·obtain⟨v,vl,z,t,l,rfl,hv,hD,hvl,hl,k⟩:=h
   have hsz:sizeLine=16777216:=sizeLine_eq
   have hr1:Room 1 _:=hr.mono (by omega)
   have hrN:Room (N+2) _:=hr.mono (by omega)
   refine'⟨?tt,?body,?fin⟩
   case body=>
    refine' Z04 ?s1 (Z04 ?s2 (Z0m ?s3 (Z04 ?s4 (Z07 ?s5))))
    case s1=>exact Z0y (Z0a Z1c (pv 1) Z03 (Z0k _)) (Z07 (Z0i (pv 2))) Z0h
    case s2=>exact Z0c (i:=3) scSpoilt.nd rfl (Or.inl rfl) (Z05 GP hr1 (by rfl) U.mP U.P.kp U.bP .nil Z0f (Z0d (pv 0) Z01))
    case s3=>exact Z0c (i:=1) scSpoilt.nd rfl (Or.inl rfl) (Z0l Z1v (pv 1) Z03)
    case s4=>
     refine' Z4n PassesOwn.never rfl (Z1y (by rfl) hrange (Z2a (Z0n Z0o (by rfl) U.T.len PySem.boot_len (Z0d (pv 3) Z01)) Z01)) (Z0t (i:=4) scSpoilt.nd rfl (Or.inl rfl)) (Z04 ?b1 (Z0m ?b2 (Z07 ?b3)))
     case b1=>exact Z0c (i:=5) scSpoilt.nd rfl (Or.inl rfl) (Z05 (GN N) hrN (by rfl) mN FN.kp bN .nil Z0f (Z0b (Z0r Z0z (pv 3) (pv 4) (fun _ _=>rfl)) Z01))
     case b2=>
      refine' Z0y ?c (Z07 ?d1) Z0h
      case c=>exact Zgx Znw Z89 Z03 (pv 1) (pv 5)
      case d1=>exact Zb9 (Z05 ih hr (by rfl) m F.kp b .nil Z0f (Z0b (Z0r Z0z (pv 3) (pv 4) (fun _ _=>rfl)) (Z0d (pv 1) (Z0d (pv 2) Z01)))) (Zio (pv 3) (pv 4) Zbe)
     case b3=>exact Z0c (i:=1) scSpoilt.nd rfl (Or.inl rfl) (Z0l Z1v (pv 1) (pv 5))
    case s5=>exact Z0i (Z05 GW hr1 (by rfl) U.mW U.W.kp U.bW .nil Z0f (Z0d (pv 0) (Z0d (pv 3) Z01)))
   case fin=>
    have hct:=Z5y hD
    have pD:=hD
    obtain⟨w0,hd,kt,rfl,h1,h2,h3,h4,h5,h6⟩:=hD
    have nk:∀k∈kt,L2.isTup k=true:=fun k hk=>(h6 k hk).isTup
    refine⟨_,rfl,rfl,_,rfl,Z1b (fun g=>?_) (fun g=>?_)⟩
    ·refine⟨_,rfl,k vl l H (Same.refl _) hvl (hl.le (by omega)) ?_⟩
     unfold bdS
     have:=Nat.mul_le_mul_right (Th.sz l) hct
     omega
    ·refine⟨_,rfl,v,w0,hd.map Th.at++kt,rfl,hv,by rw[length_append,length_map];omega,fun p ws H1 s1 hp0 hp hws=>?_⟩
     rw[Z43 nk] at hws
     have hwl:=IsThs.len _ hws
     refine⟨fun σ' H'=>σ' = [some v,some (.int (z-1)),some vl,some (.ref p),none,none]/\H'=H1,⟨_,rfl,_,_,rfl,rfl,rfl,rfl⟩,?_⟩
     rintro σ3 H3 ⟨rfl,rfl⟩
     refine⟨_,rfl,p,ws,rfl,.inl (SqL.of hp),(ws.length:Int),rfl,by omega,by omega,Z2x (fun i σ' H'=>∃(z':Int) (o4 o5:Option V) (us:List Th) (ws':List V),σ' = [some v,some (.int z'),some vl,some (.ref p),o4,o5]/\But p H3 H'/\H' p=some (.lst ws')/\IsThs H' ws' us/\us.length=kt.length/\(∀u∈us,(PfT S) (N+M) u)/\(∀j,i<=j->us[j]? = kt[j]?)/\∀(j:Nat) (u k:Th),us[j]? = some u->kt[j]? = some k->Th.sz u<=bdS k l)
      ⟨z-1,none,none,kt,ws,rfl,But.refl _ _,hp,hws,rfl,fun u hu=>(h6 u hu).le (by omega),fun _ _=>rfl,fun j u k a b=>?_⟩ ?_ ?_⟩
     ·rw[a] at b
      cases b
      exact Nat.le_add_right _ _
     ·rintro i σ' H' hi ⟨z',o4,o5,us,ws',rfl,b2,hp2,hws2,hul,hupf,hsame,hbd⟩
      have hi':i<kt.length:=by omega
      have hlw:=IsThs.len _ hws2
      have hki:kt[i]? = some kt[i]:=List.getElem?_eq_getElem hi'
      have hui:us[i]? = some kt[i]:=by rw[hsame i (Nat.le_refl _)];exact hki
      obtain⟨x,hx,hxt⟩:=Zma _ hws2 hui
      have hm:=h6 _ (getElem_mem hi')
      refine⟨_,rfl,_,rfl,p,ws',0+(i:Int),x,rfl,rfl,SqL.of hp2,Zby hx,x,kt[i],rfl,hxt,hm,fun H4 s4=>?_⟩
      have hp4:=s4 _ _ hp2
      have b4:=b2.trans (But.of (d:=p) s4)
      have hws4:=IsThs.kp (Kp.of s4) hws2
      refine⟨fun σ' H'=>∃(o5:Option V) (us:List Th) (ws':List V),σ' = [some v,some (.int z'),some vl,some (.ref p),some (.int (0+(i:Int))),some (.int (cnt kt[i]:Nat))]/\But p H3 H'/\H' p=some (.lst ws')/\IsThs H' ws' us/\us.length=kt.length/\(∀u∈us,(PfT S) (N+M) u)/\(∀j,i+1<=j->us[j]? = kt[j]?)/\∀(j:Nat) (u k:Th),us[j]? = some u->kt[j]? = some k->Th.sz u<=bdS k l,?_,?_⟩
      ·have stay:∃(o5:Option V) (us:List Th) (ws':List V),[some v,some (.int z'),some vl,some (.ref p),some (.int (0+(i:Int))),some (.int (cnt kt[i]:Nat))] = [some v,some (.int z'),some vl,some (.ref p),some (.int (0+(i:Int))),some (.int (cnt kt[i]:Nat))]/\But p H3 H4/\H4 p=some (.lst ws')/\IsThs H4 ws' us/\us.length=kt.length/\(∀u∈us,(PfT S) (N+M) u)/\(∀j,i+1<=j->us[j]? = kt[j]?)/\∀(j:Nat) (u k:Th),us[j]? = some u->kt[j]? = some k->Th.sz u<=bdS k l:=
        ⟨none,us,ws',rfl,b4,hp4,hws4,hul,hupf,fun j hj=>hsame j (by omega),hbd⟩
       refine⟨_,rfl,_,_,rfl,rfl,_,rfl,Z1b (fun g1=>⟨_,rfl,_,_,rfl,rfl,_,rfl,Z1b (fun g2=>?_) (fun g2=>stay)⟩) (fun g1=>⟨_,rfl,Zab stay⟩)⟩
       have hxt4:=IsTh.kp (Kp.of s4) hxt
       have hvl4:=Z3u hp b4 (IsTh.kp (Kp.of s1) hvl) (PfT.pl M hl)
       refine⟨_,rfl,_,rfl,p,ws',0+(i:Int),x,rfl,rfl,SqL.of hp4,Zby hx,_,rfl,_,rfl,x,vl,z',kt[i],l,rfl,hxt4,hm,hvl4,hl,fun v' t' H5 s5 hv5 pf5 sz5=>?_⟩
       have hp5:=s5 _ _ hp4
       refine⟨_,rfl,_,rfl,p,ws',0+(i:Int),i,rfl,rfl,hp5,Zod (by omega),?_⟩
       have bu:But p H5 (upd H5 p (.lst (ws'.set i v'))):=But.upd
       refine⟨none,us.set i t',ws'.set i v',rfl,(b4.trans (But.of s5)).trans bu,Z00,?_,by rw[length_set];exact hul,?_,?_,?_⟩
       ·refine Zk5 _ i (Z6y hp5 bu (IsThs.kp (Kp.of s5) hws4) (Z2s fun u hu=>PfT.pl _ (hupf u hu))) (Z3u hp5 bu hv5 (PfT.pl _ pf5))
       ·intro u hu
        rcases List.mem_or_eq_of_mem_set hu with y|y
        ·exact hupf u y
        ·rw[y];exact pf5
       ·intro j hj
        rw[List.getElem?_set_ne (by omega)]
        exact hsame j (by omega)
       ·intro j u k a b
        by_cases hji:j=i
        ·subst hji
         rw[List.getElem?_set_self (by omega)] at a
         cases a
         rw[hki] at b
         cases b
         exact sz5
        ·rw[List.getElem?_set_ne (Ne.symm hji)] at a
         exact hbd j u k a b
      ·rintro σ5 H5 ⟨_,us5,ws5,rfl,q1,q2,q3,q4,q5,q6,q7⟩
       exact⟨_,rfl,_,rfl,_,_,rfl,rfl,_,_,_,us5,ws5,rfl,q1,q2,q3,q4,q5,q6,q7⟩
     ·rintro σ' H' ⟨z',o4,o5,us,ws',rfl,b2,hp2,hws2,hul,hupf,hsame,hbd⟩
      have hv2:=Z3u hp b2 (IsTh.kp (Kp.of s1) hv) (PfT.pl _ pD)
      have sm:Same H H':=fun c o e=>b2 c o (s1 _ _ e) (Z0e e hp0)
      refine⟨_,rfl,_,rfl,v,p,_,us,ws',rfl,hv2,by rw[length_cons,length_append,length_map];omega,hp2,hws2,by omega,fun r H3 s3 hr3=>?_⟩
      rw[Zf7 nk] at hr3
      refine k _ _ _ (sm.trans s3) hr3 ?_ ?_
      ·rw[Nat.add_right_comm]
       exact⟨w0,hd,us,rfl,h1,h2,fun z=>⟨(h3 z).1,by rw[hul];exact(h3 z).2⟩,by rw[hul];exact h4,by omega,hupf⟩
      ·have:=Zmm us kt hul hbd
       unfold bdS
       rw[Zk6,Zk6,Z1l nk,Nat.add_mul]
       omega
end
theorem Z15 (v:V)(vs:List V):atI (v::vs) 0=some v:=Z23 (j:=0) rfl
theorem Z19 (u v:V)(vs:List V):atI (u::v::vs) 1=some v:=Z23 (j:=1) rfl
def iOf:List Th->Int
 | .at (.int i)::_=>i
 |_=>0
def nOf:List Th->Str
 | .at (.str s)::_=>s
 |_=>""
def wOf:List Th->Str
 | .at (.str s)::_=>s
 |_=>""
def wkN (ρ : Str->Int)(xs:List Th)(inner:Int):Int:=if wOf xs="again" then 1+iOf (xs.drop 1)*inner else if wOf xs="call" then 1+inner + ρ (nOf (xs.drop 1)) else 1+inner
mutual
def wk (ρ : Str->Int):Th->Int
 | .tup xs=>wkN ρ xs (wks ρ xs)
 | .at _=>0
 | .lst _=>0
def wks (ρ : Str->Int):List Th->Int
 |[]=>0
 |x::xs=>wk ρ x+wks ρ xs
end
theorem Zf8 (ρ : Str->Int):∀a b:List Th,wks ρ (a++b)=wks ρ a+wks ρ b:=by
 intro a
 induction a with
 |nil=>intro b;simp [wks]
 |cons x a ih=>intro b;rw[cons_append,wks,wks,ih];omega
theorem Zk7 (ρ : Str->Int):∀hd:List V,wks ρ (hd.map Th.at)=0:=by
 intro hd
 induction hd with
 |nil=>simp [wks]
 |cons x a ih=>rw[map_cons,wks,ih,wk];rfl
theorem Zoe (ρ : Str->Int)(w:Str)(hd:List V)(ks:List Th):wk ρ (nd w hd ks)=if w="again" then 1+iOf (hd.map Th.at++ks)*wks ρ ks else if w="call" then 1+wks ρ ks + ρ (nOf (hd.map Th.at++ks)) else 1+wks ρ ks:=by
 have e:wks ρ (.at (.str w)::(hd.map Th.at++ks))=wks ρ ks:=by
  rw[wks,wk,Zf8,Zk7]
  omega
 unfold nd
 rw[wk,e]
 rfl
def Zk8 (S:SS)(ρ : Str->Int)(kvs:List (Key×V)):Prop:=∀x∈S.c,Z2h kvs (Sum.inr x)=some (.int (ρ x))
inductive spLawWork_ (S:SS)(N:Nat)(vs:List V)(H:Hp)(Q:VK):Prop
 |mk (v:V) (wa:Addr) (t:Th) (ρ : Str->Int) (kvs:List (Key×V)) (_:vs = [v,.ref wa]) (_:IsTh H v t) (_:PfT S N t) (_:H wa=some (.dK kvs)) (_:Zk8 S ρ kvs) (_:∀H',Same H H'->Q (.int (wk ρ t)) H'):spLawWork_ S N vs H Q
def Z6z (S:SS)(N:Nat):Sp:=fun vs H Q _=>spLawWork_ S N vs H Q
theorem Zof:(["_law_works","_law_part"]:List Str).Nodup:=by decide+kernel
section
variable {S:SS}{P:Program}{w:World}{K:PySem.W.Frag}{mg:Str->Option Value}{base:Heap}
theorem scLawWork:FnScope ["_law_e","_law_works","_law_inner"] ["_law_e","_law_works"] (Z06 Z4c):=⟨rfl,rfl,rfl,by decide+kernel,rfl,by decide+kernel,by decide+kernel⟩
theorem Zde {f fP:Addr}{fd dP:FuncData}(F:Fun K "_law_work" "_law_work" Z4c f fd)(b:Binds K fd ["_law_e","_law_works"] [])(m:mg "_law_work"=some (.ref f))(T:TxtT mg)(KI:Kits K)(hsum:mg "sum"=none)
  (FP:Fun K "_law_parts" "_law_parts" Z28 fP dP) (bP:Binds K dP ["_law_e"] []) (mP:mg "_law_parts"=some (.ref fP)):∀N,FnOk P w K mg base CX0 (N+2) f fd ["_law_e","_law_works"] (Z6z S N):=by
 have GP:FnOk P w K mg base CX0 1 fP dP ["_law_e"] spLawParts:=Z20 FP T KI
 intro N
 induction N with
 |zero=>
  refine F.ok scLawWork (fun vs H Q E h=>?_) (fun cdv A outer s H vs Q E hr h=>?_)
  ·obtain⟨v,wa,t,ρ,kvs,rfl,_⟩:=h
   rfl
  ·obtain⟨v,wa,t,ρ,kvs,rfl,_,h,_⟩:=h
   exact h.elim
 |succ N ih=>
  refine F.ok scLawWork (fun vs H Q E h=>?_) (fun cdv A outer s H vs Q E hr h=>?_)
  ·obtain⟨v,wa,t,ρ,kvs,rfl,_⟩:=h
   rfl
  ·obtain⟨v,wa,t,ρ,kvs,rfl,hv,hD,hwa,hW,k⟩:=h
   have hsz:sizeLine=16777216:=sizeLine_eq
   have hr1:Room 1 _:=hr.mono (by omega)
   have hu:=Zm4 hr
   refine'⟨?tt,?body,?fin⟩
   case body=>
    refine' Z04 ?s1 ?r1
    case s1=>
     refine' Z0c (i:=2) scLawWork.nd rfl (Or.inl rfl) (Z0n (Zbn rfl) (by rfl) hsum (by decide+kernel) (Z0b ?c Z01))
     case c=>
      refine' Z1n (N':=["_law_works","_law_part"]) (src:=[some 1,none]) ?k1 ?k5 ?k6 ?k7
      case k1=>rfl
      case k5=>exact Z0j (Z06 Z4c) rfl ["_law_e","_law_works","_law_inner"] rfl (by decide+kernel)
      case k6=>exact Z1w (Z05 GP hr1 (by rfl) mP FP.kp bP .nil Z0f (Z0d (pv 0) Z01))
      case k7=>exact fun cl C ex s0 H0=>⟨Z0t (i:=1) Zof rfl (Or.inl rfl),Z1k,Z05 ih hr (by rfl) m F.kp b .nil Z0f (Z0d (pv 1) (Z0d (pv 0) Z01))⟩
    case r1=>
     refine' Z04 ?s2 (Z04 ?s3 (Z07 ?s4))
     case s2=>exact Z0y (Z0a Z1c (Z0r Z0v (pv 0) Z03 (fun _ _=>rfl)) Z08 (Z0k _)) (Z07 (Z0i (Z0l Z1q Z03 (Z0l Z22 (Z0r Z0v (pv 0) Z03 (fun _ _=>rfl)) (pv 2))))) Z0h
     case s3=>exact Z0y (Z0a Z1c (Z0r Z0v (pv 0) Z03 (fun _ _=>rfl)) Z08 (Z0k _)) (Z07 (Z0i (Z0l Z1q (Z0l Z1q Z03 (pv 2)) (Z0s hu (pv 1) (Z0r Z0v (pv 0) Z03 (fun _ _=>rfl)) (fun _ _=>rfl))))) Z0h
     case s4=>exact Z0i (Z0l Z1q Z03 (pv 2))
   case fin=>
    obtain⟨w0,hd,ks,rfl,h1,h2,h3,h4,h5,h6⟩:=hD
    have nk:∀k∈ks,L2.isTup k=true:=fun k hk=>(h6 k hk).isTup
    have hv':=hv
    unfold nd at hv'
    obtain⟨a,vs,rfl,ha,hvs⟩:=Z1j hv'
    refine⟨_,rfl,.ref a,w0,hd.map Th.at++ks,rfl,hv,by rw[length_append,length_map];omega,fun p ws H1 s1 hp0 hp hws=>?_⟩
    rw[Z43 nk] at hws
    have hl:=IsThs.len _ hws
    refine⟨p,rfl,⟨_,SqL.of hp⟩,Z1i (K:=K) (a:=p) (xs:=ws) (fun i ys σc H'=>∃(o:Option V) (ms:List Int),σc = [some (.ref wa),o]/\ys=ms.map V.int/\ms.length=i/\ms.sum=wks ρ (ks.take i)/\Same H1 H')
     ⟨none,[],rfl,rfl,rfl,by rw[take_zero];rfl,Same.refl _⟩ (fun i ys σc H' ⟨_,_,_,_,_,_,e⟩=>SqL.of (e _ _ hp)) ?_ ?_⟩
    ·rintro i x ys σc H' hx hi ⟨o,ms,rfl,rfl,hm,hsm,s2⟩
     obtain⟨t,ht,hxt⟩:=Z1o _ hws hx
     refine⟨by rw[length_map];omega,?_⟩
     refine⟨_,rfl,_,rfl,x,wa,t,ρ,kvs,rfl,IsTh.kp (Kp.of s2) hxt,h6 t (mem_of_getElem? ht),s2 _ _ (s1 _ _ hwa),hW,fun H2 s3=>nx hi ⟨_,ms ++ [wk ρ t],rfl,by rw[map_append];rfl,by rw[length_append,hm];rfl,?_,s2.trans s3⟩⟩
     rw[take_add_one,ht,List.sum_append,hsm]
     show _=wks ρ (ks.take i ++ [t])
     rw[Zf8,wks,wks]
     simp
    ·rintro ys σc H' ⟨o,ms,rfl,rfl,hm,hsm,s2⟩ q hq
     rw[take_of_length_le (by omega)] at hsm
     have sA:=s1.trans (s2.trans (Z02 (o:=.lst (ms.map V.int)) hq))
     refine⟨q,ms,rfl,SqL.of Z00,?_⟩
     rw[hsm]
     generalize upd H' q (.lst (ms.map V.int))=H2 at sA
     have ha2:=sA _ _ ha
     cases hvs with
     | @cons vh vr _ _ d1 d2=>
      obtain⟨rfl,_⟩:=Z1p d1
      have kk:=k H2 sA
      rw[Zoe] at kk
      refine⟨_,rfl,a,_,_,_,rfl,rfl,SqT.of ha2,Z15 _ _,rfl,_,rfl,Z1b (fun g=>?_) (fun g=>?_)⟩
      ·have hw:w0="again":=by
        have g':=of_decide_eq_true g
        injection g'
       obtain⟨i,rfl,hi0,hi5⟩:=h4.ag hw
       cases d2 with
       | @cons v2 vr2 _ _ d3 d4=>
        obtain⟨rfl,_⟩:=Z1p d3
        rw[if_pos hw] at kk
        exact⟨_,rfl,a,_,_,_,rfl,rfl,SqT.of ha2,Z19 _ _ _,_,rfl,_,_,rfl,rfl,.inl ⟨by omega,by omega⟩,_,_,rfl,rfl,kk⟩
      ·have hw:w0≠"again":=fun q=>g (by rw[q];decide+kernel)
       rw[if_neg hw] at kk
       refine⟨_,rfl,a,_,_,_,rfl,rfl,SqT.of ha2,Z15 _ _,rfl,_,rfl,Z1b (fun g=>?_) (fun g=>?_)⟩
       ·have hw2:w0="call":=by
         have g':=of_decide_eq_true g
         injection g'
        obtain⟨x,rfl,hxS⟩:=h4.ca hw2
        cases d2 with
        | @cons v2 vr2 _ _ d3 d4=>
         obtain⟨rfl,_⟩:=Z1p d3
         rw[if_pos hw2] at kk
         have hg:DGet H2 wa (.str x) (some (.int (ρ x))):=by
          have:=DGet.k (k:=Sum.inr x) (sA _ _ hwa)
          rw[hW x hxS] at this
          exact this
         exact⟨_,rfl,_,_,rfl,rfl,_,rfl,_,rfl,a,_,_,_,rfl,rfl,SqT.of ha2,Z19 _ _ _,wa,_,rfl,hg,_,_,rfl,rfl,kk⟩
       ·have hw2:w0≠"call":=fun q=>g (by rw[q];decide+kernel)
        rw[if_neg hw2] at kk
        exact⟨_,rfl,_,_,rfl,rfl,kk⟩
end
theorem Zp8 (u v x:V)(vs:List V):atI (u::v::x::vs) 2=some x:=Z23 (j:=2) rfl
theorem Zp9 (u v x y:V)(vs:List V):atI (u::v::x::y::vs) 3=some y:=Z23 (j:=3) rfl
inductive spRight_ (S:SS)(N:Nat)(vs:List V)(H:Hp)(Q:VK):Prop
 |mk (v:V) (bl:Addr) (t:Th) (bs:List Str) (_:vs = [v,.ref bl]) (_:IsTh H v t) (_:PfT S N t) (_:H bl=some (.lst (bs.map V.str))) (_:bs.length+N<=1000) (_:∀(b:Bool) H',Same H H'->Q (.bl b) H'):spRight_ S N vs H Q
def Z8i (S:SS)(N:Nat):Sp:=fun vs H Q _=>spRight_ S N vs H Q
theorem Zog:(["_law_bound_here","_law_part"]:List Str).Nodup:=by decide+kernel
section
variable {S:SS}{P:Program}{w:World}{K:PySem.W.Frag}{mg:Str->Option Value}{base:Heap}
theorem Zf9:FnScope ["_law_e","_law_bound_here"] ["_law_e","_law_bound_here"] (Z06 Z7x):=⟨rfl,rfl,rfl,by decide+kernel,rfl,by decide+kernel,by decide+kernel⟩
theorem Zhq {f fP:Addr}{fd dP:FuncData}(F:Fun K "_law_right" "_law_right" Z7x f fd)(b:Binds K fd ["_law_e","_law_bound_here"] [])(m:mg "_law_right"=some (.ref f))(T:TxtT mg)(KI:Kits K)(hall:mg "all"=none)
  (FP:Fun K "_law_parts" "_law_parts" Z28 fP dP) (bP:Binds K dP ["_law_e"] []) (mP:mg "_law_parts"=some (.ref fP)):∀N,FnOk P w K mg base CX0 (N+2) f fd ["_law_e","_law_bound_here"] (Z8i S N):=by
 have GP:FnOk P w K mg base CX0 1 fP dP ["_law_e"] spLawParts:=Z20 FP T KI
 intro N
 induction N with
 |zero=>
  refine F.ok Zf9 (fun vs H Q E h=>?_) (fun cdv A outer s H vs Q E hr h=>?_)
  ·obtain⟨v,bl,t,bs,rfl,_⟩:=h
   rfl
  ·obtain⟨v,bl,t,bs,rfl,_,h,_⟩:=h
   exact h.elim
 |succ N ih=>
  refine F.ok Zf9 (fun vs H Q E h=>?_) (fun cdv A outer s H vs Q E hr h=>?_)
  ·obtain⟨v,bl,t,bs,rfl,_⟩:=h
   rfl
  ·obtain⟨v,bl,t,bs,rfl,hv,hD,hbl,hbz,k⟩:=h
   have hsz:sizeLine=16777216:=sizeLine_eq
   have hr1:Room 1 _:=hr.mono (by omega)
   refine'⟨?tt,?body,?fin⟩
   case body=>
    refine' Z0m ?s1 (Z04 ?s2 (Z07 ?s3))
    case s1=>
     refine' Z0y ?c (Z07 (Z0i Z8w)) Z0h
     case c=>exact(Z4m (Z0a Z1c (Z0r Z0v (pv 0) Z03 (fun _ _=>rfl)) Z08 (Z0k _)) (Z33 (Z0a Z2k (Z0r Z0v (pv 0) Z03 (fun _ _=>rfl)) (pv 1) (by with_unfolding_all rfl)))).pt
    case s2=>
     refine' Z0y ?c (Z07 (Z0i ?r)) Z0h
     case c=>exact Z0a Z1c (Z0r Z0v (pv 0) Z03 (fun _ _=>rfl)) Z08 (Z0k _)
     case r=>
      refine' Zlp ?r1 (Zlo ?r2)
      case r1=>exact Z05 ih hr (by rfl) m F.kp b .nil Z0f (Z0b (Z0r Z0v (pv 0) Z03 (fun _ _=>rfl)) (Z0d (pv 1) Z01))
      case r2=>exact Z05 ih hr (by rfl) m F.kp b .nil Z0f (Z0b (Z0r Z0v (pv 0) Z03 (fun _ _=>rfl)) (Z0b (Z0l Z24 (pv 1) (Z0x (Z0b (Z0r Z0v (pv 0) Z03 (fun _ _=>rfl)) Z01))) Z01))
    case s3=>
     refine' Z0i (Z0n (Zai rfl) (by rfl) hall (by decide+kernel) (Z0b ?c Z01))
     case c=>
      refine' Z1n (N':=["_law_bound_here","_law_part"]) (src:=[some 1,none]) ?k1 ?k5 ?k6 ?k7
      case k1=>rfl
      case k5=>exact Z0j (Z06 Z7x) rfl ["_law_e","_law_bound_here"] rfl (by decide+kernel)
      case k6=>exact Z1w (Z05 GP hr1 (by rfl) mP FP.kp bP .nil Z0f (Z0d (pv 0) Z01))
      case k7=>exact fun cl C ex s0 H0=>⟨Z0t (i:=1) Zog rfl (Or.inl rfl),Z1k,Z05 ih hr (by rfl) m F.kp b .nil Z0f (Z0d (pv 1) (Z0d (pv 0) Z01))⟩
   case fin=>
    obtain⟨w0,hd,ks,rfl,h1,h2,h3,h4,h5,h6⟩:=hD
    have nk:∀k∈ks,L2.isTup k=true:=fun k hk=>(h6 k hk).isTup
    have hv':=hv
    unfold nd at hv'
    obtain⟨a,vs,rfl,ha,hvs⟩:=Z1j hv'
    cases hvs with
    | @cons vh vr _ _ d1 d2=>
     obtain⟨rfl,_⟩:=Z1p d1
     refine⟨fun σ' H'=>σ' = [some (.ref a),some (.ref bl)]/\H'=H,?_,?_⟩
     ·refine⟨_,rfl,a,_,_,_,rfl,rfl,SqT.of ha,Z15 _ _,rfl,_,rfl,Z1b (fun g=>?_) (fun g=>?_)⟩
      ·have hw:w0="set":=by
        have g':=of_decide_eq_true g
        injection g'
       obtain⟨x,rfl⟩:=h4.st (.inl hw)
       cases d2 with
       | @cons v2 vr2 _ _ d3 d4=>
        obtain⟨rfl,_⟩:=Z1p d3
        refine⟨_,rfl,a,_,_,_,rfl,rfl,SqT.of ha,Z19 _ _ _,_,rfl,bl,bs.map V.str,rfl,.inl (SqL.of hbl),rfl,Z1t bs,_,rfl,Z1b (fun _=>?_) (fun _=>⟨rfl,rfl⟩)⟩
        exact k false H (Same.refl _)
      ·exact Zab ⟨rfl,rfl⟩
     rintro σ1 H1 ⟨rfl,rfl⟩
     refine⟨_,rfl,a,_,_,_,rfl,rfl,SqT.of ha,Z15 _ _,rfl,_,rfl,Z1b (fun g=>?_) (fun g=>?_)⟩
     ·have hw:w0="let":=by
       have g':=of_decide_eq_true g
       injection g'
      obtain⟨⟨x,rfl⟩,hk2⟩:=h3 hw
      match ks,hk2,h6,hv,hv',d2 with
      |[k1,k2],_,h6,hv,hv',d2=>
       cases d2 with
       | @cons v2 vr2 _ _ d3 d4=>
        obtain⟨rfl,_⟩:=Z1p d3
        cases d4 with
        | @cons v3 vr3 _ _ d5 d6=>
         cases d6 with
         | @cons v4 vr4 _ _ d7 d8=>
          refine⟨_,rfl,a,_,_,_,rfl,rfl,SqT.of ha,Zp8 _ _ _ _,_,rfl,v3,bl,k1,bs,rfl,d5,h6 k1 (by simp),hbl,by omega,fun b1 H2 s2=>⟨b1,rfl,?_⟩⟩
          have ha2:=s2 _ _ ha
          refine Z1b (fun _=>?_) (fun _=>k false H2 s2)
          refine⟨_,rfl,a,_,_,_,rfl,rfl,SqT.of ha2,Zp9 _ _ _ _ _,_,rfl,_,rfl,a,_,_,_,rfl,rfl,SqT.of ha2,Z19 _ _ _,(by show 1<=sizeLine;decide),fun c hc=>?_⟩
          have sc:=Z02 (o:=.lst [.str x]) hc
          refine⟨bl,c,bs.map V.str,[.str x],rfl,rfl,sc _ _ (s2 _ _ hbl),Z00,(by rw[length_map];show _+1<=_;omega),fun q hq=>?_⟩
          have sq:=Z02 (o:=.lst (bs.map V.str ++ [.str x])) hq
          have sA:=(s2.trans sc).trans sq
          refine⟨v4,q,k2,bs ++ [x],rfl,IsTh.kp (Kp.of sA) d7,h6 k2 (by simp),?_,by rw[length_append];show _+1+_<=_;omega,fun b2 H3 s3=>k b2 H3 (sA.trans s3)⟩
          rw[Z00,map_append]
          rfl
     ·refine⟨_,rfl,.ref a,w0,hd.map Th.at++ks,rfl,hv,by rw[length_append,length_map];omega,fun p ws H2 s1 hp0 hp hws=>?_⟩
      rw[Z43 nk] at hws
      have hl:=IsThs.len _ hws
      refine⟨p,rfl,⟨_,SqL.of hp⟩,Z1i (K:=K) (a:=p) (xs:=ws) (fun i ys σc H'=>∃(o:Option V) (ms:List Bool),σc = [some (.ref bl),o]/\ys=ms.map V.bl/\ms.length=i/\Same H2 H')
       ⟨none,[],rfl,rfl,rfl,Same.refl _⟩ (fun i ys σc H' ⟨_,_,_,_,_,e⟩=>SqL.of (e _ _ hp)) ?_ ?_⟩
      ·rintro i x ys σc H' hx hi ⟨o,ms,rfl,rfl,hm,s2⟩
       obtain⟨t,ht,hxt⟩:=Z1o _ hws hx
       refine⟨by rw[length_map];omega,?_⟩
       exact⟨_,rfl,_,rfl,x,bl,t,bs,rfl,IsTh.kp (Kp.of s2) hxt,h6 t (mem_of_getElem? ht),s2 _ _ (s1 _ _ hbl),by omega,fun b1 H3 s3=>nx hi ⟨_,ms ++ [b1],rfl,by rw[map_append];rfl,by rw[length_append,hm];rfl,s2.trans s3⟩⟩
      ·rintro ys σc H' ⟨o,ms,rfl,rfl,hm,s2⟩ q hq
       exact⟨q,ms,rfl,SqL.of Z00,k _ _ (s1.trans (s2.trans (Z02 (o:=.lst (ms.map V.bl)) hq)))⟩
end
end K13
namespace L2
open PySem PySem.Spec PyProof.Rows
section
variable {X:Cx}
inductive rIndexS (x:V)(vs:List V)(H:Hp)(Q:VK):Prop
 |mk (l:Addr) (ns:List Str) (i:Str) (j:Nat) (_:x = .ref l) (_:vs = [.str i]) (_:H l=some (.lst (ns.map V.str))) (_:ns[j]? = some i) (_:(∀m,m<j->ns[m]? ≠ some i)) (_:Q (.int (j:Nat)) H):rIndexS x vs H Q
theorem Z70:MtR X "list.index" rIndexS:=by
 intro pins s σ H x vs v us Q I rx rv h
 obtain⟨l,ns,i,j,rfl,rfl,hH,hj,hno,q⟩:=h
 cases rx
 obtain⟨u,rfl,ru⟩:=rv.one
 obtain⟨tk,rfl⟩:=ru
 obtain⟨z,its,n,r,hl,e⟩:=I.lstM hH
 have hlen:its.length=ns.length:=by
  have:=r.length
  rw[length_map] at this
  exact this.symm
 have at':∀(m:Nat) (y:Value),its[m]? = some y->∃k t,ns[m]? = some k/\y = .str k t:=by
  intro m y hy
  have hm:m<ns.length:=by
   rw[<- hlen]
   exact(List.getElem?_eq_some_iff.mp hy).1
  obtain⟨u2,f2,r2⟩:=r.get (i:=m) (x:=.str ns[m]) (by rw[List.getElem?_map,List.getElem?_eq_getElem hm];rfl)
  rw[hy] at f2
  cases f2
  obtain⟨t,rfl⟩:=r2
  exact⟨_,t,List.getElem?_eq_getElem hm,rfl⟩
 have jl:j<its.length:=by
  rw[hlen]
  exact(List.getElem?_eq_some_iff.mp hj).1
 have val:∀(m:Nat) (hm:m<its.toArray.size),∃k t,ns[m]? = some k/\its.toArray[m] = .str k t:=fun m hm=>by
  simp only [size_toArray] at hm
  obtain⟨k,t,a1,a2⟩:=at' m its[m] (List.getElem?_eq_getElem hm)
  exact⟨k,t,a1,by simpa using a2⟩
 have hsz:sizeLine=16777216:=sizeLine_eq
 refine call_meets F.slot_list_index ⟨_,e,rfl⟩ F.entry_list_index (F.args_list_index_2 _ _) (SeqAt.list_indexAt l its.toArray n none #[] (.str i tk) (fun y=>match y with | .str k _=>k==i|_=>false) j (by simpa using jl) (by
  rw[length_map] at z
  omega) ?_ ?_) ⟨e,?_,?_⟩
 ·obtain⟨k,t,a1,a2⟩:=val j (by simpa using jl)
  rw[a2]
  rw[hj] at a1
  cases a1
  exact beq_self_eq_true _
 ·intro m hm hmj
  obtain⟨k,t,a1,a2⟩:=val m hm
  rw[a2]
  show(k==i)=false
  rw[beq_eq_false_iff_ne]
  intro w
  subst w
  exact hno m hmj a1
 ·intro y hy
  obtain⟨m,hm,rfl⟩:=Array.mem_iff_getElem.mp hy
  obtain⟨k,t,a1,a2⟩:=val m hm
  rw[a2]
  exact Z98 (y:=.str k) (x:=.str i) ⟨t,rfl⟩ ⟨tk,rfl⟩ rfl rfl
 ·exact⟨.int (j:Nat),H,I.tok _,⟨_,rfl⟩,q⟩
end
end L2
namespace K13
open PySem L2
inductive spTurned_ (S:SS)(N:Nat)(vs:List V)(H:Hp)(Q:VK):Prop
 |mk (v:V) (na oa:Addr) (t:Th) (T1 T2:List Str) (_:vs = [v,.ref na,.ref oa]) (_:IsTh H v t) (_:PfT S N t) (_:H na=some (.lst (T1.map V.str))) (_:H oa=some (.lst (T2.map V.str))) (_:T1.length=T2.length) (_:T1.length<=1000) (_:(∀x∈T2,NmU S x)) (_:∀(v':V) (t':Th) H',Same H H'->IsTh H' v' t'->PfT S N t'->cnt t'=cnt t->Q v' H'):spTurned_ S N vs H Q
def Z65 (S:SS)(N:Nat):Sp:=fun vs H Q _=>spTurned_ S N vs H Q
theorem Zmn:(["_law_names_here","_law_others","_law_part"]:List Str).Nodup:=by decide+kernel
theorem Zk9 (x:Str):inV (.str x) [.str "name",.str "set"]=true↔x="name"∨x="set":=by
 have e : [V.str "name",.str "set"]=(["name","set"]:List Str).map V.str:=rfl
 rw[e,Z1u]
 simp
theorem Zhr {x:Str}:∀{T:List Str},x∈T->∃j:Nat,T[j]? = some x/\∀q:Nat,q<j->T[q]? ≠ some x:=by
 intro T
 induction T with
 |nil=>intro h;cases h
 |cons y T ih=>
  intro h
  by_cases e:y=x
  ·exact⟨0,by rw[e];rfl,fun q hq=>by omega⟩
  ·rcases mem_cons.mp h with z|z
   ·exact absurd z.symm e
   ·obtain⟨j,h1,h2⟩:=ih z
    refine⟨j+1,h1,fun q hq=>?_⟩
    cases q with
    |zero=>intro w;exact e (by simpa using w)
    |succ q=>exact h2 q (by omega)
section
variable {S:SS}{P:Program}{w:World}{K:PySem.W.Frag}{mg:Str->Option Value}{base:Heap}
theorem scTurned:FnScope ["_law_e","_law_names_here","_law_others"] ["_law_e","_law_names_here","_law_others"] (Z06 Z5m):=⟨rfl,rfl,rfl,by decide+kernel,rfl,by decide+kernel,by decide+kernel⟩
theorem Zfa {f fP fW:Addr}{fd dP dW:FuncData}(F:Fun K "_law_turned" "_law_turned" Z5m f fd)(b:Binds K fd ["_law_e","_law_names_here","_law_others"] [])(m:mg "_law_turned"=some (.ref f))(U:HW K mg fP fW dP dW):
  ∀N,FnOk P w K mg base CX0 (N+2) f fd ["_law_e","_law_names_here","_law_others"] (Z65 S N):=by
 have GP:FnOk P w K mg base CX0 1 fP dP ["_law_e"] spLawParts:=Z20 U.P U.T U.KI
 have GW:FnOk P w K mg base CX0 1 fW dW ["_law_e","_law_inner"] spWith:=Zap U.W U.T U.KI
 intro N
 induction N with
 |zero=>
  refine F.ok scTurned (fun vs H Q E h=>?_) (fun cdv A outer s H vs Q E hr h=>?_)
  ·obtain⟨v,na,oa,t,T1,T2,rfl,_⟩:=h
   rfl
  ·obtain⟨v,na,oa,t,T1,T2,rfl,_,h,_⟩:=h
   exact h.elim
 |succ N ih=>
  refine F.ok scTurned (fun vs H Q E h=>?_) (fun cdv A outer s H vs Q E hr h=>?_)
  ·obtain⟨v,na,oa,t,T1,T2,rfl,_⟩:=h
   rfl
  ·obtain⟨v,na,oa,t,T1,T2,rfl,hv,hD,hna,hoa,hTl,hT1,hlo,k⟩:=h
   have hsz:sizeLine=16777216:=sizeLine_eq
   have hr1:Room 1 _:=hr.mono (by omega)
   refine'⟨?tt,?body,?fin⟩
   case body=>
    refine' Z0m ?s1 (Z07 ?s2)
    case s1=>
     refine' Z0y ?c (Z07 ?b) Z0h
     case c=>exact(Z4m (Z0a Z2k (Z0r Z0v (pv 0) Z03 (fun _ _=>rfl)) (Z1a (Z1d Z08 (Z1d Z08 Z01))) (by with_unfolding_all rfl)) (Z33 (Z0a Z2k (Z0r Z0v (pv 0) Z03 (fun _ _=>rfl)) (pv 1) (by with_unfolding_all rfl)))).pt
     case b=>
      refine' Z0c (i:=0) scTurned.nd rfl (Or.inl rfl) (Z0l Z8d (Z1a (Z0b (Z0r Z0v (pv 0) Z03 (fun _ _=>rfl)) (Z0b ?x Z01))) (Z17 Z4r (pv 0) (Z1h Z03) Z1m))
      case x=>exact Z0r Z0z (pv 2) (Z7g PySem.F.plainAttrs_list PySem.F.slot_list_index PySem.F.type_list_index Z70 (pv 1) (Z0b (Z0r Z0v (pv 0) Z03 (fun _ _=>rfl)) Z01)) (fun _ _=>rfl)
    case s2=>
     refine' Z0i (Z05 GW hr1 (by rfl) U.mW U.W.kp U.bW .nil Z0f (Z0d (pv 0) (Z0b ?c Z01)))
     case c=>
      refine' Z1n (N':=["_law_names_here","_law_others","_law_part"]) (src:=[some 1,some 2,none]) ?k1 ?k5 ?k6 ?k7
      case k1=>rfl
      case k5=>exact Z0j (Z06 Z5m) rfl ["_law_e","_law_names_here","_law_others"] rfl (by decide+kernel)
      case k6=>exact Z1w (Z05 GP hr1 (by rfl) U.mP U.P.kp U.bP .nil Z0f (Z0d (pv 0) Z01))
      case k7=>exact fun cl C ex s0 H0=>⟨Z0t (i:=2) Zmn rfl (Or.inl rfl),Z1k,Z05 ih hr (by rfl) m F.kp b .nil Z0f (Z0d (pv 2) (Z0d (pv 0) (Z0d (pv 1) Z01)))⟩
   case fin=>
    obtain⟨w0,hd,ks,rfl,h1,h2,h3,h4,h5,h6⟩:=hD
    have nk:∀k∈ks,L2.isTup k=true:=fun k hk=>(h6 k hk).isTup
    refine⟨fun σ' H'=>∃(a':Addr) (hd':List V),σ' = [some (.ref a'),some (.ref na),some (.ref oa)]/\Same H H'/\IsTh H' (.ref a') (nd w0 hd' ks)/\hd'.length<=1/\(∀v∈hd',plT (.at v)=true)/\(w0="let"->(∃x:Str,hd' = [.str x])/\ks.length=2)/\HdE S w0 hd' ks.length,?_,?_⟩
    ·have hv':=hv
     unfold nd at hv'
     obtain⟨a,vs,rfl,ha,hvs⟩:=Z1j hv'
     cases hvs with
     | @cons vh vr _ _ d1 d2=>
      obtain⟨rfl,_⟩:=Z1p d1
      refine⟨_,rfl,a,_,_,_,rfl,rfl,SqT.of ha,Z15 _ _,(by show 2<=sizeLine;decide),fun c hc=>?_⟩
      have sc:=Z02 (o:=.tup [.str "name",.str "set"]) hc
      have stay:∀H',Same H H'->∃(a':Addr) (hd':List V),[some (V.ref a),some (.ref na),some (.ref oa)] = [some (.ref a'),some (.ref na),some (.ref oa)]/\Same H H'/\IsTh H' (.ref a') (nd w0 hd' ks)/\hd'.length<=1/\(∀v∈hd',plT (.at v)=true)/\(w0="let"->(∃x:Str,hd' = [.str x])/\ks.length=2)/\HdE S w0 hd' ks.length:=
       fun H' s=>⟨a,hd,rfl,s,IsTh.kp (Kp.of s) hv,h1,h2,h3,h4⟩
      refine⟨c,[.str "name",.str "set"],rfl,.inr (SqT.of Z00),rfl,by decide+kernel,_,rfl,Z1b (fun g=>?_) (fun g=>Zab (stay _ sc))⟩
      have hw:=(Zk9 w0).mp g
      obtain⟨x,rfl⟩:=h4.st (hw.symm)
      cases d2 with
      | @cons v2 vr2 _ _ d3 d4=>
       obtain⟨rfl,_⟩:=Z1p d3
       have ha2:=sc _ _ ha
       refine⟨_,rfl,a,_,_,_,rfl,rfl,SqT.of ha2,Z19 _ _ _,_,rfl,na,T1.map V.str,rfl,.inl (SqL.of (sc _ _ hna)),rfl,Z1t T1,_,rfl,Z1b (fun g2=>?_) (fun g2=>stay _ sc)⟩
       have hxm:=(Z1u x T1).mp g2
       obtain⟨j,hj,hno⟩:=Zhr hxm
       have hjl:j<T1.length:=(List.getElem?_eq_some_iff.mp hj).1
       obtain⟨y,hy⟩:∃y,T2[j]? = some y:=⟨_,List.getElem?_eq_getElem (by omega)⟩
       have hyN:=hlo y (mem_of_getElem? hy)
       have hyl:=Zdc hyN
       refine⟨_,rfl,a,_,_,_,rfl,rfl,SqT.of ha2,Z15 _ _,_,rfl,_,rfl,.inl ⟨rfl,_,SqL.of (sc _ _ hna)⟩,_,rfl,a,_,_,_,rfl,rfl,SqT.of ha2,Z19 _ _ _,na,T1,x,j,rfl,rfl,sc _ _ hna,hj,hno,oa,T2.map V.str,_,.str y,rfl,rfl,SqL.of (sc _ _ hoa),Z23 (by rw[List.getElem?_map,hy];rfl),(by show 2<=sizeLine;decide),fun c2 hc2=>?_⟩
       have s2:=Z02 (o:=.tup [.str w0,.str y]) hc2
       refine⟨_,rfl,2,rfl,a,_,rfl,s2 _ _ ha2,fun p3 H3 s3 hp3=>?_⟩
       rw[Z2b (by decide) (by show 2<=_+1+1;omega)] at hp3
       have s23:=(sc.trans s2).trans s3
       have hvl:=IsThs.len _ d4
       refine⟨c2,p3,_,_,rfl,rfl,s3 _ _ Z00,hp3,?_,fun p4 H4 s4 hp4=>?_⟩
       ·show 2+vr2.length<=sizeLine
        rw[hvl]
        show 2+(([]:List V).map Th.at++ks).length<=sizeLine
        rw[map_nil,nil_append]
        omega
       have s24:=s23.trans s4
       refine⟨p4,[.str y],rfl,s24,?_,Nat.le_refl _,?_,fun z=>⟨⟨y,rfl⟩,(h3 z).2⟩,⟨fun _=>⟨y,rfl⟩,fun z=>?_,fun z=>?_,?_,h4.lw,h4.sh.turn hw hyN⟩⟩
       ·unfold nd
        refine .tup hp4 (.cons (.at ?_) (.cons (.at ?_) (IsThs.kp (Kp.of s24) d4)))
        ·obtain⟨_,q⟩:=Z1p d1;exact q
        ·have h':(decide (y.length<=16)&&y.cps.toList.all fun c=>decide (c<16 ^ 8))=true:=hyl
         rw[Bool.and_eq_true,decide_eq_true_iff] at h'
         exact decide_eq_true (by have:=h'.1;omega)
       ·intro v hv
        rw[mem_singleton] at hv
        rw[hv]
        rfl
       ·rcases hw with q|q <;> (rw[q] at z;exact absurd z (by decide+kernel))
       ·rcases hw with q|q <;> (rw[q] at z;exact absurd z (by decide+kernel))
       ·intro v hv
        rw[mem_singleton] at hv
        rw[hv]
        exact hyl
    rintro σ1 H1 ⟨a',hd',rfl,s1,ha',g1,g2,g3,g4⟩
    refine⟨_,rfl,_,rfl,.ref a',w0,hd'.map Th.at++ks,rfl,ha',by rw[length_append,length_map];omega,fun p ws H2 s2 hp0 hp hws=>?_⟩
    rw[Z43 nk] at hws
    have hl:=IsThs.len _ hws
    have s12:=s1.trans s2
    refine⟨p,rfl,⟨_,SqL.of hp⟩,Z1i (K:=K) (a:=p) (xs:=ws) (fun i ys σc H'=>∃(o:Option V) (us:List Th),σc = [some (.ref na),some (.ref oa),o]/\IsThs H' ys us/\us.length=i/\(∀u∈us,PfT S N u)/\Z1r us=Z1r (ks.take i)/\Same H2 H')
     ⟨none,[],rfl,.nil,rfl,(fun _ q=>by cases q),by rw[take_zero],Same.refl _⟩ (fun i ys σc H' ⟨_,_,_,_,_,_,_,e⟩=>SqL.of (e _ _ hp)) ?_ ?_⟩
    ·rintro i x ys σc H' hx hi ⟨o,us,rfl,hys,hul,hup,huc,s3⟩
     obtain⟨t,ht,hxt⟩:=Z1o _ hws hx
     have hyl:=IsThs.len _ hys
     refine⟨by omega,?_⟩
     refine⟨_,rfl,_,rfl,_,rfl,x,na,oa,t,T1,T2,rfl,IsTh.kp (Kp.of s3) hxt,h6 t (mem_of_getElem? ht),s3 _ _ (s12 _ _ hna),s3 _ _ (s12 _ _ hoa),hTl,hT1,hlo,fun v' t' H3 s4 hv4 pf4 c4=>nx hi ⟨_,us ++ [t'],rfl,IsThs.app _ (IsThs.kp (Kp.of s4) hys) (.cons hv4 .nil),by rw[length_append,hul];rfl,?_,?_,s3.trans s4⟩⟩
     ·intro u hu
      rcases mem_append.mp hu with q|q
      ·exact hup u q
      ·rw[mem_singleton] at q;rw[q];exact pf4
     ·rw[Z3i,huc,c4,take_add_one,ht]
      exact(Z3i _ _).symm
    ·rintro ys σc H' ⟨o,us,rfl,hys,hul,hup,huc,s3⟩ q hq
     rw[take_of_length_le (by omega)] at huc
     have s4:=Z02 (o:=.lst ys) hq
     have sA:=(s2.trans s3).trans s4
     refine⟨.ref a',q,_,us,ys,rfl,IsTh.kp (Kp.of sA) ha',by rw[length_cons,length_append,length_map];omega,Z00,IsThs.kp (Kp.of s4) hys,by omega,fun r H4 s5 hr4=>?_⟩
     rw[Zf7 nk] at hr4
     have nu:∀k∈us,L2.isTup k=true:=fun k hk=>(hup k hk).isTup
     refine k _ _ H4 ((s1.trans sA).trans s5) hr4 ⟨w0,hd',us,rfl,g1,g2,fun z=>⟨(g3 z).1,by rw[hul,<- (g3 z).2];omega⟩,(by rw[show us.length=ks.length by omega];exact g4),by omega,hup⟩ ?_
     rw[Z1l nu,Z1l nk,huc]
end
structure WA where
 nm:Addr
 lt:Addr
 fn:Addr
 wo:Addr
 sd:Addr
def Z0g (a:WA)(r z:Int):List (Key×V):=[(Sum.inr "names",.ref a.nm),(Sum.inr "lets",.ref a.lt),(Sum.inr "functions",.ref a.fn),(Sum.inr "works",.ref a.wo),(Sum.inr "seeds",.ref a.sd),(Sum.inr "room",.int r),(Sum.inr "toil",.int z),(Sum.inr "takes",.bl true)]
section
variable {H:Hp}{wd:Addr}{a:WA}{r z q:Int}
theorem Z4e (e:H wd=some (.dK (Z0g a r z))):DGet H wd (.str "names") (some (.ref a.nm)):=by
 have y:=DGet.k (k:=Sum.inr "names") e
 rw[show Z2h (Z0g a r z) (Sum.inr "names")=some (.ref a.nm) by with_unfolding_all rfl] at y
 exact y
theorem Zfb (e:H wd=some (.dK (Z0g a r z))):DGet H wd (.str "lets") (some (.ref a.lt)):=by
 have y:=DGet.k (k:=Sum.inr "lets") e
 rw[show Z2h (Z0g a r z) (Sum.inr "lets")=some (.ref a.lt) by with_unfolding_all rfl] at y
 exact y
theorem Z2i (e:H wd=some (.dK (Z0g a r z))):DGet H wd (.str "functions") (some (.ref a.fn)):=by
 have y:=DGet.k (k:=Sum.inr "functions") e
 rw[show Z2h (Z0g a r z) (Sum.inr "functions")=some (.ref a.fn) by with_unfolding_all rfl] at y
 exact y
theorem Z80 (e:H wd=some (.dK (Z0g a r z))):DGet H wd (.str "works") (some (.ref a.wo)):=by
 have y:=DGet.k (k:=Sum.inr "works") e
 rw[show Z2h (Z0g a r z) (Sum.inr "works")=some (.ref a.wo) by with_unfolding_all rfl] at y
 exact y
theorem Z5q (e:H wd=some (.dK (Z0g a r z))):DGet H wd (.str "seeds") (some (.ref a.sd)):=by
 have y:=DGet.k (k:=Sum.inr "seeds") e
 rw[show Z2h (Z0g a r z) (Sum.inr "seeds")=some (.ref a.sd) by with_unfolding_all rfl] at y
 exact y
theorem Z59 (e:H wd=some (.dK (Z0g a r z))):DGet H wd (.str "room") (some (.int r)):=by
 have y:=DGet.k (k:=Sum.inr "room") e
 rw[show Z2h (Z0g a r z) (Sum.inr "room")=some (.int r) by with_unfolding_all rfl] at y
 exact y
theorem Z2y (e:H wd=some (.dK (Z0g a r z))):DGet H wd (.str "toil") (some (.int z)):=by
 have y:=DGet.k (k:=Sum.inr "toil") e
 rw[show Z2h (Z0g a r z) (Sum.inr "toil")=some (.int z) by with_unfolding_all rfl] at y
 exact y
theorem Zdf (e:H wd=some (.dK (Z0g a r z))):DGet H wd (.str "takes") (some (.bl true)):=by
 have y:=DGet.k (k:=Sum.inr "takes") e
 rw[show Z2h (Z0g a r z) (Sum.inr "takes")=some (.bl true) by with_unfolding_all rfl] at y
 exact y
theorem Z71 (e:H wd=some (.dK (Z0g a r z))):DPut H wd (.str "room") (.int q) (upd H wd (.dK (Z0g a q z))):=by
 have y:=DPut.k (k:=Sum.inr "room") (v:=.int q) e (by show 8<sizeLine;decide)
 rw[show Z30 (Z0g a r z) (Sum.inr "room") (.int q)=Z0g a q z by with_unfolding_all rfl] at y
 exact y
theorem Z5a (e:H wd=some (.dK (Z0g a r z))):DPut H wd (.str "toil") (.int q) (upd H wd (.dK (Z0g a r q))):=by
 have y:=DPut.k (k:=Sum.inr "toil") (v:=.int q) e (by show 8<sizeLine;decide)
 rw[show Z30 (Z0g a r z) (Sum.inr "toil") (.int q)=Z0g a r q by with_unfolding_all rfl] at y
 exact y
theorem Z81 {s2:Addr}(e:H wd=some (.dK (Z0g a r z))):DPut H wd (.str "seeds") (.ref s2) (upd H wd (.dK (Z0g { a with sd:=s2 } r z))):=by
 have y:=DPut.k (k:=Sum.inr "seeds") (v:=.ref s2) e (by show 8<sizeLine;decide)
 rw[show Z30 (Z0g a r z) (Sum.inr "seeds") (.ref s2)=Z0g { a with sd:=s2 } r z by with_unfolding_all rfl] at y
 exact y
end
theorem Z66 {H:Hp}{d wd l:Addr}{a:WA}{ns:List Int}{n:Nat}{r z:Int}(F:Feed H d l ns n)(W:H wd=some (.dK (Z0g a r z))):wd≠d:=by
 obtain⟨⟨y,hd⟩,_,_⟩:=F
 refine Z3k W hd (fun q=>?_)
 injection q with q
 have h1:=congrArg List.length q
 cases h1
def But2 (d e:Addr)(H H':Hp):Prop:=∀b o,H b=some o->b≠d->b≠e->H' b=some o
theorem But2.refl (d e:Addr)(H:Hp):But2 d e H H:=fun _ _ h _ _=>h
theorem But2.trans {d e:Addr}{H H1 H2:Hp}(a:But2 d e H H1)(b:But2 d e H1 H2):But2 d e H H2:=fun c o h n m=>b c o (a c o h n m) n m
theorem But2.of {d e:Addr}{H H1:Hp}(a:But d H H1):But2 d e H H1:=fun c o h n _=>a c o h n
theorem But2.same {d e:Addr}{H H1:Hp}(a:Same H H1):But2 d e H H1:=fun c o h _ _=>a c o h
theorem But2.upd {d e:Addr}{H:Hp}{o:HO}:But2 d e H (upd H e o):=fun c u h _ n=>by rw[Z09 n];exact h
theorem But2.kp {d e l:Addr}{ns:List Int}{n:Nat}{kvs:List (Key×V)}{H H':Hp}(b:But2 d e H H')(F:Feed H d l ns n)(W:H e=some (.dK kvs)):Kp H H':=by
 obtain⟨⟨z,hd⟩,_,_⟩:=F
 intro a o h hk
 exact b a o h (fun q=>by subst q;rw[hd] at h;cases h;exact hk _ rfl) (fun q=>by subst q;rw[W] at h;cases h;exact hk _ rfl)
theorem Feed.world {H:Hp}{d wd l:Addr}{a a2:WA}{ns:List Int}{n:Nat}{r z r2 z2:Int}(F:Feed H d l ns n)(W:H wd=some (.dK (Z0g a r z))):Feed (L2.upd H wd (.dK (Z0g a2 r2 z2))) d l ns n:=by
 have hne:=Z66 F W
 obtain⟨⟨y,hd⟩,hl,hs⟩:=F
 refine⟨⟨y,by rw[Z09 hne.symm];exact hd⟩,?_,hs⟩
 rw[Z09 (Z3k hl W (by intro q;cases q))]
 exact hl
structure WI where
 T1:List Str
 T2:List Str
 fv:List V
 sv:List V
 ss:List Th
 ρ : Str->Int
 kvs:List (Key×V)
structure Wf (S:SS)(M:Nat)(H:Hp)(d wd:Addr)(a:WA)(i:WI):Prop where
 nm:H a.nm=some (.lst (i.T1.map V.str))
 lt:H a.lt=some (.lst (i.T2.map V.str))
 fn:H a.fn=some (.lst i.fv)
 fe:∀v∈i.fv,∃(c:Addr) (x:Str) (m:Int),v = .ref c/\H c=some (.tup [.str x,.int m])/\x∈S.c/\NmU S x/\0<=m/\m<=6
 wo:H a.wo=some (.dK i.kvs)
 wk:Zk8 S i.ρ i.kvs
 o1:a.wo≠d
 o2:a.wo≠wd
 sd:H a.sd=some (.lst i.sv)
 ss:IsThs H i.sv i.ss
 sp:∀t∈i.ss,PfT S M t
 n1:1<=i.T1.length
 n2:i.T1.length<=10
 l2:i.T2.length<=10
 f2:i.fv.length<=10
 s2:i.sv.length<=10
 an:∀t∈i.T1,NmU S t
 bn:∀t∈i.T2,NmU S t
theorem Wf.go {S:SS}{M:Nat}{H H':Hp}{d wd:Addr}{a:WA}{i:WI}(h:Wf S M H d wd a i)(k:Kp H H')(b:But2 d wd H H'):Wf S M H' d wd a i:=
 ⟨k _ _ h.nm (fun _ z=>by cases z),k _ _ h.lt (fun _ z=>by cases z),k _ _ h.fn (fun _ z=>by cases z),fun v hv=>let ⟨c,x,m,h1,h2,h3⟩:=h.fe v hv;⟨c,x,m,h1,k _ _ h2 (fun _ z=>by cases z),h3⟩,b _ _ h.wo h.o1 h.o2,h.wk,h.o1,h.o2,k _ _ h.sd (fun _ z=>by cases z),IsThs.kp k h.ss,h.sp,h.n1,h.n2,h.l2,h.f2,h.s2,h.an,h.bn⟩
structure Ctx (S:SS)(M:Nat)(H H':Hp)(d l wd:Addr)(a:WA)(i:WI)(bd:Addr)(bs:List Str)(ns:List Int)(n:Nat)(r z:Int):Prop where
 F:Feed H' d l ns n
 W:H' wd=some (.dK (Z0g a r z))
 N:Wf S M H' d wd a i
 B:H' bd=some (.lst (bs.map V.str))
 bl:bs.length<=100
 bn:∀t∈bs,NmU S t
 b2:But2 d wd H H'
section
variable {S:SS}{M:Nat}{H H1 H2:Hp}{d l wd:Addr}{a:WA}{i:WI}{bd:Addr}{bs:List Str}{ns:List Int}{n n2:Nat}{r r2 z z2:Int}
theorem Ctx.go (C:Ctx S M H H1 d l wd a i bd bs ns n r z)(b:But2 d wd H1 H2)(F2:Feed H2 d l ns n2)(W2:H2 wd=some (.dK (Z0g a r2 z2))):Ctx S M H H2 d l wd a i bd bs ns n2 r2 z2:=
 ⟨F2,W2,C.N.go (b.kp C.F C.W) b,b.kp C.F C.W _ _ C.B (fun _ z=>by cases z),C.bl,C.bn,C.b2.trans b⟩
theorem Ctx.draw (C:Ctx S M H H1 d l wd a i bd bs ns n r z)(b:But d H1 H2)(F2:Feed H2 d l ns n2):Ctx S M H H2 d l wd a i bd bs ns n2 r z:=
 C.go (But2.of b) F2 (b wd _ C.W (Z66 C.F C.W))
theorem Ctx.same (C:Ctx S M H H1 d l wd a i bd bs ns n r z)(s:Same H1 H2):Ctx S M H H2 d l wd a i bd bs ns n r z:=
 C.go (But2.same s) (C.F.same s) (s _ _ C.W)
theorem Ctx.put (C:Ctx S M H H1 d l wd a i bd bs ns n r z):Ctx S M H (upd H1 wd (.dK (Z0g a r2 z2))) d l wd a i bd bs ns n r2 z2:=
 C.go But2.upd (C.F.world C.W) Z00
theorem Ctx.zero (C:Ctx S M H H1 d l wd a i bd bs ns n r z):Ctx S M H1 H1 d l wd a i bd bs ns n r z:=⟨C.F,C.W,C.N,C.B,C.bl,C.bn,But2.refl _ _ _⟩
theorem Ctx.bind (C:Ctx S M H H1 d l wd a i bd bs ns n r z){b2:Addr}{bs2:List Str}(h:H1 b2=some (.lst (bs2.map V.str)))(hl:bs2.length<=100)(hn:∀t∈bs2,NmU S t):Ctx S M H H1 d l wd a i b2 bs2 ns n r z:=⟨C.F,C.W,C.N,h,hl,hn,C.b2⟩
theorem Ctx.tail (C:Ctx S M H H1 d l wd a i bd bs ns n r z){H0:Hp}(b:But2 d wd H0 H):Ctx S M H0 H1 d l wd a i bd bs ns n r z:=⟨C.F,C.W,C.N,C.B,C.bl,C.bn,b.trans C.b2⟩
end
theorem Z3o {S:SS}{t:Str}(h:NmU S t):smallV (.str t)=true:=decide_eq_true (Nat.le_trans h.1.1.2 (by decide))
inductive spWorld_ (vs:List V)(H:Hp)(Q:VK):Prop
 |mk (nm lt fn wo:Addr) (r z:Int) (_:vs = [.ref nm,.ref lt,.ref fn,.ref wo,.int r,.int z]) (_:∀(wd sd:Addr) H',Same H H'->H wd=none->H sd=none->H' wd=some (.dK (Z0g ⟨nm,lt,fn,wo,sd⟩ r z))->H' sd=some (.lst [])->Q (.ref wd) H'):spWorld_ vs H Q
def spWorld:Sp:=fun vs H Q _=>spWorld_ vs H Q
def Zhs (S:SS)(t:Th):Prop:=PfT S 1 t/\cnt t=1
inductive spLeaf_ (S:SS)(M:Nat)(vs:List V)(H:Hp)(Q:VK):Prop
 |mk (d l wd:Addr) (a:WA) (i:WI) (bd:Addr) (bs:List Str) (ns:List Int) (n:Nat) (r z:Int) (_:vs = [.ref d,.ref wd,.ref bd]) (_:n<=800000000000) (_:Ctx S M H H d l wd a i bd bs ns n r z) (_:∀(v:V) (t:Th) n' H',IsTh H' v t->Zhs S t->n'<=n+4->Ctx S M H H' d l wd a i bd bs ns n' r z->Q v H'):spLeaf_ S M vs H Q
def Z5b (S:SS)(M:Nat):Sp:=fun vs H Q _=>spLeaf_ S M vs H Q
theorem Zoh {S:SS}:Zhs S (nd "take" [] []):=by
 refine⟨⟨"take",[],[],rfl,Nat.zero_le _,fun v hv=>(by cases hv),fun z=>absurd z (by decide+kernel),⟨fun z=>z.elim (fun q=>absurd q (by decide+kernel)) (fun q=>absurd q (by decide+kernel)),fun z=>absurd z (by decide+kernel),fun z=>absurd z (by decide+kernel),fun v hv=>(by cases hv),by decide+kernel,.take⟩,Nat.zero_le _,fun k hk=>(by cases hk)⟩,?_⟩
 rw[Z1l (fun k hk=>by cases hk)];simp [Z1r]
theorem Zoi {S:SS}{i:Int}(h0:0<=i)(h1:i<=1000000000):Zhs S (nd "num" [.int i] []):=by
 refine⟨⟨"num",[.int i],[],rfl,Nat.le_refl _,fun u hu=>(by rw[mem_singleton] at hu;rw[hu];rfl),fun z=>absurd z (by decide+kernel),⟨fun z=>z.elim (fun q=>absurd q (by decide+kernel)) (fun q=>absurd q (by decide+kernel)),fun z=>absurd z (by decide+kernel),fun z=>absurd z (by decide+kernel),fun v hv=>(by rw[mem_singleton] at hv;rw[hv];exact decide_eq_true (by omega)),by decide+kernel,.num h0 h1⟩,Nat.zero_le _,fun k hk=>(by cases hk)⟩,?_⟩
 rw[Z1l (fun k hk=>by cases hk)];simp [Z1r]
theorem Zka {S:SS}{x:Str}(h:NmU S x):Zhs S (nd "name" [.str x] []):=by
 refine⟨⟨"name",[.str x],[],rfl,Nat.le_refl _,fun u hu=>(by rw[mem_singleton] at hu;rw[hu];rfl),fun z=>absurd z (by decide+kernel),⟨fun z=>⟨x,rfl⟩,fun z=>absurd z (by decide+kernel),fun z=>absurd z (by decide+kernel),fun v hv=>(by rw[mem_singleton] at hv;rw[hv];exact Zdc h),by decide+kernel,.name h⟩,Nat.zero_le _,fun k hk=>(by cases hk)⟩,?_⟩
 rw[Z1l (fun k hk=>by cases hk)];simp [Z1r]
section
variable {S:SS}{M:Nat}{P:Program}{w:World}{K:PySem.W.Frag}{mg:Str->Option Value}{base:Heap}
theorem Zkb:FnScope ["_law_names_here","_law_lets","_law_functions","_law_works","_law_room","_law_toil"] ["_law_names_here","_law_lets","_law_functions","_law_works","_law_room","_law_toil"] (Z06 Z9o):=⟨rfl,rfl,rfl,by decide+kernel,rfl,by decide+kernel,by decide+kernel⟩
theorem Zht {f:Addr}{fd:FuncData}(F:Fun K "_law_world" "_law_world" Z9o f fd):FnOk P w K mg base CX0 1 f fd ["_law_names_here","_law_lets","_law_functions","_law_works","_law_room","_law_toil"] spWorld:=by
 refine F.ok Zkb (fun vs H Q E h=>?_) (fun cdv A outer s H vs Q E hr h=>?_)
 ·obtain⟨nm,lt,fn,wo,r,z,rfl,_⟩:=h
  rfl
 ·obtain⟨nm,lt,fn,wo,r,z,rfl,k⟩:=h
  refine⟨_,Z07 (Z0i (Zek (Z27 Z08 (pv 0) (Z27 Z08 (pv 1) (Z27 Z08 (pv 2) (Z27 Z08 (pv 3) (Z27 Z08 (Z0x Z01) (Z27 Z08 (pv 4) (Z27 Z08 (pv 5) (Z27 Z08 Z8w Zej)))))))) rfl rfl (by intro z;cases z) (by decide))),?_⟩
  intro wd hwd
  have sw:=Z02 (o:=.dK []) hwd
  refine⟨_,rfl,_,rfl,_,rfl,_,rfl,Nat.zero_le _,fun sd hsd=>?_⟩
  have hsn:sd≠wd:=fun z=>by rw[z,Z00] at hsd;cases hsd
  have sb:=Z02 (o:=.lst []) hsd
  refine⟨_,rfl,_,rfl,sb _ _ Z00,Z0g ⟨nm,lt,fn,wo,sd⟩ r z,rfl,by show 8<=15;decide,?_⟩
  have em:Z6h [] (Z0g ⟨nm,lt,fn,wo,sd⟩ r z)=Z0g ⟨nm,lt,fn,wo,sd⟩ r z:=by with_unfolding_all rfl
  rw[em]
  refine k wd sd _ (fun b ob e=>?_) hwd (Z1z sw hsd) Z00 ?_
  ·rw[Z09 (Z0e e hwd)]
   exact sb _ _ (sw _ _ e)
  ·rw[Z09 hsn]
   exact Z00
theorem scLeaf:FnScope ["_law_feed_here","_law_world_here","_law_bound_here","_law_way","_law_some"] ["_law_feed_here","_law_world_here","_law_bound_here"] (Z06 Zf0):=⟨rfl,rfl,rfl,by decide+kernel,rfl,by decide+kernel,by decide+kernel⟩
theorem Zkc {f fV fD fS:Addr}{fd dV dD dS:FuncData}(F:Fun K "_law_leaf" "_law_leaf" Zf0 f fd)(U:Helpers K mg fD fS dD dS)(FV:Fun K "_law_value" "_law_value" Z3h fV dV)(bV:Binds K dV ["_law_feed_here"] [])(mV:mg "_law_value"=some (.ref fV)):
  FnOk P w K mg base CX0 3 f fd ["_law_feed_here","_law_world_here","_law_bound_here"] (Z5b S M):=by
 have GD:FnOk P w K mg base CX0 1 fD dD ["_law_feed_here","_law_many"] spDraw:=Z8g U.D U.T
 have GV:FnOk P w K mg base CX0 2 fV dV ["_law_feed_here"] spValue:=Zhp FV U
 refine F.ok scLeaf (fun vs H Q E h=>?_) (fun cdv A outer s H vs Q E hr h=>?_)
 ·obtain⟨d,l,wd,a,i,bd,bs,ns,n,r,z,rfl,_⟩:=h
  rfl
 ·obtain⟨d,l,wd,a,i,bd,bs,ns,n,r,z,rfl,hn,C0,k⟩:=h
  have hsz:sizeLine=16777216:=sizeLine_eq
  have hu:(_:Around).units+1<cLine:=Nat.lt_of_le_of_lt (Nat.add_le_add_left (by decide) _) hr.units
  have hu0:=hr.units0
  have hr1:Room 1 _:=hr.mono (by decide)
  have hr2:Room 2 _:=hr.mono (by decide)
  refine'⟨?tt,?body,?fin⟩
  case body=>
   refine' Z04 ?s1 ?r1
   case s1=>exact Z0c (i:=3) scLeaf.nd rfl (Or.inl rfl) (Z05 GD hr1 (by rfl) U.mD U.D.kp U.bD .nil Z0f (Z0d (pv 0) (Z1d Z03 Z01)))
   case r1=>
    refine' Z0m ?s2 ?r2
    case s2=>
     refine' Z0y ?c (Z07 ?b) Z0h
     case c=>exact(Z4m (Z0a Z1c (pv 3) Z03 (Z0k _)) (Z33 (Z68 (Z0s hu (pv 1) Z08 (fun _ _=>rfl))))).pt
     case b=>exact Z0i (Z1a (Z1d Z08 Z01))
    case r2=>
     refine' Z04 ?s3 ?r3
     case s3=>exact Z0c (i:=4) scLeaf.nd rfl (Or.inl rfl) (Z0l Z24 (Z0l Z24 (Z0s hu (pv 1) Z08 (fun _ _=>rfl)) (pv 2)) (pv 2))
     case r3=>
      refine' Z04 ?s4 (Z07 ?s5)
      case s4=>
       refine' Z0y ?c (Z07 ?b) Z0h
       case c=>exact(Z69 (Z0a Z89 (pv 3) Z03 (Z0k _)) (Z5u (Z0a (Z54 hu0) (pv 4) (Z0x Z01) (Z0k _)))).pt
       case b=>exact Z0i (Z1a (Z1d Z08 (Z2a (Z05 GV hr2 (by rfl) mV FV.kp bV .nil Z0f (Z0d (pv 0) Z01)) Z01)))
      case s5=>
       refine' Z0i (Z1a (Z1d Z08 (Z0b ?x Z01)))
       case x=>exact Z0r Z0z (pv 4) (Z05 GD hr1 (by rfl) U.mD U.D.kp U.bD .nil Z0f (Z0d (pv 0) (Z2a (Z0n Z0o (by rfl) U.T.len PySem.boot_len (Z0d (pv 4) Z01)) Z01))) (fun _ _=>rfl)
  case fin=>
   refine⟨_,rfl,d,l,ns,n,_,rfl,C0.F,by omega,by decide,by decide,fun way n1 H1 w0 w1 hn1 F1 b1=>?_⟩
   have C1:=C0.draw b1 F1
   refine⟨fun σ' H'=>σ' = [some (.ref d),some (.ref wd),some (.ref bd),some (.int way),none]/\H'=H1,?_,?_⟩
   ·refine⟨_,rfl,rfl,_,rfl,Z1b (fun g=>?_) (fun g=>Zab ⟨rfl,rfl⟩)⟩
    refine⟨_,rfl,wd,.bl true,rfl,Zdf C1.W,true,rfl,Z9f ?_⟩
    refine⟨(by show 1<=sizeLine;decide),fun p hp=>?_⟩
    exact k (.ref p) (nd "take" [] []) n1 _ (.tup Z00 (.cons (.at (by decide+kernel)) .nil)) Zoh (by omega) (C1.same (Z02 hp))
   rintro σ2 H2 ⟨rfl,rfl⟩
   have n2:=C1.N.n2
   have n1':=C1.N.n1
   have bl:=C1.bl
   refine⟨_,rfl,wd,.ref a.nm,rfl,Z4e C1.W,_,rfl,a.nm,bd,i.T1.map V.str,bs.map V.str,rfl,rfl,C1.N.nm,C1.B,by rw[length_map,length_map];omega,fun c hc=>?_⟩
   have sc:=Z02 (o:=.lst (i.T1.map V.str++bs.map V.str)) hc
   have C2:=C1.same sc
   refine⟨_,rfl,c,bd,_,bs.map V.str,rfl,rfl,Z00,C2.B,by rw[length_append,length_map,length_map];omega,fun e he=>?_⟩
   have se:=Z02 (o:=.lst (i.T1.map V.str++bs.map V.str++bs.map V.str)) he
   have C3:=C2.same se
   have hE:upd (upd H2 c (.lst (i.T1.map V.str++bs.map V.str))) e (.lst (i.T1.map V.str++bs.map V.str++bs.map V.str)) e=some (.lst (i.T1.map V.str++bs.map V.str++bs.map V.str)):=Z00
   have hEl:(i.T1.map V.str++bs.map V.str++bs.map V.str).length=i.T1.length+bs.length+bs.length:=by simp only [length_append,length_map]
   have hEn:∀v∈i.T1.map V.str++bs.map V.str++bs.map V.str,∃x,v = .str x/\NmU S x:=by
    intro v hv
    rw[<- map_append,<- map_append] at hv
    obtain⟨x,hx,rfl⟩:=mem_map.mp hv
    refine⟨x,rfl,?_⟩
    rcases mem_append.mp hx with y|y
    ·rcases mem_append.mp y with y|y
     ·exact C1.N.an x y
     ·exact C1.bn x y
    ·exact C1.bn x y
   generalize upd (upd H2 c (.lst (i.T1.map V.str++bs.map V.str))) e (.lst (i.T1.map V.str++bs.map V.str++bs.map V.str))=H3 at C3 hE
   generalize i.T1.map V.str++bs.map V.str++bs.map V.str=es at hE hEl hEn
   have num:∀H4,Ctx S M H H4 d l wd a i bd bs ns n1 r z->spValue [.ref d] H4 (fun v H'=>2<=sizeLine/\∀p,H' p=none->Q (.ref p) (upd H' p (.tup [.str "num",v]))) E:=by
    intro H4 C4
    refine⟨d,l,ns,n1,rfl,C4.F,by omega,fun j n4 H5 j0 j1 hn4 F4 b4=>⟨(by decide),fun p hp=>?_⟩⟩
    exact k (.ref p) (nd "num" [.int j] []) n4 _ (.tup Z00 (.cons (.at (by decide+kernel)) (.cons (.at rfl) .nil))) (Zoi j0 j1) (by omega) ((C4.draw b4 F4).same (Z02 hp))
   refine⟨_,rfl,_,_,rfl,rfl,_,rfl,Z1b (fun g=>Z9f ⟨_,rfl,num _ C3⟩) (fun g=>?_)⟩
   refine⟨_,rfl,Nat.zero_le _,fun q hq=>?_⟩
   have sq:=Z02 (o:=.lst []) hq
   have C4:=C3.same sq
   have hne:es.isEmpty=false:=by
    cases es with
    |nil=>rw[length_nil] at hEl;omega
    |cons=>rfl
   refine⟨e,q,es,rfl,rfl,SqL.of (sq _ _ hE),SqL.of Z00,_,rfl,?_⟩
   rw[hne]
   refine Zab ?_
   have hl:((es.length:Nat):Int)=(i.T1.length+bs.length+bs.length:Nat):=by rw[hEl]
   refine⟨_,rfl,_,rfl,_,rfl,e,es,rfl,.inl (SqL.of (sq _ _ hE)),d,l,ns,n1,_,rfl,C4.F,by omega,by show(0:Int)<(es.length:Int);omega,by show(es.length:Int)<18446744073709551616;omega,fun j n5 H5 j0 j1 hn5 F5 b5=>?_⟩
   obtain⟨v5,hv5,hat5⟩:=Z34 (xs:=es) (i:=j) j0 j1
   obtain⟨x,rfl,hx⟩:=hEn v5 hv5
   refine⟨e,es,j,.str x,rfl,rfl,SqL.of (C4.F.lst b5 (sq _ _ hE)),hat5,(by show 2<=sizeLine;decide),fun p hp=>?_⟩
   exact k (.ref p) (nd "name" [.str x] []) n5 _ (.tup Z00 (.cons (.at (by decide+kernel)) (.cons (.at (Z3o hx)) .nil))) (Zka hx) (by omega) ((C4.draw b5 F5).same (Z02 hp))
end
structure Fn (K:PySem.W.Frag)(mg:Str->Option Value)(x:Str)(st:Stmt)(ps:List Str)(f:Addr)(d:FuncData):Prop where
 F:Fun K x x st f d
 b:Binds K d ps []
 m:mg x=some (.ref f)
structure GenF where
 fD:Addr
 fS:Addr
 fV:Addr
 fL:Addr
 fP:Addr
 fW:Addr
 fN:Addr
 fK:Addr
 fR:Addr
 fT:Addr
 fX:Addr
 dD:FuncData
 dS:FuncData
 dV:FuncData
 dL:FuncData
 dP:FuncData
 dW:FuncData
 dN:FuncData
 dK:FuncData
 dR:FuncData
 dT:FuncData
 dX:FuncData
structure Gen (K:PySem.W.Frag)(mg:Str->Option Value)(g:GenF):Prop where
 U:Helpers K mg g.fD g.fS g.dD g.dS
 X:HW K mg g.fP g.fW g.dP g.dW
 V:Fn K mg "_law_value" Z3h ["_law_feed_here"] g.fV g.dV
 L:Fn K mg "_law_leaf" Zf0 ["_law_feed_here","_law_world_here","_law_bound_here"] g.fL g.dL
 N:Fn K mg "_law_nodes" Z6q ["_law_e"] g.fN g.dN
 Y:Fn K mg "_law_work" Z4c ["_law_e","_law_works"] g.fK g.dK
 R:Fn K mg "_law_right" Z7x ["_law_e","_law_bound_here"] g.fR g.dR
 T:Fn K mg "_law_turned" Z5m ["_law_e","_law_names_here","_law_others"] g.fT g.dT
 S:Fn K mg "_law_spoilt" Z6r ["_law_e","_law_at","_law_leaf_here"] g.fX g.dX
 sum:mg "sum"=none
 all:mg "all"=none
section
variable {S:SS}{M:Nat}{P:Program}{w:World}{K:PySem.W.Frag}{mg:Str->Option Value}{base:Heap}{g:GenF}
theorem Gen.gD (G:Gen K mg g):FnOk P w K mg base CX0 1 g.fD g.dD ["_law_feed_here","_law_many"] spDraw:=Z8g G.U.D G.U.T
theorem Gen.gL (G:Gen K mg g):FnOk P w K mg base CX0 3 g.fL g.dL ["_law_feed_here","_law_world_here","_law_bound_here"] (Z5b S M):=Zkc G.L.F G.U G.V.F G.V.b G.V.m
theorem Gen.gN (G:Gen K mg g)(N:Nat):FnOk P w K mg base CX0 (N+2) g.fN g.dN ["_law_e"] (Z6x S N):=Zbx G.N.F G.N.b G.N.m G.X.T G.X.KI G.sum G.X.P G.X.bP G.X.mP N
theorem Gen.gK (G:Gen K mg g)(N:Nat):FnOk P w K mg base CX0 (N+2) g.fK g.dK ["_law_e","_law_works"] (Z6z S N):=Zde G.Y.F G.Y.b G.Y.m G.X.T G.X.KI G.sum G.X.P G.X.bP G.X.mP N
theorem Gen.gR (G:Gen K mg g)(N:Nat):FnOk P w K mg base CX0 (N+2) g.fR g.dR ["_law_e","_law_bound_here"] (Z8i S N):=Zhq G.R.F G.R.b G.R.m G.X.T G.X.KI G.all G.X.P G.X.bP G.X.mP N
theorem Gen.gT (G:Gen K mg g)(N:Nat):FnOk P w K mg base CX0 (N+2) g.fT g.dT ["_law_e","_law_names_here","_law_others"] (Z65 S N):=Zfa G.T.F G.T.b G.T.m G.X N
theorem Gen.gS (G:Gen K mg g)(N:Nat):FnOk P w K mg base CX0 (N+3) g.fX g.dX ["_law_e","_law_at","_law_leaf_here"] (Z4d S N 1):=Z9r G.S.F G.S.b G.S.m G.X G.U.T.range G.sum G.N.F G.N.b G.N.m 1 N
end
theorem Zaq {m:Nat}:∀{ks:List Th},(∀k∈ks,cnt k<=m)->Z1r ks<=ks.length*m:=by
 intro ks
 induction ks with
 |nil=>intro _;rw[Z1r];exact Nat.zero_le _
 |cons x ks ih=>
  intro h
  have h1:=h x (mem_cons_self ..)
  have h2:=ih fun k hk=>h k (mem_cons_of_mem _ hk)
  rw[Z1r,length_cons,Nat.succ_mul]
  omega
theorem Zkd {S:SS}:∀(n:Nat) {t:Th},PfT S n t->cnt t<=7 ^ n:=by
 intro n
 induction n with
 |zero=>intro t h;exact h.elim
 |succ n ih=>
  intro t h
  obtain⟨w,hd,ks,rfl,h1,h2,h3,h4,h5,h6⟩:=h
  rw[Z1l fun k hk=>(h6 k hk).isTup]
  have h7:=Zaq fun k hk=>ih (h6 k hk)
  have h8:ks.length*7 ^ n<=6*7 ^ n:=Nat.mul_le_mul_right _ h5
  have h9:0<7 ^ n:=Nat.pow_pos (by decide)
  rw[Nat.pow_succ]
  omega
inductive spCopied_ (S:SS)(M:Nat)(vs:List V)(H:Hp)(Q:VK):Prop
 |mk (d l wd:Addr) (a:WA) (i:WI) (bd:Addr) (bs:List Str) (ns:List Int) (n:Nat) (r z b tm:Int) (_:vs = [.ref d,.ref wd,.ref bd,.int b,.int tm]) (_:n<=700000000000) (_:M<=20) (_:0<=tm) (_:tm<=1000000000000000000) (_:0<=r) (_:Ctx S M H H d l wd a i bd bs ns n r z) (_:∀(v:V) (t:Th) (n':Nat) (r' z':Int) H',IsTh H' v t->PfT S (M+1) t->(cnt t:Int)<=1+r-r'->0<=r'->n'<=n+13->Ctx S M H H' d l wd a i bd bs ns n' r' z'->Q v H'):spCopied_ S M vs H Q
def Zbz (S:SS)(M:Nat):Sp:=fun vs H Q _=>spCopied_ S M vs H Q
theorem Zoj:(["_law_others","_law_name_here"]:List Str).Nodup:=by decide+kernel
section
variable {S:SS}{M:Nat}{P:Program}{w:World}{K:PySem.W.Frag}{mg:Str->Option Value}{base:Heap}{g:GenF}
theorem scCopied:FnScope ["_law_feed_here","_law_world_here","_law_bound_here","_law_below","_law_times","_law_seed","_law_names_here","_law_shift","_law_others","_law_found","_law_cost"] ["_law_feed_here","_law_world_here","_law_bound_here","_law_below","_law_times"] (Z06 Z4u):=⟨rfl,rfl,rfl,by decide+kernel,rfl,by decide+kernel,by decide+kernel⟩
theorem Zfc {f:Addr}{fd:FuncData}(F:Fun K "_law_copied" "_law_copied" Z4u f fd)(G:Gen K mg g):
  FnOk P w K mg base CX0 (M+4) f fd ["_law_feed_here","_law_world_here","_law_bound_here","_law_below","_law_times"] (Zbz S M):=by
 have GD:FnOk P w K mg base CX0 1 g.fD g.dD ["_law_feed_here","_law_many"] spDraw:=G.gD
 have GL:FnOk P w K mg base CX0 3 g.fL g.dL ["_law_feed_here","_law_world_here","_law_bound_here"] (Z5b S M):=G.gL
 have GN:FnOk P w K mg base CX0 (M+3) g.fN g.dN ["_law_e"] (Z6x S (M+1)):=G.gN (M+1)
 have GK:FnOk P w K mg base CX0 (M+3) g.fK g.dK ["_law_e","_law_works"] (Z6z S (M+1)):=G.gK (M+1)
 have GR:FnOk P w K mg base CX0 (M+3) g.fR g.dR ["_law_e","_law_bound_here"] (Z8i S (M+1)):=G.gR (M+1)
 have GT:FnOk P w K mg base CX0 (M+2) g.fT g.dT ["_law_e","_law_names_here","_law_others"] (Z65 S M):=G.gT M
 have GX:FnOk P w K mg base CX0 (M+3) g.fX g.dX ["_law_e","_law_at","_law_leaf_here"] (Z4d S M 1):=G.gS M
 refine F.ok scCopied (fun vs H Q E h=>?_) (fun cdv A outer s H vs Q E hr h=>?_)
 ·obtain⟨d,l,wd,a,i,bd,bs,ns,n,r,z,b,tm,rfl,_⟩:=h
  rfl
 ·obtain⟨d,l,wd,a,i,bd,bs,ns,n,r,z,b,tm,rfl,hn,hM,ht0,ht1,hr0,C0,k⟩:=h
  have hsz:sizeLine=16777216:=sizeLine_eq
  have hu:(_:Around).units+1<cLine:=Nat.lt_of_le_of_lt (Nat.add_le_add_left (by omega) _) hr.units
  have hu0:=hr.units0
  have hr1:Room 1 _:=hr.mono (by omega)
  have hr3:Room 3 _:=hr.mono (by omega)
  have hrM2:Room (M+2) _:=hr.mono (by omega)
  have hrM3:Room (M+3) _:=hr
  refine'⟨?tt,?body,?fin⟩
  case body=>
   refine' Z0m ?s1 (Z04 ?s2 (Z04 ?s3 (Z04 ?s4 (Z0m ?s5 (Z0m ?s6 (Z04 ?s7 (Z0m ?s8 (Z04 ?s9 (Z0m ?s10 (Z04 ?s11 (Z04 ?s12 (Z07 ?s13))))))))))))
   case s1=>exact Z0y (Z0a (Z54 hu0) (Z0s hu (pv 1) Z08 (fun _ _=>rfl)) (Z0x Z01) (Z0k _)) (Z07 (Z0i (Z05 GL hr3 (by rfl) G.L.m G.L.F.kp G.L.b .nil Z0f (Z0d (pv 0) (Z0d (pv 1) (Z0d (pv 2) Z01)))))) Z0h
   case s2=>exact Z0c (i:=5) scCopied.nd rfl (Or.inl rfl) (Z0r Z0z (Z0s hu (pv 1) Z08 (fun _ _=>rfl)) (Z05 GD hr1 (by rfl) G.U.mD G.U.D.kp G.U.bD .nil Z0f (Z0d (pv 0) (Z2a (Z0n Z0o (by rfl) G.U.T.len PySem.boot_len (Z0b (Z0s hu (pv 1) Z08 (fun _ _=>rfl)) Z01)) Z01))) (fun _ _=>rfl))
   case s3=>exact Z0c (i:=6) scCopied.nd rfl (Or.inl rfl) (Z0s hu (pv 1) Z08 (fun _ _=>rfl))
   case s4=>exact Z0c (i:=7) scCopied.nd rfl (Or.inl rfl) (Z05 GD hr1 (by rfl) G.U.mD G.U.D.kp G.U.bD .nil Z0f (Z0d (pv 0) (Z2a (Z0n Z0o (by rfl) G.U.T.len PySem.boot_len (Z0d (pv 6) Z01)) Z01)))
   case s5=>exact Z0c (i:=8) scCopied.nd rfl (Or.inr rfl) (Z0l Z24 (Z17 Z3m (pv 6) (Z1h (pv 7)) Z1m) (Z17 Z3m (pv 6) Z1m (Z1h (pv 7))))
   case s6=>
    refine' Z0y ?c (Z07 ?b) Z0h
    case c=>exact Z0a Z1c (Z05 GD hr1 (by rfl) G.U.mD G.U.D.kp G.U.bD .nil Z0f (Z0d (pv 0) (Z1d Z03 Z01))) Z03 (Z0k _)
    case b=>
     refine' Z0c (i:=8) scCopied.nd rfl (Or.inr rfl) (Z1n (N':=["_law_others","_law_name_here"]) (src:=[some 8,none]) ?k1 ?k5 ?k6 ?k7)
     case k1=>rfl
     case k5=>exact Z0j (Z06 Z4u) rfl ["_law_feed_here","_law_world_here","_law_bound_here","_law_below","_law_times","_law_seed","_law_names_here","_law_shift","_law_others","_law_found","_law_cost"] rfl (by decide+kernel)
     case k6=>exact Z1w (pv 6)
     case k7=>exact fun cl C ex s0 H0=>⟨Z0t (i:=1) Zoj rfl (Or.inl rfl),Z1k,Z0r (Zbl (K:=K) rfl) (pv 0) Z03 (fun _ _=>rfl)⟩
   case s7=>exact Z0c (i:=9) scCopied.nd rfl (Or.inl rfl) (Z05 GT hrM2 (by rfl) G.T.m G.T.F.kp G.T.b .nil Z0f (Z0d (pv 5) (Z0d (pv 6) (Z0d (pv 8) Z01))))
   case s8=>
    refine' Z0y ?c (Z07 ?b) Z0h
    case c=>exact Z0a Z1c (Z05 GD hr1 (by rfl) G.U.mD G.U.D.kp G.U.bD .nil Z0f (Z0d (pv 0) (Z1d Z03 Z01))) Z03 (Z0k _)
    case b=>exact Z0c (i:=9) scCopied.nd rfl (Or.inl rfl) (Z05 GX hrM3 (by rfl) G.S.m G.S.F.kp G.S.b .nil Z0f (Z0d (pv 9) (Z2a (Z05 GD hr1 (by rfl) G.U.mD G.U.D.kp G.U.bD .nil Z0f (Z0d (pv 0) (Z2a (Z05 GN hrM3 (by rfl) G.N.m G.N.F.kp G.N.b .nil Z0f (Z0d (pv 9) Z01)) Z01))) (Z2a (Z05 GL hr3 (by rfl) G.L.m G.L.F.kp G.L.b .nil Z0f (Z0d (pv 0) (Z0d (pv 1) (Z0d (pv 2) Z01)))) Z01))))
   case s9=>exact Z0c (i:=10) scCopied.nd rfl (Or.inl rfl) (Z0l Z22 (pv 4) (Z05 GK hrM3 (by rfl) G.Y.m G.Y.F.kp G.Y.b .nil Z0f (Z0d (pv 9) (Z0b (Z0s hu (pv 1) Z08 (fun _ _=>rfl)) Z01))))
   case s10=>
    refine' Z0y ?c (Z07 ?b) Z0h
    case c=>exact(Z69 (Z8x (Z68 (Z05 GR hrM3 (by rfl) G.R.m G.R.F.kp G.R.b .nil Z0f (Z0d (pv 9) (Z0d (pv 2) Z01))))) (Z69 (Z0a Zgw (pv 10) (Z0l Z1v (Z0s hu (pv 1) Z08 (fun _ _=>rfl)) (Z0l Z22 Z03 (pv 4))) (Z0k _)) (Z5u (Z0a Zgw (Z05 GN hrM3 (by rfl) G.N.m G.N.F.kp G.N.b .nil Z0f (Z0d (pv 9) Z01)) (Z0s hu (pv 1) Z08 (fun _ _=>rfl)) (Z0k _))))).pt
    case b=>exact Z0i (Z05 GL hr3 (by rfl) G.L.m G.L.F.kp G.L.b .nil Z0f (Z0d (pv 0) (Z0d (pv 1) (Z0d (pv 2) Z01))))
   case s11=>exact Z29 hu (pv 1) Z08 (Z0l Z1v (Z0s hu (pv 1) Z08 (fun _ _=>rfl)) (pv 10)) (by rfl)
   case s12=>exact Z29 hu (pv 1) Z08 (Z0l Z1v (Z0s hu (pv 1) Z08 (fun _ _=>rfl)) (Z05 GN hrM3 (by rfl) G.N.m G.N.F.kp G.N.b .nil Z0f (Z0d (pv 9) Z01))) (by rfl)
   case s13=>exact Z0i (pv 9)
  case fin=>
   have leaf:∀H4 n4,n4<=n+9->Ctx S M H H4 d l wd a i bd bs ns n4 r z->Z5b S M [.ref d,.ref wd,.ref bd] H4 (fun v H'=>Q v H') E:=by
    intro H4 n4 h4 C4
    refine⟨d,l,wd,a,i,bd,bs,ns,n4,r,z,rfl,by omega,C4.zero,fun v t n5 H5 hv hL hn5 C5=>?_⟩
    exact k v t n5 r z H5 hv (hL.1.le (by omega)) (by have:=hL.2;omega) hr0 (by omega) (C5.tail C4.b2)
   refine⟨fun σ' H'=>σ' = [some (.ref d),some (.ref wd),some (.ref bd),some (.int b),some (.int tm),none,none,none,none,none,none]/\Ctx S M H H' d l wd a i bd bs ns n r z/\0<i.sv.length,?_,?_⟩
   ·refine⟨_,rfl,wd,.ref a.sd,rfl,Z5q C0.W,Nat.zero_le _,fun q hq=>?_⟩
    have sq:=Z02 (o:=.lst []) hq
    have C1:=C0.same sq
    refine⟨a.sd,q,i.sv,rfl,rfl,SqL.of C1.N.sd,SqL.of Z00,_,rfl,Z1b (fun g=>⟨_,rfl,_,rfl,_,rfl,leaf _ n (by omega) C1⟩) (fun g=>⟨rfl,C1,?_⟩)⟩
    cases e:i.sv with
    |nil=>rw[e] at g;exact absurd rfl g
    |cons=>exact Nat.succ_pos _
   rintro σ1 H1 ⟨rfl,C1,hs0⟩
   have hs2:=C1.N.s2
   refine⟨_,rfl,wd,.ref a.sd,rfl,Z5q C1.W,_,rfl,_,rfl,wd,.ref a.sd,rfl,Z5q C1.W,a.sd,i.sv,rfl,.inl (SqL.of C1.N.sd),d,l,ns,n,_,rfl,C1.F,by omega,by omega,by omega,fun j n2 H2 j0 j1 hn2 F2 b2=>?_⟩
   have C2:=C1.draw b2 F2
   obtain⟨vs,hvs,hat⟩:=Z34 (xs:=i.sv) (i:=j) j0 j1
   obtain⟨jj,_,hjj,_⟩:=Z6e hat
   obtain⟨ts,hts,hsv⟩:=Z1o _ C2.N.ss hjj
   have pts:=C2.N.sp ts (mem_of_getElem? hts)
   have n1:=C2.N.n1
   have n2':=C2.N.n2
   refine⟨a.sd,i.sv,j,vs,rfl,rfl,SqL.of C2.N.sd,hat,?_⟩
   refine⟨_,rfl,wd,.ref a.nm,rfl,Z4e C2.W,?_⟩
   have hl1:((i.T1.map V.str).length:Int)=(i.T1.length:Int):=by rw[length_map]
   refine⟨_,rfl,_,rfl,a.nm,i.T1.map V.str,rfl,.inl (SqL.of C2.N.nm),d,l,ns,n2,_,rfl,C2.F,by omega,by show(0:Int)<((i.T1.map V.str).length:Int);omega,by show((i.T1.map V.str).length:Int)<18446744073709551616;omega,fun sh n3 H3 sh0 sh1 hn3 F3 b3=>?_⟩
   have C3:=C2.draw b3 F3
   have hsv3:=IsTh.kp (b3.kp C2.F) hsv
   clear C1 C2 hsv F2 F3 b2 b3
   let Oth:Hp->Addr->Prop:=fun H' oa=>∃T2:List Str,H' oa=some (.lst (T2.map V.str))/\T2.length=i.T1.length/\∀t∈T2,NmU S t
   refine⟨fun σ' H'=>∃oa,σ' = [some (.ref d),some (.ref wd),some (.ref bd),some (.int b),some (.int tm),some vs,some (.ref a.nm),some (.int sh),some (.ref oa),none,none]/\Oth H' oa/\IsTh H' vs ts/\Ctx S M H H' d l wd a i bd bs ns n3 r z,?_,?_⟩
   ·refine⟨_,rfl,_,rfl,sh,rfl,a.nm,_,rfl,SqL.of C3.N.nm,fun p1 hp1=>?_⟩
    rw[Z2b sh0 (by rw[length_map];omega)]
    have s1:=Z02 (o:=.lst ((i.T1.map V.str).drop sh.toNat)) hp1
    have C4:=C3.same s1
    refine⟨_,rfl,_,rfl,sh,rfl,a.nm,_,rfl,SqL.of C4.N.nm,fun p2 hp2=>?_⟩
    rw[Z9l sh0 (by rw[length_map];omega)]
    have s2:=Z02 (o:=.lst ((i.T1.map V.str).take sh.toNat)) hp2
    have C5:=C4.same s2
    refine⟨p1,p2,_,_,rfl,rfl,s2 _ _ Z00,Z00,by rw[length_drop,length_take,length_map];omega,fun p3 hp3=>?_⟩
    have s3:=Z02 (o:=.lst ((i.T1.map V.str).drop sh.toNat++(i.T1.map V.str).take sh.toNat)) hp3
    refine⟨p3,rfl,⟨i.T1.drop sh.toNat++i.T1.take sh.toNat,?_,?_,?_⟩,IsTh.kp (Kp.of ((s1.trans s2).trans s3)) hsv3,C5.same s3⟩
    ·rw[Z00,map_append,map_drop,map_take]
    ·rw[length_append,length_drop,length_take];omega
    ·intro t ht
     rcases mem_append.mp ht with y|y
     ·exact C3.N.an t (mem_of_mem_drop y)
     ·exact C3.N.an t (mem_of_mem_take y)
   clear C3 hsv3
   rintro σ5 H5 ⟨oa,rfl,O5,hv5,C5⟩
   refine⟨fun σ' H'=>∃oa n',σ' = [some (.ref d),some (.ref wd),some (.ref bd),some (.int b),some (.int tm),some vs,some (.ref a.nm),some (.int sh),some (.ref oa),none,none]/\Oth H' oa/\n'<=n+3/\IsTh H' vs ts/\Ctx S M H H' d l wd a i bd bs ns n' r z,?_,?_⟩
   ·refine⟨_,rfl,d,l,ns,n3,_,rfl,C5.F,by omega,by decide,by decide,fun q n6 H6 q0 q1 hn6 F6 b6=>?_⟩
    have C6:=C5.draw b6 F6
    have hv6:=IsTh.kp (b6.kp C5.F) hv5
    obtain⟨T2,hT,hTl,hTn⟩:=O5
    have hT6:=C5.F.lst b6 hT
    refine⟨rfl,_,rfl,Z1b (fun g=>?_) (fun g=>⟨oa,n6,rfl,⟨T2,hT6,hTl,hTn⟩,by omega,hv6,C6⟩)⟩
    obtain⟨x0,hx0⟩:∃x,T2[0]? = some x:=⟨_,List.getElem?_eq_getElem (by omega)⟩
    refine⟨_,rfl,a.nm,rfl,⟨_,SqL.of C6.N.nm⟩,Z1i (K:=K) (a:=a.nm) (xs:=i.T1.map V.str) (fun j ys σc H'=>∃(o:Option V) (fs:List Str),σc = [some (.ref oa),o]/\H'=H6/\ys=fs.map V.str/\fs.length=j/\∀t∈fs,NmU S t)
      ⟨none,[],rfl,rfl,rfl,rfl,(fun t ht=>by cases ht)⟩ (fun i ys σc H' ⟨_,_,_,e,_⟩=>by rw[e];exact SqL.of C6.N.nm) ?_ ?_⟩
    ·rintro j x ys σc H' hx hj ⟨o,fs,rfl,rfl,rfl,hfl,hfa⟩
     rw[length_map] at hj
     refine⟨by rw[length_map];omega,?_⟩
     refine⟨_,rfl,oa,T2.map V.str,_,.str x0,rfl,rfl,SqL.of hT6,Z23 (j:=0) (by rw[List.getElem?_map,hx0];rfl),nx (by rw[length_map];exact hj) ⟨_,fs ++ [x0],rfl,rfl,by rw[map_append];rfl,by rw[length_append,hfl];rfl,fun u hu=>?_⟩⟩
     rcases mem_append.mp hu with y|y
     ·exact hfa u y
     ·rw[mem_singleton] at y;subst y;exact hTn u (mem_of_getElem? hx0)
    ·rintro ys σc H' ⟨o,fs,rfl,rfl,rfl,hfl,hfa⟩ q hq
     have sq:=Z02 (o:=.lst (fs.map V.str)) hq
     exact⟨q,n6,rfl,⟨fs,Z00,by rw[hfl,length_map],hfa⟩,by omega,IsTh.kp (Kp.of sq) hv6,C6.same sq⟩
   clear O5 C5 hv5
   rintro σ6 H6 ⟨oa,n6,rfl,⟨T2,hT,hTl,hTn⟩,hn6,hv6,C6⟩
   refine⟨_,rfl,_,rfl,_,rfl,vs,a.nm,oa,ts,i.T1,T2,rfl,hv6,pts,C6.N.nm,hT,hTl.symm,by omega,hTn,fun v7 t7 H7 s7 hv7 pf7 c7=>?_⟩
   have C7:=C6.same s7
   refine⟨fun σ' H'=>∃v8 t8 n8,σ' = [some (.ref d),some (.ref wd),some (.ref bd),some (.int b),some (.int tm),some vs,some (.ref a.nm),some (.int sh),some (.ref oa),some v8,none]/\n8<=n+9/\IsTh H' v8 t8/\PfT S (M+1) t8/\Ctx S M H H' d l wd a i bd bs ns n8 r z,?_,?_⟩
   ·refine⟨_,rfl,d,l,ns,n6,_,rfl,C7.F,by omega,by decide,by decide,fun q n8 H8 q0 q1 hn8 F8 b8=>?_⟩
    have C8:=C7.draw b8 F8
    have hv8:=IsTh.kp (b8.kp C7.F) hv7
    refine⟨rfl,_,rfl,Z1b (fun g=>?_) (fun g=>⟨v7,t7,n8,rfl,by omega,hv8,pf7.le (by omega),C8⟩)⟩
    have hc:=Z5y pf7
    refine⟨_,rfl,_,rfl,_,rfl,v7,t7,rfl,hv8,pf7.le (by omega),fun H9 s9=>?_⟩
    have C9:=C8.same s9
    have hcl:(cnt t7:Int)<18446744073709551616:=by
     have h1:=Zkd M pf7
     have h2:7 ^ M<=7 ^ 20:=Nat.pow_le_pow_right (by decide) hM
     have h3:(7:Nat) ^ 20=79792266297612001:=by decide
     omega
    refine⟨d,l,ns,n8,_,rfl,C9.F,by omega,by omega,hcl,fun q2 n10 H10 y0 y1 hn10 F10 b10=>?_⟩
    have C10:=C9.draw b10 F10
    have hv10:=IsTh.kp (b10.kp C9.F) (IsTh.kp (Kp.of s9) hv8)
    refine⟨_,rfl,_,rfl,_,rfl,d,l,wd,a,i,bd,bs,ns,n10,r,z,rfl,by omega,C10.zero,fun vl tl n11 H11 hvl hL hn11 C11=>?_⟩
    have hv11:=IsTh.kp (C11.b2.kp C10.F C10.W) hv10
    refine⟨v7,vl,q2,t7,tl,rfl,hv11,pf7,hvl,hL.1,fun v12 t12 H12 s12 hv12 pf12 _=>?_⟩
    exact⟨v12,t12,n11,rfl,by omega,hv12,pf12,(C11.tail C10.b2).same s12⟩
   clear C6 C7 hv6 hv7 hT
   rintro σ8 H8 ⟨v8,t8,n8,rfl,hn8,hv8,pf8,C8⟩
   refine⟨_,rfl,_,rfl,_,rfl,wd,.ref a.wo,rfl,Z80 C8.W,v8,a.wo,t8,i.ρ,i.kvs,rfl,hv8,pf8,C8.N.wo,C8.N.wk,fun H9 s9=>?_⟩
   have C9:=C8.same s9
   have hv9:=IsTh.kp (Kp.of s9) hv8
   refine⟨_,_,rfl,rfl,.inl ⟨by omega,by omega⟩,?_⟩
   obtain⟨co,hco⟩:∃co,co=tm*wk i.ρ t8:=⟨_,rfl⟩
   refine⟨fun σ' H'=>σ' = [some (.ref d),some (.ref wd),some (.ref bd),some (.int b),some (.int tm),some vs,some (.ref a.nm),some (.int sh),some (.ref oa),some v8,some (.int co)]/\IsTh H' v8 t8/\(cnt t8:Int)<=r/\Ctx S M H H' d l wd a i bd bs ns n8 r z,?_,?_⟩
   ·have bl:=C9.bl
    refine⟨_,rfl,_,rfl,v8,bd,t8,bs,rfl,hv9,pf8,C9.B,by omega,fun rb H10 s10=>?_⟩
    have C10:=C9.same s10
    have hv10:=IsTh.kp (Kp.of s10) hv9
    refine⟨_,rfl,Z1b (fun g=>Z9f ⟨_,rfl,_,rfl,_,rfl,leaf _ n8 hn8 C10⟩) (fun g=>?_)⟩
    refine⟨_,rfl,_,rfl,wd,.int z,rfl,Z2y C10.W,_,rfl,_,_,rfl,rfl,.inl ⟨by decide,by decide⟩,_,_,rfl,rfl,_,_,rfl,rfl,_,rfl,Z1b (fun g=>Z9f ⟨_,rfl,_,rfl,_,rfl,leaf _ n8 hn8 C10⟩) (fun g=>?_)⟩
    refine⟨_,rfl,v8,t8,rfl,hv10,pf8,fun H11 s11=>?_⟩
    have C11:=C10.same s11
    have hv11:=IsTh.kp (Kp.of s11) hv10
    refine⟨_,rfl,wd,.int r,rfl,Z59 C11.W,_,_,rfl,rfl,_,rfl,Z1b (fun g=>⟨_,rfl,_,rfl,_,rfl,leaf _ n8 hn8 C11⟩) (fun g=>⟨by rw[hco];rfl,hv11,?_,C11⟩)⟩
    rw[decide_eq_true_iff] at g
    omega
   clear C8 C9 hv8 hv9
   rintro σ9 H9 ⟨rfl,hv9,hcr,C9⟩
   refine⟨_,rfl,wd,.int z,rfl,Z2y C9.W,_,rfl,_,_,rfl,rfl,_,rfl,wd,_,rfl,Z5a C9.W,?_⟩
   have C10:=C9.put (r2:=r) (z2:=z-co)
   have hv10:=IsTh.kp ((But2.upd (d:=d)).kp C9.F C9.W) hv9 (H':=upd H9 wd (.dK (Z0g a r (z-co))))
   refine⟨_,rfl,wd,.int r,rfl,Z59 C10.W,_,rfl,v8,t8,rfl,hv10,pf8,fun H11 s11=>?_⟩
   have C11:=C10.same s11
   have hv11:=IsTh.kp (Kp.of s11) hv10
   refine⟨_,_,rfl,rfl,_,rfl,wd,_,rfl,Z71 C11.W,?_⟩
   have C12:=C11.put (r2:=r-cnt t8) (z2:=z-co)
   have hv12:=IsTh.kp ((But2.upd (d:=d)).kp C11.F C11.W) hv11 (H':=upd H11 wd (.dK (Z0g a (r-cnt t8) (z-co))))
   refine⟨_,rfl,k v8 t8 n8 _ _ _ hv12 pf8 (by omega) (by omega) (by omega) C12⟩
end
def cD:Nat->Nat
 | 0=>0
 |N+1=>40+6*cD N
def tB (N:Nat):Int:=5 ^ (20-N)
theorem Z9s (N:Nat):0<tB N:=Int.pow_pos (by decide)
theorem Zar {N:Nat}(h:N<=10):tB N=5*tB (N+1):=by
 unfold tB
 rw[show 20-N=(20-(N+1))+1 by omega,Int.pow_succ]
 omega
theorem Zmo:∀{N:Nat},N<=10->tB N<=95367431640625:=by
 intro N
 induction N with
 |zero=>intro _;exact Int.le_of_eq (by decide)
 |succ N ih=>
  intro h
  have h1:=ih (by omega)
  have h2:=Zar (N:=N) (by omega)
  have h3:=Z9s (N+1)
  omega
inductive spExpr_ (S:SS)(M N:Nat)(vs:List V)(H:Hp)(Q:VK):Prop
 |mk (d l wd:Addr) (a:WA) (i:WI) (bd:Addr) (bs:List Str) (ns:List Int) (n:Nat) (r z b tm:Int) (_:vs = [.ref d,.ref wd,.ref bd,.int b,.int tm]) (_:1<=N) (_:N<=10) (_:b<=N) (_:M<=20) (_:0<=tm) (_:tm<=tB N) (_:n+cD N<=600000000000) (_:bs.length+N<=100) (_:Ctx S M H H d l wd a i bd bs ns n r z) (_:∀(v:V) (t:Th) (n':Nat) (r' z':Int) H',IsTh H' v t->PfT S (M+N) t->(cnt t:Int)<=r-r'->(r<=6->r'=r-1)->(7<=r -> -5*(N:Int)<=r')->n'<=n+cD N->Ctx S M H H' d l wd a i bd bs ns n' r' z'->Q v H'):spExpr_ S M N vs H Q
def Z72 (S:SS)(M N:Nat):Sp:=fun vs H Q _=>spExpr_ S M N vs H Q
inductive spBound_ (S:SS)(M N:Nat)(vs:List V)(H:Hp)(Q:VK):Prop
 |mk (d l wd:Addr) (a:WA) (i:WI) (bd:Addr) (bs:List Str) (ns:List Int) (n:Nat) (r z b tm:Int) (kd:Str) (_:vs = [.ref d,.ref wd,.ref bd,.int b,.int tm,.str kd]) (_:1<=N) (_:N<=10) (_:b<=N+1) (_:M<=20) (_:0<=tm) (_:tm<=tB N) (_:n+(1+2*cD N)<=600000000000) (_:bs.length+(N+1)<=100) (_:6<=r) (_:Ctx S M H H d l wd a i bd bs ns n r z) (_:∀(v:V) (t:Th) (n':Nat) (r' z':Int) H',IsTh H' v t->PfT S (M+N+1) t->(cnt t:Int)<=1+r-r' -> -5*((N:Int)+1)<=r'->n'<=n+(1+2*cD N)->Ctx S M H H' d l wd a i bd bs ns n' r' z'->Q v H'):spBound_ S M N vs H Q
def Zfd (S:SS)(M N:Nat):Sp:=fun vs H Q _=>spBound_ S M N vs H Q
inductive spCalled_ (S:SS)(M N:Nat)(vs:List V)(H:Hp)(Q:VK):Prop
 |mk (d l wd:Addr) (a:WA) (i:WI) (bd:Addr) (bs:List Str) (ns:List Int) (n:Nat) (r z b tm:Int) (_:vs = [.ref d,.ref wd,.ref bd,.int b,.int tm]) (_:1<=N) (_:N<=10) (_:b<=N+1) (_:M<=20) (_:0<=tm) (_:tm<=tB N) (_:n+(5+6*cD N)<=600000000000) (_:bs.length+(N+1)<=100) (_:6<=r) (_:Ctx S M H H d l wd a i bd bs ns n r z) (_:∀(v:V) (t:Th) (n':Nat) (r' z':Int) H',IsTh H' v t->PfT S (M+N+1) t->(cnt t:Int)<=1+r-r' -> -5*((N:Int)+1)<=r'->n'<=n+(5+6*cD N)->Ctx S M H H' d l wd a i bd bs ns n' r' z'->Q v H'):spCalled_ S M N vs H Q
def Zc0 (S:SS)(M N:Nat):Sp:=fun vs H Q _=>spCalled_ S M N vs H Q
theorem Z9t {S:SS}{w:Str}{hd:List V}{n:Nat}(h1:w≠"set")(h2:w≠"name")(h3:w≠"call")(h4:w≠"again")(lv:∀v∈hd,lfV v=true)(lw:lfV (.str w)=true)(sh:Sh S w hd n):HdE S w hd n:=
 ⟨fun z=>z.elim (fun q=>absurd q h1) (fun q=>absurd q h2),fun z=>absurd z h3,fun z=>absurd z h4,lv,lw,sh⟩
theorem Z3p {S:SS}{n:Nat}{w:Str}{hd:List V}{ks:List Th}(h1:hd.length<=1)(hp:∀v∈hd,plT (.at v)=true)(hl:w≠"let")(hE:HdE S w hd ks.length)(h5:ks.length<=6)(h6:∀k∈ks,PfT S n k):PfT S (n+1) (nd w hd ks):=
 ⟨w,hd,ks,rfl,h1,hp,fun z=>absurd z hl,hE,h5,h6⟩
theorem Z13 {α : Type}{p : α -> Prop}{x : α}(h:p x):∀y ∈ [x],p y:=fun y hy=>by rw[mem_singleton] at hy;rw[hy];exact h
theorem Z21 {α : Type}{p : α -> Prop}{x y : α}(h:p x)(g:p y):∀u ∈ [x,y],p u:=fun u hu=>by
 rcases mem_cons.mp hu with q|q
 ·rw[q];exact h
 ·exact Z13 g u q
theorem Zmp {S:SS}{n:Nat}{x:Str}{t:Th}(hx:NmU S x)(h:PfT S n t):PfT S (n+1) (nd "set" [.str x] [t]):=
 Z3p (Nat.le_refl _) (Z13 rfl) (by decide+kernel) ⟨fun _=>⟨x,rfl⟩,fun z=>absurd z (by decide+kernel),fun z=>absurd z (by decide+kernel),Z13 (Zdc hx),by decide+kernel,.set hx⟩ (by show 1<=6;decide) (Z13 h)
theorem Zmq {S:SS}{n:Nat}{t:Th}(h:PfT S n t):PfT S (n+1) (nd "say" [] [t]):=
 Z3p (Nat.zero_le _) (fun v hv=>by cases hv) (by decide+kernel) (Z9t (by decide+kernel) (by decide+kernel) (by decide+kernel) (by decide+kernel) (fun v hv=>by cases hv) (by decide+kernel) .say) (by show 1<=6;decide) (Z13 h)
theorem Zmr {S:SS}{n:Nat}{x:Str}{t u:Th}(hx:NmU S x)(h:PfT S n t)(g:PfT S n u):PfT S (n+1) (nd "let" [.str x] [t,u]):=
 ⟨"let",[.str x],[t,u],rfl,Nat.le_refl _,Z13 rfl,fun _=>⟨⟨x,rfl⟩,rfl⟩,Z9t (by decide+kernel) (by decide+kernel) (by decide+kernel) (by decide+kernel) (Z13 (Zdc hx)) (by decide+kernel) (.lt hx),by show 2<=6;decide,Z21 h g⟩
theorem Zc1 {S:SS}{n:Nat}{j:Int}{t:Th}(h0:0<=j)(h5:j<=5)(h:PfT S n t):PfT S (n+1) (nd "again" [.int j] [t]):=
 Z3p (Nat.le_refl _) (Z13 rfl) (by decide+kernel) ⟨fun z=>z.elim (fun q=>absurd q (by decide+kernel)) (fun q=>absurd q (by decide+kernel)),fun z=>absurd z (by decide+kernel),fun _=>⟨j,rfl,h0,h5⟩,Z13 (decide_eq_true (by omega)),by decide+kernel,.again h0 h5⟩ (by show 1<=6;decide) (Z13 h)
theorem Zke {S:SS}{n:Nat}{w:Str}{hd:List V}{t:Th}(h:PfT S n t):cnt (nd w hd [t])=1+cnt t:=by
 rw[Z1l (Z13 h.isTup)];simp [Z1r]
theorem Zkf {S:SS}{n:Nat}{w:Str}{hd:List V}{t u:Th}(h:PfT S n t)(g:PfT S n u):cnt (nd w hd [t,u])=1+(cnt t+cnt u):=by
 rw[Z1l (Z21 h.isTup g.isTup)];simp [Z1r]
theorem Zok:(["_law_bound_here","_law_name_here"]:List Str).Nodup:=by decide+kernel
section
variable {S:SS}{M:Nat}{P:Program}{w:World}{K:PySem.W.Frag}{mg:Str->Option Value}{base:Heap}{g:GenF}
theorem scBound:FnScope ["_law_feed_here","_law_world_here","_law_bound_here","_law_below","_law_times","_law_kind","_law_some","_law_name_here","_law_first"] ["_law_feed_here","_law_world_here","_law_bound_here","_law_below","_law_times","_law_kind"] (Z06 Z6s):=⟨rfl,rfl,rfl,by decide+kernel,rfl,by decide+kernel,by decide+kernel⟩
theorem Zhu {f fE:Addr}{fd dE:FuncData}(F:Fun K "_law_bound" "_law_bound" Z6s f fd)(G:Gen K mg g)(FE:Fn K mg "_law_expr" Z8e ["_law_feed_here","_law_world_here","_law_bound_here","_law_below","_law_times"] fE dE){N c:Nat}
  (GE:FnOk P w K mg base CX0 c fE dE ["_law_feed_here","_law_world_here","_law_bound_here","_law_below","_law_times"] (Z72 S M N)) (hc:1<=c):
  FnOk P w K mg base CX0 (c+1) f fd ["_law_feed_here","_law_world_here","_law_bound_here","_law_below","_law_times","_law_kind"] (Zfd S M N):=by
 have GD:FnOk P w K mg base CX0 1 g.fD g.dD ["_law_feed_here","_law_many"] spDraw:=G.gD
 refine F.ok scBound (fun vs H Q E h=>?_) (fun cdv A outer s H vs Q E hr h=>?_)
 ·obtain⟨d,l,wd,a,i,bd,bs,ns,n,r,z,b,tm,kd,rfl,_⟩:=h
  rfl
 ·obtain⟨d,l,wd,a,i,bd,bs,ns,n,r,z,b,tm,kd,rfl,hN1,hN10,hb,hM,ht0,ht1,hn,hbl,hr6,C0,k⟩:=h
  have hsz:sizeLine=16777216:=sizeLine_eq
  have hu:(_:Around).units+1<cLine:=Nat.lt_of_le_of_lt (Nat.add_le_add_left (by omega) _) hr.units
  have hu0:=hr.units0
  have hr1:Room 1 _:=hr.mono (by omega)
  refine'⟨?tt,?body,?fin⟩
  case body=>
   refine' Z0m ?s1 (Z0m ?s2 (Z04 ?s3 (Z07 ?s4)))
   case s1=>
    refine' Z2v (i:=6) (N':=["_law_bound_here","_law_name_here"]) (src:=[some 2,none]) ?k1 ?k2 ?k3 ?k4 ?k5 ?k6 ?k7
    case k1=>rfl
    case k2=>exact scBound.nd
    case k3=>rfl
    case k4=>exact Or.inl rfl
    case k5=>exact Z0j (Z06 Z6s) rfl ["_law_feed_here","_law_world_here","_law_bound_here","_law_below","_law_times","_law_kind","_law_some","_law_name_here","_law_first"] rfl (by decide+kernel)
    case k6=>exact Z1w (Z0s hu (pv 1) Z08 (fun _ _=>rfl))
    case k7=>exact fun cl C ex s0 H0=>⟨Z0t (i:=1) Zok rfl (Or.inl rfl),Z5i (Z0a (Z8c (K:=K) rfl) (pv 1) (pv 0) (by with_unfolding_all rfl)),pv 1⟩
   case s2=>
    refine' Z0y ?c (Z04 ?e1 (Z07 ?e2)) Z0h
    case c=>exact(Z4m (Z0a Z1c (pv 5) Z08 (Z0k _)) (Z33 (Z0a (Z48 hu0) (pv 6) (Z0x Z01) (Z0k _)))).pt
    case e1=>exact Z0c (i:=7) scBound.nd rfl (Or.inl rfl) (Z0r Z0z (pv 6) (Z05 GD hr1 (by rfl) G.U.mD G.U.D.kp G.U.bD .nil Z0f (Z0d (pv 0) (Z2a (Z0n Z0o (by rfl) G.U.T.len PySem.boot_len (Z0d (pv 6) Z01)) Z01))) (fun _ _=>rfl))
    case e2=>exact Z0i (Z1a (Z1d Z08 (Z0d (pv 7) (Z2a (Z05 GE hr (by rfl) FE.m FE.F.kp FE.b .nil Z0f (Z0d (pv 0) (Z0d (pv 1) (Z0d (pv 2) (Z0b (Z0l Z1v (pv 3) Z03) (Z0d (pv 4) Z01)))))) Z01))))
   case s3=>
    refine' Z0y ?c (Z04 ?e0 (Z04 ?e1 (Z04 ?e2 (Z07 ?e3)))) Z0h
    case c=>exact Z0a Z1c (pv 5) Z08 (Z0k _)
    case e0=>exact Z0c (i:=6) scBound.nd rfl (Or.inl rfl) (Z0l Z24 (Z0s hu (pv 1) Z08 (fun _ _=>rfl)) (Z0s hu (pv 1) Z08 (fun _ _=>rfl)))
    case e1=>exact Z0c (i:=7) scBound.nd rfl (Or.inl rfl) (Z0r Z0z (pv 6) (Z05 GD hr1 (by rfl) G.U.mD G.U.D.kp G.U.bD .nil Z0f (Z0d (pv 0) (Z2a (Z0n Z0o (by rfl) G.U.T.len PySem.boot_len (Z0d (pv 6) Z01)) Z01))) (fun _ _=>rfl))
    case e2=>exact Z0c (i:=8) scBound.nd rfl (Or.inl rfl) (Z05 GE hr (by rfl) FE.m FE.F.kp FE.b .nil Z0f (Z0d (pv 0) (Z0d (pv 1) (Z0d (pv 2) (Z0b (Z0l Z1v (pv 3) Z03) (Z0d (pv 4) Z01))))))
    case e3=>exact Z0i (Z1a (Z1d Z08 (Z0d (pv 7) (Z0d (pv 8) (Z2a (Z05 GE hr (by rfl) FE.m FE.F.kp FE.b .nil Z0f (Z0d (pv 0) (Z0d (pv 1) (Z0b (Z0l Z24 (pv 2) (Z0x (Z0d (pv 7) Z01))) (Z0b (Z0l Z1v (pv 3) Z03) (Z0d (pv 4) Z01)))))) Z01)))))
   case s4=>exact Z0i (Z1a (Z1d Z08 (Z2a (Z05 GE hr (by rfl) FE.m FE.F.kp FE.b .nil Z0f (Z0d (pv 0) (Z0d (pv 1) (Z0d (pv 2) (Z0b (Z0l Z1v (pv 3) Z03) (Z0d (pv 4) Z01)))))) Z01)))
  case fin=>
   have n1:=C0.N.n1
   have n2:=C0.N.n2
   have l2:=C0.N.l2
   refine⟨fun σ' H'=>∃(fr:Addr) (fs:List Str),σ' = [some (.ref d),some (.ref wd),some (.ref bd),some (.int b),some (.int tm),some (.str kd),some (.ref fr),none,none]/\H' fr=some (.lst (fs.map V.str))/\(∀t∈fs,NmU S t)/\fs.length<=10/\Ctx S M H H' d l wd a i bd bs ns n r z,?_,?_⟩
   ·refine⟨_,rfl,wd,.ref a.nm,rfl,Z4e C0.W,a.nm,rfl,⟨_,SqL.of C0.N.nm⟩,Z1i (K:=K) (a:=a.nm) (xs:=i.T1.map V.str) (fun j ys σc H'=>∃(o:Option V) (fs:List Str),σc = [some (.ref bd),o]/\H'=H/\ys=fs.map V.str/\fs.length<=j/\∀t∈fs,NmU S t)
      ⟨none,[],rfl,rfl,rfl,Nat.le_refl _,(fun t ht=>by cases ht)⟩ (fun i ys σc H' ⟨_,_,_,e,_⟩=>by rw[e];exact SqL.of C0.N.nm) ?_ ?_⟩
    ·rintro j x ys σc H' hx hj ⟨o,fs,rfl,rfl,rfl,hfl,hfa⟩
     obtain⟨t,ht,rfl⟩:=mem_map.mp (mem_of_getElem? hx)
     have hj':j<10:=by
      rw[length_map] at hj
      omega
     refine⟨by rw[length_map];omega,?_⟩
     refine⟨_,rfl,_,rfl,bd,bs.map V.str,rfl,.inl (SqL.of C0.B),rfl,Z1t bs,_,rfl,Z1b (fun g=>?_) (fun g=>?_)⟩
     ·refine⟨_,rfl,nx hj ⟨_,fs ++ [t],rfl,rfl,by rw[map_append];rfl,by rw[length_append,length_singleton];omega,fun u hu=>?_⟩⟩
      rcases mem_append.mp hu with y|y
      ·exact hfa u y
      ·rw[mem_singleton] at y;subst y;exact C0.N.an u ht
     ·exact nx hj ⟨_,fs,rfl,rfl,rfl,by omega,hfa⟩
    ·rintro ys σc H' ⟨o,fs,rfl,rfl,rfl,hfl,hfa⟩ q hq
     rw[length_map] at hfl
     exact⟨q,fs,rfl,Z00,hfa,by omega,C0.same (Z02 hq)⟩
   rintro σ1 H1 ⟨fr,fs,rfl,S1,hfn,hfl,C1⟩
   refine⟨fun σ' H'=>σ' = [some (.ref d),some (.ref wd),some (.ref bd),some (.int b),some (.int tm),some (.str kd),some (.ref fr),none,none]/\Ctx S M H H' d l wd a i bd bs ns n r z,?_,?_⟩
   ·refine⟨_,rfl,rfl,_,rfl,Z1b (fun g=>?_) (fun g=>Zab ⟨rfl,C1⟩)⟩
    refine⟨_,rfl,Nat.zero_le _,fun e he=>?_⟩
    have se:=Z02 (o:=.lst []) he
    have C2:=C1.same se
    refine⟨fr,e,fs.map V.str,[],rfl,rfl,SqL.of (se _ _ S1),SqL.of Z00,Z1t fs,rfl,_,rfl,Z1b (fun g2=>?_) (fun g2=>⟨rfl,C2⟩)⟩
    have hf0:0<fs.length:=by
     cases fs with
     |nil=>exact absurd g2 (by decide)
     |cons=>exact Nat.succ_pos _
    have hl1:((fs.map V.str).length:Int)=(fs.length:Int):=by rw[length_map]
    refine⟨_,rfl,_,rfl,_,rfl,fr,fs.map V.str,rfl,.inl (SqL.of (se _ _ S1)),d,l,ns,n,_,rfl,C2.F,by omega,by show(0:Int)<((fs.map V.str).length:Int);omega,by show((fs.map V.str).length:Int)<18446744073709551616;omega,fun q n3 H3 q0 q1 hn3 F3 b3=>?_⟩
    have C3:=C2.draw b3 F3
    obtain⟨vx,hvx,hat⟩:=Z34 (xs:=fs.map V.str) (i:=q) q0 q1
    obtain⟨x,hx,rfl⟩:=mem_map.mp hvx
    refine⟨fr,fs.map V.str,q,.str x,rfl,rfl,SqL.of (C2.F.lst b3 (se _ _ S1)),hat,?_⟩
    refine⟨_,rfl,_,rfl,_,rfl,_,rfl,_,rfl,_,_,rfl,rfl,_,rfl,d,l,wd,a,i,bd,bs,ns,n3,r,z,b-1,tm,rfl,hN1,hN10,by omega,hM,ht0,ht1,by omega,by omega,C3.zero,fun v4 t4 n4 r4 z4 H4 h4 p4 c4 y1 y2 hn4 C4=>⟨(by show 3<=sizeLine;decide),fun p hp=>?_⟩⟩
    have sp:=Z02 (o:=.tup [.str "set",.str x,v4]) hp
    have hk:=Z5y p4
    refine k (.ref p) (nd "set" [.str x] [t4]) n4 r4 z4 _ (.tup Z00 (.cons (.at (by decide+kernel)) (.cons (.at (Z3o (hfn x hx))) (.cons (IsTh.kp (Kp.of sp) h4) .nil)))) (Zmp (hfn x hx) p4) ?_ (by omega) (by omega) ((C4.tail C3.b2).same sp)
    rw[Zke p4]
    omega
   clear C1 S1 hfn hfl
   rintro σ2 H2 ⟨rfl,C2⟩
   refine⟨_,rfl,rfl,_,rfl,Z1b (fun g=>?_) (fun g=>?_)⟩
   ·refine⟨_,rfl,wd,.ref a.nm,rfl,Z4e C2.W,_,rfl,wd,.ref a.lt,rfl,Zfb C2.W,a.nm,a.lt,i.T1.map V.str,i.T2.map V.str,rfl,rfl,C2.N.nm,C2.N.lt,by rw[length_map,length_map];omega,fun c hc=>?_⟩
    have sc:=Z02 (o:=.lst (i.T1.map V.str++i.T2.map V.str)) hc
    have C3:=C2.same sc
    have hE:upd H2 c (.lst (i.T1.map V.str++i.T2.map V.str)) c=some (.lst (i.T1.map V.str++i.T2.map V.str)):=Z00
    have hEl:(i.T1.map V.str++i.T2.map V.str).length=i.T1.length+i.T2.length:=by simp only [length_append,length_map]
    have hEn:∀v∈i.T1.map V.str++i.T2.map V.str,∃x,v = .str x/\NmU S x:=by
     intro v hv
     rcases mem_append.mp hv with y|y
     ·obtain⟨x,hx,rfl⟩:=mem_map.mp y;exact⟨x,rfl,C2.N.an x hx⟩
     ·obtain⟨x,hx,rfl⟩:=mem_map.mp y;exact⟨x,rfl,C2.N.bn x hx⟩
    generalize upd H2 c (.lst (i.T1.map V.str++i.T2.map V.str))=H3 at C3 hE
    generalize i.T1.map V.str++i.T2.map V.str=es at hE hEl hEn
    have hl1:(es.length:Int)=((i.T1.length+i.T2.length:Nat):Int):=by rw[hEl]
    refine⟨_,rfl,_,rfl,_,rfl,c,es,rfl,.inl (SqL.of hE),d,l,ns,n,_,rfl,C3.F,by omega,by show(0:Int)<(es.length:Int);omega,by show(es.length:Int)<18446744073709551616;omega,fun q n4 H4 q0 q1 hn4 F4 b4=>?_⟩
    have C4:=C3.draw b4 F4
    obtain⟨vx,hvx,hat⟩:=Z34 (xs:=es) (i:=q) q0 q1
    obtain⟨x,rfl,hx⟩:=hEn vx hvx
    refine⟨c,es,q,.str x,rfl,rfl,SqL.of (C3.F.lst b4 hE),hat,?_⟩
    refine⟨_,rfl,_,rfl,_,rfl,_,rfl,_,_,rfl,rfl,_,rfl,d,l,wd,a,i,bd,bs,ns,n4,r,z,b-1,tm,rfl,hN1,hN10,by omega,hM,ht0,ht1,by omega,by omega,C4.zero,fun v5 t5 n5 r5 z5 H5 h5 p5 c5 y1 y2 hn5 C5'=>?_⟩
    have C5:=C5'.tail C4.b2
    have hk5:=Z5y p5
    refine⟨_,rfl,_,rfl,_,rfl,_,rfl,_,rfl,_,rfl,(by show 1<=sizeLine;decide),fun c1 hc1=>?_⟩
    have sc1:=Z02 (o:=.lst [.str x]) hc1
    refine⟨bd,c1,bs.map V.str,[.str x],rfl,rfl,sc1 _ _ C5.B,Z00,by rw[length_map,length_singleton];omega,fun c2 hc2=>?_⟩
    have sc2:=Z02 (o:=.lst (bs.map V.str ++ [.str x])) hc2
    have C6:=(C5.same sc1).same sc2
    have C7:=C6.bind (b2:=c2) (bs2:=bs ++ [x]) (by rw[Z00,map_append];rfl) (by rw[length_append,length_singleton];omega) (fun t ht=>(mem_append.mp ht).elim (C6.bn t) (fun q=>by rw[mem_singleton] at q;rw[q];exact hx))
    refine⟨_,rfl,_,_,rfl,rfl,_,rfl,d,l,wd,a,i,c2,bs ++ [x],ns,n5,r5,z5,b-1,tm,rfl,hN1,hN10,by omega,hM,ht0,ht1,by omega,by rw[length_append,length_singleton];omega,C7.zero,fun v8 t8 n8 r8 z8 H8 h8 p8 c8 y3 y4 hn8 C8=>⟨(by show 4<=sizeLine;decide),fun p hp=>?_⟩⟩
    have C9:=C6.go C8.b2 C8.F C8.W
    have hv5:=IsTh.kp (C8.b2.kp C6.F C6.W) (IsTh.kp (Kp.of (sc1.trans sc2)) h5)
    have sp:=Z02 (o:=.tup [.str "let",.str x,v5,v8]) hp
    have hk8:=Z5y p8
    refine k (.ref p) (nd "let" [.str x] [t5,t8]) n8 r8 z8 _ (.tup Z00 (.cons (.at (by decide+kernel)) (.cons (.at (Z3o hx)) (.cons (IsTh.kp (Kp.of sp) hv5) (.cons (IsTh.kp (Kp.of sp) h8) .nil))))) (Zmr hx p5 p8) ?_ (by omega) (by omega) (C9.same sp)
    rw[Zkf p5 p8]
    omega
   ·refine⟨_,rfl,_,rfl,_,rfl,_,rfl,_,_,rfl,rfl,_,rfl,d,l,wd,a,i,bd,bs,ns,n,r,z,b-1,tm,rfl,hN1,hN10,by omega,hM,ht0,ht1,by omega,by omega,C2.zero,fun v4 t4 n4 r4 z4 H4 h4 p4 c4 y1 y2 hn4 C4=>⟨(by show 2<=sizeLine;decide),fun p hp=>?_⟩⟩
    have sp:=Z02 (o:=.tup [.str "say",v4]) hp
    have hk:=Z5y p4
    refine k (.ref p) (nd "say" [] [t4]) n4 r4 z4 _ (.tup Z00 (.cons (.at (by decide+kernel)) (.cons (IsTh.kp (Kp.of sp) h4) .nil))) (Zmq p4) ?_ (by omega) (by omega) ((C4.tail C2.b2).same sp)
    rw[Zke p4]
    omega
end
theorem Zas {S:SS}{n:Nat}{x:Str}{ks:List Th}(hS:x∈S.c)(hx:NmU S x)(h5:ks.length<=6)(h:∀k∈ks,PfT S n k):PfT S (n+1) (nd "call" [.str x] ks):=
 Z3p (Nat.le_refl _) (Z13 rfl) (by decide+kernel) ⟨fun z=>z.elim (fun q=>absurd q (by decide+kernel)) (fun q=>absurd q (by decide+kernel)),fun _=>⟨x,rfl,hS⟩,fun z=>absurd z (by decide+kernel),Z13 (Zdc hx),by decide+kernel,.call hS hx h5⟩ h5 h
theorem Z9u:(["_law_feed_here","_law_world_here","_law_bound_here","_law_below","_law_times","_law_k"]:List Str).Nodup:=by decide+kernel
def Rooms (N:Nat)(r:Int)(j:Nat)(r':Int):Prop:=(j=0->r'=r)/\(1<=j -> -5*(N:Int)-((j:Int)-1)<=r')
theorem Rooms.next {N j:Nat}{r r1 r2:Int}(hN:1<=N)(h6:6<=r)(h:Rooms N r j r1)(y1:r1<=6->r2=r1-1)(y2:7<=r1 -> -5*(N:Int)<=r2):Rooms N r (j+1) r2:=by
 obtain⟨a,b⟩:=h
 refine⟨fun z=>absurd z (Nat.succ_ne_zero _),fun _=>?_⟩
 by_cases hj:j=0
 ·have:=a hj
  omega
 ·have:=b (by omega)
  omega
section
variable {S:SS}{M:Nat}{P:Program}{w:World}{K:PySem.W.Frag}{mg:Str->Option Value}{base:Heap}{g:GenF}
theorem scCalled:FnScope ["_law_feed_here","_law_world_here","_law_bound_here","_law_below","_law_times","_law_name_here","_law_many","_law_cost"] ["_law_feed_here","_law_world_here","_law_bound_here","_law_below","_law_times"] (Z06 Z4v):=⟨rfl,rfl,rfl,by decide+kernel,rfl,by decide+kernel,by decide+kernel⟩
theorem Zfe {f fE:Addr}{fd dE:FuncData}(F:Fun K "_law_called" "_law_called" Z4v f fd)(G:Gen K mg g)(FE:Fn K mg "_law_expr" Z8e ["_law_feed_here","_law_world_here","_law_bound_here","_law_below","_law_times"] fE dE){N c:Nat}
  (GE:FnOk P w K mg base CX0 c fE dE ["_law_feed_here","_law_world_here","_law_bound_here","_law_below","_law_times"] (Z72 S M N)) (hc:3<=c):
  FnOk P w K mg base CX0 (c+1) f fd ["_law_feed_here","_law_world_here","_law_bound_here","_law_below","_law_times"] (Zc0 S M N):=by
 have GD:FnOk P w K mg base CX0 1 g.fD g.dD ["_law_feed_here","_law_many"] spDraw:=G.gD
 have GL:FnOk P w K mg base CX0 3 g.fL g.dL ["_law_feed_here","_law_world_here","_law_bound_here"] (Z5b S M):=G.gL
 refine F.ok scCalled (fun vs H Q E h=>?_) (fun cdv A outer s H vs Q E hr h=>?_)
 ·obtain⟨d,l,wd,a,i,bd,bs,ns,n,r,z,b,tm,rfl,_⟩:=h
  rfl
 ·obtain⟨d,l,wd,a,i,bd,bs,ns,n,r,z,b,tm,rfl,hN1,hN10,hb,hM,ht0,ht1,hn,hbl,hr6,C0,k⟩:=h
  have hsz:sizeLine=16777216:=sizeLine_eq
  have htb:=Zmo hN10
  have hu:(_:Around).units+1<cLine:=Nat.lt_of_le_of_lt (Nat.add_le_add_left (by omega) _) hr.units
  have hu0:=hr.units0
  have hr1:Room 1 _:=hr.mono (by omega)
  have hr3:Room 3 _:=hr.mono (by omega)
  refine'⟨?tt,?body,?fin⟩
  case body=>
   refine' Z0m ?s1 (Z0m ?s2 (Z04 ?s3 (Z04 ?s4 (Z04 ?s5 (Z07 ?s6)))))
   case s1=>exact Z0y (Z0a (Z54 hu0) (Z0s hu (pv 1) Z08 (fun _ _=>rfl)) (Z0x Z01) (Z0k _)) (Z07 (Z0i (Z05 GL hr3 (by rfl) G.L.m G.L.F.kp G.L.b .nil Z0f (Z0d (pv 0) (Z0d (pv 1) (Z0d (pv 2) Z01)))))) Z0h
   case s2=>exact Zb9 (Z0r Z0z (Z0s hu (pv 1) Z08 (fun _ _=>rfl)) (Z05 GD hr1 (by rfl) G.U.mD G.U.D.kp G.U.bD .nil Z0f (Z0d (pv 0) (Z2a (Z0n Z0o (by rfl) G.U.T.len PySem.boot_len (Z0b (Z0s hu (pv 1) Z08 (fun _ _=>rfl)) Z01)) Z01))) (fun _ _=>rfl)) (Z8y rfl (Z2g (Z0t (i:=5) scCalled.nd rfl (Or.inl rfl)) (Z2g (Z0t (i:=6) scCalled.nd rfl (Or.inl rfl)) Z6a)))
   case s3=>exact Z0c (i:=7) scCalled.nd rfl (Or.inl rfl) (Z0l Z22 (pv 4) (Z0s hu (Z0s hu (pv 1) Z08 (fun _ _=>rfl)) (pv 5) (fun _ _=>rfl)))
   case s4=>exact Z0y (Z0a Z89 (Z0s hu (pv 1) Z08 (fun _ _=>rfl)) (Z0l Z1q (Z0l Z22 Z03 (pv 4)) (pv 7)) (Z0k _)) (Z07 (Z0i (Z05 GL hr3 (by rfl) G.L.m G.L.F.kp G.L.b .nil Z0f (Z0d (pv 0) (Z0d (pv 1) (Z0d (pv 2) Z01)))))) Z0h
   case s5=>exact Z29 hu (pv 1) Z08 (Z0l Z1v (Z0s hu (pv 1) Z08 (fun _ _=>rfl)) (pv 7)) (by rfl)
   case s6=>
    refine' Z0i (Z16 Z14 (by rfl) G.X.T.tup (by decide+kernel) (Z0b (Z0l Z24 (Z0x (Z1d Z08 (Z0d (pv 5) Z01))) ?x) Z01))
    case x=>
     refine' Z1n (N':=["_law_feed_here","_law_world_here","_law_bound_here","_law_below","_law_times","_law_k"]) (src:=[some 0,some 1,some 2,some 3,some 4,none]) ?k1 ?k5 ?k6 ?k7
     case k1=>rfl
     case k5=>exact Z0j (Z06 Z4v) rfl ["_law_feed_here","_law_world_here","_law_bound_here","_law_below","_law_times","_law_name_here","_law_many","_law_cost"] rfl (by decide+kernel)
     case k6=>exact Z1y (by rfl) G.U.T.range (Z0d (pv 6) Z01)
     case k7=>exact fun cl C ex s0 H0=>⟨Z0t (i:=5) Z9u rfl (Or.inl rfl),Z1k,Z05 GE hr (by rfl) FE.m FE.F.kp FE.b .nil Z0f (Z0d (pv 0) (Z0d (pv 1) (Z0d (pv 2) (Z0b (Z0l Z1v (pv 3) Z03) (Z0d (pv 4) Z01)))))⟩
  case fin=>
   have leaf:∀H4 n4,n4<=n+1->Ctx S M H H4 d l wd a i bd bs ns n4 r z->Z5b S M [.ref d,.ref wd,.ref bd] H4 (fun v H'=>Q v H') E:=by
    intro H4 n4 h4 C4
    refine⟨d,l,wd,a,i,bd,bs,ns,n4,r,z,rfl,by omega,C4.zero,fun v t n5 H5 hv hL hn5 C5=>?_⟩
    exact k v t n5 r z H5 hv (hL.1.le (by omega)) (by have:=hL.2;omega) (by omega) (by omega) (C5.tail C4.b2)
   refine⟨fun σ' H'=>σ' = [some (.ref d),some (.ref wd),some (.ref bd),some (.int b),some (.int tm),none,none,none]/\Ctx S M H H' d l wd a i bd bs ns n r z/\0<i.fv.length,?_,?_⟩
   ·refine⟨_,rfl,wd,.ref a.fn,rfl,Z2i C0.W,Nat.zero_le _,fun q hq=>?_⟩
    have sq:=Z02 (o:=.lst []) hq
    have C1:=C0.same sq
    refine⟨a.fn,q,i.fv,rfl,rfl,SqL.of C1.N.fn,SqL.of Z00,_,rfl,Z1b (fun g=>⟨_,rfl,_,rfl,_,rfl,leaf _ n (by omega) C1⟩) (fun g=>⟨rfl,C1,?_⟩)⟩
    cases e:i.fv with
    |nil=>rw[e] at g;exact absurd rfl g
    |cons=>exact Nat.succ_pos _
   rintro σ1 H1 ⟨rfl,C1,hs0⟩
   have hf2:=C1.N.f2
   refine⟨fun σ' H'=>∃(x:Str) (m:Int) (n':Nat),σ' = [some (.ref d),some (.ref wd),some (.ref bd),some (.int b),some (.int tm),some (.str x),some (.int m),none]/\x∈S.c/\NmU S x/\0<=m/\m<=6/\n'<=n+1/\Ctx S M H H' d l wd a i bd bs ns n' r z,?_,?_⟩
   ·refine⟨_,rfl,wd,.ref a.fn,rfl,Z2i C1.W,_,rfl,_,rfl,wd,.ref a.fn,rfl,Z2i C1.W,a.fn,i.fv,rfl,.inl (SqL.of C1.N.fn),d,l,ns,n,_,rfl,C1.F,by omega,by omega,by omega,fun j n2 H2 j0 j1 hn2 F2 b2=>?_⟩
    have C2:=C1.draw b2 F2
    obtain⟨vf,hvf,hat⟩:=Z34 (xs:=i.fv) (i:=j) j0 j1
    obtain⟨c,x,m,rfl,hcx,hxS,hxN,hm0,hm6⟩:=C2.N.fe vf hvf
    refine⟨a.fn,i.fv,j,.ref c,rfl,rfl,SqL.of C2.N.fn,hat,?_⟩
    exact⟨c,_,rfl,SqT.of hcx,rfl,_,_,rfl,_,_,rfl,rfl,x,m,n2,rfl,hxS,hxN,hm0,hm6,hn2,C2⟩
   clear C1 hs0 hf2
   rintro σ2 H2 ⟨x,m,n2,rfl,hxS,hxN,hm0,hm6,hn2,C2⟩
   have hg:DGet H2 a.wo (.str x) (some (.int (i.ρ x))):=by
    have:=DGet.k (k:=Sum.inr x) C2.N.wo
    rw[C2.N.wk x hxS] at this
    exact this
   refine⟨_,rfl,_,rfl,wd,.ref a.wo,rfl,Z80 C2.W,_,rfl,a.wo,_,rfl,hg,_,_,rfl,rfl,.inl ⟨by omega,by omega⟩,?_⟩
   refine⟨_,rfl,wd,.int z,rfl,Z2y C2.W,_,rfl,_,_,rfl,rfl,.inl ⟨by decide,by decide⟩,_,rfl,_,_,rfl,rfl,_,_,rfl,rfl,_,rfl,Z1b (fun g=>⟨_,rfl,_,rfl,_,rfl,leaf _ n2 hn2 C2⟩) (fun g=>?_)⟩
   refine⟨_,rfl,wd,.int z,rfl,Z2y C2.W,_,rfl,_,_,rfl,rfl,_,rfl,wd,_,rfl,Z5a C2.W,?_⟩
   have C3:=C2.put (r2:=r) (z2:=z-tm*i.ρ x)
   refine⟨_,rfl,(by show 2<=sizeLine;decide),fun h hh=>?_⟩
   have sh:=Z02 (o:=.lst [.str "call",.str x]) hh
   have C4:=C3.same sh
   have hH:upd (upd H2 wd (.dK (Z0g a r (z-tm*i.ρ x)))) h (.lst [.str "call",.str x]) h=some (.lst [.str "call",.str x]):=Z00
   generalize upd (upd H2 wd (.dK (Z0g a r (z-tm*i.ρ x)))) h (.lst [.str "call",.str x])=H4 at C4 hH
   refine⟨_,rfl,m,rfl,by omega,by omega,Z5k (lo:=0) (n:=m.toNat) (fun j ys σc H'=>∃(n':Nat) (o:Option V) (r' z':Int) (cs:List Th),σc = [some (.ref d),some (.ref wd),some (.ref bd),some (.int b),some (.int tm),o]/\Ctx S M H4 H' d l wd a i bd bs ns n' r' z'/\n'<=n2+j*cD N/\Rooms N r j r'/\IsThs H' ys cs/\cs.length=j/\(∀c∈cs,PfT S (M+N) c)/\(Z1r cs:Int)<=r-r')
    ⟨n2,none,r,_,[],rfl,C4.zero,by omega,⟨fun _=>rfl,fun q=>absurd q (by decide)⟩,.nil,rfl,(fun c hc=>by cases hc),by simp [Z1r]⟩ ?_ ?_⟩
   ·rintro j ys σc H' hj ⟨n',o,r',z',cs,rfl,C',hn',hR,hcs,hcl,hca,hcz⟩
    have hmul:j*cD N<=5*cD N:=Nat.mul_le_mul_right _ (by omega)
    have hys:=IsThs.len _ hcs
    refine⟨by omega,?_⟩
    refine⟨_,rfl,_,rfl,_,rfl,_,rfl,_,_,rfl,rfl,_,rfl,d,l,wd,a,i,bd,bs,ns,n',r',z',b-1,tm,rfl,hN1,hN10,by omega,hM,ht0,ht1,by omega,by omega,C'.zero,fun v t n5 r5 z5 H5 h5 p5 c5 y1 y2 hn5 C5=>?_⟩
    refine nx hj ⟨n5,_,r5,z5,cs ++ [t],rfl,C5.tail C'.b2,by rw[Nat.succ_mul];omega,hR.next hN1 hr6 y1 y2,IsThs.app _ (IsThs.kp (C5.b2.kp C'.F C'.W) hcs) (.cons h5 .nil),by rw[length_append,hcl];rfl,fun c hc=>?_,?_⟩
    ·rcases mem_append.mp hc with y|y
     ·exact hca c y
     ·rw[mem_singleton] at y;subst y;exact p5
    ·rw[Z3i]
     omega
   ·rintro ys σc H' ⟨n',o,r',z',cs,rfl,C',hn',hR,hcs,hcl,hca,hcz⟩ q hq
    have hys:=IsThs.len _ hcs
    have sq:=Z02 (o:=.lst ys) hq
    have D':=sq _ _ (C'.b2.kp C4.F C4.W _ _ hH (fun _ z=>by cases z))
    have hmul:m.toNat*cD N<=6*cD N:=Nat.mul_le_mul_right _ (by omega)
    refine⟨h,q,_,ys,rfl,rfl,D',Z00,by show 2+ys.length<=sizeLine;omega,fun r3 hr3=>?_⟩
    have s3:=Z02 (o:=.lst ([.str "call",.str x]++ys)) hr3
    refine⟨r3,[.str "call",.str x]++ys,rfl,.inl ⟨SqL.of Z00,fun p hp=>?_⟩⟩
    have sp:=Z02 (o:=.tup ([.str "call",.str x]++ys)) hp
    have sA:=(sq.trans s3).trans sp
    refine k (.ref p) (nd "call" [.str x] cs) n' r' z' _ (.tup Z00 (.cons (.at (by decide+kernel)) (.cons (.at (Z3o hxN)) (IsThs.kp (Kp.of sA) hcs)))) (Zas hxS hxN (by omega) hca) ?_ ?_ (by omega) ((C'.tail C4.b2).same sA)
    ·rw[Z1l fun k hk=>(hca k hk).isTup]
     omega
    ·obtain⟨e1,e2⟩:=hR
     by_cases hj:m.toNat=0
     ·have:=e1 hj;omega
     ·have:=e2 (by omega);omega
end
def kinds14:List Str:=["op","op","copy","pick","let","set","say","do","again","call","copy","op","leaf","let"]
abbrev signs6:Str:="+-*/<="
theorem Zhv:∀c∈signs6.cps.toList,c<200:=by decide+kernel
structure OwnOk (S:SS)(wo:Str)(own:List V)(n:Nat):Prop where
 e:HdE S wo own n
 n:wo≠"let"
 l:own.length<=1
 p:∀v∈own,plT (.at v)=true
 s:∀v∈own,smallV v=true
 t:smallV (.str wo)=true
theorem Zc2 {S:SS}{n:Nat}(h1:1<=n)(h6:n<=6):OwnOk S "do" [] n:=
 ⟨Z9t (by decide+kernel) (by decide+kernel) (by decide+kernel) (by decide+kernel) (fun v hv=>by cases hv) (by decide+kernel) (.seq h1 h6),by decide+kernel,Nat.zero_le _,fun v hv=>(by cases hv),fun v hv=>(by cases hv),by decide+kernel⟩
theorem Zhw {S:SS}:OwnOk S "pick" [] 3:=
 ⟨Z9t (by decide+kernel) (by decide+kernel) (by decide+kernel) (by decide+kernel) (fun v hv=>by cases hv) (by decide+kernel) .pick,by decide+kernel,Nat.zero_le _,fun v hv=>(by cases hv),fun v hv=>(by cases hv),by decide+kernel⟩
theorem Zj4 {S:SS}{c:Nat}(hc:c∈signs6.cps.toList):OwnOk S "op" [.str ⟨#[c]⟩] 2:=by
 have h:=Zhv c hc
 refine⟨Z9t (by decide+kernel) (by decide+kernel) (by decide+kernel) (by decide+kernel) (Z13 ?_) (by decide+kernel) (.op hc),by decide+kernel,Nat.le_refl _,Z13 rfl,Z13 rfl,by decide+kernel⟩
 show(decide (1<=16) && [c].all fun c=>decide (c<16 ^ 8))=true
 simp only [all_cons,List.all_nil,Bool.and_true,Bool.and_eq_true,decide_eq_true_eq]
 omega
theorem Zff {H:Hp}:∀{own:List V},(∀v∈own,smallV v=true)->IsThs H own (own.map Th.at)
 |[],_=>.nil
 |v::own,h=>.cons (.at (h v (mem_cons_self ..))) (Zff fun u hu=>h u (mem_cons_of_mem _ hu))
section
variable {S:SS}{M:Nat}{P:Program}{w:World}{K:PySem.W.Frag}{mg:Str->Option Value}{base:Heap}{g:GenF}
theorem scExpr:FnScope ["_law_feed_here","_law_world_here","_law_bound_here","_law_below","_law_times","_law_kinds","_law_kind","_law_many","_law_head"] ["_law_feed_here","_law_world_here","_law_bound_here","_law_below","_law_times"] (Z06 Z8e):=⟨rfl,rfl,rfl,by decide+kernel,rfl,by decide+kernel,by decide+kernel⟩
theorem Zkg {f fB fC fY:Addr}{fd dB dC dY:FuncData}(G:Gen K mg g)(FE:Fn K mg "_law_expr" Z8e ["_law_feed_here","_law_world_here","_law_bound_here","_law_below","_law_times"] f fd)(FB:Fn K mg "_law_bound" Z6s ["_law_feed_here","_law_world_here","_law_bound_here","_law_below","_law_times","_law_kind"] fB dB)
  (FC:Fn K mg "_law_called" Z4v ["_law_feed_here","_law_world_here","_law_bound_here","_law_below","_law_times"] fC dC) (FY:Fn K mg "_law_copied" Z4u ["_law_feed_here","_law_world_here","_law_bound_here","_law_below","_law_times"] fY dY):
  ∀N,FnOk P w K mg base CX0 (2*N+M+4) f fd ["_law_feed_here","_law_world_here","_law_bound_here","_law_below","_law_times"] (Z72 S M N):=by
 have GD:FnOk P w K mg base CX0 1 g.fD g.dD ["_law_feed_here","_law_many"] spDraw:=G.gD
 have GL:FnOk P w K mg base CX0 3 g.fL g.dL ["_law_feed_here","_law_world_here","_law_bound_here"] (Z5b S M):=G.gL
 have GY:FnOk P w K mg base CX0 (M+4) fY dY ["_law_feed_here","_law_world_here","_law_bound_here","_law_below","_law_times"] (Zbz S M):=Zfc FY.F G
 intro N
 induction N with
 |zero=>
  refine FE.F.ok scExpr (fun vs H Q E h=>?_) (fun cdv A outer s H vs Q E hr h=>?_)
  ·obtain⟨d,l,wd,a,i,bd,bs,ns,n,r,z,b,tm,rfl,_⟩:=h
   rfl
  ·obtain⟨d,l,wd,a,i,bd,bs,ns,n,r,z,b,tm,rfl,h,_⟩:=h
   exact absurd h (by decide)
 |succ N ih=>
  have GB:FnOk P w K mg base CX0 (2*N+M+4+1) fB dB ["_law_feed_here","_law_world_here","_law_bound_here","_law_below","_law_times","_law_kind"] (Zfd S M N):=Zhu FB.F G FE ih (by omega)
  have GC:FnOk P w K mg base CX0 (2*N+M+4+1) fC dC ["_law_feed_here","_law_world_here","_law_bound_here","_law_below","_law_times"] (Zc0 S M N):=Zfe FC.F G FE ih (by omega)
  rw[show 2*(N+1)+M+4=2*N+M+4+1+1 by omega]
  refine FE.F.ok scExpr (fun vs H Q E h=>?_) (fun cdv A outer s H vs Q E hr h=>?_)
  ·obtain⟨d,l,wd,a,i,bd,bs,ns,n,r,z,b,tm,rfl,_⟩:=h
   rfl
  ·obtain⟨d,l,wd,a,i,bd,bs,ns,n,r,z,b,tm,rfl,hN1,hN10,hb,hM,ht0,ht1,hn,hbl,C0,k⟩:=h
   have hsz:sizeLine=16777216:=sizeLine_eq
   have htb:=Zmo hN10
   have hts:=Zar (N:=N) (by omega)
   have htp:=Z9s (N+1)
   have hu:(_:Around).units+1<cLine:=Nat.lt_of_le_of_lt (Nat.add_le_add_left (by omega) _) hr.units
   have hu0:=hr.units0
   have hr1:Room 1 _:=hr.mono (by omega)
   have hr3:Room 3 _:=hr.mono (by omega)
   have hrY:Room (M+4) _:=hr.mono (by omega)
   have hrE:Room (2*N+M+4) _:=hr.mono (by omega)
   have ec:cD (N+1)=40+6*cD N:=rfl
   refine'⟨?tt,?body,?fin⟩
   case body=>
    refine' Z04 ?s1 ?r1
    case s1=>exact Z29 hu (pv 1) Z08 (Z0l Z1v (Z0s hu (pv 1) Z08 (fun _ _=>rfl)) Z03) (by rfl)
    case r1=>
     refine' Z04 ?s2 ?r2
     case s2=>exact Z29 hu (pv 1) Z08 (Z0l Z1v (Z0s hu (pv 1) Z08 (fun _ _=>rfl)) (pv 4)) (by rfl)
     case r2=>
      refine' Z0m ?s3 ?r3
      case s3=>
       refine' Zf4 (i:=5) ?ha ?hb ?hc ?hd ?he ?hf
       case ha=>exact scExpr.nd
       case hb=>exact rfl
       case hc=>exact(Or.inl rfl)
       case he=>exact rfl
       case hf=>exact(.inr rfl)
       case hd=>
        refine' @Z53 ((Zgy CX0 P w K mg base ["_law_feed_here","_law_world_here","_law_bound_here","_law_below","_law_times","_law_kinds","_law_kind","_law_many","_law_head"] "_law_expr" (Z06 Z8e) f cdv A outer s H E).nox) _ (kinds14.map V.str) ?q
        case q=>decide+kernel
      case r3=>
       refine' Z0m ?s4 ?r4
       case s4=>exact Z0c (i:=6) scExpr.nd rfl (Or.inl rfl) (Z0r Z0z (pv 5) (Z05 GD hr1 (by rfl) G.U.mD G.U.D.kp G.U.bD .nil Z0f (Z0d (pv 0) (Z1d Z03 Z01))) (fun _ _=>rfl))
       case r4=>
        refine' Z0m ?s5 ?r5
        case s5=>
         refine' Z0y ?c (Z07 ?b) Z0h
         case c=>exact(Z69 (Z0a Z89 (pv 3) Z03 (Z0k _)) (Z69 (Z0a Z89 (Z0s hu (pv 1) Z08 (fun _ _=>rfl)) Z03 (Z0k _)) (Z69 (Z0a Z89 (Z0s hu (pv 1) Z08 (fun _ _=>rfl)) (Z0l Z22 Z03 (pv 4)) (Z0k _)) (Z5u (Z0a Z1c (pv 6) Z08 (Z0k _)))))).pt
         case b=>exact Z0i (Z05 GL hr3 (by rfl) G.L.m G.L.F.kp G.L.b .nil Z0f (Z0d (pv 0) (Z0d (pv 1) (Z0d (pv 2) Z01))))
        case r5=>
         refine' Z04 ?s6 ?r6
         case s6=>exact Z0y (Z0a Z1c (pv 6) Z08 (Z0k _)) (Z07 (Z0i (Z05 GY hrY (by rfl) FY.m FY.F.kp FY.b .nil Z0f (Z0d (pv 0) (Z0d (pv 1) (Z0d (pv 2) (Z0d (pv 3) (Z0d (pv 4) Z01)))))))) Z0h
         case r6=>
          refine' Z04 ?s7 ?r7
          case s7=>exact Z0y (Z0a Z1c (pv 6) Z08 (Z0k _)) (Z07 (Z0i (Z05 GC hr (by rfl) FC.m FC.F.kp FC.b .nil Z0f (Z0d (pv 0) (Z0d (pv 1) (Z0d (pv 2) (Z0d (pv 3) (Z0d (pv 4) Z01)))))))) Z0h
          case r7=>
           refine' Z0m ?s8 ?r8
           case s8=>exact Z0y (Z0a Z2k (pv 6) (Z1a (Z1d Z08 (Z1d Z08 (Z1d Z08 Z01)))) (by with_unfolding_all rfl)) (Z07 (Z0i (Z05 GB hr (by rfl) FB.m FB.F.kp FB.b .nil Z0f (Z0d (pv 0) (Z0d (pv 1) (Z0d (pv 2) (Z0d (pv 3) (Z0d (pv 4) (Z0d (pv 6) Z01))))))))) Z0h
           case r8=>
            refine' Z04 ?s9 ?r9
            case s9=>
             refine' Z0y ?c (Z04 ?e1 (Z0m ?e2 (Z07 ?e3))) Z0h
             case c=>exact Z0a Z1c (pv 6) Z08 (Z0k _)
             case e1=>exact Z0c (i:=7) scExpr.nd rfl (Or.inl rfl) (Z0r Z0z (Z0x (Z1d Z03 (Z1d Z03 (Z1d Z03 (Z1d Z03 (Z1d Z03 (Z1d Z03 Z01))))))) (Z05 GD hr1 (by rfl) G.U.mD G.U.D.kp G.U.bD .nil Z0f (Z0d (pv 0) (Z1d Z03 Z01))) (fun _ _=>rfl))
             case e2=>exact Z0y (Z0a Z89 (Z0s hu (pv 1) Z08 (fun _ _=>rfl)) (Z0l Z22 (Z0l Z22 Z03 (pv 4)) (pv 7)) (Z0k _)) (Z07 (Z0c (i:=7) scExpr.nd rfl (Or.inl rfl) Z03)) Z0h
             case e3=>exact Z0i (Z1a (Z1d Z08 (Z0d (pv 7) (Z2a (Z05 ih hrE (by rfl) FE.m FE.F.kp FE.b .nil Z0f (Z0d (pv 0) (Z0d (pv 1) (Z0d (pv 2) (Z0b (Z0l Z1v (pv 3) Z03) (Z0b (Z0l Z22 (pv 4) (pv 7)) Z01)))))) Z01))))
            case r9=>
             refine' Z04 ?s10 ?r10
             case s10=>exact Z0c (i:=8) scExpr.nd rfl (Or.inl rfl) (Z0x (Z1d Z08 Z01))
             case r10=>
              refine' Z0m ?s11 ?r11
              case s11=>exact Z0c (i:=7) scExpr.nd rfl (Or.inl rfl) (Z0r Z0z (Z0x (Z1d Z03 (Z1d Z03 (Z1d Z03 (Z1d Z03 (Z1d Z03 (Z1d Z03 Z01))))))) (Z05 GD hr1 (by rfl) G.U.mD G.U.D.kp G.U.bD .nil Z0f (Z0d (pv 0) (Z1d Z03 Z01))) (fun _ _=>rfl))
              case r11=>
               refine' Z0m ?s12 ?r12
               case s12=>exact Z0y (Z0a Z1c (pv 6) Z08 (Z0k _)) (Z04 (Z0c (i:=8) scExpr.nd rfl (Or.inl rfl) (Z0x (Z1d Z08 Z01))) (Z07 (Z0c (i:=7) scExpr.nd rfl (Or.inl rfl) Z03))) Z0h
               case r12=>
                refine' Z0m ?s13 ?r13
                case s13=>exact Z0y (Z0a Z1c (pv 6) Z08 (Z0k _)) (Z04 (Z0c (i:=8) scExpr.nd rfl (Or.inl rfl) (Z0x (Z1d Z08 (Z0b (Z0r Z96 Z08 (Z05 GD hr1 (by rfl) G.U.mD G.U.D.kp G.U.bD .nil Z0f (Z0d (pv 0) (Z1d Z03 Z01))) (fun _ _=>rfl)) Z01)))) (Z07 (Z0c (i:=7) scExpr.nd rfl (Or.inl rfl) Z03))) Z0h
                case r13=>
                 refine' Z07 ?s14
                 case s14=>
                  refine' Z0i (Z16 Z14 (by rfl) G.X.T.tup (by decide+kernel) (Z0b (Z0l Z24 (pv 8) ?x) Z01))
                  case x=>
                   refine' Z1n (N':=["_law_feed_here","_law_world_here","_law_bound_here","_law_below","_law_times","_law_k"]) (src:=[some 0,some 1,some 2,some 3,some 4,none]) ?k1 ?k5 ?k6 ?k7
                   case k1=>rfl
                   case k5=>exact Z0j (Z06 Z8e) rfl ["_law_feed_here","_law_world_here","_law_bound_here","_law_below","_law_times","_law_kinds","_law_kind","_law_many","_law_head"] rfl (by decide+kernel)
                   case k6=>exact Z1y (by rfl) G.U.T.range (Z0d (pv 7) Z01)
                   case k7=>exact fun cl C ex s0 H0=>⟨Z0t (i:=5) Z9u rfl (Or.inl rfl),Z1k,Z05 ih hrE (by rfl) FE.m FE.F.kp FE.b .nil Z0f (Z0d (pv 0) (Z0d (pv 1) (Z0d (pv 2) (Z0b (Z0l Z1v (pv 3) Z03) (Z0d (pv 4) Z01)))))⟩
   case fin=>
    refine⟨_,rfl,wd,.int r,rfl,Z59 C0.W,_,_,rfl,rfl,_,rfl,wd,_,rfl,Z71 C0.W,?_⟩
    have C1:=C0.put (r2:=r-1) (z2:=z)
    refine⟨_,rfl,wd,.int z,rfl,Z2y C1.W,_,rfl,_,_,rfl,rfl,_,rfl,wd,_,rfl,Z5a C1.W,?_⟩
    have C2:=C1.put (r2:=r-1) (z2:=z-tm)
    revert C2
    generalize z-tm=z2
    intro C2
    have leaf:∀H4 n4,n4<=n+1->Ctx S M H H4 d l wd a i bd bs ns n4 (r-1) z2->Z5b S M [.ref d,.ref wd,.ref bd] H4 (fun v H'=>Q v H') E:=by
     intro H4 n4 h4 C4
     refine⟨d,l,wd,a,i,bd,bs,ns,n4,r-1,z2,rfl,by omega,C4.zero,fun v t n5 H5 hv hL hn5 C5=>?_⟩
     exact k v t n5 (r-1) z2 H5 hv (hL.1.le (by omega)) (by have:=hL.2;omega) (fun _=>rfl) (by omega) (by omega) (C5.tail C4.b2)
    refine⟨fun σ' H'=>∃ka,σ' = [some (.ref d),some (.ref wd),some (.ref bd),some (.int b),some (.int tm),some (.ref ka),none,none,none]/\H' ka=some (.lst (kinds14.map V.str))/\Ctx S M H H' d l wd a i bd bs ns n (r-1) z2,?_,?_⟩
    ·refine⟨Z58 (by decide+kernel),fun ka hka=>⟨ka,rfl,Z00,C2.same (Z02 hka)⟩⟩
    clear C0 C1 C2
    rintro σ3 H3 ⟨ka,rfl,K3,C3⟩
    refine⟨fun σ' H'=>∃kd n',σ' = [some (.ref d),some (.ref wd),some (.ref bd),some (.int b),some (.int tm),some (.ref ka),some (.str kd),none,none]/\n'<=n+1/\Ctx S M H H' d l wd a i bd bs ns n' (r-1) z2,?_,?_⟩
    ·refine⟨_,rfl,_,rfl,d,l,ns,n,_,rfl,C3.F,by omega,by decide,by decide,fun q n4 H4 q0 q1 hn4 F4 b4=>?_⟩
     obtain⟨v,hv,hat⟩:=Z34 (xs:=kinds14.map V.str) (i:=q) q0 (Int.lt_of_lt_of_le q1 (by decide+kernel))
     obtain⟨kd,_,rfl⟩:=mem_map.mp hv
     exact⟨ka,kinds14.map V.str,q,.str kd,rfl,rfl,SqL.of (C3.F.lst b4 K3),hat,kd,n4,rfl,hn4,C3.draw b4 F4⟩
    clear K3 C3
    rintro σ4 H4 ⟨kd,n4,rfl,hn4,C4⟩
    refine⟨fun σ' H'=>σ' = [some (.ref d),some (.ref wd),some (.ref bd),some (.int b),some (.int tm),some (.ref ka),some (.str kd),none,none]/\H'=H4/\1<=N/\7<=r,?_,?_⟩
    ·refine⟨_,rfl,_,_,rfl,rfl,_,rfl,Z1b (fun g=>Z9f ⟨_,rfl,_,rfl,_,rfl,leaf _ n4 hn4 C4⟩) (fun g1=>?_)⟩
     refine⟨_,rfl,wd,.int (r-1),rfl,Z59 C4.W,_,_,rfl,rfl,_,rfl,Z1b (fun g=>Z9f ⟨_,rfl,_,rfl,_,rfl,leaf _ n4 hn4 C4⟩) (fun g2=>?_)⟩
     refine⟨_,rfl,wd,.int z2,rfl,Z2y C4.W,_,rfl,_,_,rfl,rfl,.inl ⟨by decide,by decide⟩,_,_,rfl,rfl,_,rfl,Z1b (fun g=>Z9f ⟨_,rfl,_,rfl,_,rfl,leaf _ n4 hn4 C4⟩) (fun g3=>?_)⟩
     rw[decide_eq_true_iff] at g1 g2
     refine⟨_,rfl,rfl,_,rfl,Z1b (fun g=>⟨_,rfl,_,rfl,_,rfl,leaf _ n4 hn4 C4⟩) (fun g4=>⟨rfl,rfl,by omega,by omega⟩)⟩
    rintro σ5 H5 ⟨rfl,rfl,hN,hr7⟩
    refine⟨_,rfl,rfl,_,rfl,Z1b (fun g=>?_) (fun g=>?_)⟩
    ·refine⟨_,rfl,_,rfl,_,rfl,_,rfl,_,rfl,d,l,wd,a,i,bd,bs,ns,n4,r-1,z2,b,tm,rfl,by omega,hM,ht0,by omega,by omega,C4.zero,fun v t n5 r5 z5 H5 h5 p5 c5 y1 hn5 C5=>?_⟩
     exact k v t n5 r5 z5 H5 h5 (p5.le (by omega)) (by omega) (by omega) (by omega) (by omega) (C5.tail C4.b2)
    refine⟨_,rfl,rfl,_,rfl,Z1b (fun g=>?_) (fun g=>?_)⟩
    ·refine⟨_,rfl,_,rfl,_,rfl,_,rfl,_,rfl,d,l,wd,a,i,bd,bs,ns,n4,r-1,z2,b,tm,rfl,hN,by omega,by omega,hM,ht0,by omega,by omega,by omega,by omega,C4.zero,fun v t n5 r5 z5 H5 h5 p5 c5 y1 hn5 C5=>?_⟩
     exact k v t n5 r5 z5 H5 h5 p5 (by omega) (by omega) (by omega) (by omega) (C5.tail C4.b2)
    refine⟨fun σ' H'=>σ' = [some (.ref d),some (.ref wd),some (.ref bd),some (.int b),some (.int tm),some (.ref ka),some (.str kd),none,none]/\Ctx S M H H' d l wd a i bd bs ns n4 (r-1) z2,?_,?_⟩
    ·refine⟨_,rfl,(by show 3<=sizeLine;decide),fun c hc=>?_⟩
     have sc:=Z02 (o:=.tup [.str "let",.str "set",.str "say"]) hc
     have C5:=C4.same sc
     refine⟨c,[.str "let",.str "set",.str "say"],rfl,.inr (SqT.of Z00),rfl,by decide+kernel,_,rfl,Z1b (fun g=>?_) (fun g=>⟨rfl,C5⟩)⟩
     refine⟨_,rfl,_,rfl,_,rfl,_,rfl,_,rfl,_,rfl,d,l,wd,a,i,bd,bs,ns,n4,r-1,z2,b,tm,kd,rfl,hN,by omega,by omega,hM,ht0,by omega,by omega,by omega,by omega,C5.zero,fun v t n6 r6 z6 H6 h6 p6 c6 y1 hn6 C6=>?_⟩
     exact k v t n6 r6 z6 H6 h6 p6 (by omega) (by omega) (by omega) (by omega) (C6.tail C5.b2)
    clear C4
    rintro σ8 H8 ⟨rfl,C8⟩
    refine⟨_,rfl,rfl,_,rfl,Z1b (fun g=>?_) (fun g=>?_)⟩
    ·refine⟨(by show 6<=sizeLine;decide),fun c hc=>?_⟩
     have sc:=Z02 (o:=.lst [.int 2,.int 3,.int 0,.int 1,.int 5,.int 2]) hc
     have C9:=C8.same sc
     refine⟨_,rfl,d,l,ns,n4,_,rfl,C9.F,by omega,by decide,by decide,fun q n10 H10 q0 q1 hn10 F10 b10=>?_⟩
     have C10:=C9.draw b10 F10
     obtain⟨v,hv,hat⟩:=Z34 (xs:=[V.int 2,.int 3,.int 0,.int 1,.int 5,.int 2]) (i:=q) q0 (Int.lt_of_lt_of_le q1 (by decide))
     obtain⟨mn,rfl,hm0,hm5⟩:∃mn:Int,v = .int mn/\0<=mn/\mn<=5:=by
      simp only [mem_cons,not_mem_nil,or_false] at hv
      rcases hv with rfl|rfl|rfl|rfl|rfl|rfl <;> exact⟨_,rfl,by decide,by decide⟩
     refine⟨c,_,q,.int mn,rfl,rfl,SqL.of (C9.F.lst b10 Z00),hat,?_⟩
     refine⟨fun σ' H'=>∃mn:Int,σ' = [some (.ref d),some (.ref wd),some (.ref bd),some (.int b),some (.int tm),some (.ref ka),some (.str kd),some (.int mn),none]/\H'=H10/\0<=mn/\mn<=5,?_,?_⟩
     ·refine⟨_,rfl,wd,.int z2,rfl,Z2y C10.W,_,rfl,_,_,rfl,rfl,.inl ⟨by decide,by decide⟩,_,rfl,_,_,rfl,rfl,.inr ⟨by omega,by omega⟩,_,_,rfl,rfl,_,rfl,Z1b (fun g=>⟨1,rfl,rfl,by decide,by decide⟩) (fun g=>⟨mn,rfl,rfl,hm0,hm5⟩)⟩
     clear hat hv hm0 hm5
     rintro σ11 H11 ⟨mn,rfl,rfl,hm0,hm5⟩
     have hp0:0<=tm*mn:=Int.mul_nonneg ht0 hm0
     have hp1:tm*mn<=tm*5:=Int.mul_le_mul_of_nonneg_left hm5 ht0
     refine⟨_,rfl,_,rfl,_,rfl,_,rfl,_,rfl,_,_,rfl,rfl,_,rfl,_,rfl,_,_,rfl,rfl,.inr ⟨by omega,by omega⟩,d,l,wd,a,i,bd,bs,ns,n10,r-1,z2,b-1,tm*mn,rfl,hN,by omega,by omega,hM,hp0,by omega,by omega,by omega,C10.zero,fun v t n12 r12 z12 H12 h12 p12 c12 y1 y2 hn12 C12=>⟨(by show 3<=sizeLine;decide),fun p hp=>?_⟩⟩
     have sp:=Z02 (o:=.tup [.str "again",.int mn,v]) hp
     have hk:=Z5y p12
     refine k (.ref p) (nd "again" [.int mn] [t]) n12 r12 z12 _ (.tup Z00 (.cons (.at (by decide+kernel)) (.cons (.at rfl) (.cons (IsTh.kp (Kp.of sp) h12) .nil)))) (Zc1 hm0 hm5 p12) ?_ (by omega) (by omega) (by omega) ((C12.tail C10.b2).same sp)
     rw[Zke p12]
     omega
    ·refine⟨(by show 1<=sizeLine;decide),fun h0 hh0=>?_⟩
     have sh:=Z02 (o:=.lst [.str "do"]) hh0
     have C9:=C8.same sh
     let Mh:St->Hp->Prop:=fun σ' H'=>∃(h:Addr) (wo:Str) (own:List V) (mn:Int) (n':Nat),σ' = [some (.ref d),some (.ref wd),some (.ref bd),some (.int b),some (.int tm),some (.ref ka),some (.str kd),some (.int mn),some (.ref h)]/\H' h=some (.lst (.str wo::own))/\OwnOk S wo own mn.toNat/\1<=mn/\mn<=6/\n'<=n+2/\Ctx S M H H' d l wd a i bd bs ns n' (r-1) z2
     refine⟨Mh,?_,?_⟩
     ·refine⟨(by show 6<=sizeLine;decide),fun c hc=>?_⟩
      have sc:=Z02 (o:=.lst [.int 2,.int 3,.int 1,.int 2,.int 4,.int 6]) hc
      have C10:=C9.same sc
      refine⟨_,rfl,d,l,ns,n4,_,rfl,C10.F,by omega,by decide,by decide,fun q n11 H11 q0 q1 hn11 F11 b11=>?_⟩
      obtain⟨v,hv,hat⟩:=Z34 (xs:=[V.int 2,.int 3,.int 1,.int 2,.int 4,.int 6]) (i:=q) q0 (Int.lt_of_lt_of_le q1 (by decide))
      obtain⟨mn,rfl,hm0,hm5⟩:∃mn:Int,v = .int mn/\1<=mn/\mn<=6:=by
       simp only [mem_cons,not_mem_nil,or_false] at hv
       rcases hv with rfl|rfl|rfl|rfl|rfl|rfl <;> exact⟨_,rfl,by decide,by decide⟩
      exact⟨c,_,q,.int mn,rfl,rfl,SqL.of (C10.F.lst b11 Z00),hat,h0,"do",[],mn,n11,rfl,C10.F.lst b11 (sc _ _ Z00),Zc2 (by omega) (by omega),hm0,hm5,by omega,C10.draw b11 F11⟩
     clear C8 C9 sh hh0
     rintro σ11 H11 ⟨h,wo,own,mn,n11,rfl,hh,hO,hm1,hm6,hn11,C11⟩
     refine⟨Mh,?_,?_⟩
     ·refine⟨_,rfl,rfl,_,rfl,Z1b (fun g=>?_) (fun g=>⟨h,wo,own,mn,n11,rfl,hh,hO,hm1,hm6,hn11,C11⟩)⟩
      refine⟨(by show 1<=sizeLine;decide),fun h2 hh2=>?_⟩
      exact⟨h2,"pick",[],3,n11,rfl,Z00,Zhw,by decide,by decide,hn11,C11.same (Z02 hh2)⟩
     clear hh hO hm1 hm6 hn11 C11
     rintro σ12 H12 ⟨h,wo,own,mn,n12,rfl,hh,hO,hm1,hm6,hn12,C12⟩
     refine⟨fun σ' H'=>∃(h:Addr) (wo:Str) (own:List V) (mn:Int) (n':Nat),σ' = [some (.ref d),some (.ref wd),some (.ref bd),some (.int b),some (.int tm),some (.ref ka),some (.str kd),some (.int mn),some (.ref h)]/\H' h=some (.lst (.str wo::own))/\OwnOk S wo own mn.toNat/\1<=mn/\mn<=6/\n'<=n+3/\Ctx S M H H' d l wd a i bd bs ns n' (r-1) z2,?_,?_⟩
     ·refine⟨_,rfl,rfl,_,rfl,Z1b (fun g=>?_) (fun g=>⟨h,wo,own,mn,n12,rfl,hh,hO,hm1,hm6,by omega,C12⟩)⟩
      refine⟨_,rfl,d,l,ns,n12,_,rfl,C12.F,by omega,by decide,by decide,fun q n13 H13 q0 q1 hn13 F13 b13=>?_⟩
      obtain⟨c,hc,hat⟩:=Z34 (xs:=signs6.cps.toList) (i:=q) q0 (Int.lt_of_lt_of_le q1 (by decide+kernel))
      have C13:=C12.draw b13 F13
      refine⟨signs6,q,c,rfl,rfl,(by decide+kernel),hat,(by show 2<=sizeLine;decide),fun h2 hh2=>?_⟩
      exact⟨h2,"op",[.str ⟨#[c]⟩],2,n13,rfl,Z00,Zj4 hc,by decide,by decide,by omega,C13.same (Z02 hh2)⟩
     clear hh hO hm1 hm6 hn12 C12
     rintro σ14 H14 ⟨h,wo,own,mn,n14,rfl,hh,hO,hm1,hm6,hn14,C14⟩
     have hol:=hO.l
     refine⟨_,rfl,_,rfl,mn,rfl,by omega,by omega,Z5k (lo:=0) (n:=mn.toNat) (fun j ys σc H'=>∃(n':Nat) (o:Option V) (r' z':Int) (cs:List Th),σc = [some (.ref d),some (.ref wd),some (.ref bd),some (.int b),some (.int tm),o]/\Ctx S M H14 H' d l wd a i bd bs ns n' r' z'/\n'<=n14+j*cD N/\Rooms N (r-1) j r'/\IsThs H' ys cs/\cs.length=j/\(∀c∈cs,PfT S (M+N) c)/\(Z1r cs:Int)<=r-1-r')
      ⟨n14,none,r-1,z2,[],rfl,C14.zero,by omega,⟨fun _=>rfl,fun q=>absurd q (by decide)⟩,.nil,rfl,(fun c hc=>by cases hc),by simp [Z1r]⟩ ?_ ?_⟩
     ·rintro j ys σc H' hj ⟨n',o,r',z',cs,rfl,C',hn',hR,hcs,hcl,hca,hcz⟩
      have hmul:j*cD N<=5*cD N:=Nat.mul_le_mul_right _ (by omega)
      have hys:=IsThs.len _ hcs
      refine⟨by omega,?_⟩
      refine⟨_,rfl,_,rfl,_,rfl,_,rfl,_,_,rfl,rfl,_,rfl,d,l,wd,a,i,bd,bs,ns,n',r',z',b-1,tm,rfl,hN,by omega,by omega,hM,ht0,by omega,by omega,by omega,C'.zero,fun v t n5 r5 z5 H5 h5 p5 c5 y1 y2 hn5 C5=>?_⟩
      refine nx hj ⟨n5,_,r5,z5,cs ++ [t],rfl,C5.tail C'.b2,by rw[Nat.succ_mul];omega,hR.next hN (by omega) y1 y2,IsThs.app _ (IsThs.kp (C5.b2.kp C'.F C'.W) hcs) (.cons h5 .nil),by rw[length_append,hcl];rfl,fun c hc=>?_,?_⟩
      ·rcases mem_append.mp hc with y|y
       ·exact hca c y
       ·rw[mem_singleton] at y;subst y;exact p5
      ·rw[Z3i]
       omega
     ·rintro ys σc H' ⟨n',o,r',z',cs,rfl,C',hn',hR,hcs,hcl,hca,hcz⟩ q hq
      have hys:=IsThs.len _ hcs
      have sq:=Z02 (o:=.lst ys) hq
      have D':=sq _ _ (C'.b2.kp C14.F C14.W _ _ hh (fun _ z=>by cases z))
      have hmul:mn.toNat*cD N<=6*cD N:=Nat.mul_le_mul_right _ (by omega)
      refine⟨h,q,_,ys,rfl,rfl,D',Z00,by rw[length_cons];omega,fun r3 hr3=>?_⟩
      have s3:=Z02 (o:=.lst (.str wo::own++ys)) hr3
      refine⟨r3,.str wo::own++ys,rfl,.inl ⟨SqL.of Z00,fun p hp=>?_⟩⟩
      have sp:=Z02 (o:=.tup (.str wo::own++ys)) hp
      have sA:=(sq.trans s3).trans sp
      refine k (.ref p) (nd wo own cs) n' r' z' _ (.tup Z00 (.cons (.at hO.t) (IsThs.app _ (Zff hO.s) (IsThs.kp (Kp.of sA) hcs)))) (Z3p hO.l hO.p hO.n (by rw[hcl];exact hO.e) (by omega) hca) ?_ (by omega) ?_ (by omega) ((C'.tail C14.b2).same sA)
      ·rw[Z1l fun k hk=>(hca k hk).isTup]
       omega
      ·intro _
       have:=hR.2 (by omega)
       omega
end
end K13
namespace L2
open PySem PySem.Spec PyProof.Rows
section
variable {X:Cx}
theorem Z44:Z3l X (.type "dict") (fun xs H Q=>∃(p:Addr) (kvs:List (Key×V)),xs = [.ref p]/\H p=some (.dK kvs)/\∀a,H a=none->Q (.ref a) (upd H a (.dK kvs))):=by
 intro pins s σ H xs us Q I r h
 obtain⟨p,kvs,rfl,hp,q⟩:=h
 obtain⟨u,rfl,rx⟩:=Z6c r
 cases rx
 exact Zh2 I (Rd.of hp) fun a s' ha I'=>⟨.ref a,_,I',rfl,q a ha⟩
end
end L2
namespace K13
open PySem L2
structure ExpF where
 g:GenF
 fE:Addr
 fB:Addr
 fC:Addr
 fY:Addr
 dE:FuncData
 dB:FuncData
 dC:FuncData
 dY:FuncData
structure Exp (K:PySem.W.Frag)(mg:Str->Option Value)(x:ExpF):Prop where
 G:Gen K mg x.g
 E:Fn K mg "_law_expr" Z8e ["_law_feed_here","_law_world_here","_law_bound_here","_law_below","_law_times"] x.fE x.dE
 B:Fn K mg "_law_bound" Z6s ["_law_feed_here","_law_world_here","_law_bound_here","_law_below","_law_times","_law_kind"] x.fB x.dB
 C:Fn K mg "_law_called" Z4v ["_law_feed_here","_law_world_here","_law_bound_here","_law_below","_law_times"] x.fC x.dC
 Y:Fn K mg "_law_copied" Z4u ["_law_feed_here","_law_world_here","_law_bound_here","_law_below","_law_times"] x.fY x.dY
 dict:mg "dict"=none
theorem cD4:cD 4=10360:=by decide+kernel
def WI.bare (i:WI):WI:={ i with sv:=[],ss:=[] }
inductive spSeeds_ (S:SS)(vs:List V)(H:Hp)(Q:VK):Prop
 |mk (d l wd:Addr) (a:WA) (i:WI) (ns:List Int) (n:Nat) (r z m:Int) (_:vs = [.ref d,.ref wd,.int m]) (_:0<=m) (_:m<=10) (_:n<=500000000000) (_:Feed H d l ns n) (_:H wd=some (.dK (Z0g a r z))) (_:Wf S 0 H d wd a i) (_:∀(sd:Addr) (sv:List V) (ss:List Th) (n':Nat) H',H sd=none->H' sd=some (.lst sv)->IsThs H' sv ss->(∀t∈ss,PfT S 4 t)->sv.length=m.toNat->n'<=n+10360*m.toNat->Feed H' d l ns n'->But d H H'->Q (.ref sd) H'):spSeeds_ S vs H Q
def Zfg (S:SS):Sp:=fun vs H Q _=>spSeeds_ S vs H Q
section
variable {S:SS}{P:Program}{w:World}{K:PySem.W.Frag}{mg:Str->Option Value}{base:Heap}{x:ExpF}
theorem Exp.gE {M:Nat}(G:Exp K mg x)(N:Nat):FnOk P w K mg base CX0 (2*N+M+4) x.fE x.dE ["_law_feed_here","_law_world_here","_law_bound_here","_law_below","_law_times"] (Z72 S M N):=Zkg G.G G.E G.B G.C G.Y N
theorem scSeeds:FnScope ["_law_feed_here","_law_world_here","_law_many","_law_found","_law_k","_law_small"] ["_law_feed_here","_law_world_here","_law_many"] (Z06 Z9p):=⟨rfl,rfl,rfl,by decide+kernel,rfl,by decide+kernel,by decide+kernel⟩
theorem Zhx {f:Addr}{fd:FuncData}(F:Fun K "_law_seeds" "_law_seeds" Z9p f fd)(G:Exp K mg x):
  FnOk P w K mg base CX0 13 f fd ["_law_feed_here","_law_world_here","_law_many"] (Zfg S):=by
 have GE:FnOk P w K mg base CX0 12 x.fE x.dE ["_law_feed_here","_law_world_here","_law_bound_here","_law_below","_law_times"] (Z72 S 0 4):=G.gE (M:=0) 4
 refine F.ok scSeeds (fun vs H Q E h=>?_) (fun cdv A outer s H vs Q E hr h=>?_)
 ·obtain⟨d,l,wd,a,i,ns,n,r,z,m,rfl,_⟩:=h
  rfl
 ·obtain⟨d,l,wd,a,i,ns,n,r,z,m,rfl,hm0,hm1,hn,F0,W0,N0,k⟩:=h
  have hsz:sizeLine=16777216:=sizeLine_eq
  have hu:(_:Around).units+1<cLine:=Nat.lt_of_le_of_lt (Nat.add_le_add_left (by decide) _) hr.units
  refine'⟨?tt,?body,?fin⟩
  case body=>
   refine' Z04 ?s1 (Z04 ?s2 (Z07 ?s3))
   case s1=>exact Z0c (i:=3) scSeeds.nd rfl (Or.inl rfl) (Z0x Z01)
   case s2=>
    refine' Z4n PassesOwn.never rfl (Z1y (by rfl) G.G.U.T.range (Z0d (pv 2) Z01)) (Z0t (i:=4) scSeeds.nd rfl (Or.inl rfl)) (Z04 ?b1 (Z04 ?b2 (Z04 ?b3 (Z04 ?b4 (Z07 ?b5)))))
    case b1=>exact Z0c (i:=5) scSeeds.nd rfl (Or.inl rfl) (Z16 Z44 (by rfl) G.dict (by decide+kernel) (Z0d (pv 1) Z01))
    case b2=>exact Z29 hu (pv 5) Z08 (Z0x Z01) (by rfl)
    case b3=>exact Z29 hu (pv 5) Z08 Z03 (by rfl)
    case b4=>exact Z29 hu (pv 5) Z08 Z03 (by rfl)
    case b5=>exact Z3y (Z7g PySem.F.plainAttrs_list PySem.F.slot_list_append PySem.F.type_list_append Z39 (pv 3) (Z2a (Z05 GE hr (by rfl) G.E.m G.E.F.kp G.E.b .nil Z0f (Z0d (pv 0) (Z0d (pv 5) (Z0b (Z0x Z01) (Z1d Z03 (Z1d Z03 Z01)))))) Z01))
   case s3=>exact Z0i (pv 3)
  case fin=>
   refine⟨Nat.zero_le _,fun sd hsd=>?_⟩
   have hsd_l:sd≠l:=fun e=>by
    have h0:H l=some _:=F0.ls
    rw[<- e,hsd] at h0
    cases h0
   refine⟨_,rfl,m,rfl,by omega,by omega,Z2x (n:=m.toNat) (fun j σ H'=>∃(sv:List V) (ss:List Th) (n':Nat) (o4 o5:Option V),σ = [some (.ref d),some (.ref wd),some (.int m),some (.ref sd),o4,o5]/\H' sd=some (.lst sv)/\IsThs H' sv ss/\(∀t∈ss,PfT S 4 t)/\sv.length=j/\n'<=n+10360*j/\Feed H' d l ns n'/\But d H H')
    ⟨[],[],n,none,none,rfl,Z00,.nil,(fun t ht=>by cases ht),rfl,Nat.le_refl _,F0.same (Z02 hsd),But.of (Z02 hsd)⟩ ?_ ?_⟩
   ·rintro j σ H1 hj ⟨sv,ss,n1,o4,o5,rfl,L1,T1,hp1,hl1,hn1,F1,B1⟩
    have W1:=B1 _ _ W0 (Z66 F0 W0)
    have N1:Wf S 0 H1 d wd a i:=N0.go (B1.kp F0) (But2.of B1)
    refine⟨_,rfl,wd,_,rfl,W1,fun sm hsm=>?_⟩
    have s2:=Z02 (o:=.dK (Z0g a r z)) hsm
    have hno:∀{b:Addr} {o:HO},H1 b=some o->b≠sm:=fun {b o} e q=>by rw[q,hsm] at e;cases e
    refine⟨Nat.zero_le _,fun q hq=>?_⟩
    have s3:=Z02 (o:=.lst []) hq
    have W3:=s3 _ _ (Z00 (a:=sm) (o:=.dK (Z0g a r z)) (H:=H1))
    refine⟨_,rfl,sm,_,rfl,Z81 W3,?_⟩
    refine⟨_,rfl,sm,_,rfl,Z71 Z00,?_⟩
    refine⟨_,rfl,sm,_,rfl,Z5a Z00,?_⟩
    have hqs:q≠sm:=fun e=>by rw[e,Z00] at hq;cases hq
    have hq1:H1 q=none:=Z1z s2 hq
    obtain⟨H4,hH4⟩:∃H4,H4=upd (upd (upd (upd (upd H1 sm (.dK (Z0g a r z))) q (.lst [])) sm (.dK (Z0g { a with sd:=q } r z))) sm (.dK (Z0g { a with sd:=q } 7 z))) sm (.dK (Z0g { a with sd:=q } 7 60)):=⟨_,rfl⟩
    rw[<- hH4]
    have s4:Same H1 H4:=fun b o e=>by
     have h1:=hno e
     have h2:b≠q:=fun z=>by rw[z,hq1] at e;cases e
     rw[hH4,Z09 h1,Z09 h1,Z09 h1,Z09 h2,Z09 h1]
     exact e
    have W4:H4 sm=some (.dK (Z0g { a with sd:=q } 7 60)):=by rw[hH4];exact Z00
    have Q4:H4 q=some (.lst []):=by rw[hH4,Z09 hqs,Z09 hqs,Z09 hqs];exact Z00
    have hsm0:H1 sm=none:=hsm
    clear hH4 W3 s3 s2 hq hsm
    refine⟨_,rfl,.inl ⟨rfl,_,SqL.of (s4 _ _ L1)⟩,_,rfl,_,rfl,Nat.zero_le _,fun c hc=>?_⟩
    have s5:=Z02 (o:=.lst []) hc
    have s15:=s4.trans s5
    have B5:upd H4 c (.lst []) c=some (.lst (([]:List Str).map V.str)):=Z00
    have W5:=s5 _ _ W4
    have Q5:=s5 _ _ Q4
    generalize upd H4 c (.lst [])=H5 at s5 s15 B5 W5 Q5
    have k15:=Kp.of s15
    have N5:Wf S 0 H5 d sm { a with sd:=q } i.bare:=⟨s15 _ _ N1.nm,s15 _ _ N1.lt,s15 _ _ N1.fn,fun v hv=>let ⟨c,x,m,h1,h2,h3⟩:=N1.fe v hv;⟨c,x,m,h1,s15 _ _ h2,h3⟩,s15 _ _ N1.wo,N1.wk,N1.o1,hno N1.wo,Q5,.nil,(fun t ht=>by cases ht),N1.n1,N1.n2,N1.l2,N1.f2,Nat.zero_le _,N1.an,N1.bn⟩
    have C5:Ctx S 0 H5 H5 d l sm { a with sd:=q } i.bare c [] ns n1 7 60:=⟨F1.same s15,W5,N5,B5,Nat.zero_le _,(fun t ht=>by cases ht),But2.refl _ _ _⟩
    have e4:=cD4
    refine⟨d,l,sm,_,i.bare,c,[],ns,n1,7,60,4,1,rfl,by decide,by decide,by decide,by decide,by decide,?_,by omega,by decide,C5,fun v t n6 r6 z6 H6 h6 p6 c6 y1 y2 hn6 C6=>?_⟩
    ·have:=Zar (N:=4) (by decide)
     have:=Z9s (4+1)
     omega
    have hsd_d:sd≠d:=Z3k (s15 _ _ L1) (C5.F.dc.choose_spec) (by intro z;cases z)
    have L6:=C6.b2 _ _ (s15 _ _ L1) hsd_d (hno L1)
    have T6:=IsThs.kp (C6.b2.kp C5.F C5.W) (IsThs.kp k15 T1)
    refine⟨sd,_,_,rfl,rfl,L6,by omega,sv ++ [v],ss ++ [t],n6,_,_,rfl,Z00,?_,?_,by rw[length_append,hl1];rfl,by omega,?_,?_⟩
    ·refine IsThs.app _ (Z6y L6 But.upd T6 (Z2s fun y hy=>(hp1 y hy).pl)) (.cons (Z3u L6 But.upd h6 p6.pl) .nil)
    ·intro y hy
     rcases mem_append.mp hy with q|q
     ·exact hp1 y q
     ·rw[mem_singleton] at q;rw[q];exact p6
    ·obtain⟨⟨y,hd⟩,hl,hs⟩:=C6.F
     exact⟨⟨y,by rw[Z09 hsd_d.symm];exact hd⟩,by rw[Z09 hsd_l.symm];exact hl,hs⟩
    ·intro b o e hb
     have e1:=B1 b o e hb
     rw[Z09 (Z0e e hsd)]
     exact C6.b2 b o (s15 _ _ e1) hb (hno e1)
   ·rintro σ H1 ⟨sv,ss,n1,o4,o5,rfl,L1,T1,hp1,hl1,hn1,F1,B1⟩
    exact⟨_,rfl,k sd sv ss n1 H1 hsd L1 T1 hp1 hl1 hn1 F1 B1⟩
end
end K13
namespace L2
open PySem PySem.Spec PyProof.Rows
end L2
namespace K13
open PySem L2
inductive spParts_ (vs:List V)(H:Hp)(Q:VK):Prop
 |mk (H0:Hp) (v:V) (ts:List Th) (_:vs = [v]) (_:Same H0 H) (_:IsTh H0 v (.tup ts)) (_:ts.length<=1000000) (_:∀(p:Addr) (ws:List V) H',Same H H'->H' p=some (.tup ws)->IsThs H0 ws (Z18 ts)->Q (.ref p) H'):spParts_ vs H Q
def spParts:Sp:=fun vs H Q _=>spParts_ vs H Q
inductive spHead_ (vs:List V)(H:Hp)(Q:VK):Prop
 |mk (H0:Hp) (v:V) (ts:List Th) (_:vs = [v]) (_:Same H0 H) (_:IsTh H0 v (.tup ts)) (_:ts.length<=1000000) (_:∀(p:Addr) (ws:List V) H',Same H H'->H' p=some (.tup ws)->IsThs H0 ws (Z9q ts)->Q (.ref p) H'):spHead_ vs H Q
def spHead:Sp:=fun vs H Q _=>spHead_ vs H Q
section
variable {P:Program}{w:World}{K:PySem.W.Frag}{mg:Str->Option Value}{base:Heap}
theorem Zkh:FnScope ["e"] ["e"] (Z06 Z6p):=⟨rfl,rfl,rfl,by decide+kernel,rfl,by decide+kernel,by decide+kernel⟩
theorem Zc3 {f:Addr}{fd:FuncData}(F:Fun K "parts" "parts" Z6p f fd)(T:TxtT mg)(KI:Kits K):FnOk P w K mg base CX0 1 f fd ["e"] spParts:=by
 refine F.ok Zkh (fun vs H Q E h=>?_) (fun cdv A outer s H vs Q E hr h=>?_)
 ·obtain⟨H0,v,ts,rfl,_⟩:=h
  rfl
 ·obtain⟨H0,v,ts,rfl,s0,hv,hz,k⟩:=h
  refine⟨_,Z07 (Z0i (Z16 Z14 (by rfl) T.tup (by decide+kernel) (Z0b (Z1n (N':=["part"]) (src:=[none]) rfl (Z0j (Z06 Z6p) rfl ["e"] rfl (by decide+kernel)) (Z7j (pv 0))
   (fun cl C ex s0' H0'=>⟨Z0t (i:=0) (nd1 _) rfl (Or.inl rfl),Z5i (Z68 (Z0n (id:="isinstance") (Z31 (K:=K) rfl) (by rfl) T.isi (by decide+kernel) (Z0d (pv 0) (Z0d (Z87 (v:=.ty "tuple") (by rfl) T.tup (by decide+kernel) rfl) Z01)))),pv 0⟩)) Z01))),?_⟩
  obtain⟨a,xs,rfl,ha0,hts⟩:=Z1j hv
  have ha:=s0 _ _ ha0
  have hl:=IsThs.len _ hts
  refine⟨_,rfl,a,rfl,⟨_,SqT.of ha⟩,Z49 (K:=K) (a:=a) (xs:=xs) (fun i ys σc H'=>∃o,σc = [o]/\IsThs H0 ys ((ts.take i).filter isTup)/\ys.length<=i/\H'=H) ⟨none,rfl,by rw[take_zero];exact .nil,Nat.le_refl _,rfl⟩ (fun i ys σc H' ⟨_,_,_,_,e⟩=>by rw[e];exact SqT.of ha) ?_ ?_⟩
  ·rintro i x ys σc H' hx hi ⟨o,rfl,hys,hyl,rfl⟩
   obtain⟨t,ht,h1⟩:=Z1o _ hts hx
   have hnext:(ts.take (i+1)).filter isTup=(ts.take i).filter isTup++(if isTup t=true then [t] else []):=Z4a _ ht
   refine⟨by have:sizeLine=16777216:=sizeLine_eq;omega,?_⟩
   refine⟨_,rfl,_,_,_,_,rfl,Zha (IsTh.kp (Kp.of s0) h1),KI.tup h1,_,rfl,Z1b (fun g=>?_) (fun g=>?_)⟩
   ·refine⟨_,rfl,nx hi ⟨_,rfl,?_,by rw[length_append];show ys.length+1<=i+1;omega,rfl⟩⟩
    rw[hnext,if_pos g]
    exact IsThs.app _ hys (.cons h1 .nil)
   ·refine nx hi ⟨_,rfl,?_,by omega,rfl⟩
    rw[hnext,if_neg g,append_nil]
    exact hys
  ·rintro ys σc H' ⟨o,rfl,hys,hyl,rfl⟩ l hl'
   refine⟨l,_,rfl,.inl ⟨SqL.of Z00,fun p hp=>?_⟩⟩
   rw[take_of_length_le (by omega)] at hys
   have s2:=(Z02 (o:=.lst ys) hl').trans (Z02 (o:=.tup ys) hp)
   exact k p ys _ s2 Z00 hys
theorem Zms:FnScope ["node"] ["node"] (Z06 Z9m):=⟨rfl,rfl,rfl,by decide+kernel,rfl,by decide+kernel,by decide+kernel⟩
theorem Zki {f:Addr}{fd:FuncData}(F:Fun K "head" "head" Z9m f fd)(T:TxtT mg)(KI:Kits K):FnOk P w K mg base CX0 1 f fd ["node"] spHead:=by
 refine F.ok Zms (fun vs H Q E h=>?_) (fun cdv A outer s H vs Q E hr h=>?_)
 ·obtain⟨H0,v,ts,rfl,_⟩:=h
  rfl
 ·obtain⟨H0,v,ts,rfl,s0,hv,hz,k⟩:=h
  refine⟨_,Z07 (Z0i (Z16 Z14 (by rfl) T.tup (by decide+kernel) (Z0b (Z1n (N':=["field"]) (src:=[none]) rfl (Z0j (Z06 Z9m) rfl ["node"] rfl (by decide+kernel)) (Z7j (pv 0))
   (fun cl C ex s0 H0=>⟨Z0t (i:=0) (nd1 _) rfl (Or.inl rfl),Z5i (Z8x (Z68 (Z0n (id:="isinstance") (Z31 (K:=K) rfl) (by rfl) T.isi (by decide+kernel) (Z0d (pv 0) (Z0d (Z87 (v:=.ty "tuple") (by rfl) T.tup (by decide+kernel) rfl) Z01))))),pv 0⟩)) Z01))),?_⟩
  obtain⟨a,xs,rfl,ha0,hts⟩:=Z1j hv
  have ha:=s0 _ _ ha0
  have hl:=IsThs.len _ hts
  refine⟨_,rfl,a,rfl,⟨_,SqT.of ha⟩,Z49 (K:=K) (a:=a) (xs:=xs) (fun i ys σc H'=>∃o,σc = [o]/\IsThs H0 ys ((ts.take i).filter Z2p)/\ys.length<=i/\H'=H) ⟨none,rfl,by rw[take_zero];exact .nil,Nat.le_refl _,rfl⟩ (fun i ys σc H' ⟨_,_,_,_,e⟩=>by rw[e];exact SqT.of ha) ?_ ?_⟩
  ·rintro i x ys σc H' hx hi ⟨o,rfl,hys,hyl,rfl⟩
   obtain⟨t,ht,h1⟩:=Z1o _ hts hx
   have hnext:(ts.take (i+1)).filter Z2p=(ts.take i).filter Z2p++(if Z2p t=true then [t] else []):=Z4a _ ht
   refine⟨by have:sizeLine=16777216:=sizeLine_eq;omega,?_⟩
   refine⟨_,rfl,_,_,_,_,rfl,Zha (IsTh.kp (Kp.of s0) h1),KI.tup h1,_,rfl,Z1b (fun g=>?_) (fun g=>?_)⟩
   ·refine⟨_,rfl,nx hi ⟨_,rfl,?_,by rw[length_append];show ys.length+1<=i+1;omega,rfl⟩⟩
    rw[hnext,if_pos (show Z2p t=true from g)]
    exact IsThs.app _ hys (.cons h1 .nil)
   ·refine nx hi ⟨_,rfl,?_,by omega,rfl⟩
    rw[hnext,if_neg (show ¬Z2p t=true from g),append_nil]
    exact hys
  ·rintro ys σc H' ⟨o,rfl,hys,hyl,rfl⟩ l hl'
   refine⟨l,_,rfl,.inl ⟨SqL.of Z00,fun p hp=>?_⟩⟩
   rw[take_of_length_le (by omega)] at hys
   have s2:=(Z02 (o:=.lst ys) hl').trans (Z02 (o:=.tup ys) hp)
   exact k p ys _ s2 Z00 hys
end
def off (a b:Addr)(H:Hp):Hp:=fun c=>if c=a∨c=b then none else H c
theorem Z8j {a b:Addr}{H:Hp}:Same (off a b H) H:=fun c o e=>by
 unfold off at e
 split at e
 ·cases e
 ·exact e
theorem Z82 {a b c:Addr}{H:Hp}{o:HO}(h:H c=some o)(h1:c≠a)(h2:c≠b):off a b H c=some o:=by
 unfold off
 rw[if_neg (fun z=>z.elim h1 h2)]
 exact h
theorem Zhy {a b:Addr}{H:Hp}{o:HO}:off a b (upd H a o)=off a b H:=by
 funext c
 unfold off
 split
 ·rfl
 ·next h=>rw[Z09 (fun z=>h (.inl z))]
theorem Zc4 {a b:Addr}{H:Hp}{o:HO}:off a b (upd H b o)=off a b H:=by
 funext c
 unfold off
 split
 ·rfl
 ·next h=>rw[Z09 (fun z=>h (.inr z))]
theorem Z2t {a b:Addr}{H H':Hp}(s:Same H H'):Same (off a b H) (off a b H'):=fun c o e=>by
 unfold off at e ⊢
 split at e
 ·cases e
 ·next h=>rw[if_neg h];exact s c o e
theorem Zmt {a b:Addr}{H0 H:Hp}(s:Same H0 H)(h1:H0 a=none)(h2:H0 b=none):Same H0 (off a b H):=fun c o e=>Z82 (s c o e) (fun z=>by rw[z,h1] at e;cases e) (fun z=>by rw[z,h2] at e;cases e)
structure TxtD (mg:Str->Option Value):Prop where
 node:∃tk,mg "NODE"=some (.str "node" tk)
 opened:∃tk,mg "OPENED"=some (.str "opened" tk)
 closed:∃tk,mg "CLOSED"=some (.str "closed" tk)
inductive spSteps_ (N:Nat)(vs:List V)(H:Hp)(Q:VK):Prop
 |mk (v:V) (t:Th) (_:vs = [v]) (_:IsTh H v t) (_:OkT N t) (_:Th.sz t<=100000) (_:∀(p:Addr) (ws:List V) H',Same H H'->H p=none->H' p=some (.lst ws)->IsThs H' ws ((Z0u t).map pr)->Q (.ref p) H'):spSteps_ N vs H Q
def Zfh (N:Nat):Sp:=fun vs H Q _=>spSteps_ N vs H Q
mutual
theorem Z45:∀t:Th,(Z0u t).length<=3*Th.sz t
 | .tup xs=>by
  rw[Z0u,Th.sz,length_cons]
  have:=Z73 (Z2n xs) (.tup xs) xs 0
  omega
 | .at _=>by simp [Z0u]
 | .lst _=>by simp [Z0u]
theorem Z73 (l:Bool)(me:Th):∀(xs:List Th) (i:Nat),(Z3t l me i xs).length<=3*szs xs+(2-i)
 |[],i=>by simp [Z3t,szs]
 |x::xs,i=>by
  rw[Z3t,szs]
  have h1:=Z45 x
  have hm:(Z3b l me i).length<=(2-i)-(2-(i+1)):=by
   match i with
   | 0=>cases l <;> simp [Z3b]
   | 1=>cases l <;> simp [Z3b]
   |_+2=>simp [Z3b]
  split
  ·have h2:=Z73 l me xs (i+1)
   rw[length_append,length_append]
   omega
  ·have h2:=Z73 l me xs i
   omega
end
abbrev prs (l:List (Str×Th)):List Th:=l.map pr
theorem Zhz {H:Hp}{ws:List V}{st:List (Str×Th)}(h:IsThs H ws (prs st))(hne:ws ≠ []):∃ws' y st' d t a vn,ws=ws' ++ [y]/\st=st' ++ [(d,t)]/\IsThs H ws' (prs st')/\y = .ref a/\H a=some (.tup [.str d,vn])/\IsTh H vn t:=by
 obtain⟨ws',y,us',u,e1,e2,h1,h2⟩:=Zhb ws h hne
 have hn:st ≠ []:=fun z=>by
  subst z
  have:=congrArg List.length e2
  simp [prs] at this
 obtain⟨st',x,rfl⟩:∃st' x,st=st' ++ [x]:=⟨st.dropLast,st.getLast hn,(dropLast_concat_getLast hn).symm⟩
 have e3:prs (st' ++ [x])=prs st' ++ [pr x]:=by simp [prs]
 rw[e3] at e2
 have e4:=List.append_inj' e2 rfl
 obtain⟨e5,e6⟩:=e4
 have e6':pr x=u:=by simpa using e6
 subst e6' e5
 obtain⟨a,vs,rfl,ha,hvs⟩:=Z1j h2
 cases hvs with
 |cons c1 c2=>
  cases c2 with
  |cons c3 c4=>
   cases c4
   obtain⟨rfl,_⟩:=Z1p c1
   exact⟨ws',_,st',x.1,x.2,a,_,e1,rfl,h1,rfl,ha,c3⟩
theorem Z3j {d:Str}(h:d="node"∨d="opened"∨d="closed"):smallV (.str d)=true:=by
 rcases h with rfl|rfl|rfl <;> decide+kernel
theorem Zfi {n:Nat}{t:Th}(h:OkT n t):1<=(Z0u t).length:=by
 cases n with
 |zero=>exact h.elim
 |succ n=>
  obtain⟨w,ts,rfl,_⟩:=h
  rw[Z0u,length_cons]
  omega
def Zkj (N:Nat)(p:Str×Th):Prop:=(p.1="node"∨p.1="opened"∨p.1="closed")/\OkT N p.2/\Th.sz p.2<=100000
theorem Zc5 {N:Nat}:∀(st:List (Str×Th)),(∀x∈st,Zkj N x)->st.length<=(Z2m st).length:=by
 intro st
 induction st with
 |nil=>intro _;exact Nat.zero_le _
 |cons x st ih=>
  intro h
  have h1:=ih (fun y hy=>h y (mem_cons_of_mem _ hy))
  have h2:1<=(Z5l x).length:=by
   unfold Z5l
   split
   ·exact Zfi (h x (mem_cons_self ..)).2.1
   ·exact Nat.le_refl _
  have e:Z2m (x::st)=Z2m st++Z5l x:=by unfold Z2m;simp
  rw[e,length_append,length_cons]
  omega
theorem Z74 (w:Str)(ts:List Th):Z18 (.at (.str w)::ts)=Z18 ts:=rfl
theorem Z9v {w:Str}{ts:List Th}:Z2n (.at (.str w)::ts)=decide (w="let"):=rfl
section
variable {P:Program}{w:World}{K:PySem.W.Frag}{mg:Str->Option Value}{base:Heap}
theorem scSteps:FnScope ["tree","walk","waiting","deed","node","inner"] ["tree"] (Z06 Z7u):=⟨rfl,rfl,rfl,by decide+kernel,rfl,by decide+kernel,by decide+kernel⟩
theorem Zi0 {f fP:Addr}{fd dP:FuncData}(F:Fun K "steps" "steps" Z7u f fd)(T:TxtT mg)(TD:TxtD mg)(KI:Kits K)
  (FP:Fun K "parts" "parts" Z6p fP dP) (bP:Binds K dP ["e"] []) (mP:mg "parts"=some (.ref fP)) (N:Nat):FnOk P w K mg base CX0 2 f fd ["tree"] (Zfh N):=by
 have GP:FnOk P w K mg base CX0 1 fP dP ["e"] spParts:=Zc3 FP T KI
 obtain⟨tn,hNode⟩:=TD.node
 obtain⟨to,hOpen⟩:=TD.opened
 obtain⟨tc,hClose⟩:=TD.closed
 refine F.ok scSteps (fun vs H Q E h=>?_) (fun cdv A outer s H vs Q E hr h=>?_)
 ·obtain⟨v,t,rfl,_⟩:=h
  rfl
 ·obtain⟨v,t,rfl,ht,hok,hz,k⟩:=h
  have hsz:sizeLine=16777216:=sizeLine_eq
  have hr1:Room 1 _:=hr.mono (by decide)
  refine'⟨?tt,?body,?fin⟩
  case body=>
   refine' Z04 ?s1 (Z0m ?s2 (Z04 ?s3 (Z07 ?s4)))
   case s1=>exact Z0c (i:=1) scSteps.nd rfl (Or.inl rfl) (Z0x Z01)
   case s2=>exact Z0c (i:=2) scSteps.nd rfl (Or.inl rfl) (Z0x (Zm7 (Z1a (Z0d (Z4q (v:=.str "node") (by rfl) hNode ⟨tn,rfl⟩) (Z0d (pv 0) Z01))) Z01))
   case s3=>
    refine' Zba PassesOwn.never ?c (Z04 ?b1 (Z0m ?b2 (Z07 ?b3)))
    case c=>exact Zbb (pv 2) (fun _=>rfl)
    case b1=>exact Zb9 (Ziu PySem.F.plainAttrs_list PySem.F.slot_list_pop PySem.F.type_list_pop Ziv (pv 2)) (Z8y rfl (Z2g (Z0t (i:=3) scSteps.nd rfl (Or.inl rfl)) (Z2g (Z0t (i:=4) scSteps.nd rfl (Or.inl rfl)) Z6a)))
    case b2=>exact Z3y (Z7g PySem.F.plainAttrs_list PySem.F.slot_list_append PySem.F.type_list_append Z39 (pv 1) (Zm7 (Z1a (Z0d (pv 3) (Z0d (pv 4) Z01))) Z01))
    case b3=>
     refine' Z0y ?d (Z0m ?c1 (Z0m ?c2 (Z07 ?c3))) Z0h
     case d=>exact Z0a Z1c (pv 3) (Z4q (v:=.str "node") (by rfl) hNode ⟨tn,rfl⟩) (Z0k _)
     case c1=>
      refine' Z2v (i:=5) (N':=["part"]) (src:=[none]) ?k1 ?k2 ?k3 ?k4 ?k5 ?k6 ?k7
      case k1=>rfl
      case k2=>exact scSteps.nd
      case k3=>rfl
      case k4=>exact Or.inl rfl
      case k5=>exact Z0j (Z06 Z7u) rfl ["tree","walk","waiting","deed","node","inner"] rfl (by decide+kernel)
      case k6=>exact Z7j (Z05 GP hr1 (by rfl) mP FP.kp bP .nil Z0f (Z0d (pv 4) Z01))
      case k7=>exact fun cl C ex s0 H0=>⟨Z0t (i:=0) (nd1 _) rfl (Or.inl rfl),Z1k,Z1a (Z0d (Z4q (v:=.str "node") (by rfl) hNode ⟨tn,rfl⟩) (Z0d (pv 0) Z01))⟩
     case c2=>
      refine' Z0y ?e (Z07 ?g) Z0h
      case e=>exact Z0a Z1c (Z0r Z0v (pv 4) Z03 (fun _ _=>rfl)) Z08 (Z0k _)
      case g=>exact Z0c (i:=5) scSteps.nd rfl (Or.inl rfl) (Z0x (Z0b (Z0r Z0z (pv 5) Z03 (fun _ _=>rfl)) (Zm7 (Z1a (Z0d (Z4q (v:=.str "opened") (by rfl) hOpen ⟨to,rfl⟩) (Z0d (pv 4) Z01))) (Z0b (Z0r Z0z (pv 5) Z03 (fun _ _=>rfl)) (Zm7 (Z1a (Z0d (Z4q (v:=.str "closed") (by rfl) hClose ⟨tc,rfl⟩) (Z0d (pv 4) Z01))) Z01)))))
     case c3=>exact Z3y (Z7g PySem.F.plainAttrs_list PySem.F.slot_list_extend PySem.F.type_list_extend Zed (pv 2) (Z0b (Zix (pv 5) (Ze1 Z8z Z03)) Z01))
   case s4=>exact Z0i (pv 1)
  case fin=>
   refine⟨Nat.zero_le _,fun wk hwk=>?_⟩
   refine⟨fun σ' H'=>∃wt p0,σ' = [some v,some (.ref wk),some (.ref wt),none,none,none]/\wk≠wt/\H wt=none/\Same H H'/\H' wk=some (.lst [])/\H' wt=some (.lst [.ref p0])/\H' p0=some (.tup [.str "node",v]),?_,?_⟩
   ·refine⟨_,rfl,(by show 2<=sizeLine;decide),fun p0 hp0=>⟨(by show 1<=sizeLine;decide),fun wt hwt=>?_⟩⟩
    have s1:=Z02 (o:=.lst []) hwk
    have s2:=s1.trans (Z02 (o:=.tup [.str "node",v]) hp0)
    have e1:upd (upd H wk (.lst [])) p0 (.tup [.str "node",v]) wk=some (.lst []):=Z02 hp0 _ _ Z00
    have s3:=Z02 (o:=.lst [.ref p0]) hwt
    exact⟨wt,p0,rfl,Z0e e1 hwt,Z1z s2 hwt,s2.trans s3,s3 _ _ e1,Z00,s3 _ _ Z00⟩
   rintro σ0 H1 ⟨wt,p0,rfl,hkt,hwt,s1,L1,W1,P1⟩
   refine Zju (fun m σ H'=>∃(ws wl:List V) (st dn:List (Str×Th)) (o3 o4 o5:Option V),σ = [some v,some (.ref wk),some (.ref wt),o3,o4,o5]/\Same H H'/\H' wt=some (.lst ws)/\H' wk=some (.lst wl) ∧
     IsThs (off wk wt H') ws (prs st)/\IsThs (off wk wt H') wl (prs dn)/\dn++Z2m st=Z0u t/\(∀x∈st,Zkj N x)/\m=(Z2m st).length)
    (Z2m [("node",t)]).length ⟨[.ref p0],[],[("node",t)],[],none,none,none,rfl,s1,W1,L1,?_,.nil,?_,?_,rfl⟩ ?_ ?_
   ·refine .cons (.tup (Z82 P1 (Z3k P1 L1 (by intro q;cases q)) (Z3k P1 W1 (by intro q;cases q))) (.cons (.at (Z3j (.inl rfl))) (.cons (IsTh.kp (Kp.of (Zmt s1 hwk hwt)) ht) .nil))) .nil
   ·show Z2m ([] ++ [(("node":Str),t)])=_
    rw[Z55,Z4b]
    show Z0u t ++ []=_
    rw[append_nil]
   ·intro x hx
    rw[mem_singleton] at hx
    subst hx
    exact⟨.inl rfl,hok,hz⟩
   ·rintro m σ H2 ⟨ws,wl,st,dn,o3,o4,o5,rfl,s2,W2,L2,hst,hdn,heq,hall,rfl⟩
    have hlt:=Z45 t
    have hlen:dn.length+(Z2m st).length=(Z0u t).length:=by rw[<- heq,length_append]
    have hstl:=Zc5 st hall
    refine⟨_,rfl,_,.inl ⟨ws,SqL.of W2,rfl⟩,?_⟩
    cases hws:ws.isEmpty with
    |true=>
     have e:ws = []:=List.isEmpty_iff.mp hws
     subst e
     refine Zab ?_
     have est:st = []:=by
      have:=IsThs.len _ hst
      rw[length_map] at this
      exact eq_nil_of_length_eq_zero this.symm
     subst est
     have ed:dn=Z0u t:=by rw[<- heq];show dn=dn ++ [];rw[append_nil]
     subst ed
     exact⟨_,rfl,k wk wl H2 s2 hwk L2 (IsThs.kp (Kp.of Z8j) hdn)⟩
    |false=>
     have hne:ws ≠ []:=fun z=>by rw[z] at hws;cases hws
     obtain⟨ws',y,st',d,n,a,vn,rfl,rfl,hst',rfl,ha,hvn⟩:=Zhz hst hne
     refine Z9f ?_
     refine⟨_,rfl,.inl ⟨rfl,_,SqL.of W2⟩,wt,_,.ref a,rfl,rfl,W2,(by rw[length_append];simp),?_⟩
     rw[List.dropLast_concat]
     have hx:=hall (d,n) (mem_append_right _ (mem_singleton.mpr rfl))
     have hall':∀x∈st',Zkj N x:=fun x hx=>hall x (mem_append_left _ hx)
     have hat:upd H2 wt (.lst ws') a=some (.tup [.str d,vn]):=by
      have h1:=Z8j _ _ ha
      rw[Z09 (Z3k h1 W2 (by intro q;cases q))]
      exact h1
     refine⟨a,[.str d,vn],rfl,SqT.of hat,rfl,_,_,rfl,_,_,rfl,rfl,?_⟩
     refine⟨fun σ' H'=>∃(wl':List V),σ' = [some v,some (.ref wk),some (.ref wt),some (.str d),some vn,o5]/\Same H H'/\H' wt=some (.lst ws')/\H' wk=some (.lst wl') ∧
      IsThs (off wk wt H') ws' (prs st')/\IsThs (off wk wt H') wl' (prs (dn ++ [(d,n)]))/\IsTh (off wk wt H') vn n,?_,?_⟩
     ·have eo:off wk wt (upd H2 wt (.lst ws'))=off wk wt H2:=Zc4
      have Lx:upd H2 wt (.lst ws') wk=some (.lst wl):=by rw[Z09 hkt];exact L2
      have Wx:upd H2 wt (.lst ws') wt=some (.lst ws'):=Z00
      have sx:Same H (upd H2 wt (.lst ws')):=fun b ob e=>by rw[Z09 (Z0e e hwt)];exact s2 b ob e
      rw[<- eo] at hst' hdn hvn
      generalize upd H2 wt (.lst ws')=H3 at Lx Wx sx hst' hdn hvn ⊢
      refine⟨_,rfl,.inl ⟨rfl,_,SqL.of Lx⟩,_,rfl,_,rfl,(by show 2<=sizeLine;decide),fun q hq=>?_⟩
      have sq:=Z02 (o:=.tup [.str d,vn]) hq
      have hqk:q≠wk:=fun z=>by rw[z,Lx] at hq;cases hq
      have hqt:q≠wt:=fun z=>by rw[z,Wx] at hq;cases hq
      have hll:=IsThs.len _ hdn
      rw[length_map] at hll
      rw[length_append] at hstl
      simp only [length_singleton] at hstl
      refine⟨wk,wl,.ref q,rfl,rfl,sq _ _ Lx,by omega,?_⟩
      have so:=Z2t (a:=wk) (b:=wt) sq
      have eo2:off wk wt (upd (upd H3 q (.tup [.str d,vn])) wk (.lst (wl ++ [.ref q])))=off wk wt (upd H3 q (.tup [.str d,vn])):=Zhy
      refine⟨wl ++ [.ref q],rfl,?_,?_,Z00,?_,?_,?_⟩
      ·intro b ob e
       rw[Z09 (Z0e e hwk)]
       exact sq _ _ (sx _ _ e)
      ·rw[Z09 hkt.symm]
       exact sq _ _ Wx
      ·rw[eo2];exact IsThs.kp (Kp.of so) hst'
      ·rw[eo2]
       unfold prs
       rw[map_append]
       refine IsThs.app _ (IsThs.kp (Kp.of so) hdn) (.cons (.tup (Z82 Z00 hqk hqt) (.cons (.at (Z3j hx.1)) (.cons (IsTh.kp (Kp.of so) hvn) .nil))) .nil)
      ·rw[eo2];exact IsTh.kp (Kp.of so) hvn
     clear hst hdn ha hvn hat hst' W2 L2 s2
     rintro σ3 H3 ⟨wl',rfl,s3,W3,L3,hst3,hdn3,hvn3⟩
     refine⟨_,rfl,rfl,_,rfl,Z1b (fun g=>?_) (fun g=>?_)⟩
     ·have hd:d="node":=by
       have g':=of_decide_eq_true g
       injection g'
      subst hd
      obtain⟨_,hokn,hzn⟩:=hx
      obtain⟨N',rfl⟩:∃N',N=N'+1:=by
       cases N with
       |zero=>exact hokn.elim
       |succ N'=>exact⟨N',rfl⟩
      obtain⟨w0,xs,rfl,hlet,hkid⟩:=hokn
      simp only [] at hzn
      have hxs:Th.sz (.tup (.at (.str w0)::xs))=1+(1+szs xs):=by simp only [Th.sz,szs]
      have hxl:=Zaj xs
      have hkl:(Z18 xs).length<=100000:=by
       have h1:=length_filter_le isTup xs
       show(xs.filter isTup).length<=_
       omega
      have hkok:∀k∈Z18 xs,OkT N' k/\Th.sz k<=100000:=fun k hk=>by
       have hk':k∈xs/\isTup k=true:=mem_filter.mp hk
       have:=Zmc xs k hk'.1
       exact⟨hkid k hk'.1 hk'.2,by omega⟩
      refine⟨fun σ' H'=>∃(l:Addr) (ys:List V),σ' = [some v,some (.ref wk),some (.ref wt),some (.str "node"),some vn,some (.ref l)]/\Same H3 H'/\H' l=some (.lst ys)/\H3 l=none/\IsThs (off wk wt H') ys (prs ((Z18 xs).map fun k=>(("node":Str),k))),?_,?_⟩
      ·refine⟨_,rfl,off wk wt H3,vn,.at (.str w0)::xs,rfl,Z8j,hvn3,by rw[length_cons];omega,fun p ps H4 s4 hp4 hps=>?_⟩
       rw[Z74] at hps
       have hpl:=IsThs.len _ hps
       refine⟨p,rfl,⟨_,SqT.of hp4⟩,Z49 (K:=K) (a:=p) (xs:=ps) (fun i ys σc H'=>∃o,σc = [o]/\Same H4 H'/\ys.length=i/\IsThs (off wk wt H') ys (prs (((Z18 xs).take i).map fun k=>(("node":Str),k))))
        ⟨none,rfl,Same.refl _,rfl,by rw[take_zero];exact .nil⟩ (fun i ys σc H' ⟨_,_,e,_⟩=>SqT.of (e _ _ hp4)) ?_ ?_⟩
       ·rintro i x ys σc H' hxi hi ⟨o,rfl,s5,hyl,hys⟩
        obtain⟨kd,hk,h1⟩:=Z1o _ hps hxi
        refine⟨by omega,_,rfl,(by show 2<=sizeLine;decide),fun q hq=>?_⟩
        have sq:=Z02 (o:=.tup [.str "node",x]) hq
        have so:=Z2t (a:=wk) (b:=wt) sq
        have hqk:q≠wk:=fun z=>by rw[z,s5 _ _ (s4 _ _ L3)] at hq;cases hq
        have hqt:q≠wt:=fun z=>by rw[z,s5 _ _ (s4 _ _ W3)] at hq;cases hq
        refine nx hi ⟨_,rfl,s5.trans sq,by rw[length_append,hyl];rfl,?_⟩
        have e1:((Z18 xs).take (i+1))=(Z18 xs).take i ++ [kd]:=by rw[take_add_one,hk];rfl
        unfold prs
        rw[e1,map_append,map_append]
        refine IsThs.app _ (IsThs.kp (Kp.of so) hys) (.cons (.tup (Z82 Z00 hqk hqt) (.cons (.at (Z3j (.inl rfl))) (.cons (IsTh.kp (Kp.of (Z2t ((s4.trans s5).trans sq))) h1) .nil))) .nil)
       ·rintro ys σc H' ⟨o,rfl,s5,hyl,hys⟩ l hl
        rw[take_of_length_le (by omega)] at hys
        have sl:=Z02 (o:=.lst ys) hl
        refine⟨l,ys,rfl,(s4.trans s5).trans sl,Z00,Z1z (s4.trans s5) hl,IsThs.kp (Kp.of (Z2t sl)) hys⟩
      rintro σ4 H4 ⟨l,ys,rfl,s4,hl4,hl3,hys4⟩
      have hlk:l≠wk:=fun z=>by rw[z,L3] at hl3;cases hl3
      have hlt':l≠wt:=fun z=>by rw[z,W3] at hl3;cases hl3
      obtain⟨an,vns,evn,han,hvns⟩:=Z1j hvn3
      cases hvns with
      | @cons vh vr _ _ c1 c2=>
       obtain⟨rfl,_⟩:=Z1p c1
       have han3:=Z8j _ _ han
       refine⟨fun σ' H'=>∃(l:Addr) (ys:List V) (ps:List (Str×Th)),σ' = [some v,some (.ref wk),some (.ref wt),some (.str "node"),some vn,some (.ref l)]/\Same H3 H'/\H' l=some (.lst ys)/\IsThs (off wk wt H') ys (prs ps) ∧
        Z2m (st' ++ [(("node":Str),.tup (.at (.str w0)::xs))])=(("node":Str),.tup (.at (.str w0)::xs))::Z2m (st'++ps.reverse)/\∀x∈ps,Zkj (N'+1) x,?_,?_⟩
       ·have hself:Zkj (N'+1) ("opened",.tup (.at (.str w0)::xs))/\Zkj (N'+1) ("closed",.tup (.at (.str w0)::xs)):=
         ⟨⟨.inr (.inl rfl),⟨w0,xs,rfl,hlet,hkid⟩,hzn⟩,⟨.inr (.inr rfl),⟨w0,xs,rfl,hlet,hkid⟩,hzn⟩⟩
        refine⟨_,rfl,an,_,0,.str w0,evn,rfl,SqT.of (s4 _ _ han3),Z15 _ _,rfl,_,rfl,Z1b (fun g2=>?_) (fun g2=>?_)⟩
        ·have hw0:w0="let":=by
          have g':=of_decide_eq_true g2
          injection g'
         have h2:=hlet hw0
         obtain⟨k1,k2,hk12⟩:∃k1 k2,Z18 xs = [k1,k2]:=by
          match hq:Z18 xs,h2 with
          |[k1,k2],_=>exact⟨k1,k2,rfl⟩
         rw[hk12] at hys4 hkok
         cases hys4 with
         | @cons y1 yr _ _ d1 d2=>
          cases d2 with
          | @cons y2 yr2 _ _ d3 d4=>
           cases d4
           refine⟨_,rfl,l,_,0,y1,rfl,rfl,SqL.of hl4,Z15 _ _,_,rfl,(by show 2<=sizeLine;decide),fun q1 hq1=>?_⟩
           have sq1:=Z02 (o:=.tup [.str "opened",vn]) hq1
           refine⟨_,rfl,l,_,1,y2,rfl,rfl,SqL.of (sq1 _ _ hl4),Z19 _ _ _,_,rfl,(by show 2<=sizeLine;decide),fun q2 hq2=>?_⟩
           have sq2:=Z02 (o:=.tup [.str "closed",vn]) hq2
           refine⟨(by show 4<=sizeLine;decide),fun l2 hl2=>?_⟩
           have sq3:=Z02 (o:=.lst [y1,.ref q1,y2,.ref q2]) hl2
           have sA:=(sq1.trans sq2).trans sq3
           have hq1k:q1≠wk:=fun z=>by rw[z,s4 _ _ L3] at hq1;cases hq1
           have hq1t:q1≠wt:=fun z=>by rw[z,s4 _ _ W3] at hq1;cases hq1
           have hq2k:q2≠wk:=fun z=>by rw[z,sq1 _ _ (s4 _ _ L3)] at hq2;cases hq2
           have hq2t:q2≠wt:=fun z=>by rw[z,sq1 _ _ (s4 _ _ W3)] at hq2;cases hq2
           have oA:=Z2t (a:=wk) (b:=wt) sA
           have hvA:=IsTh.kp (Kp.of (Z2t (a:=wk) (b:=wt) (s4.trans sA))) hvn3
           refine⟨l2,_,[("node",k1),("opened",.tup (.at (.str w0)::xs)),("node",k2),("closed",.tup (.at (.str w0)::xs))],rfl,s4.trans sA,Z00,?_,?_,?_⟩
           ·exact .cons (IsTh.kp (Kp.of oA) d1) (.cons (.tup (Z82 (sq3 _ _ (sq2 _ _ Z00)) hq1k hq1t) (.cons (.at (Z3j (.inr (.inl rfl)))) (.cons hvA .nil))) (.cons (IsTh.kp (Kp.of oA) d3) (.cons (.tup (Z82 (sq3 _ _ Z00) hq2k hq2t) (.cons (.at (Z3j (.inr (.inr rfl)))) (.cons hvA .nil))) .nil)))
           ·exact Zhc (by rw[Z9v,hw0];decide+kernel) (by rw[Z74,hk12])
           ·intro x hx
            have o1:=hkok k1 (by simp)
            have o2:=hkok k2 (by simp)
            simp only [mem_cons,not_mem_nil,or_false] at hx
            rcases hx with rfl|rfl|rfl|rfl
            ·exact⟨.inl rfl,o1.1.up,o1.2⟩
            ·exact hself.1
            ·exact⟨.inl rfl,o2.1.up,o2.2⟩
            ·exact hself.2
        ·have hw0:w0≠"let":=fun z=>g2 (by rw[z];decide+kernel)
         refine⟨l,ys,(Z18 xs).map fun k=>(("node":Str),k),rfl,s4,hl4,hys4,?_,?_⟩
         ·have:=Zd5 (st:=st') (xs:=.at (.str w0)::xs) (by rw[Z9v];exact decide_eq_false hw0)
          rw[Z74] at this
          exact this
         ·intro x hx
          obtain⟨kd,hk,rfl⟩:=mem_map.mp hx
          exact⟨.inl rfl,(hkok kd hk).1.up,(hkok kd hk).2⟩
       clear hys4 hl4 s4 hl3 hlk hlt'
       rintro σ5 H5 ⟨l,ys,ps,rfl,s5,hl5,hys5,htodo,hps⟩
       have hyl:=IsThs.len _ hys5
       rw[length_map] at hyl
       have hnew:∀x∈st'++ps.reverse,Zkj (N'+1) x:=fun x hx=>by
        rcases mem_append.mp hx with z|z
        ·exact hall' x z
        ·exact hps x (mem_reverse.mp z)
       have hnl:=Zc5 _ hnew
       rw[htodo] at hlen
       rw[length_cons] at hlen
       rw[length_append,length_reverse] at hnl
       have hwl:=IsThs.len _ hst3
       rw[length_map] at hwl
       refine⟨_,rfl,.inl ⟨rfl,_,SqL.of (s5 _ _ W3)⟩,_,rfl,_,rfl,rfl,l,ys,rfl,SqL.of hl5,fun p hp=>?_⟩
       have sp5:=Z02 (o:=.lst ys.reverse) hp
       refine⟨wt,p,ws',ys.reverse,rfl,rfl,sp5 _ _ (s5 _ _ W3),Z00,by rw[length_reverse];omega,?_⟩
       have eo:off wk wt (upd (upd H5 p (.lst ys.reverse)) wt (.lst (ws'++ys.reverse)))=off wk wt (upd H5 p (.lst ys.reverse)):=Zc4
       refine⟨(Z2m (st'++ps.reverse)).length,by rw[htodo,length_cons];omega,ws'++ys.reverse,wl',st'++ps.reverse,dn ++ [(("node":Str),Th.tup (.at (.str w0)::xs))],_,_,_,rfl,?_,Z00,?_,?_,?_,?_,hnew,rfl⟩
       ·intro b ob e
        rw[Z09 (Z0e e hwt)]
        exact sp5 _ _ (s5 _ _ (s3 _ _ e))
       ·rw[Z09 hkt]
        exact sp5 _ _ (s5 _ _ L3)
       ·rw[eo]
        unfold prs
        rw[map_append,List.map_reverse]
        exact IsThs.app _ (IsThs.kp (Kp.of (Z2t (s5.trans sp5))) hst3) (Zjw _ (IsThs.kp (Kp.of (Z2t sp5)) hys5))
       ·rw[eo]
        exact IsThs.kp (Kp.of (Z2t (s5.trans sp5))) hdn3
       ·rw[<- heq,htodo,append_assoc]
        rfl
     ·have hd:d≠"node":=fun z=>g (by rw[z];decide+kernel)
      have e1:Z2m (st' ++ [(d,n)])=(d,n)::Z2m st':=by
       rw[Z55]
       unfold Z5l
       rw[if_neg hd]
       rfl
      refine⟨(Z2m st').length,by rw[e1,length_cons];omega,ws',wl',st',dn ++ [(d,n)],_,_,_,rfl,s3,W3,L3,hst3,hdn3,?_,hall',rfl⟩
      rw[<- heq,e1,append_assoc]
      rfl
   ·rintro σ H1 Q1 Q2 hq ⟨u1,e1,b1,e2,q⟩
    exact⟨u1,e1,b1,e2,hq _ _ q⟩
end
theorem Z8k {X:Cx}{K:PySem.W.Frag}(hK:X.K=K):Z3l X (.builtin "len") (fun xs H Q=>∃p ys,xs = [.ref p]/\(SqL K H p ys∨SqT K H p ys)/\Q (.int ys.length) H):=by
 subst hK
 exact Z0o
theorem Z4f {X:Cx}{K:PySem.W.Frag}{x y:Str}{px py pos:Pos}{k i j:Nat}(hK:X.K=K)(hc:X.calm=true)(hN:X.N.Nodup)(hi:X.N[i]? = some x)(hx:Loc X.env.scope x)(hj:X.N[j]? = some y)(hy:Loc X.env.scope y)
  (hf:X.fn x=true∨X.env.scope.names.lookup x=some .local) (hg:X.fn y=true∨X.env.scope.names.lookup y=some .local):
  PG X (.Tuple [.Name x px,.Name y py] k pos) (gTup K 2 (Zjj (Zcq i) (Zjj (Zcq j) gNil))):=by
 subst hK
 exact Z8y hc (Z2g (Z0t hN hi hx hf) (Z2g (Z0t hN hj hy hg) Z6a))
def nm:Th->Str
 | .tup (_ :: .at (.str s)::_)=>s
 |_=>""
def wd:Th->Str
 | .tup (.at (.str s)::_)=>s
 |_=>""
def OkN:Nat->Th->Prop
 | 0,_=>False
 |n+1,t=>∃(w:Str) (ts:List Th),t = .tup (.at (.str w)::ts)/\(w="let"->(Z18 ts).length=2)/\(w="let"∨w="name"∨w="set"->∃x r,ts = .at (.str x)::r) ∧
  (∀x∈ts,isTup x=true∨∃v,x = .at v)/\∀x∈ts,isTup x=true->OkN n x
theorem OkN.ok:∀(n:Nat) {t:Th},OkN n t->OkT n t:=by
 intro n
 induction n with
 |zero=>intro t h;exact h.elim
 |succ n ih=>
  intro t h
  obtain⟨w,ts,rfl,h1,_,_,h4⟩:=h
  exact⟨w,ts,rfl,h1,fun x hx hxt=>ih (h4 x hx hxt)⟩
theorem OkN.up:∀(n:Nat) {t:Th},OkN n t->OkN (n+1) t:=by
 intro n
 induction n with
 |zero=>intro t h;exact h.elim
 |succ n ih=>
  intro t h
  obtain⟨w,ts,rfl,h1,h2,h3,h4⟩:=h
  exact⟨w,ts,rfl,h1,h2,h3,fun x hx hxt=>ih (h4 x hx hxt)⟩
def TO (H:Hp):Hp:=fun c=>match H c with
 |some (.tup vs)=>some (.tup vs)
 |_=>none
theorem Zdg {H:Hp}{c:Addr}{vs:List V}(h:H c=some (.tup vs)):TO H c=some (.tup vs):=by
 unfold TO;rw[h]
theorem Zc6 {H:Hp}{c:Addr}{o:HO}(h:TO H c=some o):H c=some o/\∃vs,o = .tup vs:=by
 unfold TO at h
 split at h
 ·next vs e=>cases h;exact⟨e,_,rfl⟩
 ·cases h
theorem Zc7 {H:Hp}:Same (TO H) H:=fun _ _ e=>(Zc6 e).1
theorem Zat {H H':Hp}(s:Same H H'):Same (TO H) (TO H'):=fun c o e=>by
 obtain⟨h,vs,rfl⟩:=Zc6 e
 exact Zdg (s _ _ h)
theorem Zc8 {H:Hp}{a:Addr}{xs:List V}{o:HO}(h:H a=some (.lst xs)):Same (TO H) (TO (upd H a o)):=fun c u e=>by
 obtain⟨h1,vs,rfl⟩:=Zc6 e
 refine Zdg ?_
 rw[Z09 (Z3k h1 h (by intro q;cases q))]
 exact h1
theorem Zol {H:Hp}{a:Addr}{kvs:List (Key×V)}{o:HO}(h:H a=some (.dK kvs)):Same (TO H) (TO (upd H a o)):=fun c u e=>by
 obtain⟨h1,vs,rfl⟩:=Zc6 e
 refine Zdg ?_
 rw[Z09 (Z3k h1 h (by intro q;cases q))]
 exact h1
theorem Zom {H:Hp}:∀(n:Nat) {v:V} {t:Th},OkN n t->IsTh H v t->IsTh (TO H) v t:=by
 intro n
 induction n with
 |zero=>intro v t h;exact h.elim
 |succ n ih=>
  intro v t h ht
  obtain⟨w,ts,rfl,h1,h2,h3,h4⟩:=h
  obtain⟨a,vs,rfl,ha,hvs⟩:=Z1j ht
  refine .tup (Zdg ha) ?_
  cases hvs with
  | @cons v1 vr _ _ c1 c2=>
   obtain⟨rfl,f⟩:=Z1p c1
   refine .cons (.at f) ?_
   clear ht ha c1 h1 h2
   revert vr
   induction ts with
   |nil=>intro vr c2;cases c2;exact .nil
   |cons x ts ihx=>
    intro vr c2
    cases c2 with
    |cons c3 c4=>
     refine .cons ?_ (ihx (fun y hy=>h3 y (mem_cons_of_mem _ hy)) (fun y hy=>h4 y (mem_cons_of_mem _ hy)) c4)
     rcases h3 x (mem_cons_self ..) with z|⟨u,rfl⟩
     ·exact ih (h4 x (mem_cons_self ..) z) c3
     ·obtain⟨rfl,f⟩:=Z1p c3
      exact .at f
abbrev Mp:=Str->List Int
def Z5e (n:Th)(m:Mp)(L:Int):Int:=if wd n="name"/\m (nm n) ≠ [] then L-1-(m (nm n)).getLastD 0 else -1
def push (m:Mp)(x:Str)(L:Int):Mp:=fun y=>if y=x then m x ++ [L] else m y
def Zkk (m:Mp)(x:Str):Mp:=fun y=>if y=x then (m x).dropLast else m y
theorem Zc9 (m:Mp)(x:Str)(L:Int):Zkk (push m x L) x=m:=by
 funext y
 unfold Zkk push
 split
 ·next h=>subst h;simp
 ·rfl
structure OS where
 L:Int
 m:Mp
 r:List (Th×Int)
def Z1x (s:OS)(p:Str×Th):Option OS:=
 if p.1="node" then some ⟨s.L,s.m,s.r ++ [(p.2,Z5e p.2 s.m s.L)]⟩
 else if p.1="opened" then some ⟨s.L+1,push s.m (nm p.2) s.L,s.r⟩
 else if s.m (nm p.2) = [] then none else some ⟨s.L-1,Zkk s.m (nm p.2),s.r⟩
def Z3q:List (Str×Th)->OS->Option OS
 |[],s=>some s
 |p::l,s=>(Z1x s p).bind (Z3q l)
theorem Z46:∀(a b:List (Str×Th)) (s:OS),Z3q (a++b) s=(Z3q a s).bind (Z3q b):=by
 intro a
 induction a with
 |nil=>intro b s;rfl
 |cons p a ih=>
  intro b s
  show(Z1x s p).bind (Z3q (a++b))=((Z1x s p).bind (Z3q a)).bind (Z3q b)
  cases Z1x s p with
  |none=>rfl
  |some s'=>exact ih b s'
theorem Zi1 {l:List (Str×Th)}{s e:OS}(h:Z3q l s=some e)(i:Nat):∃u,Z3q (l.take i) s=some u:=by
 rw[<- take_append_drop i l,Z46] at h
 cases z:Z3q (l.take i) s with
 |none=>rw[z] at h;cases h
 |some u=>exact⟨u,rfl⟩
theorem Zi2 {l:List (Str×Th)}{s u:OS}{i:Nat}{p:Str×Th}(h:l[i]? = some p)(e:Z3q (l.take i) s=some u):Z3q (l.take (i+1)) s=Z1x u p:=by
 rw[take_add_one,h,Z46,e]
 show(Z1x u p).bind (Z3q [])=_
 cases Z1x u p <;> rfl
def frO (n:Th)(B:List Str):List Str:=if wd n="set"∨(wd n="name"/\nm n∉B) then [nm n] else []
mutual
def frT:Th->List Str->List Str
 | .tup xs,B=>frO (.tup xs) B++frI (Z2n xs) (nm (.tup xs)) 0 xs B
 | .at _,_=>[]
 | .lst _,_=>[]
def frI (l:Bool)(x:Str):Nat->List Th->List Str->List Str
 |_,[],_=>[]
 |i,y::ys,B=>if isTup y=true then frT y (B++if l=true/\i=1 then [x] else [])++frI l x (i+1) ys B else frI l x i ys B
end
def frK (l:Bool)(x:Str):Nat->List Th->List Str->List Str
 |_,[],_=>[]
 |i,y::ys,B=>frT y (B++if l=true/\i=1 then [x] else [])++frK l x (i+1) ys B
theorem Zau (l:Bool)(x:Str)(B:List Str):∀(xs:List Th) (i:Nat),frI l x i xs B=frK l x i (Z18 xs) B:=by
 intro xs
 induction xs with
 |nil=>intro i;simp [frI,frK,Z18]
 |cons y xs ih=>
  intro i
  rw[frI]
  unfold Z18
  rw[filter_cons]
  split
  ·rw[frK,ih];rfl
  ·rw[ih];rfl
def Zdh (q:Th×Int):Bool:=decide (wd q.1="set"∨(wd q.1="name"/\q.2<0))
structure RelB (m:Mp)(B:List Str)(L:Int):Prop where
 iff:∀x,m x ≠ []↔x∈B
 lt:∀x,∀z∈m x,z<L
theorem RelB.push {m:Mp}{B:List Str}{L:Int}(h:RelB m B L)(x:Str):RelB (push m x L) (B ++ [x]) (L+1):=by
 constructor
 ·intro y
  unfold K13.push
  rw[mem_append,mem_singleton,<- h.iff y]
  split
  ·next e=>simp [e]
  ·next e=>simp [e]
 ·intro y z hz
  unfold K13.push at hz
  split at hz
  ·rcases mem_append.mp hz with q|q
   ·have:=h.lt x z q;omega
   ·rw[mem_singleton] at q;omega
  ·have:=h.lt y z hz;omega
theorem Zkl {m:Mp}{B:List Str}{L:Int}(h:RelB m B L)(n:Th):Zdh (n,Z5e n m L)=decide (wd n="set"∨(wd n="name"/\nm n∉B)):=by
 unfold Zdh
 have e:(wd n="name"/\Z5e n m L<0)↔(wd n="name"/\nm n∉B):=by
  refine and_congr_right fun hw=>?_
  rw[<- h.iff]
  unfold Z5e
  by_cases hm:m (nm n) = []
  ·simp [hm]
  ·rw[if_pos ⟨hw,hm⟩]
   have hl:=h.lt (nm n) ((m (nm n)).getLast hm) (List.getLast_mem hm)
   have e2:(m (nm n)).getLastD 0=(m (nm n)).getLast hm:=by
    rw[getLastD_eq_getLast?,List.getLast?_eq_some_getLast hm];rfl
   rw[e2]
   constructor
   ·intro z;omega
   ·intro z;exact absurd hm z
 simp only [e]
theorem Zfj:("opened":Str)≠"node":=by decide+kernel
theorem Zfk:("closed":Str)≠"node":=by decide+kernel
theorem Zj5:("closed":Str)≠"opened":=by decide+kernel
theorem Zkm:∀(n:Nat) (t:Th),OkN n t->∀(m:Mp) (B:List Str) (L:Int),RelB m B L->∃rs,(∀r,Z3q (Z0u t) ⟨L,m,r⟩=some ⟨L,m,r++rs⟩)/\(rs.filter Zdh).map (fun q=>nm q.1)=frT t B/\rs.map (·.1)=(Z2l (Z0u t)).map (·.2):=by
 intro n
 induction n with
 |zero=>intro t h;exact h.elim
 |succ n ih=>
  intro t h m B L hR
  obtain⟨w,ts,rfl,h1,h2,h3,h4⟩:=h
  have hk:∀k∈Z18 (Th.at (.str w)::ts),OkN n k:=fun k hk=>by
   unfold Z18 at hk
   rw[mem_filter] at hk
   rcases mem_cons.mp hk.1 with z|z
   ·subst z;cases hk.2
   ·exact h4 k z hk.2
  have hn:∀r,Z1x ⟨L,m,r⟩ ("node",.tup (.at (.str w)::ts))=some ⟨L,m,r ++ [(.tup (.at (.str w)::ts),Z5e (.tup (.at (.str w)::ts)) m L)]⟩:=fun r=>by
   unfold Z1x
   exact if_pos rfl
  have hfo:(([(Th.tup (.at (.str w)::ts),Z5e (.tup (.at (.str w)::ts)) m L)]:List (Th×Int)).filter Zdh).map (fun q=>nm q.1)=frO (.tup (.at (.str w)::ts)) B:=by
   rw[filter_cons,Zkl hR]
   unfold frO
   split
   ·next q=>rw[if_pos (of_decide_eq_true q)];rfl
   ·next q=>rw[if_neg (fun z=>q (decide_eq_true z))];rfl
  rw[Z0u,frT,Z3c,Zau]
  rw[show Z2n (Th.at (.str w)::ts)=decide (w="let") from rfl]
  by_cases hw:w="let"
  ·rw[decide_eq_true hw]
   obtain⟨x,tr,rfl⟩:=h2 (Or.inl hw)
   have hnm:nm (Th.tup (.at (.str w) :: .at (.str x)::tr))=x:=rfl
   have hl2:(Z18 (Th.at (.str w) :: .at (.str x)::tr)).length=2:=h1 hw
   match hks:Z18 (Th.at (.str w) :: .at (.str x)::tr),hl2,hk with
   |[a,b],_,hk=>
    obtain⟨ra,ea,fa,ga⟩:=ih a (hk a (by simp)) m B L hR
    obtain⟨rb,eb,fb,gb⟩:=ih b (hk b (by simp)) (push m x L) (B ++ [x]) (L+1) (hR.push x)
    refine⟨(.tup (.at (.str w) :: .at (.str x)::tr),Z5e (.tup (.at (.str w) :: .at (.str x)::tr)) m L)::(ra++rb),fun r=>?_,?_,?_⟩
    rotate_left 1
    ·rw[show((Th.tup (.at (.str w) :: .at (.str x)::tr),Z5e (.tup (.at (.str w) :: .at (.str x)::tr)) m L)::(ra++rb)) = [(Th.tup (.at (.str w) :: .at (.str x)::tr),Z5e (.tup (.at (.str w) :: .at (.str x)::tr)) m L)]++(ra++rb) from rfl]
     rw[filter_append,map_append,hfo,filter_append,map_append,fa,fb,hnm]
     simp [frK]
    ·show _::(ra++rb).map (·.1)=_
     simp only [Z2o,Z3b]
     unfold Z2l at ga gb ⊢
     rw[map_append,ga,gb]
     simp [Zfj,Zfk]
    ·show(Z1x _ _).bind (Z3q _)=_
     rw[hn]
     show Z3q _ _=_
     rw[Z2o,Z2o,Z2o,Z46,ea]
     show Z3q _ _=_
     simp only [Z3b,if_true]
     show(Z1x _ _).bind (Z3q _)=_
     have e1:∀r,Z1x ⟨L,m,r⟩ ("opened",.tup (.at (.str w) :: .at (.str x)::tr))=some ⟨L+1,push m x L,r⟩:=fun r=>by
      unfold Z1x
      rw[if_neg Zfj,if_pos rfl]
      rfl
     rw[e1]
     show Z3q (Z0u b++_) _=_
     rw[Z46,eb]
     show(Z1x _ _).bind (Z3q _)=_
     have e2:∀r,Z1x ⟨L+1,push m x L,r⟩ ("closed",.tup (.at (.str w) :: .at (.str x)::tr))=some ⟨L,m,r⟩:=fun r=>by
      unfold Z1x
      rw[if_neg Zfk,if_neg Zj5,hnm]
      have:push m x L x ≠ []:=by unfold push;simp
      rw[if_neg this,Zc9]
      simp
     rw[e2]
     show some _=some _
     simp
  ·rw[decide_eq_false hw,Z40]
   have main:∀(ks:List Th) (i:Nat) (x:Str),(∀k∈ks,OkN n k)->∃rs,(∀r,Z3q (ks.map Z0u).flatten ⟨L,m,r⟩=some ⟨L,m,r++rs⟩)/\(rs.filter Zdh).map (fun q=>nm q.1)=frK false x i ks B/\rs.map (·.1)=(Z2l (ks.map Z0u).flatten).map (·.2):=by
    intro ks
    induction ks with
    |nil=>intro i x _;exact⟨[],fun r=>by simp [Z3q],rfl,rfl⟩
    |cons k ks ihk=>
     intro i x hks
     obtain⟨ra,ea,fa,ga⟩:=ih k (hks k (mem_cons_self ..)) m B L hR
     obtain⟨rb,eb,fb,gb⟩:=ihk (i+1) x (fun y hy=>hks y (mem_cons_of_mem _ hy))
     refine⟨ra++rb,fun r=>?_,?_,?_⟩
     ·rw[map_cons,flatten_cons,Z46,ea]
      show Z3q _ _=_
      rw[eb,append_assoc]
     ·rw[filter_append,map_append,fa,fb,frK]
      simp
     ·unfold Z2l at ga gb ⊢
      rw[map_append,ga,gb,map_cons,flatten_cons,filter_append,map_append]
   obtain⟨rs,e1,e2,e3⟩:=main _ 0 (nm (.tup (.at (.str w)::ts))) hk
   refine⟨(.tup (.at (.str w)::ts),Z5e (.tup (.at (.str w)::ts)) m L)::rs,fun r=>?_,?_,?_⟩
   rotate_left 1
   ·rw[show((Th.tup (.at (.str w)::ts),Z5e (.tup (.at (.str w)::ts)) m L)::rs) = [(Th.tup (.at (.str w)::ts),Z5e (.tup (.at (.str w)::ts)) m L)]++rs from rfl]
    rw[filter_append,map_append,hfo,e2]
   ·rw[map_cons,e3]
    unfold Z2l
    simp
   ·show(Z1x _ _).bind (Z3q _)=_
    rw[hn]
    show Z3q _ _=_
    rw[e1]
    simp
structure LetD (H:Hp)(kvs:List (Key×V))(m:Mp):Prop where
 no:∀x,Z2h kvs (.inr x)=none->m x = []
 at1:∀x v,Z2h kvs (.inr x)=some v->∃a,v = .ref a/\H a=some (.lst ((m x).map V.int))
inductive spOwnNo_ (vs:List V)(H:Hp)(Q:VK):Prop
 |mk (v:V) (ld:Addr) (L:Int) (N:Nat) (n:Th) (kvs:List (Key×V)) (m:Mp) (_:vs = [v,.ref ld,.int L]) (_:IsTh H v n) (_:OkN N n) (_:H ld=some (.dK kvs)) (_:LetD H kvs m) (_:Q (.int (Z5e n m L)) H):spOwnNo_ vs H Q
def spOwnNo:Sp:=fun vs H Q _=>spOwnNo_ vs H Q
section
variable {P:Program}{w:World}{K:PySem.W.Frag}{mg:Str->Option Value}{base:Heap}
theorem Zkn:FnScope ["node","lets","level"] ["node","lets","level"] (Z06 Z3d):=⟨rfl,rfl,rfl,by decide+kernel,rfl,by decide+kernel,by decide+kernel⟩
theorem Zi3 {f:Addr}{fd:FuncData}(F:Fun K "own_number" "own_number" Z3d f fd):FnOk P w K mg base CX0 1 f fd ["node","lets","level"] spOwnNo:=by
 refine F.ok Zkn (fun vs H Q E h=>?_) (fun cdv A outer s H vs Q E hr h=>?_)
 ·obtain⟨v,ld,L,N,n,kvs,m,rfl,_⟩:=h
  rfl
 ·obtain⟨v,ld,L,N,n,kvs,m,rfl,ht,hok,hld,hd,k⟩:=h
  have hu1:(_:Around).units+1<cLine:=Nat.lt_of_le_of_lt (Nat.add_le_add_left (by decide) _) hr.units
  refine'⟨?tt,?body,?fin⟩
  case body=>
   refine' Z04 ?s1 (Z07 ?s2)
   case s1=>
    refine' Z0y ?c (Z07 ?e1) Z0h
    case c=>exact(Z69 (Z0a Ze5 (Z0r Z0v (pv 0) Z03 (fun _ _=>rfl)) Z08 (Z0k _)) (Z5u (Z8x (Zbb (Zh1 hu1 (pv 1) (Z0r Z0v (pv 0) Z03 (fun _ _=>rfl)) ⟨rfl,rfl,rfl,rfl⟩) (fun _=>rfl))))).pt
    case e1=>exact Z0i (Ze1 Z8z Z03)
   case s2=>exact Z0i (Z0l Z1v (Z0l Z1v (pv 2) Z03) (Z0r Z0z (Z0s hu1 (pv 1) (Z0r Z0v (pv 0) Z03 (fun _ _=>rfl)) (fun _ _=>rfl)) (Ze1 Z8z Z03) (fun _ _=>rfl)))
  case fin=>
   cases N with
   |zero=>exact hok.elim
   |succ N=>
    obtain⟨w0,ts,rfl,_,h2,_,_⟩:=hok
    obtain⟨a,vs,rfl,ha,hvs⟩:=Z1j ht
    cases hvs with
    | @cons v1 vr _ _ c1 c2=>
     obtain⟨rfl,_⟩:=Z1p c1
     have hwd:wd (Th.tup (.at (.str w0)::ts))=w0:=rfl
     refine⟨_,rfl,a,_,_,_,rfl,rfl,SqT.of ha,Z15 _ _,rfl,_,rfl,Z1b (fun g=>?_) (fun g=>?_)⟩
     ·have hne:w0≠"name":=fun z=>by
       subst z
       exact absurd g (by decide+kernel)
      have e:Z5e (Th.tup (.at (.str w0)::ts)) m L = -1:=by
       unfold Z5e
       rw[if_neg]
       exact fun z=>hne z.1
      rw[e] at k
      exact Z9f ⟨_,rfl,k⟩
     ·have he:w0="name":=by
       by_cases z:w0="name"
       ·exact z
       ·exfalso
        refine g ?_
        have:¬V.str w0=V.str "name":=fun q=>z (by injection q)
        simp [this]
      obtain⟨x,tr,rfl⟩:=h2 (Or.inr (Or.inl he))
      have hnm:nm (Th.tup (.at (.str w0) :: .at (.str x)::tr))=x:=rfl
      cases c2 with
      | @cons v2 vr2 _ _ c3 c4=>
       obtain⟨rfl,_⟩:=Z1p c3
       have hix:rIxT K (.ref a) (.int 1) H=rIxT K (.ref a) (.int 1) H:=rfl
       cases hv:Z2h kvs (.inr x) with
       |none=>
        refine⟨_,rfl,ld,rfl,.inl ⟨kvs,.inl hld⟩,_,rfl,a,_,_,_,rfl,rfl,SqT.of ha,Z19 _ _ _,none,?_,false,rfl,?_⟩
        ·rw[<- hv];exact DGet.k (k:=.inr x) hld
        ·have e:Z5e (Th.tup (.at (.str w0) :: .at (.str x)::tr)) m L = -1:=by
          unfold Z5e
          rw[if_neg]
          rw[hnm]
          exact fun z=>z.2 (hd.no x hv)
         rw[e] at k
         exact Z9f ⟨_,rfl,k⟩
       |some u=>
        obtain⟨b,rfl,hb⟩:=hd.at1 x u hv
        refine⟨_,rfl,ld,rfl,.inl ⟨kvs,.inl hld⟩,_,rfl,a,_,_,_,rfl,rfl,SqT.of ha,Z19 _ _ _,some (.ref b),?_,!((m x).map V.int).isEmpty,.inl ⟨_,SqL.of hb,rfl⟩,?_⟩
        ·rw[<- hv];exact DGet.k (k:=.inr x) hld
        ·cases hm:(m x) with
         |nil=>
          have e:Z5e (Th.tup (.at (.str w0) :: .at (.str x)::tr)) m L = -1:=by
           unfold Z5e
           rw[if_neg]
           rw[hnm]
           exact fun z=>z.2 hm
          rw[e] at k
          exact Z9f ⟨_,rfl,k⟩
         |cons z0 zr=>
          have hne:m x ≠ []:=by rw[hm];intro q;cases q
          refine Zab ?_
          have hl:m x=(m x).dropLast ++ [(m x).getLast hne]:=(dropLast_concat_getLast hne).symm
          have hb2:H b=some (.lst ((m x).dropLast.map V.int ++ [V.int ((m x).getLast hne)])):=by
           rw[hb]
           conv=>lhs;rw[hl]
           rw[map_append]
           rfl
          have e:Z5e (Th.tup (.at (.str w0) :: .at (.str x)::tr)) m L=L-1-(m x).getLast hne:=by
           unfold Z5e
           rw[hnm,if_pos ⟨he,hne⟩,getLastD_eq_getLast?,List.getLast?_eq_some_getLast hne]
           rfl
          rw[e] at k
          refine⟨_,rfl,_,_,rfl,rfl,_,rfl,_,rfl,a,_,_,_,rfl,rfl,SqT.of ha,Z19 _ _ _,ld,.ref b,rfl,?_,_,rfl,b,_,_,_,rfl,rfl,SqL.of hb2,Zbd _ _,_,_,rfl,rfl,k⟩
          rw[<- hv]
          exact DGet.k (k:=.inr x) hld
end
def Zon (N:Nat)(p:Str×Th):Prop:=OkN N p.2/\(p.1="node"∨p.1="opened"∨p.1="closed")/\(p.1≠"node"->wd p.2="let")
theorem Zi4 {l:Bool}{N:Nat}{me:Th}(hm:OkN N me)(hl:l=true->wd me="let")(i:Nat):∀p∈Z3b l me i,Zon N p:=by
 intro p hp
 match i with
 | 0=>
  cases l with
  |false=>simp [Z3b] at hp
  |true=>simp [Z3b] at hp;subst hp;exact⟨hm,.inr (.inl rfl),fun _=>hl rfl⟩
 | 1=>
  cases l with
  |false=>simp [Z3b] at hp
  |true=>simp [Z3b] at hp;subst hp;exact⟨hm,.inr (.inr rfl),fun _=>hl rfl⟩
 |_+2=>simp [Z3b] at hp
theorem Z5c:∀(N:Nat) (t:Th),OkN N t->∀p∈Z0u t,Zon N p:=by
 intro N
 induction N with
 |zero=>intro t h;exact h.elim
 |succ N ih=>
  intro t h p hp
  have hme:=h
  obtain⟨w,ts,rfl,h1,h2,h3,h4⟩:=h
  have hk:∀k∈Z18 (Th.at (.str w)::ts),OkN N k:=fun k hk=>by
   unfold Z18 at hk
   rw[mem_filter] at hk
   rcases mem_cons.mp hk.1 with z|z
   ·subst z;cases hk.2
   ·exact h4 k z hk.2
  rw[Z0u,Z3c] at hp
  rcases mem_cons.mp hp with z|z
  ·subst z;exact⟨hme,.inl rfl,fun q=>absurd rfl q⟩
  ·have hl:Z2n (Th.at (.str w)::ts)=true->wd (Th.tup (.at (.str w)::ts))="let":=fun q=>of_decide_eq_true q
   generalize Z2n (Th.at (.str w)::ts)=l at z hl
   have main:∀(ks:List Th) (i:Nat),(∀k∈ks,OkN N k)->p∈Z2o l (.tup (.at (.str w)::ts)) i ks->Zon (N+1) p:=by
    intro ks
    induction ks with
    |nil=>intro i _ q;cases q
    |cons k ks ihk=>
     intro i hks q
     rw[Z2o] at q
     rcases mem_append.mp q with q|q
     ·obtain⟨a,b,c⟩:=ih k (hks k (mem_cons_self ..)) p q
      exact⟨a.up,b,c⟩
     ·rcases mem_append.mp q with q|q
      ·exact Zi4 hme hl i p q
      ·exact ihk (i+1) (fun y hy=>hks y (mem_cons_of_mem _ hy)) q
   exact main _ 0 hk z
structure Lt (H0:Hp)(ra wk:Addr)(H:Hp)(kvs:List (Key×V))(m:Mp):Prop where
 d:LetD H kvs m
 fr:∀x a,Z2h kvs (.inr x)=some (.ref a)->H0 a=none/\a≠ra/\a≠wk
 inj:∀x y a,Z2h kvs (.inr x)=some (.ref a)->Z2h kvs (.inr y)=some (.ref a)->x=y
section
variable {H0 H H':Hp}{ra wk:Addr}{kvs:List (Key×V)}{m:Mp}
theorem Lt.mono (h:Lt H0 ra wk H kvs m)(s:∀a xs,a≠ra->H a=some (.lst xs)->H' a=some (.lst xs)):Lt H0 ra wk H' kvs m:=
 ⟨⟨h.d.no,fun x v e=>by
  obtain⟨a,rfl,ha⟩:=h.d.at1 x v e
  exact⟨a,rfl,s _ _ (h.fr x a e).2.1 ha⟩⟩,h.fr,h.inj⟩
theorem Lt.set (h:Lt H0 ra wk H kvs m){x:Str}{a:Addr}(e:Z2h kvs (.inr x)=some (.ref a))(zs:List Int):Lt H0 ra wk (upd H a (.lst (zs.map V.int))) kvs (fun y=>if y=x then zs else m y):=by
 refine⟨⟨fun y q=>?_,fun y v q=>?_⟩,h.fr,h.inj⟩
 ·have:y≠x:=fun z=>by rw[z,e] at q;cases q
  simp only [if_neg this]
  exact h.d.no y q
 ·obtain⟨b,rfl,hb⟩:=h.d.at1 y v q
  refine⟨b,rfl,?_⟩
  by_cases z:y=x
  ·subst z
   rw[e] at q
   cases q
   simp only [if_true]
   exact Z00
  ·have hne:b≠a:=fun w=>z (h.inj y x a (by rw[q,w]) e)
   simp only [if_neg z]
   rw[Z09 hne]
   exact hb
theorem Lt.new (h:Lt H0 ra wk H kvs m){x:Str}{q:Addr}{L:Int}(e:Z2h kvs (.inr x)=none)(hq:H q=none)(hq0:H0 q=none)(n1:q≠ra)(n2:q≠wk)
  (hh:H' q=some (.lst [.int L])) (s:∀a xs,a≠q->H a=some (.lst xs)->H' a=some (.lst xs)):Lt H0 ra wk H' (Z30 kvs (.inr x) (.ref q)) (push m x L):=by
 have old:∀y a,y≠x->Z2h (Z30 kvs (.inr x) (.ref q)) (.inr y)=some (.ref a)->Z2h kvs (.inr y)=some (.ref a):=fun y a hy z=>by
  rw[Z2q,if_neg (fun w=>hy (by injection w))] at z
  exact z
 have hne:∀y a,Z2h kvs (.inr y)=some (.ref a)->a≠q:=fun y a z w=>by
  obtain⟨b,e1,e2⟩:=h.d.at1 y _ z
  cases e1
  rw[w,hq] at e2
  cases e2
 refine⟨⟨fun y z=>?_,fun y v z=>?_⟩,fun y a z=>?_,fun y y' a z z'=>?_⟩
 ·rw[Z2q] at z
  split at z
  ·cases z
  ·next w=>
   have:y≠x:=fun u=>w (by rw[u])
   unfold push
   rw[if_neg this]
   exact h.d.no y z
 ·rw[Z2q] at z
  split at z
  ·next w=>
   cases z
   have:y=x:=by injection w
   subst this
   refine⟨q,rfl,?_⟩
   unfold push
   rw[if_pos rfl,h.d.no y e]
   exact hh
  ·next w=>
   have hy:y≠x:=fun u=>w (by rw[u])
   obtain⟨b,rfl,hb⟩:=h.d.at1 y v z
   refine⟨b,rfl,?_⟩
   unfold push
   rw[if_neg hy]
   exact s _ _ (hne y b z) hb
 ·by_cases hy:y=x
  ·subst hy
   rw[Z2q,if_pos rfl] at z
   cases z
   exact⟨hq0,n1,n2⟩
  ·exact h.fr y a (old y a hy z)
 ·by_cases hy:y=x
  ·by_cases hy':y'=x
   ·rw[hy,hy']
   ·exfalso
    have:=old y' a hy' z'
    rw[hy,Z2q,if_pos rfl] at z
    cases z
    exact hne y' q this rfl
  ·by_cases hy':y'=x
   ·exfalso
    have:=old y a hy z
    rw[hy',Z2q,if_pos rfl] at z'
    cases z'
    exact hne y q this rfl
   ·exact h.inj y y' a (old y a hy z) (old y' a hy' z')
end
def prO (q:Th×Int):Th:=.tup [q.1,.at (.int q.2)]
abbrev os0:OS:=⟨0,fun _=>[],[]⟩
def OwR (t:Th)(rs:List (Th×Int)):Prop:=Z3q (Z0u t) os0=some ⟨0,fun _=>[],rs⟩
theorem Zko {N:Nat}{t:Th}(h:OkN N t):∃rs,OwR t rs/\(rs.filter Zdh).map (fun q=>nm q.1)=frT t []/\rs.map (·.1)=(Z2l (Z0u t)).map (·.2):=by
 obtain⟨rs,e,f,g⟩:=Zkm N t h (fun _=>[]) [] 0 ⟨fun x=>by simp,fun x z hz=>by cases hz⟩
 exact⟨rs,by have:=e [];rw[nil_append] at this;exact this,f,g⟩
inductive spOwned_ (N:Nat)(vs:List V)(H:Hp)(Q:VK):Prop
 |mk (v:V) (t:Th) (_:vs = [v]) (_:IsTh H v t) (_:OkN N t) (_:Th.sz t<=100000) (_:∀(p:Addr) (ws:List V) (rs:List (Th×Int)) H',Same H H'->H p=none->H' p=some (.lst ws)->IsThs H' ws (rs.map prO)->OwR t rs->Q (.ref p) H'):spOwned_ N vs H Q
def Zav (N:Nat):Sp:=fun vs H Q _=>spOwned_ N vs H Q
structure Stt (H0:Hp)(ra wk ld:Addr)(ws:List V)(t:Th)(i:Nat)(u:OS)(H:Hp)(rws:List V)(kvs:List (Key×V)):Prop where
 same:Same H0 H
 rows:H ra=some (.lst rws)
 len:rws.length<=i
 rth:IsThs (TO H) rws (u.r.map prO)
 walk:H wk=some (.lst ws)
 wth:IsThs (TO H) ws (prs (Z0u t))
 dict:H ld=some (.dK kvs)
 few:kvs.length<=i
 lt:Lt H0 ra wk H kvs u.m
 lens:∀x,(u.m x).length<=i
theorem Zmu {H:Hp}{N:Nat}:∀(l:List (Str×Th)) {ws:List V},(∀p∈l,OkN N p.2)->IsThs H ws (prs l)->IsThs (TO H) ws (prs l):=by
 intro l
 induction l with
 |nil=>intro ws _ h;cases h;exact .nil
 |cons p l ih=>
  intro ws hp h
  cases h with
  |cons c1 c2=>
   refine .cons ?_ (ih (fun y hy=>hp y (mem_cons_of_mem _ hy)) c2)
   obtain⟨a,vs,rfl,ha,hvs⟩:=Z1j c1
   refine .tup (Zdg ha) ?_
   cases hvs with
   |cons d1 d2=>
    cases d2 with
    |cons d3 d4=>
     cases d4
     obtain⟨rfl,f⟩:=Z1p d1
     exact .cons (.at f) (.cons (Zom N (hp p (mem_cons_self ..)) d3) .nil)
theorem Zfl (i:Int):smallV (.int i)=true:=rfl
section
variable {P:Program}{w:World}{K:PySem.W.Frag}{mg:Str->Option Value}{base:Heap}
structure HOw (K:PySem.W.Frag)(mg:Str->Option Value)(fP fS fO:Addr)(dP dS dO:FuncData):Prop where
 T:TxtT mg
 TD:TxtD mg
 KI:Kits K
 P:Fun K "parts" "parts" Z6p fP dP
 bP:Binds K dP ["e"] []
 mP:mg "parts"=some (.ref fP)
 S:Fun K "steps" "steps" Z7u fS dS
 bS:Binds K dS ["tree"] []
 mS:mg "steps"=some (.ref fS)
 O:Fun K "own_number" "own_number" Z3d fO dO
 bO:Binds K dO ["node","lets","level"] []
 mO:mg "own_number"=some (.ref fO)
theorem scOwned:FnScope ["e","rows","lets","level","deed","node"] ["e"] (Z06 Z7v):=⟨rfl,rfl,rfl,by decide+kernel,rfl,by decide+kernel,by decide+kernel⟩
theorem Zca {f fP fS fO:Addr}{fd dP dS dO:FuncData}(F:Fun K "owned" "owned" Z7v f fd)(U:HOw K mg fP fS fO dP dS dO)(N:Nat):FnOk P w K mg base CX0 3 f fd ["e"] (Zav N):=by
 have GS:FnOk P w K mg base CX0 2 fS dS ["tree"] (Zfh N):=Zi0 U.S U.T U.TD U.KI U.P U.bP U.mP N
 have GO:FnOk P w K mg base CX0 1 fO dO ["node","lets","level"] spOwnNo:=Zi3 U.O
 obtain⟨tn,hNode⟩:=U.TD.node
 obtain⟨to,hOpen⟩:=U.TD.opened
 refine F.ok scOwned (fun vs H Q E h=>?_) (fun cdv A outer s H vs Q E hr h=>?_)
 ·obtain⟨v,t,rfl,_⟩:=h
  rfl
 ·obtain⟨v,t,rfl,ht,hok,hz,k⟩:=h
  have hsz:sizeLine=16777216:=sizeLine_eq
  have hr1:Room 1 _:=hr.mono (by decide)
  have hr2:Room 2 _:=hr.mono (by decide)
  have hu1:(_:Around).units+1<cLine:=Nat.lt_of_le_of_lt (Nat.add_le_add_left (by decide) _) hr.units
  refine'⟨?tt,?body,?fin⟩
  case body=>
   refine' Z04 ?s1 ?r1
   case s1=>exact Z0c (i:=1) scOwned.nd rfl (Or.inl rfl) (Z0x Z01)
   case r1=>
    refine' Z04 ?s2 ?r2
    case s2=>exact Z0c (i:=2) scOwned.nd rfl (Or.inl rfl) Zbh
    case r2=>
     refine' Z04 ?s3 ?r3
     case s3=>exact Z0c (i:=3) scOwned.nd rfl (Or.inl rfl) Z03
     case r3=>
      refine' Z04 ?s4 (Z07 ?s5)
      case s4=>
       refine' Z4n PassesOwn.never rfl (Z1w (Z05 GS hr2 (by rfl) U.mS U.S.kp U.bS .nil Z0f (Z0d (pv 0) Z01))) (Z8y rfl (Z2g (Z0t (i:=4) scOwned.nd rfl (Or.inl rfl)) (Z2g (Z0t (i:=5) scOwned.nd rfl (Or.inl rfl)) Z6a))) (Z07 ?b)
       case b=>
        refine' Z0y ?c (Z07 ?e1) (Z07 ?e2)
        case c=>exact Z0a Z1c (pv 4) (Z4q (v:=.str "node") (by rfl) hNode ⟨tn,rfl⟩) (Z0k _)
        case e1=>
         refine' Z3y ?m
         case m=>
          refine' Z7g PySem.F.plainAttrs_list PySem.F.slot_list_append PySem.F.type_list_append Z39 (pv 1) ?a
          case a=>
           refine' Zm7 (Z1a ?z) Z01
           case z=>exact Z0d (pv 5) (Z2a (Z05 GO hr1 (by rfl) U.mO U.O.kp U.bO .nil Z0f (Z0d (pv 5) (Z0d (pv 2) (Z0d (pv 3) Z01)))) Z01)
        case e2=>
         refine' Z0y ?c2 (Z04 ?e3 (Z07 ?e4)) (Z04 ?e5 (Z07 ?e6))
         case c2=>exact Z0a Z1c (pv 4) (Z4q (v:=.str "opened") (by rfl) hOpen ⟨to,rfl⟩) (Z0k _)
         case e3=>
          refine' Z3y ?m3
          case m3=>
           refine' Z7g PySem.F.plainAttrs_list PySem.F.slot_list_append PySem.F.type_list_append Z39 ?o3 ?a3
           case o3=>exact Zhe (pv 2) (Z0r Z0v (pv 5) Z03 (fun _ _=>rfl)) (Z0x Z01) ⟨rfl,rfl,rfl,rfl⟩
           case a3=>exact Z0d (pv 3) Z01
         case e4=>exact Zip (i:=3) scOwned.nd rfl (Or.inl rfl) Z03 Zlq
         case e5=>
          refine' Z3y ?m5
          case m5=>
           refine' Ziu PySem.F.plainAttrs_list PySem.F.slot_list_pop PySem.F.type_list_pop Ziv ?o5
           case o5=>exact Z0s hu1 (pv 2) (Z0r Z0v (pv 5) Z03 (fun _ _=>rfl)) (fun _ _=>rfl)
         case e6=>exact Zip (i:=3) scOwned.nd rfl (Or.inl rfl) Z03 Zlr
      case s5=>exact Z0i (pv 1)
  case fin=>
   refine⟨Nat.zero_le _,fun ra hra=>?_⟩
   intro ld hld
   have z1:=Z02 (o:=.lst []) hra
   have z2:=Z02 (o:=.dK []) hld
   have za:=z1.trans z2
   refine⟨_,rfl,v,t,rfl,IsTh.kp (Kp.of za) ht,hok.ok,hz,fun wk ws H1 s1 hwk L1 hws=>?_⟩
   have sH1:=za.trans s1
   have hld0:H ld=none:=Z1z z1 hld
   have hwk0:H wk=none:=Z1z za hwk
   have hrl:ra≠ld:=fun z=>by rw[<- z,Z00] at hld;cases hld
   have R1:H1 ra=some (.lst []):=s1 _ _ (z2 _ _ Z00)
   have D1:H1 ld=some (.dK []):=s1 _ _ Z00
   have hwr:wk≠ra:=fun z=>by rw[z,z2 _ _ Z00] at hwk;cases hwk
   have hwl:=IsThs.len _ hws
   rw[length_map] at hwl
   have hls:=Z45 t
   obtain⟨rs,hrs,_,_⟩:=Zko hok
   have hws1:IsThs (TO H1) ws (prs (Z0u t)):=Zmu _ (fun p hp=>(Z5c N t hok p hp).1) hws
   refine⟨wk,rfl,⟨_,SqL.of L1⟩,Z88 (K:=K) (a:=wk) (xs:=ws) (fun i σ H'=>∃(u:OS) (rws:List V) (kvs:List (Key×V)) (o4 o5:Option V),σ = [some v,some (.ref ra),some (.ref ld),some (.int u.L),o4,o5]/\Z3q ((Z0u t).take i) os0=some u/\Stt H ra wk ld ws t i u H' rws kvs)
    ⟨os0,[],[],none,none,rfl,rfl,⟨sH1,R1,Nat.le_refl _,.nil,L1,hws1,D1,Nat.le_refl _,⟨⟨fun x _=>rfl,fun x v e=>(by cases e)⟩,fun x a e=>(by cases e),fun x y a e=>(by cases e)⟩,fun x=>Nat.zero_le _⟩⟩ (fun i σ H' _ ⟨_,_,_,_,_,_,_,S⟩=>SqL.of S.walk) ?_ ?_⟩
   ·rintro i x σ H2 hx ⟨u,rws,kvs,o4,o5,rfl,hrun,S⟩
    obtain⟨tx,htx,hx2⟩:=Z1o _ S.wth hx
    rw[List.getElem?_map] at htx
    obtain⟨p,hp,rfl⟩:∃p,(Z0u t)[i]? = some p/\pr p=tx:=by
     cases e:(Z0u t)[i]? with
     |none=>rw[e] at htx;cases htx
     |some p=>rw[e] at htx;exact⟨p,rfl,by simpa using htx⟩
    have hil:i<(Z0u t).length:=(List.getElem?_eq_some_iff.mp hp).1
    have hi:i<300000:=by omega
    have hl1:=S.len
    have hf1:=S.few
    obtain⟨hown,hdeed,hlet⟩:=Z5c N t hok p (mem_of_getElem? hp)
    obtain⟨d,n⟩:=p
    have hnext:=Zi2 hp hrun
    obtain⟨u',hu'⟩:=Zi1 hrs (i+1)
    rw[hu'] at hnext
    obtain⟨a,vs2,rfl,ha,hvs2⟩:=Z1j hx2
    cases hvs2 with
    | @cons v1 vr _ _ c1 c2=>
     cases c2 with
     | @cons v2 vr2 _ _ c3 c4=>
      cases c4
      obtain⟨rfl,_⟩:=Z1p c1
      refine⟨a,[.str d,v2],rfl,SqT.of (Zc7 _ _ ha),rfl,_,_,rfl,_,_,rfl,rfl,?_⟩
      refine⟨_,rfl,rfl,_,rfl,Z1b (fun g=>?_) (fun g=>?_)⟩
      ·have hd:d="node":=by
        have g':=of_decide_eq_true g
        injection g'
       have es:Z1x u (d,n)=some ⟨u.L,u.m,u.r ++ [(n,Z5e n u.m u.L)]⟩:=by
        unfold Z1x
        exact if_pos hd
       rw[es] at hnext
       cases hnext
       refine⟨_,rfl,.inl ⟨rfl,_,SqL.of S.rows⟩,_,rfl,?_⟩
       refine⟨_,rfl,_,rfl,_,rfl,v2,ld,u.L,N,n,kvs,u.m,rfl,IsTh.kp (Kp.of Zc7) c3,hown,S.dict,S.lt.d,?_⟩
       refine⟨(by show 2<=sizeLine;decide),fun q hq=>?_⟩
       have s3:=Z02 (o:=.tup [v2,.int (Z5e n u.m u.L)]) hq
       have hqr:ra≠q:=Z0e S.rows hq
       refine⟨ra,rws,_,rfl,rfl,s3 _ _ S.rows,(by omega),⟨u.L,u.m,u.r ++ [(n,Z5e n u.m u.L)]⟩,rws ++ [.ref q],kvs,_,_,rfl,hu',?_⟩
       have R3:=s3 _ _ S.rows
       have t3:Same (TO H2) (TO (upd (upd H2 q (.tup [v2,.int (Z5e n u.m u.L)])) ra (.lst (rws ++ [.ref q])))):=(Zat s3).trans (Zc8 R3)
       refine⟨fun c o e=>?_,Z00,by rw[length_append];simp;omega,?_,?_,IsThs.kp (Kp.of t3) S.wth,?_,by omega,?_,fun x=>Nat.le_succ_of_le (S.lens x)⟩
       ·rw[Z09 (Z0e e hra)]
        exact s3 _ _ (S.same _ _ e)
       ·show IsThs _ _ ((u.r ++ [(n,Z5e n u.m u.L)]).map prO)
        rw[map_append]
        refine IsThs.app _ (IsThs.kp (Kp.of t3) S.rth) (.cons (.tup (Zdg ?_) (.cons (IsTh.kp (Kp.of t3) c3) (.cons (.at (Zfl _)) .nil))) .nil)
        rw[Z09 hqr.symm]
        exact Z00
       ·rw[Z09 hwr]
        exact s3 _ _ S.walk
       ·rw[Z09 hrl.symm]
        exact s3 _ _ S.dict
       ·refine S.lt.mono fun b xs hb e=>?_
        rw[Z09 hb]
        exact s3 _ _ e
      ·have hd:d≠"node":=fun z=>g (by rw[z];decide+kernel)
       have hlt:=hlet hd
       obtain⟨N',rfl⟩:∃N',N=N'+1:=by
        cases N with
        |zero=>exact hown.elim
        |succ N'=>exact⟨N',rfl⟩
       obtain⟨w0,ts,rfl,_,h2,_,_⟩:=hown
       obtain⟨x,tr,rfl⟩:=h2 (Or.inl hlt)
       have hnm:nm (Th.tup (.at (.str w0) :: .at (.str x)::tr))=x:=rfl
       obtain⟨an,vns,rfl,han,hvns⟩:=Z1j c3
       cases hvns with
       | @cons vh vr' _ _ d1 d2=>
        obtain⟨rfl,_⟩:=Z1p d1
        cases d2 with
        | @cons vh2 vr2 _ _ d3 d4=>
         obtain⟨rfl,_⟩:=Z1p d3
         have han2:=Zc7 _ _ han
         refine⟨_,rfl,rfl,_,rfl,Z1b (fun g2=>?_) (fun g2=>?_)⟩
         ·have hd2:d="opened":=by
           have g':=of_decide_eq_true g2
           injection g'
          have es:Z1x u (d,Th.tup (.at (.str w0) :: .at (.str x)::tr))=some ⟨u.L+1,push u.m x u.L,u.r⟩:=by
           unfold Z1x
           rw[if_neg hd,if_pos hd2]
           rfl
          rw[es] at hnext
          cases hnext
          have hpl:∀y,(push u.m x u.L y).length<=i+1:=fun y=>by
           unfold push
           split
           ·rw[length_append]
            have:=S.lens x
            simp
            omega
           ·exact Nat.le_succ_of_le (S.lens y)
          refine⟨_,rfl,ld,rfl,.inl ⟨kvs,.inl S.dict⟩,_,rfl,an,_,_,_,rfl,rfl,SqT.of han2,Z19 _ _ _,Nat.zero_le _,fun q hq=>?_⟩
          have s3:=Z02 (o:=.lst []) hq
          refine⟨kvs,.inr x,s3 _ _ S.dict,rfl,(by omega),fun v' hv=>?_,fun hv=>?_⟩
          ·obtain⟨b,rfl,hb⟩:=S.lt.d.at1 x v' hv
           have hb3:=s3 _ _ hb
           have hf:=S.lt.fr x b hv
           have hlen:=S.lens x
           refine⟨.inl ⟨rfl,_,SqL.of hb3⟩,_,rfl,b,_,_,rfl,rfl,hb3,(by rw[length_map];omega),?_⟩
           refine⟨_,rfl,_,_,rfl,rfl,⟨u.L+1,push u.m x u.L,u.r⟩,rws,kvs,_,_,rfl,hu',?_⟩
           have t3:Same (TO H2) (TO (upd (upd H2 q (.lst [])) b (.lst ((u.m x).map V.int ++ [.int u.L])))):=(Zat s3).trans (Zc8 hb3)
           refine⟨fun c o e=>?_,?_,Nat.le_succ_of_le hl1,IsThs.kp (Kp.of t3) S.rth,?_,IsThs.kp (Kp.of t3) S.wth,?_,Nat.le_succ_of_le hf1,?_,hpl⟩
           ·rw[Z09 (Z0e e hf.1)]
            exact s3 _ _ (S.same _ _ e)
           ·rw[Z09 hf.2.1.symm]
            exact s3 _ _ S.rows
           ·rw[Z09 hf.2.2.symm]
            exact s3 _ _ S.walk
           ·rw[Z09 (Z3k (s3 _ _ S.dict) hb3 (by intro q;cases q))]
            exact s3 _ _ S.dict
           ·have l3:Lt H ra wk (upd H2 q (.lst [])) kvs u.m:=S.lt.mono fun c xs _ e=>s3 _ _ e
            have:=l3.set hv (u.m x ++ [u.L])
            rw[map_append] at this
            exact this
          ·have hq0:H q=none:=Z1z S.same hq
           have hqr:q≠ra:=(Z0e S.rows hq).symm
           have hqw:q≠wk:=(Z0e S.walk hq).symm
           have hqd:q≠ld:=(Z0e S.dict hq).symm
           have q3:upd (upd H2 q (.lst [])) ld (.dK (Z30 kvs (.inr x) (.ref q))) q=some (.lst []):=by
            rw[Z09 hqd]
            exact Z00
           refine⟨.inl ⟨rfl,_,SqL.of q3⟩,_,rfl,q,_,_,rfl,rfl,q3,(by show 0<sizeLine;omega),?_⟩
           refine⟨_,rfl,_,_,rfl,rfl,⟨u.L+1,push u.m x u.L,u.r⟩,rws,Z30 kvs (.inr x) (.ref q),_,_,rfl,hu',?_⟩
           have hpk:=Z1g kvs (Sum.inr x:Key) (.ref q)
           have t3:=((Zat s3).trans (Zol (o:=.dK (Z30 kvs (.inr x) (.ref q))) (s3 _ _ S.dict))).trans (Zc8 (o:=.lst ([] ++ [.int u.L])) q3)
           refine⟨fun c o e=>?_,?_,Nat.le_succ_of_le hl1,IsThs.kp (Kp.of t3) S.rth,?_,IsThs.kp (Kp.of t3) S.wth,?_,by omega,?_,hpl⟩
           ·rw[Z09 (Z0e e hq0),Z09 (Z0e e hld0)]
            exact s3 _ _ (S.same _ _ e)
           ·rw[Z09 hqr.symm,Z09 hrl]
            exact s3 _ _ S.rows
           ·rw[Z09 hqw.symm,Z09 (Z3k S.walk S.dict (by intro q;cases q))]
            exact s3 _ _ S.walk
           ·rw[Z09 hqd.symm]
            exact Z00
           ·refine S.lt.new hv hq hq0 hqr hqw Z00 fun c xs hc e=>?_
            rw[Z09 hc,Z09 (Z3k e S.dict (by intro q;cases q))]
            exact s3 _ _ e
         ·have hd2:d≠"opened":=fun z=>g2 (by rw[z];decide+kernel)
          have es:Z1x u (d,Th.tup (.at (.str w0) :: .at (.str x)::tr))=if u.m x = [] then none else some ⟨u.L-1,Zkk u.m x,u.r⟩:=by
           unfold Z1x
           rw[if_neg hd,if_neg hd2]
           rfl
          rw[es] at hnext
          by_cases hm:u.m x = []
          ·rw[if_pos hm] at hnext
           cases hnext
          rw[if_neg hm] at hnext
          cases hnext
          cases hv:Z2h kvs (.inr x) with
          |none=>exact absurd (S.lt.d.no x hv) hm
          |some v'=>
           obtain⟨b,rfl,hb⟩:=S.lt.d.at1 x v' hv
           have hf:=S.lt.fr x b hv
           have hml:u.m x=(u.m x).dropLast ++ [(u.m x).getLast hm]:=(dropLast_concat_getLast hm).symm
           refine⟨_,rfl,_,rfl,an,_,_,_,rfl,rfl,SqT.of han2,Z19 _ _ _,ld,.ref b,rfl,?_,.inl ⟨rfl,_,SqL.of hb⟩,b,_,.int ((u.m x).getLast hm),rfl,rfl,hb,?_,?_⟩
           ·rw[<- hv];exact DGet.k (k:=.inr x) S.dict
           ·conv=>lhs;rw[hml]
            rw[map_append]
            simp
           refine⟨_,rfl,_,_,rfl,rfl,⟨u.L-1,Zkk u.m x,u.r⟩,rws,kvs,_,_,rfl,hu',?_⟩
           have t3:Same (TO H2) (TO (upd H2 b (.lst ((u.m x).map V.int).dropLast))):=Zc8 hb
           refine⟨fun c o e=>?_,?_,Nat.le_succ_of_le hl1,IsThs.kp (Kp.of t3) S.rth,?_,IsThs.kp (Kp.of t3) S.wth,?_,Nat.le_succ_of_le hf1,?_,fun y=>?_⟩
           ·rw[Z09 (Z0e e hf.1)]
            exact S.same _ _ e
           ·rw[Z09 hf.2.1.symm]
            exact S.rows
           ·rw[Z09 hf.2.2.symm]
            exact S.walk
           ·rw[Z09 (Z3k S.dict hb (by intro q;cases q))]
            exact S.dict
           ·have:=S.lt.set hv (u.m x).dropLast
            rw[<- List.map_dropLast]
            exact this
           ·show(Zkk u.m x y).length<=i+1
            unfold Zkk
            split
            ·rw[List.length_dropLast]
             have:=S.lens x
             omega
            ·exact Nat.le_succ_of_le (S.lens y)
   ·rintro σ H2 ⟨u,rws,kvs,o4,o5,rfl,hrun,S⟩
    rw[hwl,List.take_length,hrs] at hrun
    cases hrun
    exact⟨_,rfl,k ra rws rs H2 S.same hra S.rows (IsThs.kp (Kp.of Zc7) S.rth) hrs⟩
end
def Z5f (acc:List Str)(x:Str):List Str:=if x∈acc then acc else acc ++ [x]
def dd (l:List Str):List Str:=l.foldl Z5f []
theorem Zfm (l:List Str)(x:Str):dd (l ++ [x])=Z5f (dd l) x:=by
 unfold dd
 rw[List.foldl_append]
 rfl
theorem Zcb (kvs:List (Key×V))(ks:List Str)(x:Str)(v:V)(h:kvs.map (·.1)=ks.map .inr):(Z30 kvs (.inr x) v).map (·.1)=(Z5f ks x).map .inr:=by
 unfold Z30 Z5f
 have e:(kvs.any fun kv=>decide (kv.1 = .inr x))=true↔x∈ks:=by
  rw[List.any_eq_true]
  constructor
  ·rintro⟨kv,h1,h2⟩
   have h3:kv.1∈kvs.map (·.1):=mem_map.mpr ⟨kv,h1,rfl⟩
   rw[of_decide_eq_true h2,h] at h3
   obtain⟨y,hy,e⟩:=mem_map.mp h3
   cases e
   exact hy
  ·intro hx
   have h3:(Sum.inr x:Key)∈ks.map .inr:=mem_map.mpr ⟨x,hx,rfl⟩
   rw[<- h] at h3
   obtain⟨kv,h1,h2⟩:=mem_map.mp h3
   exact⟨kv,h1,decide_eq_true h2⟩
 by_cases hx:x∈ks
 ·rw[if_pos (e.mpr hx),if_pos hx,<- h,map_map]
  refine map_congr_left fun kv _=>?_
  show(if kv.1 = .inr x then (kv.1,v) else kv).1=kv.1
  split <;> rfl
 ·rw[if_neg (fun z=>hx (e.mp z)),if_neg hx,map_append,map_append,h]
  rfl
theorem Zmv {H:Hp}{a:Addr}{o:HO}(h:H a=some o):upd H a o=H:=by
 funext c
 by_cases e:c=a
 ·subst e;rw[Z00,h]
 ·rw[Z09 e]
def Zdi (rs:List (Th×Int)):List Str:=(rs.filter Zdh).map (fun q=>nm q.1)
theorem Zdj (rs:List (Th×Int))(q:Th×Int):Zdi (rs ++ [q])=Zdi rs++if Zdh q=true then [nm q.1] else []:=by
 unfold Zdi
 rw[filter_append,map_append,filter_cons]
 split <;> rfl
theorem Zi5 (acc:List Str)(x:Str):(Z5f acc x).length<=acc.length+1:=by
 unfold Z5f
 split
 ·omega
 ·rw[length_append];simp
inductive spFreeN_ (N:Nat)(vs:List V)(H:Hp)(Q:VK):Prop
 |mk (v:V) (t:Th) (_:vs = [v]) (_:IsTh H v t) (_:OkN N t) (_:Th.sz t<=100000) (_:∀(p:Addr) H',Same H H'->H' p=some (.tup ((dd (frT t [])).map V.str))->Q (.ref p) H'):spFreeN_ N vs H Q
def Zaw (N:Nat):Sp:=fun vs H Q _=>spFreeN_ N vs H Q
section
variable {P:Program}{w:World}{K:PySem.W.Frag}{mg:Str->Option Value}{base:Heap}
theorem scFreeN:FnScope ["e","seen","node","own"] ["e"] (Z06 Z3e):=⟨rfl,rfl,rfl,by decide+kernel,rfl,by decide+kernel,by decide+kernel⟩
theorem Zcc {f fP fS fO fW:Addr}{fd dP dS dO dW:FuncData}(F:Fun K "free_names" "free_names" Z3e f fd)(U:HOw K mg fP fS fO dP dS dO)(FW:Fun K "owned" "owned" Z7v fW dW)(bW:Binds K dW ["e"] [])(mW:mg "owned"=some (.ref fW))(N:Nat):
  FnOk P w K mg base CX0 4 f fd ["e"] (Zaw N):=by
 have GW:FnOk P w K mg base CX0 3 fW dW ["e"] (Zav N):=Zca FW U N
 refine F.ok scFreeN (fun vs H Q E h=>?_) (fun cdv A outer s H vs Q E hr h=>?_)
 ·obtain⟨v,t,rfl,_⟩:=h
  rfl
 ·obtain⟨v,t,rfl,ht,hok,hz,k⟩:=h
  have hsz:sizeLine=16777216:=sizeLine_eq
  have hr3:Room 3 _:=hr.mono (by decide)
  have hu1:(_:Around).units+1<cLine:=Nat.lt_of_le_of_lt (Nat.add_le_add_left (by decide) _) hr.units
  refine'⟨?tt,?body,?fin⟩
  case body=>
   refine' Z04 ?s1 (Z04 ?s2 (Z07 ?s3))
   case s1=>exact Z0c (i:=1) scFreeN.nd rfl (Or.inl rfl) Zbh
   case s2=>
    refine' Z4n PassesOwn.never rfl (Z1w (Z05 GW hr3 (by rfl) mW FW.kp bW .nil Z0f (Z0d (pv 0) Z01))) (Z8y rfl (Z2g (Z0t (i:=2) scFreeN.nd rfl (Or.inl rfl)) (Z2g (Z0t (i:=3) scFreeN.nd rfl (Or.inl rfl)) Z6a))) (Z07 ?b)
    case b=>
     refine' Z0y ?c (Z07 ?e1) Z0h
     case c=>exact(Z69 (Z0a Z1c (Z0r Z0v (pv 2) Z03 (fun _ _=>rfl)) Z08 (Z0k _)) (Z5u (Z4m (Z0a Z1c (Z0r Z0v (pv 2) Z03 (fun _ _=>rfl)) Z08 (Z0k _)) (Z33 (Z0a Z89 (pv 3) Z03 (Z0k _)))).pt)).pt
     case e1=>exact Z29 hu1 (pv 1) (Z0r Z0v (pv 2) Z03 (fun _ _=>rfl)) Z8w rfl
   case s3=>exact Z0i (Z16 (Z6o rfl) (by rfl) U.T.tup (by decide+kernel) (Z0d (pv 1) Z01))
  case fin=>
   refine fun sd hsd=>?_
   have z1:=Z02 (o:=.dK []) hsd
   refine⟨_,rfl,v,t,rfl,IsTh.kp (Kp.of z1) ht,hok,hz,fun wk ws rs H1 s1 hwk L1 hws hrs=>?_⟩
   have sH1:=z1.trans s1
   have D1:H1 sd=some (.dK []):=s1 _ _ Z00
   have hwd:wk≠sd:=Z3k L1 D1 (by intro q;cases q)
   obtain⟨rs',hrs',hfr,hnd⟩:=Zko hok
   have ers:rs'=rs:=by
    have:=hrs'.symm.trans hrs
    injection this with this
    injection this
   subst ers
   have hwl:=IsThs.len _ hws
   rw[length_map] at hwl
   refine⟨wk,rfl,⟨_,SqL.of L1⟩,Z88 (K:=K) (a:=wk) (xs:=ws) (fun i σ H'=>∃(kvs:List (Key×V)) (ks:List Str) (o2 o3:Option V),σ = [some v,some (.ref sd),o2,o3]/\H'=upd H1 sd (.dK kvs)/\kvs.map (·.1)=ks.map .inr/\ks=dd (Zdi (rs'.take i))/\kvs.length<=i)
    ⟨[],[],none,none,rfl,(Zmv D1).symm,rfl,rfl,Nat.le_refl _⟩ (fun i σ H' _ ⟨_,_,_,_,_,e,_⟩=>?_) ?_ ?_⟩
   ·rw[e]
    refine SqL.of ?_
    rw[Z09 hwd]
    exact L1
   ·rintro i x σ H2 hx ⟨kvs,ks,o2,o3,rfl,rfl,e1,e2,e3⟩
    have kp:Kp H1 (upd H1 sd (.dK kvs)):=fun c o e n=>by
     rw[Z09]
     ·exact e
     ·intro z
      rw[z,D1] at e
      cases e
      exact n _ rfl
    obtain⟨tx,htx,hx2⟩:=Z1o _ (IsThs.kp kp hws) hx
    rw[List.getElem?_map] at htx
    obtain⟨p,hp,rfl⟩:∃p,rs'[i]? = some p/\prO p=tx:=by
     cases e:rs'[i]? with
     |none=>rw[e] at htx;cases htx
     |some p=>rw[e] at htx;exact⟨p,rfl,by simpa using htx⟩
    have hil:i<rs'.length:=(List.getElem?_eq_some_iff.mp hp).1
    have hrl:rs'.length<=3*Th.sz t:=by
     have h1:=congrArg List.length hnd
     rw[length_map,length_map] at h1
     have h2:=length_filter_le (fun p:Str×Th=>decide (p.1="node")) (Z0u t)
     have h3:=Z45 t
     unfold Z2l at h1
     omega
    obtain⟨n,o⟩:=p
    have hown:OkN N n:=by
     have h1:n∈rs'.map (·.1):=mem_map.mpr ⟨(n,o),mem_of_getElem? hp,rfl⟩
     rw[hnd] at h1
     obtain⟨q,h2,h3⟩:=mem_map.mp h1
     have:=(Z5c N t hok q (mem_filter.mp h2).1).1
     rw[<- h3]
     exact this
    have hnext:Zdi (rs'.take (i+1))=Zdi (rs'.take i)++if Zdh (n,o)=true then [nm n] else []:=by
     rw[take_add_one,hp]
     exact Zdj _ _
    obtain⟨N',rfl⟩:∃N',N=N'+1:=by
     cases N with
     |zero=>exact hown.elim
     |succ N'=>exact⟨N',rfl⟩
    obtain⟨a,vs2,rfl,ha,hvs2⟩:=Z1j hx2
    cases hvs2 with
    | @cons v1 vr _ _ c1 c2=>
     cases c2 with
     | @cons v2 vr2 _ _ c3 c4=>
      cases c4
      obtain⟨rfl,_⟩:=Z1p c3
      obtain⟨w0,ts,rfl,_,h2,_,_⟩:=hown
      obtain⟨an,vns,rfl,han,hvns⟩:=Z1j c1
      have hwd0:wd (Th.tup (.at (.str w0)::ts))=w0:=rfl
      cases hvns with
      | @cons vh vr' _ _ d1 d2=>
       obtain⟨rfl,_⟩:=Z1p d1
       refine⟨a,[.ref an,.int o],rfl,SqT.of ha,rfl,_,_,rfl,_,_,rfl,rfl,?_⟩
       refine⟨_,rfl,an,_,_,_,rfl,rfl,SqT.of han,Z15 _ _,rfl,_,rfl,Z1b (fun g=>?_) (fun g=>?_)⟩
       ·have hw:w0="set":=by
         have g':=of_decide_eq_true g
         injection g'
        have htest:Zdh (Th.tup (.at (.str w0)::ts),o)=true:=decide_eq_true (Or.inl hw)
        refine Z9f ?_
        obtain⟨x,tr,rfl⟩:=h2 (Or.inr (Or.inr hw))
        have hnm:nm (Th.tup (.at (.str w0) :: .at (.str x)::tr))=x:=rfl
        cases d2 with
        | @cons vh2 vr2 _ _ d3 d4=>
         obtain⟨rfl,_⟩:=Z1p d3
         refine⟨_,rfl,_,rfl,an,_,_,_,rfl,rfl,SqT.of han,Z19 _ _ _,sd,_,rfl,.inl ⟨kvs,.inr x,Z00,rfl,(by omega),rfl⟩,Z30 kvs (.inr x) (.bl true),Z5f ks x,_,_,rfl,Zdw,Zcb _ _ _ _ e1,?_,?_⟩
         ·rw[hnext,if_pos htest,Zfm,<- e2,hnm]
         ·have:=Z1g kvs (Sum.inr x:Key) (.bl true)
          omega
       ·have hw:w0≠"set":=fun z=>g (by rw[z];decide+kernel)
        refine⟨_,rfl,an,_,_,_,rfl,rfl,SqT.of han,Z15 _ _,rfl,_,rfl,Z1b (fun g2=>?_) (fun g2=>?_)⟩
        ·have hw2:w0="name":=by
          have g':=of_decide_eq_true g2
          injection g'
         refine⟨_,rfl,_,_,rfl,rfl,_,rfl,Z1b (fun g3=>?_) (fun g3=>?_)⟩
         ·have ho:o<0:=of_decide_eq_true g3
          have htest:Zdh (Th.tup (.at (.str w0)::ts),o)=true:=decide_eq_true (Or.inr ⟨hw2,ho⟩)
          obtain⟨x,tr,rfl⟩:=h2 (Or.inr (Or.inl hw2))
          have hnm:nm (Th.tup (.at (.str w0) :: .at (.str x)::tr))=x:=rfl
          cases d2 with
          | @cons vh2 vr2 _ _ d3 d4=>
           obtain⟨rfl,_⟩:=Z1p d3
           refine⟨_,rfl,_,rfl,an,_,_,_,rfl,rfl,SqT.of han,Z19 _ _ _,sd,_,rfl,.inl ⟨kvs,.inr x,Z00,rfl,(by omega),rfl⟩,Z30 kvs (.inr x) (.bl true),Z5f ks x,_,_,rfl,Zdw,Zcb _ _ _ _ e1,?_,?_⟩
           ·rw[hnext,if_pos htest,Zfm,<- e2,hnm]
           ·have:=Z1g kvs (Sum.inr x:Key) (.bl true)
            omega
         ·have ho:¬o<0:=fun z=>g3 (decide_eq_true z)
          have htest:¬Zdh (Th.tup (.at (.str w0)::ts),o)=true:=fun z=>by
           rcases of_decide_eq_true z with q|q
           ·exact hw q
           ·exact ho q.2
          refine⟨kvs,ks,_,_,rfl,rfl,e1,?_,by omega⟩
          rw[hnext,if_neg htest,append_nil]
          exact e2
        ·have hw2:w0≠"name":=fun z=>g2 (by rw[z];decide+kernel)
         have htest:¬Zdh (Th.tup (.at (.str w0)::ts),o)=true:=fun z=>by
          rcases of_decide_eq_true z with q|q
          ·exact hw q
          ·exact hw2 q.1
         refine Zab ⟨kvs,ks,_,_,rfl,rfl,e1,?_,by omega⟩
         rw[hnext,if_neg htest,append_nil]
         exact e2
   ·rintro σ H2 ⟨kvs,ks,o2,o3,rfl,rfl,e1,e2,e3⟩
    refine⟨_,rfl,sd,kvs,ks,rfl,Z00,e1,fun a ha=>?_⟩
    refine k a _ (fun c o e=>?_) ?_
    ·rw[Z09,Z09 (Z0e e hsd)]
     ·exact sH1 _ _ e
     ·intro z
      rw[z] at e
      rw[Z09 (Z0e e hsd),sH1 _ _ e] at ha
      cases ha
    ·rw[Z00,e2,hwl,List.take_length]
     rw[<- hfr]
     rfl
end
def Zlg:List Str->Str->Nat
 |[],_=>0
 |y::R,x=>if y=x then R.length else Zlg R x
def lix (B:List Str)(x:Str):Nat:=Zlg B.reverse x
theorem Zcd (B:List Str)(y x:Str):lix (B ++ [y]) x=if y=x then B.length else lix B x:=by
 unfold lix
 rw[List.reverse_append]
 show Zlg (y::B.reverse) x=_
 rw[Zlg,length_reverse]
theorem Zdk {p:List Str->Prop}(h0:p [])(h1:∀B y,p B->p (B ++ [y])):∀B,p B:=by
 intro B
 rw[<- List.reverse_reverse B]
 generalize B.reverse=R
 induction R with
 |nil=>exact h0
 |cons y R ih=>rw[reverse_cons];exact h1 _ _ ih
theorem Zmw:∀(B:List Str) {x:Str},x∈B->lix B x<B.length/\B[lix B x]? = some x/\∀j,lix B x<j->B[j]? ≠ some x:=by
 refine Zdk ?_ ?_
 ·intro x h;cases h
 ·intro B y ih x h
  rw[Zcd]
  by_cases e:y=x
  ·rw[if_pos e]
   refine⟨by rw[length_append,length_singleton];omega,by rw[List.getElem?_append_right (Nat.le_refl _),Nat.sub_self,e];rfl,fun j hj q=>?_⟩
   rw[List.getElem?_eq_none (by rw[length_append,length_singleton];omega)] at q
   cases q
  ·rw[if_neg e]
   have hx:x∈B:=by
    rcases mem_append.mp h with q|q
    ·exact q
    ·rw[mem_singleton] at q;exact absurd q.symm e
   obtain⟨h1,h2,h3⟩:=ih hx
   refine⟨by rw[length_append];omega,by rw[List.getElem?_append_left h1];exact h2,fun j hj q=>?_⟩
   by_cases hjl:j<B.length
   ·rw[List.getElem?_append_left hjl] at q
    exact h3 j hj q
   ·rw[List.getElem?_append_right (by omega)] at q
    cases hz:j-B.length with
    |zero=>rw[hz] at q;exact e (Option.some.inj q)
    |succ m=>rw[hz] at q;simp at q
def Z36 (n:Th)(B:List Str):Int:=if wd n="name"/\nm n∈B then (B.length:Int)-1-(lix B (nm n):Int) else -1
structure RelC (m:Mp)(B:List Str)(L:Int):Prop where
 iff:∀x,m x ≠ []↔x∈B
 lv:L=(B.length:Int)
 last:∀x∈B,(m x).getLastD 0=(lix B x:Int)
theorem RelC.push {m:Mp}{B:List Str}{L:Int}(h:RelC m B L)(x:Str):RelC (push m x L) (B ++ [x]) (L+1):=by
 refine⟨fun y=>?_,by rw[h.lv,length_append];simp,fun y hy=>?_⟩
 ·unfold K13.push
  rw[mem_append,mem_singleton,<- h.iff y]
  split
  ·next e=>simp [e]
  ·next e=>simp [e]
 ·unfold K13.push
  rw[Zcd]
  by_cases e:y=x
  ·rw[if_pos e,if_pos e.symm,getLastD_eq_getLast?,List.getLast?_concat,<- h.lv]
   rfl
  ·rw[if_neg e,if_neg (fun q=>e q.symm)]
   rcases mem_append.mp hy with q|q
   ·exact h.last y q
   ·rw[mem_singleton] at q;exact absurd q e
theorem Zmx {m:Mp}{B:List Str}{L:Int}(h:RelC m B L)(n:Th):Z5e n m L=Z36 n B:=by
 unfold Z5e Z36
 by_cases c:wd n="name"/\nm n∈B
 ·rw[if_pos ⟨c.1,(h.iff _).mpr c.2⟩,if_pos c,h.last _ c.2,h.lv]
 ·rw[if_neg (fun q=>c ⟨q.1,(h.iff _).mp q.2⟩),if_neg c]
mutual
def Z2d:Th->List Str->List (Th×Int)
 | .tup xs,B=>(.tup xs,Z36 (.tup xs) B)::Zdl (Z2n xs) (nm (.tup xs)) 0 xs B
 | .at _,_=>[]
 | .lst _,_=>[]
def Zdl (l:Bool)(x:Str):Nat->List Th->List Str->List (Th×Int)
 |_,[],_=>[]
 |i,y::ys,B=>if isTup y=true then Z2d y (B++if l=true/\i=1 then [x] else [])++Zdl l x (i+1) ys B else Zdl l x i ys B
end
def Z9w (l:Bool)(x:Str):Nat->List Th->List Str->List (Th×Int)
 |_,[],_=>[]
 |i,y::ys,B=>Z2d y (B++if l=true/\i=1 then [x] else [])++Z9w l x (i+1) ys B
theorem Z75 (l:Bool)(x:Str)(B:List Str):∀(xs:List Th) (i:Nat),Zdl l x i xs B=Z9w l x i (Z18 xs) B:=by
 intro xs
 induction xs with
 |nil=>intro i;simp [Zdl,Z9w,Z18]
 |cons y xs ih=>
  intro i
  rw[Zdl]
  unfold Z18
  rw[filter_cons]
  split
  ·rw[Z9w,ih];rfl
  ·rw[ih];rfl
theorem Z76 (x:Str)(B:List Str):∀(ks:List Th) (i:Nat),Z9w false x i ks B=(ks.map fun k=>Z2d k B).flatten:=by
 intro ks
 induction ks with
 |nil=>intro i;rfl
 |cons k ks ih=>intro i;rw[Z9w,ih];simp
theorem Zi6:∀(n:Nat) (t:Th),OkN n t->∀(m:Mp) (B:List Str) (L:Int),RelC m B L->∀r,Z3q (Z0u t) ⟨L,m,r⟩=some ⟨L,m,r++Z2d t B⟩:=by
 intro n
 induction n with
 |zero=>intro t h;exact h.elim
 |succ n ih=>
  intro t h m B L hR
  obtain⟨w,ts,rfl,h1,h2,h3,h4⟩:=h
  have hk:∀k∈Z18 (Th.at (.str w)::ts),OkN n k:=fun k hk=>by
   unfold Z18 at hk
   rw[mem_filter] at hk
   rcases mem_cons.mp hk.1 with z|z
   ·subst z;cases hk.2
   ·exact h4 k z hk.2
  have hn:∀r,Z1x ⟨L,m,r⟩ ("node",.tup (.at (.str w)::ts))=some ⟨L,m,r ++ [(.tup (.at (.str w)::ts),Z36 (.tup (.at (.str w)::ts)) B)]⟩:=fun r=>by
   unfold Z1x
   rw[<- Zmx hR]
   exact if_pos rfl
  rw[Z0u,Z2d,Z3c,Z75]
  rw[show Z2n (Th.at (.str w)::ts)=decide (w="let") from rfl]
  by_cases hw:w="let"
  ·rw[decide_eq_true hw]
   obtain⟨x,tr,rfl⟩:=h2 (Or.inl hw)
   have hnm:nm (Th.tup (.at (.str w) :: .at (.str x)::tr))=x:=rfl
   have hl2:(Z18 (Th.at (.str w) :: .at (.str x)::tr)).length=2:=h1 hw
   match hks:Z18 (Th.at (.str w) :: .at (.str x)::tr),hl2,hk with
   |[a,b],_,hk=>
    have ea:=ih a (hk a (by simp)) m B L hR
    have eb:=ih b (hk b (by simp)) (push m x L) (B ++ [x]) (L+1) (hR.push x)
    intro r
    show(Z1x _ _).bind (Z3q _)=_
    rw[hn]
    show Z3q _ _=_
    rw[Z2o,Z2o,Z2o,Z46,ea]
    show Z3q _ _=_
    simp only [Z3b,if_true]
    show(Z1x _ _).bind (Z3q _)=_
    have e1:∀r,Z1x ⟨L,m,r⟩ ("opened",.tup (.at (.str w) :: .at (.str x)::tr))=some ⟨L+1,push m x L,r⟩:=fun r=>by
     unfold Z1x
     rw[if_neg Zfj,if_pos rfl]
     rfl
    rw[e1]
    show Z3q (Z0u b++_) _=_
    rw[Z46,eb]
    show(Z1x _ _).bind (Z3q _)=_
    have e2:∀r,Z1x ⟨L+1,push m x L,r⟩ ("closed",.tup (.at (.str w) :: .at (.str x)::tr))=some ⟨L,m,r⟩:=fun r=>by
     unfold Z1x
     rw[if_neg Zfk,if_neg Zj5,hnm]
     have:push m x L x ≠ []:=by unfold push;simp
     rw[if_neg this,Zc9]
     simp
    rw[e2]
    show some _=some _
    simp [Z9w,hnm]
  ·rw[decide_eq_false hw,Z40,Z76]
   have main:∀(ks:List Th),(∀k∈ks,OkN n k)->∀r,Z3q (ks.map Z0u).flatten ⟨L,m,r⟩=some ⟨L,m,r++(ks.map fun k=>Z2d k B).flatten⟩:=by
    intro ks
    induction ks with
    |nil=>intro _ r;simp [Z3q]
    |cons k ks ihk=>
     intro hks r
     rw[map_cons,flatten_cons,Z46,ih k (hks k (mem_cons_self ..)) m B L hR]
     show Z3q _ _=_
     rw[ihk fun y hy=>hks y (mem_cons_of_mem _ hy)]
     simp
   intro r
   show(Z1x _ _).bind (Z3q _)=_
   rw[hn]
   show Z3q _ _=_
   rw[main _ hk]
   simp
theorem Zfn {N:Nat}{t:Th}{rs:List (Th×Int)}(h:OkN N t)(o:OwR t rs):rs=Z2d t []:=by
 have e:=Zi6 N t h (fun _=>[]) [] 0 ⟨fun x=>by simp,rfl,fun x hx=>by cases hx⟩ []
 have:=o.symm.trans e
 injection this with this
 injection this
def Z47:Th->List Th
 | .tup xs=>Z9q xs
 |_=>[]
def Zmy:Th->Nat
 | .tup xs=>(Z18 xs).length
 |_=>0
def shH (num:Str->Int)(n:Th)(o:Int):List Th:=
 if wd n="set" then [.at (.str "set"),.at (.int (num (nm n)))]
 else if wd n="name"/\o<0 then [.at (.str "name"),.at (.int (num (nm n)))]
 else if wd n="let" then [.at (.str "let")]
 else if 0<=o then [.at (.str "own"),.at (.int o)]
 else Z47 n
def shP (num:Str->Int)(n:Th)(o:Int):List Th:=
 if wd n="set" then [.at (.str "set"),.at (.int (num (nm n)))]
 else if wd n="name"/\o<0 then [.at (.str "free"),.at (.int (num (nm n)))]
 else if wd n="let" then [.at (.str "let")]
 else if 0<=o then [.at (.str "own"),.at (.int o)]
 else Z47 n
mutual
def shT (num:Str->Int):Th->List Str->Th
 | .tup xs,B=>.tup (shH num (.tup xs) (Z36 (.tup xs) B)++shI num (Z2n xs) (nm (.tup xs)) 0 xs B)
 | .at v,_=>.at v
 | .lst xs,_=>.lst xs
def shI (num:Str->Int)(l:Bool)(x:Str):Nat->List Th->List Str->List Th
 |_,[],_=>[]
 |i,y::ys,B=>if isTup y=true then shT num y (B++if l=true/\i=1 then [x] else [])::shI num l x (i+1) ys B else shI num l x i ys B
end
def shK (num:Str->Int)(l:Bool)(x:Str):Nat->List Th->List Str->List Th
 |_,[],_=>[]
 |i,y::ys,B=>shT num y (B++if l=true/\i=1 then [x] else [])::shK num l x (i+1) ys B
theorem Zfo (num:Str->Int)(l:Bool)(x:Str)(B:List Str):∀(xs:List Th) (i:Nat),shI num l x i xs B=shK num l x i (Z18 xs) B:=by
 intro xs
 induction xs with
 |nil=>intro i;simp [shI,shK,Z18]
 |cons y xs ih=>
  intro i
  rw[shI]
  unfold Z18
  rw[filter_cons]
  split
  ·rw[shK,ih];rfl
  ·rw[ih];rfl
theorem Zfp (num:Str->Int)(x:Str)(B:List Str):∀(ks:List Th) (i:Nat),shK num false x i ks B=ks.map fun k=>shT num k B:=by
 intro ks
 induction ks with
 |nil=>intro i;rfl
 |cons k ks ih=>intro i;rw[shK,ih];simp
theorem Zfq (x:Str)(B:List Str):∀(ks:List Th) (i:Nat),frK false x i ks B=(ks.map fun k=>frT k B).flatten:=by
 intro ks
 induction ks with
 |nil=>intro i;rfl
 |cons k ks ih=>intro i;rw[frK,ih];simp
theorem Z4g (w:Str)(hd:List V)(ks:List Th):Z2n (.at (.str w)::(hd.map Th.at++ks))=decide (w="let"):=rfl
section
variable {num:Str->Int}{w:Str}{hd:List V}{ks:List Th}{B:List Str}
theorem Z3w:wd (nd w hd ks)=w:=rfl
theorem Zfr {x:Str}:nm (nd w [.str x] ks)=x:=rfl
theorem Z8l (nk:∀k∈ks,L2.isTup k=true):Zmy (nd w hd ks)=ks.length:=by
 show(Z18 (.at (.str w)::(hd.map Th.at++ks))).length=_
 rw[Z42 nk]
theorem Zax (nk:∀k∈ks,L2.isTup k=true)(hw:w≠"let"):Z2d (nd w hd ks) B=(nd w hd ks,Z36 (nd w hd ks) B)::(ks.map fun k=>Z2d k B).flatten:=by
 unfold nd
 rw[Z2d,Z75,Z4g,decide_eq_false hw,Z76,Z42 nk]
theorem Z8m {x:Str}{a b:Th}(ha:L2.isTup a=true)(hb:L2.isTup b=true):Z2d (nd "let" [.str x] [a,b]) B=(nd "let" [.str x] [a,b],-1)::(Z2d a B++Z2d b (B ++ [x])):=by
 have e:Z36 (nd "let" [.str x] [a,b]) B = -1:=by
  unfold Z36
  rw[Z3w,if_neg (fun q=>absurd q.1 (by decide+kernel))]
 have h:=e
 unfold nd at h ⊢
 rw[Z2d,Z75,Z4g,h,Z42 (Z21 ha hb)]
 have hn:nm (.tup (.at (.str "let")::(([.str x]:List V).map Th.at ++ [a,b])))=x:=rfl
 rw[hn]
 simp [Z9w]
theorem Z8n (nk:∀k∈ks,L2.isTup k=true)(hw:w≠"let"):shT num (nd w hd ks) B = .tup (shH num (nd w hd ks) (Z36 (nd w hd ks) B)++ks.map fun k=>shT num k B):=by
 unfold nd
 rw[shT,Zfo,Z4g,decide_eq_false hw,Zfp,Z42 nk]
theorem Z77 {x:Str}{a b:Th}(ha:L2.isTup a=true)(hb:L2.isTup b=true):shT num (nd "let" [.str x] [a,b]) B = .tup [.at (.str "let"),shT num a B,shT num b (B ++ [x])]:=by
 have e:shH num (nd "let" [.str x] [a,b]) (Z36 (nd "let" [.str x] [a,b]) B) = [.at (.str "let")]:=by
  unfold shH
  rw[Z3w,if_neg (by decide+kernel),if_neg (fun q=>absurd q.1 (by decide+kernel)),if_pos rfl]
 have h:=e
 unfold nd at h ⊢
 rw[shT,Zfo,Z4g,h,Z42 (Z21 ha hb)]
 have hn:nm (.tup (.at (.str "let")::(([.str x]:List V).map Th.at ++ [a,b])))=x:=rfl
 rw[hn]
 simp [shK]
theorem Zdm (nk:∀k∈ks,L2.isTup k=true)(hw:w≠"let"):frT (nd w hd ks) B=frO (nd w hd ks) B++(ks.map fun k=>frT k B).flatten:=by
 unfold nd
 rw[frT,Zau,Z4g,decide_eq_false hw,Zfq,Z42 nk]
theorem Z9x {x:Str}{a b:Th}(ha:L2.isTup a=true)(hb:L2.isTup b=true):frT (nd "let" [.str x] [a,b]) B=frT a B++frT b (B ++ [x]):=by
 have e:frO (nd "let" [.str x] [a,b]) B = []:=by
  unfold frO
  rw[Z3w,if_neg]
  rintro(q|q)
  ·exact absurd q (by decide+kernel)
  ·exact absurd q.1 (by decide+kernel)
 have h:=e
 unfold nd at h ⊢
 rw[frT,Zau,Z4g,h,Z42 (Z21 ha hb)]
 have hn:nm (.tup (.at (.str "let")::(([.str x]:List V).map Th.at ++ [a,b])))=x:=rfl
 rw[hn]
 simp [frK]
end
theorem PfT.cases {S:SS}{n:Nat}{t:Th}(h:PfT S (n+1) t):(∃x a b,t=nd "let" [.str x] [a,b]/\NmU S x/\PfT S n a/\PfT S n b) ∨
  ∃w hd ks,t=nd w hd ks/\w≠"let"/\Sh S w hd ks.length/\hd.length<=1/\ks.length<=6/\∀k∈ks,PfT S n k:=by
 obtain⟨w,hd,ks,rfl,h1,h2,h3,h4,h5,h6⟩:=h
 by_cases hw:w="let"
 ·left
  have sh:=h4.sh
  obtain⟨⟨x,rfl⟩,hl⟩:=h3 hw
  match ks,hl,h6 with
  |[a,b],_,h6=>
   subst hw
   refine⟨x,a,b,rfl,?_,h6 a (by simp),h6 b (by simp)⟩
   generalize [a,b].length=m at sh
   cases sh with
   |lt h=>exact h
 ·exact .inr ⟨w,hd,ks,rfl,hw,h4.sh,h1,h5,h6⟩
theorem Zfs {S:SS}:∀(n:Nat) {t:Th},PfT S n t->OkN n t:=by
 intro n
 induction n with
 |zero=>intro t h;exact h.elim
 |succ n ih=>
  intro t h
  obtain⟨w,hd,ks,rfl,h1,h2,h3,h4,h5,h6⟩:=h
  have nk:∀k∈ks,L2.isTup k=true:=fun k hk=>(h6 k hk).isTup
  refine⟨w,hd.map Th.at++ks,rfl,fun e=>?_,fun e=>?_,fun x hx=>?_,fun x hx ht=>?_⟩
  ·rw[Z43 nk];exact(h3 e).2
  ·have:∃x:Str,hd = [.str x]:=by
    rcases e with q|q|q
    ·exact(h3 q).1
    ·exact h4.st (.inr q)
    ·exact h4.st (.inl q)
   obtain⟨x,rfl⟩:=this
   exact⟨x,ks,rfl⟩
  ·rcases mem_append.mp hx with z|z
   ·obtain⟨v,_,rfl⟩:=mem_map.mp z
    exact .inr ⟨v,rfl⟩
   ·exact .inl (nk x z)
  ·rcases mem_append.mp hx with z|z
   ·obtain⟨v,_,rfl⟩:=mem_map.mp z
    cases ht
   ·exact ih (h6 x z)
def Zce (num:Str->Int)(q:Th×Int):Th:=.tup [.tup (shP num q.1 q.2),.at (.int (Zmy q.1:Nat))]
def Z8o (num:Str->Int)(q:Th×Int):Th:=.tup [.tup (shH num q.1 q.2),.at (.int (Zmy q.1:Nat))]
def bst:Th->List Th->Option (List Th)
 | .tup [.tup ls,.at (.int m)],D=>if m.toNat<=D.length then some (D.take (D.length-m.toNat) ++ [.tup (ls++(D.drop (D.length-m.toNat)).reverse)]) else none
 |_,_=>none
def Zi7 (R:List Th)(x:Option (List Th)):Option (List Th):=R.foldr (fun row acc=>acc.bind (bst row)) x
theorem Zcf (A B:List Th)(x:Option (List Th)):Zi7 (A++B) x=Zi7 A (Zi7 B x):=by
 unfold Zi7;rw[List.foldr_append]
theorem Z9y (a:Th)(B:List Th)(x:Option (List Th)):Zi7 (a::B) x=(Zi7 B x).bind (bst a):=rfl
theorem Zft (ls D K:List Th)(m:Nat)(hm:K.length=m):bst (.tup [.tup ls,.at (.int (m:Nat))]) (D++K.reverse)=some (D ++ [.tup (ls++K)]):=by
 unfold bst
 dsimp only
 rw[Int.toNat_natCast,length_append,length_reverse,hm,if_pos (by omega),show D.length+m-m=D.length by omega,List.take_left,List.drop_left,List.reverse_reverse]
theorem Z9z {S:SS}{num:Str->Int}:∀(n:Nat) {t:Th},PfT S n t->∀(B:List Str) (D:List Th),Zi7 ((Z2d t B).map (Z8o num)) (some D)=some (D ++ [shT num t B]):=by
 intro n
 induction n with
 |zero=>intro t h;exact h.elim
 |succ n ih=>
  intro t h B D
  rcases h.cases with ⟨x,a,b,rfl,_,ha,hb⟩|⟨w,hd,ks,rfl,hw,sh,h1,h5,h6⟩
  ·rw[Z8m ha.isTup hb.isTup,Z77 ha.isTup hb.isTup,map_cons,Z9y,map_append,Zcf,ih hb,ih ha]
   have e:Z8o num (nd "let" [.str x] [a,b],-1) = .tup [.tup [.at (.str "let")],.at (.int (2:Nat))]:=by
    unfold Z8o shH
    rw[Z3w,if_neg (by decide+kernel),if_neg (fun q=>absurd q.1 (by decide+kernel)),if_pos rfl]
    rw[Z8l (Z21 ha.isTup hb.isTup)]
    rfl
   rw[e]
   have:=Zft [.at (.str "let")] D [shT num a B,shT num b (B ++ [x])] 2 rfl
   simpa using this
  ·have nk:∀k∈ks,L2.isTup k=true:=fun k hk=>(h6 k hk).isTup
   rw[Zax nk hw,Z8n nk hw,map_cons,Z9y]
   have main:∀l:List Th,(∀k∈l,PfT S n k)->Zi7 (((l.map fun k=>Z2d k B).flatten).map (Z8o num)) (some D)=some (D++(l.map fun k=>shT num k B).reverse):=by
    intro l
    induction l with
    |nil=>intro _;simp [Zi7]
    |cons k l il=>
     intro hl
     rw[map_cons,flatten_cons,map_append,Zcf,il fun y hy=>hl y (mem_cons_of_mem _ hy),ih (hl k (mem_cons_self ..))]
     simp
   rw[main ks h6]
   have e:Zmy (nd w hd ks)=ks.length:=Z8l nk
   show bst (Z8o num (nd w hd ks,Z36 (nd w hd ks) B)) _=_
   unfold Z8o
   rw[e]
   exact Zft _ D _ _ (by rw[length_map])
end K13
namespace HT
open PySem PySem.Spec PyProof.Rows
end HT
namespace L2
open PySem PySem.Spec PyProof.Rows
end L2
namespace HT
open PySem PySem.Spec PyProof.Rows
theorem Za0:typeLookup (.type "list") "keys"=pure none:=by rw[typeLookup_type,builtinLookup_eq_fast];kernel_rfl
section
variable {prog:Program}{w:World}{A:Around}{E:Value->Shared->Prop}
theorem getAttrQ_miss_list {s:Shared}{a:Addr}{xs:Array Value}{k:Nat}{sl:Array (Option Value)}{Q:Option Value->Shared->Prop}
  (hx:s.heap.get? a=some { cls:=.type "list",dict:=none,data:=.seq xs k,slots:=sl }) (hA:A.handled=none)
  (h:∀h' tk,(∀b o,s.heap.get? b=some o->h'.get? b=some o)->Q none { s with heap:=h',toks:=tk }):
  wpAny (model prog w) A (getAttr? (.ref a) "keys") Q E s:=by
 obtain⟨hp,g,d,tk,os⟩:=s
 have hT:∀tk',(⟨hp,g,d,tk',os⟩:Shared).TypeIs (.ref a) "list":=fun _=>⟨_,hx,rfl⟩
 have f1:=sub_AttributeError
 have f3:=F.slot_list_getattribute.lookup
 have f4:=F.slot_list_getattribute.bind (.ref a)
 have f5:=am_list_getattr_none
 unfold getAttr? getAttrBy? getAttrBy
 repeat (any_goals (first|assumption|exact hT _ | ((with_reducible show wpAny _ _ (call (Value.builtin "list.__getattribute__") _ _) _ _ _);refine call_meets F.slot_list_getattribute (hT _) am_entry_list_getattribute (F.args_list_getattribute_2 _ _) (meets_getattribute_miss_list a xs k sl "keys" _ Za0 (by decide+kernel) (by decide+kernel)) ⟨hx,hA,fun h' tk' e hx'=>?_⟩)|wp_step))
 obtain⟨t',u',he⟩:=hx'.there
 show wpAny _ _ (getattributeRaised _ _ _ _ _ _ _) _ _ _
 unfold getattributeRaised
 repeat (any_goals (first|assumption|wp_step))
 exact h _ _ hx'.keeps
end
end HT
namespace L2
open PySem PySem.Spec PyProof.Rows PySem.Builtin
theorem Z4p : entryFor table "dict.update.loop" = some Builtin.«dict.update.loop» := entryFor_of_fast (by kernel_rfl)
theorem Z2j:plainId "dict.update.loop"=true:=by decide+kernel
def Z78:List (Key×V)->List (Str×V)->List (Key×V)
 |kvs,[]=>kvs
 |kvs,(x,v)::r=>Z78 (Z30 kvs (Sum.inr x) v) r
def Zfu (H:Hp)(ps:List V)(rows:List (Str×V)):Prop:=ps.length=rows.length/\∀(j:Nat) (y:V),ps[j]? = some y->∃q x v,y = .ref q/\rows[j]? = some (x,v)/\H q=some (.tup [.str x,v])
section
variable {X:Cx}{pins:List (Addr×Obj)}{σ:St}
theorem Zi8 {D it p:Addr}{ps:List V}{rows:List (Str×V)}{A:Around}(hA:A.handled=none){R:Result->Shared->Prop}{H0:Hp}
  (hp:SqL X.K H0 p ps) (hps:Zfu H0 ps rows) (nD:H0 D=none) (nit:it≠D) (npD:p≠D) (hz:rows.length<=1000)
  (hR:∀s' kvs',kvs'=Z78 [] rows->Inv X pins σ (upd H0 D (.dK kvs')) s'->R (.ok (.ret .none)) s'):
  ∀(k i:Nat) (s:Shared) (kvs:List (Key×V)) (u:Tok) (n:Int),ps.length-i=k->i<=ps.length->Inv X pins σ (upd H0 D (.dK kvs)) s->Z3x X pins (upd H0 D (.dK kvs)) it->s.heap.IsListIter it p i->Z78 kvs (rows.drop i)=Z78 [] rows->kvs.length<=i →
   codeAny (model X.prog X.w) A (.builtin "dict.update.loop" ⟨[.ref D,.ref it,.int n u,.none],[]⟩) R s:=by
 have hsz:sizeLine=16777216:=sizeLine_eq
 have hpU:∀kvs,SqL X.K (upd H0 D (.dK kvs)) p ps:=by
  intro kvs
  rcases hp with (h|h)|h
  ·exact .inl (.inl (by rw[Z09 npD];exact h))
  ·refine .inl (.inr ?_)
   obtain⟨c,h⟩:=h
   first
    |exact⟨c,by rw[Z09 npD];exact h⟩
    |exact⟨c,h⟩
  ·exact .inr h
 intro k
 induction k with
 |zero=>
  intro i s kvs u n hk hi I hf Z hall hkl
  have hin:i=ps.length:=by omega
  subst hin
  obtain⟨its,r,pl,_⟩:=I.list (hpU kvs)
  have hlen:=r.length
  refine codeAny_builtin Z4p ?_
  rw[Around.under_plainId Z2j _]
  show wpAny _ A.in1 (pyNext (.ref it) >>= _) _ _ s
  refine wpAny_bind (wpAny_pyNext_list_end (A:=A.in1) hA Z pl.isList (by simp;omega) fun h' kk=>?_)
  refine wpAny_bind (m:=Dict.addKeywords D []) (wpAny_pure (wpAny_pure (hR _ kvs ?_ (I.turnedL (t':=s.toks) (ch:=[it]) (fun b o hb e=>?_) (fun b hb=>?_)))))
  ·rw[<- hall,hps.1,List.drop_length]
   rfl
  ·simp only [mem_singleton] at hb
   exact kk b o hb e
  ·rw[mem_singleton] at hb
   rw[hb]
   exact hf
 |succ k ih=>
  intro i s kvs u n hk hi I hf Z hall hkl
  have hlt:i<ps.length:=by omega
  obtain⟨its,r,pl,_⟩:=I.list (hpU kvs)
  have hlen:=r.length
  have e1:ps[i]? = some ps[i]:=List.getElem?_eq_getElem hlt
  obtain⟨u1,f1,r1⟩:=r.get e1
  obtain⟨q,x,v,ey,hrow,hq⟩:=hps.2 i _ e1
  rw[ey] at r1
  cases r1
  have hqD:q≠D:=Z0e hq nD
  refine codeAny_builtin Z4p ?_
  rw[Around.under_plainId Z2j _]
  show wpAny _ A.in1 (pyNext (.ref it) >>= _) _ _ s
  refine wpAny_bind (wpAny_pyNext_list_item (A:=A.in1) Z pl.isList (x:=.ref q) (by simpa using f1) fun h' Z' kk=>?_)
  have I1:Inv X pins σ (upd H0 D (.dK kvs)) { s with heap:=h',toks:=s.toks }:=I.turnedL (ch:=[it]) (fun b o hb e=>by
   simp only [mem_singleton] at hb
   exact(kk.2 b hb).trans e) (fun b hb=>by rw[mem_singleton] at hb;rw[hb];exact hf)
  have hq1:upd H0 D (.dK kvs) q=some (.tup [.str x,v]):=by rw[Z09 hqD];exact hq
  obtain⟨its2,r2,ht,_⟩:=I1.tuple (SqT.of hq1)
  cases r2 with
  |cons rx r3=>
   cases r3 with
   |cons rv r4=>
    cases r4
    obtain⟨o,ho,hc,m,hd⟩:=id ht
    obtain⟨zk,hdm,vs,rel,dd⟩:=Zee I1.hok (a:=D) (by rw[Z00])
    refine wpAny_bind (wpAny_holding (wpAny_bind (wpAny_tryCatch ?_)))
    unfold Dict.pairItems
    refine wpAny_bind (wpAny_typeOf ht.typeIs ?_)
    rw[if_pos (by decide)]
    refine wpAny_bind (wpAny_seqItems ho hd (wpAny_pure ?_))
    refine wpAny_holding (wpAny_dictSet_pairs (knd:=Z0w X.prog X.w) (k:=Sum.inr x) (Z9c rx) dd (fun h2 dd2 hs2=>?_) (by rw[<- rel.length];have:=hps.1;omega))
    have hl2:(Z30 kvs (Sum.inr x) v).length<=i+1:=by have:=Z1g kvs (Sum.inr x) v;omega
    have he:∃q,h2.get? D=some q:=let ⟨q,_,_,hq,_⟩:=dd2;⟨q,hq⟩
    have I2:=Z6g (t':=s.toks+1) I1 (a:=D) (ob:=.dK (Z30 kvs (Sum.inr x) v)) (by rw[Z00];exact True.intro) hs2 he (Z7n (by have e9:=hps.1;have e8:=hlt;rw[hsz];omega) hdm (rel.put (Sum.inr x) rv) dd2)
    have eu:upd (upd H0 D (.dK kvs)) D (.dK (Z30 kvs (Sum.inr x) v))=upd H0 D (.dK (Z30 kvs (Sum.inr x) v)):=by
     funext c
     by_cases hc:c=D
     ·rw[hc,Z00,Z00]
     ·rw[Z09 hc,Z09 hc,Z09 hc]
    rw[eu] at I2
    refine wpAny_pure ⟨plainId_quiet Z2j _,?_⟩
    refine ih (i+1) _ _ _ _ (by omega) hlt I2 ?_ ?_ ?_ hl2
    ·refine⟨?_,hf.2⟩
     have:=hf.1
     rw[Z09 nit] at this ⊢
     exact this
    ·obtain⟨oi,hoi,hci,hdi⟩:=Z'
     exact⟨oi,(hs2.2 it nit).trans hoi,hci,hdi⟩
    ·have hir:i<rows.length:=by have:=hps.1;omega
     have e9:rows.drop i=(x,v)::rows.drop (i+1):=by
      rw[List.drop_eq_getElem_cons hir]
      have h1:=List.getElem?_eq_getElem hir
      rw[hrow] at h1
      rw[<- Option.some.inj h1]
     rw[<- hall,e9]
     rfl
theorem Z79 (hc:X.calm=true):Z3l X (.type "dict") (fun xs H Q=>∃(p:Addr) (ps:List V) (rows:List (Str×V)),xs = [.ref p]/\H p=some (.lst ps)/\Zfu H ps rows/\rows.length<=1000/\∀a,H a=none->Q (.ref a) (upd H a (.dK (Z78 [] rows)))):=by
 intro pins s σ H xs us Q I r h
 obtain⟨p,ps,rows,rfl,hp,hps,hz,q⟩:=h
 obtain⟨u,rfl,rx⟩:=Z6c r
 cases rx
 refine callType_codes (Q₁:=fun obj s₁=>obj = .ref s.heap.objs.size/\s₁={ s with heap:=s.heap.push { cls:=.type "dict",data:=.dict #[] } }) F.kt_called_dict (F.kt_typeCall_dict_1 _) F.entry_dict_init (kt_code_dict_new _ ⟨rfl,rfl⟩) ?_
 rintro obj s₁ ⟨rfl,rfl⟩
 have hnew:(s.heap.push { cls:=.type "dict",data:=.dict #[] }).DictOf (Z0w X.prog X.w) s.heap.objs.size []:=Heap.DictOf.new s.heap
 have hD0:H s.heap.objs.size=none:=I.fresh
 have hpD:p≠s.heap.objs.size:=Z0e hp hD0
 have I1:Inv X pins σ (upd H s.heap.objs.size (.dK [])) { s with heap:=s.heap.push { cls:=.type "dict",data:=.dict #[] },toks:=s.toks }:=
  I.laid (fun b ob e=>Heap.get?_push_of_some _ e) (Nat.le_refl _) (Z8b s.heap I.big)
 have hp1:upd H s.heap.objs.size (.dK []) p=some (.lst ps):=by rw[Z09 hpD];exact hp
 obtain⟨zz,its,n,rv,hll,hget⟩:=I1.lstM hp1
 refine⟨hnew.typeIs,F.args_dict_init_2 _ _,?_⟩
 unfold Builtin.«dict.__init__»
 refine wpAny_bind ?_
 unfold Builtin.Dict.selfAndRest
 refine wpAny_bind (wpAny_notOrdered_dict hnew.typeIs ?_)
 show wpAny _ _ (pure (s.heap.objs.size,[Value.ref p])) _ _ _
 refine wpAny_pure ?_
 show wpAny _ _ (Builtin.Dict.updateFrom "dict.__init__" s.heap.objs.size (.ref p) [] .none) _ _ _
 unfold Builtin.Dict.updateFrom
 refine wpAny_bind (wpAny_typeOf (T:="list") ⟨_,hget,rfl⟩ ?_)
 rw[if_pos (by decide)]
 refine wpAny_bind (HT.getAttrQ_miss_list (s:={ s with heap:=s.heap.push { cls:=.type "dict",data:=.dict #[] },toks:=s.toks }) hget (I.ok.hd hc) fun h' tk kk=>?_)
 rw[if_pos (by decide)]
 refine wpAny_bind (wpAny_rule ?_)
 have I2:Inv X pins σ (upd H s.heap.objs.size (.dK [])) { s with heap:=h',toks:=tk }:=I1.kept (t':=tk) kk
 obtain⟨its2,rv2,pl2,_⟩:=I2.list (SqL.of hp1)
 refine wpAny_bind (wpAny_pyIter_list pl2.isList ?_)
 have I3:Inv X pins σ (upd H s.heap.objs.size (.dK [])) { s with heap:=h'.push { cls:=.type "list_iterator",data:=.fields #[.ref p,.int 0 0] },toks:=tk }:=I2.kept (t':=tk) fun b o e=>Heap.get?_push_of_some _ e
 have hlt:s.heap.objs.size<h'.objs.size:=by
  obtain⟨o,es,ep,ho,_⟩:=hnew
  exact Heap.lt_size (kk _ _ ho)
 refine wpAny_pure ⟨plainId_quiet Z2j _,?_⟩
 refine Zi8 (H0:=H) (D:=s.heap.objs.size) (it:=h'.objs.size) (p:=p) (A:=X.A.in1) (I.ok.hd hc) (SqL.of hp) hps hD0 (Nat.ne_of_gt hlt) hpD hz (fun s' kvs' ek I'=>⟨rfl,.ref s.heap.objs.size,_,I',rfl,by rw[ek];exact q _ hD0⟩) _ 0 _ [] _ _ rfl (Nat.zero_le _) I3 ?_ ?_ rfl (Nat.le_refl _)
 ·refine I2.fpOk (Nat.le_refl _) ?_
  exact I2.hok.fresh (Nat.le_refl _)
 ·exact⟨_,Heap.get?_push_size _ rfl,rfl,rfl⟩
end
end L2
namespace L2
open PySem PySem.Spec PyProof.Rows
section
variable {prog:Program}{w:World}{A:Around}{E:Value->Shared->Prop}{R:Result->Shared->Prop}{s:Shared}
theorem Z8p {kx vx target iter:Expr}{ifs:List Expr}{scope:Scope}{pos:Pos}{it:Value}{D:Addr}{env:Env}(I:Nat->Shared->Prop)
  (turn:∀n s,I n s->wpAny (model prog w) A (pyNext it) (fun r s1=>match r with
   |none=>R (.ok .next) s1
   |some v=>wpAny (model prog w) A (letOwnedTupleGo target it v) (fun _ s1'=>wpAny (model prog w) A (assign target env v) (fun _ s2=>
     wpAny (model prog w) A (forIn ifs true fun c r=>if r=true then do let ok ← isTrue c env (eval c env);pure (ForInStep.yield ok) else pure (ForInStep.yield r)) (fun ok s3=>
      if ok=true then wpAny (model prog w) A (eval kx env) (fun kv s4=>wpAny (model prog w) A (eval vx env) (fun vv s5=>
       wpAny (model prog w) A (dictSet D kv vv) (fun _ s6=>∃m,m<n/\I m s6) (fun _ _=>False) s5) (fun _ _=>False) s4) (fun _ _=>False) s3
      else ∃m,m<n/\I m s3) (fun _ _=>False) s2) (fun _ _=>False) s1') (fun _ _=>False) s1) (fun _ _=>False) s)
  (n:Nat) (h:I n s):
  codeAny (model prog w) A (.compLoop (.DictComp kx vx [⟨target,iter,ifs,0⟩] scope pos) 0 it (.ref D) env) R s:=by
 refine codeAny_loop rfl I (fun n s hI=>?_) n h
 show wpAny _ A ((compTurn (.DictComp kx vx [⟨target,iter,ifs,0⟩] scope pos) 0 it (.ref D) env).onRaise (fun x=>do noteFrame x env;theTreesLotGoes x)) _ _ s
 refine wpAny_noted ?_
 rw[compTurn_dict]
 refine wpAny_bind (wpAny_standAt (wpAny_bind (wpAny_mono (turn n s hI) (fun r s₁ h₁=>?_) fun _ _ h'=>h'.elim)))
 cases r with
 |none=>exact wpAny_pure h₁
 |some v=>
  refine wpAny_bind (wpAny_mono h₁ (fun _ s1' h1'=>?_) fun _ _ h'=>h'.elim)
  refine wpAny_bind (wpAny_mono h1' (fun _ s₂ h₂=>wpAny_bind (wpAny_mono h₂ (fun ok s₃ h₃=>?_) fun _ _ h'=>h'.elim)) fun _ _ h'=>h'.elim)
  cases ok with
  |false=>exact wpAny_pure ⟨rfl,h₃⟩
  |true=>
   exact wpAny_bind (wpAny_bind (wpAny_mono h₃ (fun kv s₄ h₄=>wpAny_bind (wpAny_holding (wpAny_mono h₄ (fun vv s₅ h₅=>wpAny_bind (wpAny_standAt (wpAny_holding (wpAny_mono h₅ (fun _ s₆ h₆=>wpAny_pure ⟨rfl,h₆⟩) fun _ _ h'=>h'.elim)))) fun _ _ h'=>h'.elim))) fun _ _ h'=>h'.elim))
end
def Zmz (src:List (Option Nat))(wi:TI)(g:TG)(tt:TT)(tk tv:TE):TE:=fun σ H Q=>wi σ H fun J H1=>∃W:Nat->Nat->List (Key×V)->St->Hp->Prop,(∃m,W 0 m [] (Zen src σ) H1)/\∀i m kvs σc H,W i m kvs σc H →
 (J.stop i H/\∀l,H l=none->Q (.ref l) (upd H l (.dK kvs))) ∨
 (J.go i H/\kvs.length<sizeLine/\∀x H',J.yld i H x H'->g x σc H' fun σ2 H2=>tt σ2 H2 fun b H3=>
  if b=true then tk σ2 H3 fun kv H4=>tv σ2 H4 fun vv H5=>∃y:Str,kv = .str y/\∃m',m'<m/\W (i+1) m' (Z30 kvs (Sum.inr y) vv) σ2 H5 else ∃m',m'<m/\W (i+1) m' kvs σ2 H3)
section
variable {X:Cx}{kx vx tg iter:Expr}{ifs:List Expr}{scope:Scope}{pos:Pos}{N':List Str}{src:List (Option Nat)}{wi:TI}{g:TG}{tt:TT}{tk tv:TE}
theorem Zay {cl:List (Str×Addr)}{C D:Addr}{fp:List Addr}{pins pinsY:List (Addr×Obj)}{σ σc:St}{H H':Hp}{s3 s4:Shared}{h':Heap}{kvs:List (Key×V)}{vs:List (Key×Value)}(I3:Inv X pins σ H s3)(hC:C=s3.heap.objs.size)
  (hf:∀b∈D::fp,Z3x X pins H b) (hlt:∀b∈D::fp,b<s3.heap.objs.size) (IY:Inv (Z1e X N' scope cl C (D::fp) s3 H) pinsY σc H' s4) (hD:H' D=none) (dd:s4.heap.DictOf (Z0w X.prog X.w) D vs) (rv:KV kvs vs) (hz:kvs.length<=sizeLine) (hdm:(D==sysModules)=false)
  (hs:Heap.SameBut C s4.heap h'):Inv X pins σ (upd H' D (.dK kvs)) { s4 with heap:=h' }:=by
 have J:Inv X pins σ H' s4:=I3.call' IY.os IY.base IY.hok IY.bare (ch:=D::fp) fun b hb=>⟨(hf b hb).2.2.2.1,(hf b hb).2.1,(hf b hb).2.2.2.2.1,(hf b hb).2.2.2.2.2⟩
 have fC:Z3x X pins H' C:=I3.fpOk (Nat.le_of_eq hC.symm) IY.free
 have J2:Inv X pins σ H' { s4 with heap:=h' }:=J.turned (t':=s4.toks) (fun b o hb e=>(hs.2 b hb).trans e) fC.1 fC.2.1 fC.2.2.2.1 fC.2.2.2.2.1 fC.2.2.2.2.2
 have hDC:D≠C:=by rw[hC];exact Nat.ne_of_lt (hlt D mem_cons_self)
 have fD:=hf D mem_cons_self
 exact J2.track ⟨hD,fD.2⟩ (Z7n hz hdm rv (dd.sameBut hs hDC))
theorem Zfv {cl:List (Str×Addr)}{C D it:Addr}{fp:List Addr}{tn:Nat->Heap->Prop}{J:It}{pins:List (Addr×Obj)}{σ σ0:St}{H:Hp}{s3 s4:Shared}{R:Result->Shared->Prop}{W:Nat->Nat->List (Key×V)->St->Hp->Prop}{m0:Nat}{Q:List (Key×V)->Hp->Prop}
  (hc:X.calm=true) (T:Turn X.prog X.w X.K tg J fp it tn) (I3:Inv X pins σ H s3) (hC:C=s3.heap.objs.size)
  (hf:∀b∈D::fp,Z3x X pins H b) (hlt:∀b∈D::fp,b<s3.heap.objs.size) (hDf:D∉fp) (IY:Inv (Z1e X N' scope cl C (D::fp) s3 H) [] σ0 H s4) (st:tn 0 s4.heap) (dd0:s4.heap.DictOf (Z0w X.prog X.w) D [])
  (hg:PG (Z1e X N' scope cl C (D::fp) s3 H) tg g) (ht:PTs (Z1e X N' scope cl C (D::fp) s3 H) ifs tt) (hk:PE (Z1e X N' scope cl C (D::fp) s3 H) kx tk) (he:PE (Z1e X N' scope cl C (D::fp) s3 H) vx tv) (w0:W 0 m0 [] σ0 H)
  (turn:∀i m kvs σc H,W i m kvs σc H->(J.stop i H/\Q kvs H)∨(J.go i H/\kvs.length<sizeLine/\∀x H',J.yld i H x H'->g x σc H' fun σ2 H2=>tt σ2 H2 fun b H3=>
   if b=true then tk σ2 H3 fun kv H4=>tv σ2 H4 fun vv H5=>∃y:Str,kv = .str y/\∃m',m'<m/\W (i+1) m' (Z30 kvs (Sum.inr y) vv) σ2 H5 else ∃m',m'<m/\W (i+1) m' kvs σ2 H3))
  (fin:∀s5 σc H' kvs vs pinsY,Inv (Z1e X N' scope cl C (D::fp) s3 H) pinsY σc H' s5->H' D=none->s5.heap.DictOf (Z0w X.prog X.w) D vs->KV kvs vs->kvs.length<=sizeLine->Q kvs H'->R (.ok .next) s5):
  codeAny (model X.prog X.w) X.A (.compLoop (.DictComp kx vx [⟨tg,iter,ifs,0⟩] scope pos) 0 (.ref it) (.ref D) (compEnvC scope cl C X.env)) R s4:=by
 have eY:(Z1e X N' scope cl C (D::fp) s3 H).env=compEnvC scope cl C X.env:=rfl
 generalize hY:Z1e X N' scope cl C (D::fp) s3 H=Y at *
 have e1:Y.prog=X.prog:=by rw[<- hY];rfl
 have e2:Y.w=X.w:=by rw[<- hY];rfl
 have e3:Y.K=X.K:=by rw[<- hY];rfl
 have e4:Y.A=X.A:=by rw[<- hY];rfl
 have e5:Y.calm=true:=by rw[<- hY];exact hc
 have e6:Y.xe=fun _ _=>False:=by rw[<- hY];rfl
 have e7:Y.env.locals=C:=by rw[eY];rfl
 have e8:Y.ex=D::fp:=by rw[<- hY];rfl
 have e9:Y.pn = []:=by rw[<- hY];rfl
 have e10:Y.fs=frs X.stack:=by rw[<- hY];rfl
 have e11:∀x c,Y.env.cells.lookup x=some c->∀b∈D::fp,c≠b:=fun x c e b hb=>(IY.ok.exf b (by rw[e8];exact hb)).2 x c e
 have nst:∀b∈D::fp,b∉Y.fs:=fun b hb=>IY.ok.exfs b (by rw[e8];exact hb)
 have fpY:∀(pinsY:List (Addr×Obj)) (H':Hp),(∀p∈pinsY,p.1=D)->∀b∈fp,H' b=none->Z3x Y pinsY H' b:=fun pinsY H' hp b hb hn=>
  ⟨hn,by rw[e7,hC];exact Nat.ne_of_lt (hlt b (mem_cons_of_mem _ hb)),nst b (mem_cons_of_mem _ hb),.inl (by rw[e8];exact mem_cons_of_mem _ hb),fun x c e=>e11 x c e b (mem_cons_of_mem _ hb),fun p hp' z=>by
   rw[e9,nil_append] at hp'
   have q:=hp p hp'
   rw[z] at q
   rw[q] at hb
   exact hDf hb⟩
 have fpD:∀(pinsY:List (Addr×Obj)) (H':Hp),(∀p∈pinsY,p.1≠D)->H' D=none->Z3x Y pinsY H' D:=fun pinsY H' hp hn=>
  ⟨hn,by rw[e7,hC];exact Nat.ne_of_lt (hlt D mem_cons_self),nst D mem_cons_self,.inl (by rw[e8];exact mem_cons_self),fun x c e=>e11 x c e D mem_cons_self,fun p hp'=>by
   rw[e9,nil_append] at hp'
   exact hp p hp'⟩
 have T':Turn Y.prog Y.w Y.K tg J fp it tn:=by rw[e1,e2,e3];exact T
 rw[<- eY,<- e1,<- e2,<- e4]
 refine Z8p (fun n s'=>∃i kvs vs σc H',Inv Y [] σc H' s'/\tn i s'.heap/\(∀b∈fp,H' b=none)/\H' D=none/\s'.heap.DictOf (Z0w X.prog X.w) D vs/\KV kvs vs/\kvs.length<=sizeLine/\W i n kvs σc H') ?_ m0
  ⟨0,[],[],σ0,H,IY,st,fun b hb=>(hf b (mem_cons_of_mem _ hb)).1,(hf D mem_cons_self).1,dd0,.nil,Nat.zero_le _,w0⟩
 rintro n s5 ⟨i,kvs,vs,σc,H5,I5,st5,fr5,hD5,dd5,rv5,hz5,w5⟩
 obtain⟨ob,hob,hdo⟩:=Heap.dictOf_iff.mp dd5
 have hnc:∀v,ob.data ≠ .cell v:=fun v z=>by
  obtain⟨o',es,ep,h1,h2,h3,_⟩:=id dd5
  rw[hob] at h1
  cases h1
  rw[h3] at z
  cases z
 have I5':Inv Y [(D,ob)] σc H5 s5:=I5.pins_of fun p hp=>by
  rw[mem_singleton] at hp
  subst hp
  exact⟨hob,hD5,by rw[e7,hC];exact Nat.ne_of_lt (hlt D mem_cons_self),nst D mem_cons_self,fun v z=>hnc v z⟩
 have f5:∀b∈fp,Z3x Y [(D,ob)] H5 b:=fun b hb=>fpY _ _ (fun p hp=>by rw[mem_singleton] at hp;rw[hp]) b hb (fr5 b hb)
 rcases turn i n kvs σc H5 w5 with ⟨stop,q⟩|⟨go,hz,step⟩
 ·refine thn (T'.done Y rfl rfl rfl e5 i _ s5 σc H5 (fun _ _=>False) I5' f5 st5 stop) fun r s6 ⟨hr,I6⟩=>?_
  subst hr
  exact fin s6 σc H5 kvs vs _ I6 hD5 (Heap.dictOf_iff.mpr ⟨ob,(I6.pin (D,_) (mem_append_right _ mem_cons_self)).1,hdo⟩) rv5 hz5 q
 ·refine thn (T'.item Y rfl rfl rfl e5 i _ s5 σc H5 (fun _ _=>False) I5' f5 st5 go) fun r s6 ⟨u,hr,h6⟩=>?_
  subst hr
  refine thn h6 fun _ s7 ⟨x,H7,I7,r7,y7,st7,fr7⟩=>?_
  have f7:∀b∈fp,Z3x Y [(D,ob)] H7 b:=fun b hb=>fpY _ _ (fun p hp=>by rw[mem_singleton] at hp;rw[hp]) b hb (fr7 b hb)
  have I7':=I7.pinned f7 (T.obj _ _ st7)
  have hx:=hg _ s7 σc H7 x u _ I7' r7 (step x H7 y7)
  rw[e6] at hx
  refine thn hx fun _ s8 ⟨σ8,H8,I8,q8⟩=>?_
  have hx2:=ht _ s8 σ8 H8 _ I8 q8
  rw[e6] at hx2
  have keepT:∀{σ9:St} {H9:Hp} {s9:Shared},Inv Y ([(D,ob)]++Z7k fp s7.heap) σ9 H9 s9->tn (i+1) s9.heap/\(∀b∈fp,H9 b=none)/\H9 D=none/\s9.heap.get? D=some ob:=fun {σ9 H9 s9} I9=>by
   have pD:=I9.pin (D,_) (mem_append_right _ (mem_append_left _ mem_cons_self))
   refine⟨T.keep _ _ _ st7 fun b hb o e=>(I9.pin (b,o) (mem_append_right _ (mem_append_right _ (Z2u hb e)))).1,fun b hb=>?_,pD.2.1,pD.1⟩
   obtain⟨o,e,d⟩:=T.obj _ _ st7 b hb
   exact(I9.pin (b,o) (mem_append_right _ (mem_append_right _ (Z2u hb e)))).2.1
  refine thn hx2 fun ok s9 ⟨H9,I9,q9⟩=>?_
  cases ok with
  |false=>
   rw[if_neg Bool.false_ne_true] at q9
   rw[if_neg Bool.false_ne_true]
   obtain⟨m',hm,w9⟩:=q9
   obtain⟨k1,k2,k3,k4⟩:=keepT I9
   exact⟨m',hm,i+1,kvs,vs,σ8,H9,I9.pins_of (fun p hp=>nomatch hp),k1,k2,k3,Heap.dictOf_iff.mpr ⟨ob,k4,hdo⟩,rv5,hz5,w9⟩
  |true=>
   rw[if_pos rfl] at q9
   rw[if_pos rfl]
   have hx3:=hk _ s9 σ8 H9 _ I9 q9
   rw[e6] at hx3
   refine thn hx3 fun kv s10 ⟨ky,H10,I10,rk,q10⟩=>?_
   have hx4:=he _ s10 σ8 H10 _ I10 q10
   rw[e6] at hx4
   refine thn hx4 fun vv s11 ⟨vy,H11,I11,rvv,y,ey,m',hm,w11⟩=>?_
   subst ey
   obtain⟨k1,k2,k3,k4⟩:=keepT I11
   have hl:=rv5.length
   rw[e1,e2]
   refine wpAny_dictSet_pairs (knd:=Z0w X.prog X.w) (k:=Sum.inr y) (Z9c rk) (Heap.dictOf_iff.mpr ⟨ob,k4,hdo⟩) (fun h' dd' sb=>?_) (by rw[<- hl];exact hz5)
   have fD:=fpD [] H11 (fun p hp=>nomatch hp) k3
   have I12:Inv Y [] σ8 H11 { s11 with heap:=h',toks:=s11.toks+1 }:=(I11.pins_of (pins':=[]) fun p hp=>nomatch hp).turned (t':=s11.toks+1) (fun b o hb e=>(sb.2 b hb).trans e) fD.1 fD.2.1 fD.2.2.2.1 fD.2.2.2.2.1 fD.2.2.2.2.2
   refine⟨m',hm,i+1,Z30 kvs (Sum.inr y) vy,stored vs (Sum.inr y) vv,σ8,H11,I12,T.keep _ _ _ k1 (fun b hb o e=>(sb.2 b ?_).trans e),k2,k3,dd',rv5.put (Sum.inr y) rvv,?_,w11⟩
   ·intro z;rw[z] at hb;exact hDf hb
   ·have:=Z1g kvs (Sum.inr y) vy
    omega
end
section
variable {X:Cx}{kx vx tg iter:Expr}{ifs:List Expr}{scope:Scope}{pos:Pos}{N':List Str}{src:List (Option Nat)}{wi:TI}{g:TG}{tt:TT}{tk tv:TE}
theorem Zi9 (hc:X.calm=true)(S:CompScope X scope N' src)(hi:PI X tg iter wi)
  (hb:∀cl C ex s0 H0,PG (Z1e X N' scope cl C ex s0 H0) tg g/\PTs (Z1e X N' scope cl C ex s0 H0) ifs tt/\PE (Z1e X N' scope cl C ex s0 H0) kx tk/\PE (Z1e X N' scope cl C ex s0 H0) vx tv)
  (hs:∀x,foldedSetIterable iter X.env x=pure x:=by intro _;rfl):PE X (.DictComp kx vx [⟨tg,iter,ifs,0⟩] scope pos) (Zmz src wi g tt tk tv):=by
 intro pins s σ H Q I h
 obtain⟨cl,hclos,hcl1,hcl2⟩:=Z5h (scope:=scope) (env:=X.env) fun n hn=>I.ok.has n (S.fr n hn)
 rw[arm_eval_DictComp]
 show wpAny _ _ (comprehension (.DictComp kx vx [⟨tg,iter,ifs,0⟩] scope pos) scope X.env _ newDict false (eval iter X.env)) _ _ s
 refine wpAny_comprehension_free (use:=none) rfl hs hclos S.kind S.names ?_
 refine thn (hi pins s σ H _ I h) fun v s1 h1=>thn h1 fun itv s2 h2=>?_
 obtain⟨it,fp,tn,J,H2,e,I2,T,st2,f2,W,⟨m0,w0⟩,turn⟩:=h2
 subst e
 refine wpAny_newObj_type (wpAny_newFunctionEnv S.cell (by intro y hy;simp at hy) (fun h₁ hns₁ hsb₁=>?_) S.kind)
 dsimp only at hns₁ hsb₁ ⊢
 generalize hH3:s2.heap.push { cls:=.type "dict",data:=.dict #[] }=H3 at hns₁ hsb₁ ⊢
 have hsz:H3.objs.size=s2.heap.objs.size+1:=by rw[<- hH3,Heap.size_push]
 have I3:Inv X pins σ H2 { s2 with heap:=H3 }:=I2.kept (t':=s2.toks) fun b o e=>by rw[<- hH3];exact Heap.get?_push_of_some _ e
 have fD:Z3x X pins H2 s2.heap.objs.size:=I2.fpOk (Nat.le_refl _) (I2.hok.fresh (Nat.le_refl _))
 have hDf:s2.heap.objs.size∉fp:=fun hm=>by
  obtain⟨o,e,_⟩:=T.obj 0 _ st2 _ hm
  exact Nat.lt_irrefl _ (Heap.lt_size e)
 have hf:∀b∈s2.heap.objs.size::fp,Z3x X pins H2 b:=fun b hb=>by
  rcases mem_cons.mp hb with z|z
  ·rw[z];exact fD
  ·exact f2 b z
 have hlt:∀b∈s2.heap.objs.size::fp,b<H3.objs.size:=fun b hb=>by
  rcases mem_cons.mp hb with z|z
  ·rw[z,hsz];exact Nat.lt_succ_self _
  ·obtain⟨o,e,_⟩:=T.obj 0 _ st2 b z
   rw[hsz];exact Nat.lt_succ_of_lt (Heap.lt_size e)
 have kp:∀b o,H3.get? b=some o->h₁.get? b=some o:=fun b o e=>hsb₁.extBut b o (Nat.ne_of_lt (Heap.lt_size e)) (Heap.get?_push_of_some _ e)
 have kp0:∀b o,s2.heap.get? b=some o->h₁.get? b=some o:=fun b o e=>kp b o (by rw[<- hH3];exact Heap.get?_push_of_some _ e)
 have hacc:h₁.DictOf (Z0w X.prog X.w) s2.heap.objs.size []:=by
  have h0:H3.DictOf (Z0w X.prog X.w) s2.heap.objs.size []:=by rw[<- hH3];exact Heap.DictOf.new s2.heap
  exact h0.at fun o e=>kp _ o e
 have st1:tn 0 h₁:=T.keep _ _ _ st2 fun b _ o e=>kp0 b o e
 have IY:=Z5j (N':=N') (src:=src) (scope:=scope) (cl:=cl) (C:=H3.objs.size) (D:=s2.heap.objs.size) (fp:=fp) (s3:={ s2 with heap:=H3 }) (h1:=h₁) (tk:=s2.toks) S I3 hcl1 hcl2 rfl hf hlt hns₁ kp
 obtain⟨hg,ht,hk,he⟩:=hb cl H3.objs.size (s2.heap.objs.size::fp) { s2 with heap:=H3 } H2
 have loop:=Zfv (R:=compPost (model X.prog X.w) X.A X.xe none (EP X pins σ Q) (.ref s2.heap.objs.size) H3.objs.size) (kx:=kx) (vx:=vx) (iter:=iter) (ifs:=ifs) (pos:=pos) (Q:=fun kvs H=>∀l,H l=none->Q (.ref l) (upd H l (.dK kvs)))
  hc T I3 rfl hf hlt hDf IY st1 hacc hg ht hk he w0 turn (fun s5 σc H' kvs vs pinsY IY5 hD dd rv hz q=>by
   obtain⟨m,hn,_⟩:=IY5.loc
   refine⟨m,hn,fun h' hs'=>⟨.ref s2.heap.objs.size,upd H' s2.heap.objs.size (.dK kvs),?_,rfl,q _ hD⟩⟩
   exact Zay I3 rfl hf hlt IY5 hD dd rv hz (beq_eq_false_iff_ne.mpr (Ne.symm (Nat.ne_of_lt I2.big))) hs')
 exact codeAny_compStart_dict loop (T.self _ 0 _ _ _ st1 loop)
end
section
variable {K:PySem.W.Frag}{a:Addr}{xs:List V}{σ0:St}{H:Hp}{g:TG}{tt:TT}{tk tv:TE}{Q:List (Key×V)->Hp->Prop}
theorem Zaz (Pv:Nat->List (Key×V)->St->Hp->Prop)(h0:Pv 0 [] σ0 H)(hl:∀i ys σc H,Pv i ys σc H->SqT K H a xs/\ys.length<sizeLine)
  (hs:∀i x ys σc H T,xs[i]? = some x->i<xs.length->Pv i ys σc H->H T=none->g (.ref T) σc (upd H T (.tup [.int i,x])) fun σ2 H2=>tt σ2 H2 fun b H3=>
   if b=true then tk σ2 H3 fun kv H4=>tv σ2 H4 fun vv H5=>∃y:Str,kv = .str y/\Nx xs.length i (Pv (i+1) (Z30 ys (Sum.inr y) vv) σ2 H5) else Nx xs.length i (Pv (i+1) ys σ2 H3))
  (hd:∀ys σc H,Pv xs.length ys σc H->Q ys H):
  ∃W:Nat->Nat->List (Key×V)->St->Hp->Prop,(∃m,W 0 m [] σ0 H)/\∀i m ys σc H,W i m ys σc H →
   ((Itf K a).stop i H/\Q ys H)∨((Itf K a).go i H/\ys.length<sizeLine/\∀v H',(Itf K a).yld i H v H'->g v σc H' fun σ2 H2=>tt σ2 H2 fun b H3=>
    if b=true then tk σ2 H3 fun kv H4=>tv σ2 H4 fun vv H5=>∃y:Str,kv = .str y/\∃m',m'<m/\W (i+1) m' (Z30 ys (Sum.inr y) vv) σ2 H5 else ∃m',m'<m/\W (i+1) m' ys σ2 H3):=by
 refine⟨fun i m ys σc H=>m=xs.length-i/\i<=xs.length/\Pv i ys σc H,⟨_,rfl,Nat.zero_le _,h0⟩,?_⟩
 rintro i m ys σc H ⟨rfl,hi,p⟩
 obtain⟨q,z⟩:=hl i ys σc H p
 by_cases hlt:i<xs.length
 ·have hx:xs[i]? = some xs[i]:=List.getElem?_eq_getElem hlt
  refine .inr ⟨⟨xs,xs[i],q,hx⟩,z,fun v H' y=>?_⟩
  obtain⟨T,x,rfl,hT,hxx,rfl⟩:=y
  exact hs i x ys σc H T (hxx xs q) hlt p hT
 ·have e:i=xs.length:=by omega
  subst e
  exact .inl ⟨⟨xs,q,rfl⟩,hd ys σc H p⟩
end
end L2
namespace K13
open PySem L2
def ixL:List Str->Str->Nat
 |[],_=>0
 |y::ys,x=>if y=x then 0 else ixL ys x+1
def ixN (M:List Str)(x:Str):Int:=(ixL M x:Nat)
theorem Za1:∀(M:List Str) {x:Str},x∈M->M[ixL M x]? = some x/\ixL M x<M.length/\∀j,j<ixL M x->M[j]? ≠ some x:=by
 intro M
 induction M with
 |nil=>intro x h;cases h
 |cons y M ih=>
  intro x h
  rw[ixL]
  by_cases e:y=x
  ·rw[if_pos e]
   exact⟨by rw[e];rfl,by rw[length_cons];omega,fun j hj=>by omega⟩
  ·rw[if_neg e]
   have hx:x∈M:=by
    rcases mem_cons.mp h with q|q
    ·exact absurd q.symm e
    ·exact q
   obtain⟨h1,h2,h3⟩:=ih hx
   refine⟨h1,by rw[length_cons];omega,fun j hj q=>?_⟩
   cases j with
   |zero=>exact e (Option.some.inj q)
   |succ j=>exact h3 j (by omega) q
theorem Z7a {M:List Str}(hn:M.Nodup){x:Str}{j:Nat}(h:M[j]? = some x):ixL M x=j:=by
 obtain⟨h1,h2,h3⟩:=Za1 M (mem_of_getElem? h)
 rcases Nat.lt_trichotomy (ixL M x) j with q|q|q
 ·exfalso
  have hj:=(List.getElem?_eq_some_iff.mp h).1
  have e1:=(List.getElem?_eq_some_iff.mp h1).2
  have e2:=(List.getElem?_eq_some_iff.mp h).2
  have:=(List.nodup_iff_pairwise_ne.mp hn)
  have:=List.pairwise_iff_getElem.mp this (ixL M x) j h2 hj q
  exact this (e1.trans e2.symm)
 ·exact q
 ·exact absurd h (h3 j q)
theorem Zdn {l:List Str}(h:l.Nodup)(x:Str):(Z5f l x).Nodup:=by
 unfold Z5f
 split
 ·exact h
 ·next q=>exact Z7z h q
def Z12 (M l:List Str):List Str:=l.foldl Z5f M
theorem Z5z:∀(l:List Str) {M:List Str},M.Nodup->(Z12 M l).Nodup:=by
 intro l
 induction l with
 |nil=>intro M h;exact h
 |cons x l ih=>intro M h;exact ih (Zdn h x)
theorem Zia (M:List Str)(x:Str):∃r,Z5f M x=M++r/\x∈M++r:=by
 unfold Z5f
 split
 ·next h=>exact⟨[],by simp,by simpa using h⟩
 ·exact⟨[x],rfl,by simp⟩
theorem Z4h:∀(l:List Str) (M:List Str),∃r,Z12 M l=M++r/\∀x∈l,x∈M++r:=by
 intro l
 induction l with
 |nil=>intro M;exact⟨[],by simp [Z12],fun x hx=>by cases hx⟩
 |cons x l ih=>
  intro M
  obtain⟨r1,e1,m1⟩:=Zia M x
  obtain⟨r2,e2,m2⟩:=ih (Z5f M x)
  refine⟨r1++r2,?_,fun y hy=>?_⟩
  ·show Z12 (Z5f M x) l=_
   rw[e2,e1,append_assoc]
  ·rw[<- append_assoc,<- e1]
   rcases mem_cons.mp hy with q|q
   ·rw[q,e1];exact mem_append_left _ m1
   ·exact m2 y q
theorem Z4i (M a b:List Str):Z12 M (a++b)=Z12 (Z12 M a) b:=by
 unfold Z12;rw[List.foldl_append]
theorem Z2e:∀(l:List Str) (M:List Str),(Z12 M l).length<=M.length+l.length:=by
 intro l
 induction l with
 |nil=>intro M;exact Nat.le_refl _
 |cons x l ih=>
  intro M
  have h1:=ih (Z5f M x)
  have h2:=Zi5 M x
  rw[length_cons]
  show(Z12 (Z5f M x) l).length<=_
  omega
theorem Zkp {M r:List Str}{x:Str}(h:x∈M):ixN (M++r) x=ixN M x:=by
 unfold ixN
 have:ixL (M++r) x=ixL M x:=by
  induction M with
  |nil=>cases h
  |cons y M ih=>
   rw[cons_append,ixL,ixL]
   split
   ·rfl
   ·next e=>
    rcases mem_cons.mp h with q|q
    ·exact absurd q.symm e
    ·rw[ih q]
 rw[this]
inductive spBareHead_ (N:Nat)(vs:List V)(H:Hp)(Q:VK):Prop
 |mk (v:V) (n:Th) (o:Int) (_:vs = [v,.int o]) (_:IsTh H v n) (_:OkN N n) (_:Th.sz n<=100000) (_:∀(p:Addr) H',Same H H'->IsTh H' (.ref p) (.tup (if wd n="let" then [.at (.str "let")] else if 0<=o then [.at (.str "own"),.at (.int o)] else Z47 n))->Q (.ref p) H'):spBareHead_ N vs H Q
def Z5r (N:Nat):Sp:=fun vs H Q _=>spBareHead_ N vs H Q
def Zn0 (num:Str->Int)(kvs:List (Key×V))(n:Th)(o:Int):Prop:=wd n="set"∨(wd n="name"/\o<0)->Z2h kvs (.inr (nm n))=some (.int (num (nm n)))
inductive spShapeHead_ (N:Nat)(vs:List V)(H:Hp)(Q:VK):Prop
 |mk (v:V) (n:Th) (o:Int) (da:Addr) (kvs:List (Key×V)) (num:Str->Int) (_:vs = [v,.int o,.ref da]) (_:IsTh H v n) (_:OkN N n) (_:Th.sz n<=100000) (_:H da=some (.dK kvs)) (_:Zn0 num kvs n o) (_:∀(p:Addr) H',Same H H'->IsTh H' (.ref p) (.tup (shP num n o))->Q (.ref p) H'):spShapeHead_ N vs H Q
def Z7b (N:Nat):Sp:=fun vs H Q _=>spShapeHead_ N vs H Q
section
variable {P:Program}{w:World}{K:PySem.W.Frag}{mg:Str->Option Value}{base:Heap}
theorem Zdo:FnScope ["node","own"] ["node","own"] (Z06 Z3f):=⟨rfl,rfl,rfl,by decide+kernel,rfl,by decide+kernel,by decide+kernel⟩
theorem Zb0 {f fH:Addr}{fd dH:FuncData}(F:Fun K "bare_head" "bare_head" Z3f f fd)(T:TxtT mg)(KI:Kits K)(FH:Fn K mg "head" Z9m ["node"] fH dH)(N:Nat):FnOk P w K mg base CX0 2 f fd ["node","own"] (Z5r N):=by
 have GH:FnOk P w K mg base CX0 1 fH dH ["node"] spHead:=Zki FH.F T KI
 refine F.ok Zdo (fun vs H Q E h=>?_) (fun cdv A outer s H vs Q E hr h=>?_)
 ·obtain⟨v,n,o,rfl,_⟩:=h
  rfl
 ·obtain⟨v,n,o,rfl,hv,hok,hz,k⟩:=h
  have hsz:sizeLine=16777216:=sizeLine_eq
  refine'⟨?tt,?body,?fin⟩
  case body=>
   refine' Z04 ?s1 (Z04 ?s2 (Z07 ?s3))
   case s1=>exact Z0y (Z0a Z1c (Z0r Z0v (pv 0) Z03 (fun _ _=>rfl)) Z08 (Z0k _)) (Z07 (Z0i (Z1a (Z1d Z08 Z01)))) Z0h
   case s2=>exact Z0y (Z0a Zlt (pv 1) Z03 (Z0k _)) (Z07 (Z0i (Z1a (Z1d Z08 (Z0d (pv 1) Z01))))) Z0h
   case s3=>exact Z0i (Z05 GH hr (by rfl) FH.m FH.F.kp FH.b .nil Z0f (Z0d (pv 0) Z01))
  case fin=>
   cases N with
   |zero=>exact hok.elim
   |succ N=>
    obtain⟨w0,ts,rfl,_⟩:=hok
    obtain⟨a,vs,rfl,ha,hvs⟩:=Z1j hv
    have hwd:wd (Th.tup (.at (.str w0)::ts))=w0:=rfl
    rw[hwd] at k
    cases hvs with
    | @cons v1 vr _ _ c1 c2=>
     obtain⟨rfl,_⟩:=Z1p c1
     refine⟨_,rfl,a,_,_,_,rfl,rfl,SqT.of ha,Z15 _ _,rfl,_,rfl,Z1b (fun g=>?_) (fun g=>?_)⟩
     ·have hw:w0="let":=by
       have g':=of_decide_eq_true g
       injection g'
      refine⟨(by show 1<=sizeLine;decide),fun p hp=>k p _ (Z02 hp) ?_⟩
      rw[if_pos hw]
      exact .tup Z00 (.cons (.at (by decide+kernel)) .nil)
     ·have hw:w0≠"let":=fun z=>g (by rw[z];decide+kernel)
      rw[if_neg hw] at k
      refine⟨_,rfl,_,_,rfl,rfl,_,rfl,Z1b (fun g2=>?_) (fun g2=>?_)⟩
      ·have ho:0<=o:=of_decide_eq_true g2
       refine⟨_,rfl,(by show 2<=sizeLine;decide),fun p hp=>k p _ (Z02 hp) ?_⟩
       rw[if_pos ho]
       exact .tup Z00 (.cons (.at (by decide+kernel)) (.cons (.at rfl) .nil))
      ·have ho:¬ 0<=o:=fun z=>g2 (decide_eq_true z)
       rw[if_neg ho] at k
       have hl:=Zaj ts
       have hz2:Th.sz (.tup (.at (.str w0)::ts))=1+(1+szs ts):=by simp only [Th.sz,szs]
       refine⟨_,rfl,H,.ref a,_,rfl,Same.refl _,hv,by rw[length_cons];omega,fun p ws H' s' hp hws=>k p H' s' (.tup hp (IsThs.kp (Kp.of s') hws))⟩
theorem Zb1:FnScope ["node","own","numbers"] ["node","own","numbers"] (Z06 Z3g):=⟨rfl,rfl,rfl,by decide+kernel,rfl,by decide+kernel,by decide+kernel⟩
theorem Za2 {f fH fB:Addr}{fd dH dB:FuncData}(F:Fun K "shape_head" "shape_head" Z3g f fd)(T:TxtT mg)(KI:Kits K)(FH:Fn K mg "head" Z9m ["node"] fH dH)(FB:Fn K mg "bare_head" Z3f ["node","own"] fB dB)(N:Nat):
  FnOk P w K mg base CX0 3 f fd ["node","own","numbers"] (Z7b N):=by
 have GB:FnOk P w K mg base CX0 2 fB dB ["node","own"] (Z5r N):=Zb0 FB.F T KI FH N
 refine F.ok Zb1 (fun vs H Q E h=>?_) (fun cdv A outer s H vs Q E hr h=>?_)
 ·obtain⟨v,n,o,da,kvs,num,rfl,_⟩:=h
  rfl
 ·obtain⟨v,n,o,da,kvs,num,rfl,hv,hok,hz,hda,hnum,k⟩:=h
  have hsz:sizeLine=16777216:=sizeLine_eq
  have hu:(_:Around).units+1<cLine:=Nat.lt_of_le_of_lt (Nat.add_le_add_left (by decide) _) hr.units
  refine'⟨?tt,?body,?fin⟩
  case body=>
   refine' Z04 ?s1 (Z04 ?s2 (Z07 ?s3))
   case s1=>exact Z0y (Z0a Z1c (Z0r Z0v (pv 0) Z03 (fun _ _=>rfl)) Z08 (Z0k _)) (Z07 (Z0i (Z1a (Z1d Z08 (Z0b (Z0s hu (pv 2) (Z0r Z0v (pv 0) Z03 (fun _ _=>rfl)) (fun _ _=>rfl)) Z01))))) Z0h
   case s2=>exact Z0y (Z4m (Z0a Z1c (Z0r Z0v (pv 0) Z03 (fun _ _=>rfl)) Z08 (Z0k _)) (Z33 (Z0a Z89 (pv 1) Z03 (Z0k _)))).pt (Z07 (Z0i (Z1a (Z1d Z08 (Z0b (Z0s hu (pv 2) (Z0r Z0v (pv 0) Z03 (fun _ _=>rfl)) (fun _ _=>rfl)) Z01))))) Z0h
   case s3=>exact Z0i (Z05 GB hr (by rfl) FB.m FB.F.kp FB.b .nil Z0f (Z0d (pv 0) (Z0d (pv 1) Z01)))
  case fin=>
   have hokN:=hok
   cases N with
   |zero=>exact hok.elim
   |succ N=>
    obtain⟨w0,ts,rfl,_,h2,_,_⟩:=hok
    obtain⟨a,vs,rfl,ha,hvs⟩:=Z1j hv
    have hwd:wd (Th.tup (.at (.str w0)::ts))=w0:=rfl
    have get:(w0="set"∨(w0="name"/\o<0))->∃x vr2,vs = .str w0 :: .str x::vr2/\nm (Th.tup (.at (.str w0)::ts))=x/\DGet H da (.str x) (some (.int (num x))):=fun hc=>by
     have:∃x tr,ts = .at (.str x)::tr:=by
      rcases hc with q|q
      ·exact h2 (.inr (.inr q))
      ·exact h2 (.inr (.inl q.1))
     obtain⟨x,tr,rfl⟩:=this
     cases hvs with
     |cons c1 c2=>
      obtain⟨rfl,_⟩:=Z1p c1
      cases c2 with
      | @cons v2 vr2 _ _ c3 c4=>
       obtain⟨rfl,_⟩:=Z1p c3
       refine⟨x,vr2,rfl,rfl,?_⟩
       have e:=hnum hc
       have g:=DGet.k (k:=Sum.inr x) hda
       have e2:Z2h kvs (Sum.inr x)=some (.int (num x)):=e
       rw[e2] at g
       exact g
    have hhead:∃vr,vs = .str w0::vr:=by
     cases hvs with
     |cons c1 c2=>
      obtain⟨rfl,_⟩:=Z1p c1
      exact⟨_,rfl⟩
    obtain⟨vr,hvr⟩:=hhead
    unfold shP at k
    rw[hwd] at k
    refine⟨_,rfl,a,_,_,.str w0,rfl,rfl,SqT.of ha,by rw[hvr];exact Z15 _ _,rfl,_,rfl,Z1b (fun g=>?_) (fun g=>?_)⟩
    ·have hw:w0="set":=by
      have g':=of_decide_eq_true g
      injection g'
     obtain⟨x,vr2,e1,e2,e3⟩:=get (.inl hw)
     rw[if_pos hw,e2] at k
     refine⟨_,rfl,_,rfl,a,_,_,.str x,rfl,rfl,SqT.of ha,by rw[e1];exact Z19 _ _ _,da,_,rfl,e3,(by show 2<=sizeLine;decide),fun p hp=>k p _ (Z02 hp) ?_⟩
     exact .tup Z00 (.cons (.at (by decide+kernel)) (.cons (.at rfl) .nil))
    ·have hw:w0≠"set":=fun z=>g (by rw[z];decide+kernel)
     rw[if_neg hw] at k
     have rest:¬ (w0="name"/\o<0)->Z5r (N+1) [.ref a,.int o] H (fun v H'=>Q v H') E:=fun hc=>by
      rw[if_neg hc] at k
      exact⟨.ref a,_,o,rfl,hv,hokN,hz,k⟩
     refine⟨_,rfl,a,_,_,.str w0,rfl,rfl,SqT.of ha,by rw[hvr];exact Z15 _ _,rfl,_,rfl,Z1b (fun g2=>?_) (fun g2=>Zab ⟨_,rfl,_,rfl,rest fun z=>g2 (by rw[z.1];decide+kernel)⟩)⟩
     have hw2:w0="name":=by
      have g':=of_decide_eq_true g2
      injection g'
     refine⟨_,rfl,_,_,rfl,rfl,_,rfl,Z1b (fun g3=>?_) (fun g3=>⟨_,rfl,_,rfl,rest fun z=>g3 (decide_eq_true z.2)⟩)⟩
     have ho:o<0:=of_decide_eq_true g3
     obtain⟨x,vr2,e1,e2,e3⟩:=get (.inr ⟨hw2,ho⟩)
     rw[if_pos ⟨hw2,ho⟩,e2] at k
     refine⟨_,rfl,_,rfl,a,_,_,.str x,rfl,rfl,SqT.of ha,by rw[e1];exact Z19 _ _ _,da,_,rfl,e3,(by show 2<=sizeLine;decide),fun p hp=>k p _ (Z02 hp) ?_⟩
     exact .tup Z00 (.cons (.at (by decide+kernel)) (.cons (.at rfl) .nil))
end
mutual
theorem Zcg:∀(t:Th) (N:Nat),OkT N t->Th.sz t<=100000->∀x∈Z0u t,OkT N x.2/\Th.sz x.2<=100000
 | .tup xs,N,h,hz,x,hx=>by
  rw[Z0u] at hx
  rcases mem_cons.mp hx with z|z
  ·subst z;exact⟨h,hz⟩
  ·cases N with
   |zero=>exact h.elim
   |succ N=>
    refine Zch (Z2n xs) (.tup xs) xs N 0 ?_ h hz ?_ x z
    ·intro y hy hyt
     obtain⟨w,ts,e,_,h2⟩:=h
     cases e
     rcases mem_cons.mp hy with q|q
     ·subst q;cases hyt
     ·exact h2 y q hyt
    ·rw[Th.sz] at hz;omega
 | .at _,N,h,hz,x,hx=>by simp [Z0u] at hx
 | .lst _,N,h,hz,x,hx=>by simp [Z0u] at hx
theorem Zch (l:Bool)(me:Th):∀(xs:List Th) (N i:Nat),(∀y∈xs,isTup y=true->OkT N y)->OkT (N+1) me->Th.sz me<=100000->szs xs<=100000->∀x∈Z3t l me i xs,OkT (N+1) x.2/\Th.sz x.2<=100000
 |[],N,i,h,hm,hz,hs,x,hx=>by simp [Z3t] at hx
 |y::ys,N,i,h,hm,hz,hs,x,hx=>by
  rw[Z3t] at hx
  rw[szs] at hs
  have hr:=fun j z=>Zch l me ys N j (fun q hq=>h q (mem_cons_of_mem _ hq)) hm hz (by omega) x z
  split at hx
  ·rcases mem_append.mp hx with z|z
   ·have:=Zcg y N (h y (mem_cons_self ..) ‹_›) (by omega) x z
    exact⟨this.1.up,this.2⟩
   ·rcases mem_append.mp z with z|z
    ·have e:x.2=me:=by
      match i with
      | 0=>cases l <;> simp [Z3b] at z;rw[z]
      | 1=>cases l <;> simp [Z3b] at z;rw[z]
      |_+2=>simp [Z3b] at z
     rw[e];exact⟨hm,hz⟩
    ·exact hr _ z
  ·exact hr _ hx
end
theorem Zfw {S:SS}:∀(n:Nat) {t:Th},PfT S n t->∀(B:List Str),∀q∈Z2d t B,PfT S n q.1:=by
 intro n
 induction n with
 |zero=>intro t h;exact h.elim
 |succ n ih=>
  intro t h B q hq
  have me:=h
  rcases h.cases with ⟨x,a,b,rfl,_,ha,hb⟩|⟨w,hd,ks,rfl,hw,sh,h1,h5,h6⟩
  ·rw[Z8m ha.isTup hb.isTup] at hq
   rcases mem_cons.mp hq with z|z
   ·rw[z];exact me
   ·rcases mem_append.mp z with z|z
    ·exact(ih ha B q z).up
    ·exact(ih hb _ q z).up
  ·rw[Zax (fun k hk=>(h6 k hk).isTup) hw] at hq
   rcases mem_cons.mp hq with z|z
   ·rw[z];exact me
   ·obtain⟨l,hl,hx⟩:=mem_flatten.mp z
    obtain⟨k,hk,rfl⟩:=mem_map.mp hl
    exact(ih (h6 k hk) B q hx).up
theorem Zfx (l:List Str):dd l=Z12 [] l:=rfl
theorem Zj6 {l:List Str}{x:Str}(h:x∈l):x∈dd l:=by
 obtain⟨r,e,m⟩:=Z4h l []
 rw[Zfx,e]
 exact m x h
def NumAt (kvs:List (Key×V))(ts:List Str)(i:Nat):Prop:=∀(j:Nat) (x:Str),j<i->ts[j]? = some x->Z2h kvs (.inr x)=some (.int (j:Nat))
theorem NumAt.next {kvs:List (Key×V)}{ts:List Str}{i:Nat}{x:Str}(hn:ts.Nodup)(h:NumAt kvs ts i)(hx:ts[i]? = some x):NumAt (Z30 kvs (.inr x) (.int (i:Nat))) ts (i+1):=by
 intro j y hj hy
 rw[Z2q]
 by_cases e:y=x
 ·have:j=i:=(Z7a hn (by rw[<- e];exact hy)).symm.trans (Z7a hn hx)
  rw[e,if_pos rfl,this]
 ·rw[if_neg (by intro q;injection q with q;exact e q)]
  refine h j y ?_ hy
  rcases Nat.lt_or_ge j i with q|q
  ·exact q
  ·have:j=i:=by omega
   rw[this,hx] at hy
   exact absurd (Option.some.inj hy).symm e
inductive spShapeRows_ (S:SS)(N:Nat)(vs:List V)(H:Hp)(Q:VK):Prop
 |mk (v:V) (t:Th) (_:vs = [v]) (_:IsTh H v t) (_:PfT S N t) (_:Th.sz t<=30000) (_:∀(p:Addr) (ws:List V) H',Same H H'->H' p=some (.lst ws)->IsThs H' ws ((Z2d t []).map (Zce (ixN (dd (frT t [])))))->Q (.ref p) H'):spShapeRows_ S N vs H Q
def Z7c (S:SS)(N:Nat):Sp:=fun vs H Q _=>spShapeRows_ S N vs H Q
theorem Zoo:(["at","name"]:List Str).Nodup:=by decide+kernel
theorem Zn1:(["numbers","node","own"]:List Str).Nodup:=by decide+kernel
section
variable {S:SS}{P:Program}{w:World}{K:PySem.W.Frag}{mg:Str->Option Value}{base:Heap}
structure ShF where
 fP:Addr
 fS:Addr
 fO:Addr
 fW:Addr
 fN:Addr
 fH:Addr
 fB:Addr
 fX:Addr
 fR:Addr
 dP:FuncData
 dS:FuncData
 dO:FuncData
 dW:FuncData
 dN:FuncData
 dH:FuncData
 dB:FuncData
 dX:FuncData
 dR:FuncData
structure Shp (K:PySem.W.Frag)(mg:Str->Option Value)(q:ShF):Prop where
 U:HOw K mg q.fP q.fS q.fO q.dP q.dS q.dO
 W:Fn K mg "owned" Z7v ["e"] q.fW q.dW
 N:Fn K mg "free_names" Z3e ["e"] q.fN q.dN
 H:Fn K mg "head" Z9m ["node"] q.fH q.dH
 B:Fn K mg "bare_head" Z3f ["node","own"] q.fB q.dB
 X:Fn K mg "shape_head" Z3g ["node","own","numbers"] q.fX q.dX
 R:Fn K mg "shape_rows" Z2c ["e"] q.fR q.dR
 enum:mg "enumerate"=none
variable {q:ShF}
theorem scShapeRows:FnScope ["e","numbers"] ["e"] (Z06 Z2c):=⟨rfl,rfl,rfl,by decide+kernel,rfl,by decide+kernel,by decide+kernel⟩
theorem Za3 {f:Addr}{fd:FuncData}(F:Fun K "shape_rows" "shape_rows" Z2c f fd)(G:Shp K mg q)(N:Nat):FnOk P w K mg base CX0 5 f fd ["e"] (Z7c S N):=by
 have GW:FnOk P w K mg base CX0 3 q.fW q.dW ["e"] (Zav N):=Zca G.W.F G.U N
 have GN:FnOk P w K mg base CX0 4 q.fN q.dN ["e"] (Zaw N):=Zcc G.N.F G.U G.W.F G.W.b G.W.m N
 have GX:FnOk P w K mg base CX0 3 q.fX q.dX ["node","own","numbers"] (Z7b N):=Za2 G.X.F G.U.T G.U.KI G.H G.B N
 have GP:FnOk P w K mg base CX0 1 q.fP q.dP ["e"] spParts:=Zc3 G.U.P G.U.T G.U.KI
 have T:=G.U.T
 refine F.ok scShapeRows (fun vs H Q E h=>?_) (fun cdv A outer s H vs Q E hr h=>?_)
 ·obtain⟨v,t,rfl,_⟩:=h
  rfl
 ·obtain⟨v,t,rfl,hv,pf,hz,k⟩:=h
  have hsz:sizeLine=16777216:=sizeLine_eq
  have hr1:Room 1 _:=hr.mono (by decide)
  have hr3:Room 3 _:=hr.mono (by decide)
  refine'⟨?tt,?body,?fin⟩
  case body=>
   refine' Z0m ?s1 (Z07 ?s2)
   case s1=>
    refine' Z0c (i:=1) scShapeRows.nd rfl (Or.inr rfl) (Zi9 (N':=["at","name"]) (src:=[none,none]) ?k1 ?k5 ?k6 ?k7)
    case k1=>rfl
    case k5=>exact Z0j (Z06 Z2c) rfl ["e","numbers"] rfl (by decide+kernel)
    case k6=>exact Zjv (by rfl) G.enum (Z2a (Z05 GN hr (by rfl) G.N.m G.N.F.kp G.N.b .nil Z0f (Z0d (pv 0) Z01)) Z01)
    case k7=>exact fun cl C ex s0 H0=>⟨Z4f (K:=K) (i:=0) (j:=1) rfl rfl Zoo rfl (Or.inl rfl) rfl (Or.inl rfl) (Or.inr rfl) (Or.inr rfl),Z1k,pv 1,pv 0⟩
   case s2=>
    refine' Z0i (Z1n (N':=["numbers","node","own"]) (src:=[some 1,none,none]) ?k1 ?k5 ?k6 ?k7)
    case k1=>rfl
    case k5=>exact Z0j (Z06 Z2c) rfl ["e","numbers"] rfl (by decide+kernel)
    case k6=>exact Z1w (Z05 GW hr3 (by rfl) G.W.m G.W.F.kp G.W.b .nil Z0f (Z0d (pv 0) Z01))
    case k7=>exact fun cl C ex s0 H0=>⟨Z4f (K:=K) (i:=1) (j:=2) rfl rfl Zn1 rfl (Or.inl rfl) rfl (Or.inl rfl) (Or.inr rfl) (Or.inr rfl),Z1k,Z1a (Z2a (Z05 GX hr3 (by rfl) G.X.m G.X.F.kp G.X.b .nil Z0f (Z0d (pv 1) (Z0d (pv 2) (Z0d (pv 0) Z01)))) (Z2a (Z0n (id:="len") (Z8k (K:=K) rfl) (by rfl) T.len PySem.boot_len (Z2a (Z05 GP hr1 (by rfl) G.U.mP G.U.P.kp G.U.bP .nil Z0f (Z0d (pv 1) Z01)) Z01)) Z01))⟩
  case fin=>
   have hok:=Zfs N pf
   obtain⟨rs,hrs,hfr,hnd⟩:=Zko hok
   have ers:=Zfn hok hrs
   have hrl:rs.length<=3*Th.sz t:=by
    have h1:=congrArg List.length hnd
    rw[length_map,length_map] at h1
    have h2:=length_filter_le (fun p:Str×Th=>decide (p.1="node")) (Z0u t)
    have h3:=Z45 t
    unfold Z2l at h1
    omega
   have hfl:(frT t []).length<=rs.length:=by
    rw[<- hfr,length_map]
    exact length_filter_le _ _
   have hNl:(dd (frT t [])).length<=rs.length:=by
    have:=Z2e (frT t []) []
    rw[<- Zfx] at this
    simp at this
    omega
   have hNd:(dd (frT t [])).Nodup:=Z5z _ nodup_nil
   refine⟨fun σ' H'=>∃(na:Addr) (kvs:List (Key×V)),σ' = [some v,some (.ref na)]/\Same H H'/\H' na=some (.dK kvs)/\NumAt kvs (dd (frT t [])) (dd (frT t [])).length,?_,?_⟩
   ·refine⟨_,rfl,v,t,rfl,hv,hok,by omega,fun p H1 s1 hp=>?_⟩
    refine⟨p,rfl,.inr ⟨⟨_,SqT.of hp⟩,Zaz (K:=K) (a:=p) (xs:=(dd (frT t [])).map V.str) (fun i ys σc H'=>∃o o',σc = [o,o']/\Same H1 H'/\ys.length<=i/\i<=(dd (frT t [])).length/\NumAt ys (dd (frT t [])) i)
     ⟨none,none,rfl,Same.refl _,Nat.le_refl _,Nat.zero_le _,fun j x hj=>by omega⟩ (fun i ys σc H' ⟨_,_,_,e,h1,h2,_⟩=>⟨SqT.of (e _ _ hp),by omega⟩) ?_ ?_⟩⟩
    ·rintro i x ys σc H' T' hx hi ⟨o,o',rfl,s',hyl,hil,hnum⟩ hT'
     rw[List.getElem?_map] at hx
     obtain⟨y,hy,rfl⟩:=Option.map_eq_some_iff.mp hx
     rw[length_map] at hi
     have sT:=Z02 (o:=.tup [.int (i:Nat),.str y]) hT'
     refine⟨T',_,rfl,SqT.of Z00,rfl,_,_,rfl,_,_,rfl,rfl,_,rfl,_,rfl,y,rfl,nx (by rw[length_map];exact hi) ⟨_,_,rfl,s'.trans sT,?_,hi,hnum.next hNd hy⟩⟩
     have:=Z1g ys (Sum.inr y) (.int (i:Nat))
     omega
    ·rintro ys σc H' ⟨o,o',rfl,s',hyl,hil,hnum⟩ l hl
     rw[length_map] at hnum
     exact⟨l,ys,rfl,s1.trans (s'.trans (Z02 hl)),Z00,hnum⟩
   rintro σ1 H1 ⟨na,kvs,rfl,s1,hna,hnum⟩
   refine⟨_,rfl,v,t,rfl,IsTh.kp (Kp.of s1) hv,hok,by omega,fun p ws rs2 H2 s2 hp0 hp hws hrs2=>?_⟩
   have e2:rs2=rs:=by rw[Zfn hok hrs2,ers]
   subst e2
   have hna2:=s2 _ _ hna
   have hwl:=IsThs.len _ hws
   rw[length_map] at hwl
   refine⟨p,rfl,⟨_,SqL.of hp⟩,Z1i (K:=K) (a:=p) (xs:=ws) (fun i ys σc H'=>∃o o',σc = [some (.ref na),o,o']/\Same H2 H'/\ys.length=i/\IsThs H' ys ((rs2.take i).map (Zce (ixN (dd (frT t []))))))
    ⟨none,none,rfl,Same.refl _,rfl,by rw[take_zero];exact .nil⟩ (fun i ys σc H' ⟨_,_,_,e,_⟩=>SqL.of (e _ _ hp)) ?_ ?_⟩
   ·rintro i x ys σc H' hx hi ⟨o,o',rfl,s',hyl,hys⟩
    obtain⟨tx,htx,hx2⟩:=Z1o _ hws hx
    rw[List.getElem?_map] at htx
    obtain⟨r,hr',rfl⟩:=Option.map_eq_some_iff.mp htx
    obtain⟨n,o2⟩:=r
    have hmem:=mem_of_getElem? hr'
    have hown:OkN N n/\Th.sz n<=100000:=by
     have h1:n∈rs2.map (·.1):=mem_map.mpr ⟨(n,o2),hmem,rfl⟩
     rw[hnd] at h1
     obtain⟨q,h2,h3⟩:=mem_map.mp h1
     have hqs:=(mem_filter.mp h2).1
     have a1:=(Z5c N t hok q hqs).1
     have a2:=(Zcg t N hok.ok (by omega) q hqs).2
     rw[<- h3]
     exact⟨a1,a2⟩
    have hno:Zn0 (ixN (dd (frT t []))) kvs n o2:=fun hc=>by
     have hm:nm n∈frT t []:=by
      rw[<- hfr]
      exact mem_map.mpr ⟨(n,o2),mem_filter.mpr ⟨hmem,decide_eq_true hc⟩,rfl⟩
     obtain⟨h1,h2,_⟩:=Za1 _ (Zj6 hm)
     exact hnum _ _ h2 h1
    obtain⟨a,vs2,rfl,ha,hvs2⟩:=Z1j hx2
    cases hvs2 with
    | @cons v1 vr _ _ c1 c2=>
     cases c2 with
     | @cons v2 vr2 _ _ c3 c4=>
      cases c4
      obtain⟨rfl,_⟩:=Z1p c3
      refine⟨by omega,a,_,rfl,SqT.of (s' _ _ ha),rfl,_,_,rfl,_,_,rfl,rfl,?_⟩
      refine⟨_,rfl,_,rfl,_,rfl,v1,n,o2,na,kvs,_,rfl,IsTh.kp (Kp.of s') c1,hown.1,hown.2,s' _ _ hna2,hno,fun p3 H3 s3 hp3=>?_⟩
      have hn3:=IsTh.kp (Kp.of (s'.trans s3)) c1
      obtain⟨N',rfl⟩:∃N',N=N'+1:=by
       cases N with
       |zero=>exact hown.1.elim
       |succ N'=>exact⟨N',rfl⟩
      obtain⟨w0,ts,en,_⟩:=hown.1
      have hzn:=hown.2
      subst en
      have hl:=Zaj ts
      have hz2:Th.sz (.tup (.at (.str w0)::ts))=1+(1+szs ts):=by simp only [Th.sz,szs]
      refine⟨_,rfl,H3,v1,_,rfl,Same.refl _,hn3,by rw[length_cons];omega,fun p4 ws4 H4 s4 hp4 hws4=>?_⟩
      have hl4:=IsThs.len _ hws4
      refine⟨p4,ws4,rfl,.inr (SqT.of hp4),(by show 2<=sizeLine;decide),fun p5 hp5=>?_⟩
      have s5:=Z02 (o:=.tup [.ref p3,.int (ws4.length:Nat)]) hp5
      have sA:=(s3.trans s4).trans s5
      refine nx hi ⟨_,_,rfl,s'.trans sA,by rw[length_append,hyl];rfl,?_⟩
      rw[take_add_one,hr',map_append]
      refine IsThs.app _ (IsThs.kp (Kp.of sA) hys) (.cons (.tup Z00 (.cons (IsTh.kp (Kp.of (s4.trans s5)) hp3) (.cons ?_ .nil))) .nil)
      rw[hl4]
      exact .at rfl
   ·rintro ys σc H' ⟨o,o',rfl,s',hyl,hys⟩ l hl
    have sl:=Z02 (o:=.lst ys) hl
    rw[take_of_length_le (by omega),ers] at hys
    exact k l ys _ ((s1.trans s2).trans (s'.trans sl)) Z00 (IsThs.kp (Kp.of sl) hys)
end
end K13
namespace L2
namespace Z2
open PySem PySem.Spec PyProof.Rows PySem.Builtin PySem.AutoSeq1
structure ZLt (h:Heap)(z TI TO i1 i2 l t:Addr)(i:Nat)(f0:Value):Prop where
 z:IsZip h z TI TO f0
 ti:IsPair h TI (.ref i1) (.ref i2)
 to:∃a b,IsPair h TO a b
 g1:h.IsListIter i1 l i
 g2:h.IsListIter i2 t i
section
variable {prog:Program}{w:World}{A:Around}{E:Value->Shared->Prop}{s:Shared}
theorem Zfy {z TI TO i1 i2 l t:Addr}{i:Nat}{xs ys:Array Value}{x y:Value}{Q:Value->Shared->Prop}(D:ZipApart z TI TO i1 i2 l t)(Z:ZLt s.heap z TI TO i1 i2 l t i .none)(hl1:s.heap.IsList l xs)(hl2:s.heap.IsList t ys)
  (hx:xs[i]? = some x) (hy:ys[i]? = some y)
  (hQ:∀h',ZLt h' z TI TO i1 i2 l t (i+1) (rawInt s.heap.objs.size)->IsPair h' s.heap.objs.size x y->(∀c o,c≠z->c≠TO->c≠i1->c≠i2->s.heap.get? c=some o->h'.get? c=some o)->Q (.ref s.heap.objs.size) { s with heap:=h' }):
  wpAny (model prog w) A (Builtin.«zip.__next__» ⟨[.ref z], []⟩) (fun fin s' => ∃ v, fin = .done (.ret v) /\ Q v s') E s := by
 obtain⟨hz,hTI,⟨a,b,hTO⟩,h1,h2⟩:=Z
 show wpAny _ _ (field (.ref z) 2 >>= _) _ _ _
 refine wpAny_bind (wpAny_field hz rfl (x:=.bool false) rfl ?_)
 show wpAny _ _ (field (.ref z) 3 >>= _) _ _ _
 refine wpAny_bind (wpAny_field hz rfl (x:=.ref TI) rfl ?_)
 refine wpAny_bind (wpAny_seqItems hTI rfl ?_)
 show wpAny _ _ (Builtin.SmallTypes.ownedTupleIsFree (.ref z) >>= _) _ _ _
 refine wpAny_bind ?_
 unfold Builtin.SmallTypes.ownedTupleIsFree
 refine wpAny_bind (wpAny_field hz rfl (x:=.none) rfl (wpAny_pure ?_))
 simp only [if_true]
 refine wpAny_bind (wpAny_rule ?_)
 refine wpAny_bind (wpAny_field hz rfl (x:=.ref TO) rfl ?_)
 refine wpAny_bind (wpAny_setField_rec hz (by simp) fun h₁ hz₁ hs₁=>?_)
 replace hz₁:Zac h₁ z TI TO .ellipsis (.bool false):=hz₁
 refine wpAny_bind ?_
 simp only [zipIdx_cons,zipIdx_nil,forIn_cons,forIn_nil]
 refine wpAny_bind (wpAny_bind (wpAny_onRaise ?_))
 show wpAny _ _ (Builtin.SmallTypes.nextOf (.ref i1) >>= _) _ _ _
 refine wpAny_bind (wpAny_nextOf_list_item (h1.extBut hs₁.extBut D.i1z) (hl1.extBut hs₁.extBut D.l1z) hx fun h₂ h1₂ hs₂=>wpAny_pure ?_)
 have hTO₂:IsPair h₂ TO a b:=hs₂.extBut _ _ D.TOi1 (hs₁.extBut _ _ D.TOz hTO)
 refine wpAny_bind (wpAny_seqItems hTO₂ rfl ?_)
 refine wpAny_bind (wpAny_updateSeq_pair hTO₂ fun h₃ hTO₃ hs₃=>?_)
 replace hTO₃:IsPair h₃ TO x b:=hTO₃
 refine wpAny_bind (wpAny_letGo (wpAny_pure ?_))
 refine wpAny_bind (wpAny_bind (wpAny_onRaise ?_))
 show wpAny _ _ (Builtin.SmallTypes.nextOf (.ref i2) >>= _) _ _ _
 refine wpAny_bind (wpAny_nextOf_list_item (((h2.extBut hs₁.extBut D.i2z).extBut hs₂.extBut D.i12.symm).extBut hs₃.extBut D.TOi2.symm)
  (((hl2.extBut hs₁.extBut D.l2z).extBut hs₂.extBut D.l2i1).extBut hs₃.extBut D.l2TO) hy fun h₄ h2₄ hs₄=>wpAny_pure ?_)
 have hTO₄:IsPair h₄ TO x b:=hs₄.extBut _ _ D.TOi2 hTO₃
 refine wpAny_bind (wpAny_seqItems hTO₄ rfl ?_)
 refine wpAny_bind (wpAny_updateSeq_pair hTO₄ fun h₅ hTO₅ hs₅=>?_)
 replace hTO₅:IsPair h₅ TO x y:=hTO₅
 refine wpAny_bind (wpAny_letGo (wpAny_pure (wpAny_pure ?_)))
 refine wpAny_bind (wpAny_seqItems hTO₅ rfl ?_)
 refine wpAny_bind (wpAny_newTuple ?_)
 have hsz:h₅.objs.size=s.heap.objs.size:=by rw[hs₅.1,hs₄.1,hs₃.1,hs₂.1,hs₁.1]
 have hz₅:Zac h₅ z TI TO .ellipsis (.bool false):=hs₅.extBut _ _ D.TOz.symm (hs₄.extBut _ _ D.i2z.symm (hs₃.extBut _ _ D.TOz.symm (hs₂.extBut _ _ D.i1z.symm hz₁)))
 have hk₅:∀c o,c≠z->c≠TO->c≠i1->c≠i2->s.heap.get? c=some o->h₅.get? c=some o:=fun c o c1 c2 c3 c4 e=>
  hs₅.extBut _ _ c2 (hs₄.extBut _ _ c4 (hs₃.extBut _ _ c2 (hs₂.extBut _ _ c3 (hs₁.extBut _ _ c1 e))))
 have h1₅:h₅.IsListIter i1 l (i+1):=((h1₂.extBut hs₃.extBut D.TOi1.symm).extBut hs₄.extBut D.i12).extBut hs₅.extBut D.TOi1.symm
 have h2₅:h₅.IsListIter i2 t (i+1):=h2₄.extBut hs₅.extBut D.TOi2.symm
 have hzlt:z<h₅.objs.size:=Heap.lt_size hz₅
 show wpAny _ _ (Builtin.SmallTypes.ownedTupleHandOut (.ref z) (.ref h₅.objs.size) >>= _) _ _ _
 refine wpAny_bind ?_
 unfold Builtin.SmallTypes.ownedTupleHandOut
 have hz₆:Zac (h₅.push { cls:=.type "tuple",data:=.seq #[x,y] }) z TI TO .ellipsis (.bool false):=Heap.get?_push_of_some _ hz₅
 refine wpAny_bind (wpAny_setField_rec hz₆ (by simp) fun h₇ hz₇ hs₇=>?_)
 replace hz₇:Zac h₇ z TI TO (rawInt h₅.objs.size) (.bool false):=hz₇
 refine wpAny_setField_rec hz₇ (by simp) fun h₈ hz₈ hs₈=>?_
 replace hz₈:IsZip h₈ z TI TO (rawInt h₅.objs.size):=hz₈
 have up:∀c o,c≠z->h₅.get? c=some o->h₈.get? c=some o:=fun c o c1 e=>hs₈.extBut _ _ c1 (hs₇.extBut _ _ c1 (Heap.get?_push_of_some _ e))
 have hT₈:IsPair h₈ h₅.objs.size x y:=hs₈.extBut _ _ (Nat.ne_of_gt hzlt) (hs₇.extBut _ _ (Nat.ne_of_gt hzlt) (Heap.get?_push_size _ rfl))
 have al:∀c o,c≠z->c≠TO->c≠i1->c≠i2->s.heap.get? c=some o->h₈.get? c=some o:=fun c o c1 c2 c3 c4 e=>up c o c1 (hk₅ c o c1 c2 c3 c4 e)
 rw[hsz] at hz₈ hT₈ ⊢
 exact wpAny_pure ⟨_,rfl,hQ h₈ ⟨hz₈,al _ _ D.TIz D.TITO D.TIi1 D.TIi2 hTI,⟨_,_,up _ _ D.TOz hTO₅⟩,h1₅.at fun o e=>up _ o D.i1z e,h2₅.at fun o e=>up _ o D.i2z e⟩ hT₈ al⟩
theorem Zfz {z TI TO i1 i2 l t:Addr}{i:Nat}{xs:Array Value}{Q:Fin->Shared->Prop}(hh:A.handled=none)(D:ZipApart z TI TO i1 i2 l t)(Z:ZLt s.heap z TI TO i1 i2 l t i .none)(hl1:s.heap.IsList l xs)(hx:xs[i]? = none)
  (hE:∀h' e,(∀c o,c≠z->c≠TO->c≠i1->c≠i2->s.heap.get? c=some o->h'.get? c=some o)->(∃o,h'.get? e=some o/\o.cls = .type "StopIteration")->E (.ref e) { s with heap:=h' }):
  wpAny (model prog w) A (Builtin.«zip.__next__» ⟨[.ref z], []⟩) Q E s := by
 obtain⟨hz,hTI,⟨a,b,hTO⟩,h1,h2⟩:=Z
 show wpAny _ _ (field (.ref z) 2 >>= _) _ _ _
 refine wpAny_bind (wpAny_field hz rfl (x:=.bool false) rfl ?_)
 show wpAny _ _ (field (.ref z) 3 >>= _) _ _ _
 refine wpAny_bind (wpAny_field hz rfl (x:=.ref TI) rfl ?_)
 refine wpAny_bind (wpAny_seqItems hTI rfl ?_)
 show wpAny _ _ (Builtin.SmallTypes.ownedTupleIsFree (.ref z) >>= _) _ _ _
 refine wpAny_bind ?_
 unfold Builtin.SmallTypes.ownedTupleIsFree
 refine wpAny_bind (wpAny_field hz rfl (x:=.none) rfl (wpAny_pure ?_))
 simp only [if_true]
 refine wpAny_bind (wpAny_rule ?_)
 refine wpAny_bind (wpAny_field hz rfl (x:=.ref TO) rfl ?_)
 refine wpAny_bind (wpAny_setField_rec hz (by simp) fun h₁ hz₁ hs₁=>?_)
 replace hz₁:Zac h₁ z TI TO .ellipsis (.bool false):=hz₁
 refine wpAny_bind ?_
 simp only [zipIdx_cons,zipIdx_nil,forIn_cons,forIn_nil]
 refine wpAny_bind (wpAny_bind (wpAny_onRaise ?_))
 show wpAny _ _ (Builtin.SmallTypes.nextOf (.ref i1) >>= _) _ _ _
 refine wpAny_bind (wpAny_nextOf_list_end hh (h1.extBut hs₁.extBut D.i1z) (hl1.extBut hs₁.extBut D.l1z) hx fun h₂ e hs₂ he=>?_)
 obtain⟨oe,hoe,hce⟩:=he
 have hz₂:Zac h₂ z TI TO .ellipsis (.bool false):=hs₂ _ _ D.i1z.symm hz₁
 have hez:e≠z:=fun x=>by subst x;rw[hz₂] at hoe;cases hoe;simp at hce
 refine wpAny_setField_rec hz₂ (by simp) fun h₃ _ hs₃=>hE h₃ e (fun c o c1 _ c3 _ x=>hs₃.extBut _ _ c1 (hs₂ _ _ c3 (hs₁.extBut _ _ c1 x))) ⟨oe,hs₃.extBut _ _ hez hoe,hce⟩
theorem Zg0 {z TI TO i1 i2 l t:Addr}{i:Nat}{xs ys:Array Value}{x y:Value}{Q:Option Value->Shared->Prop}(D:ZipApart z TI TO i1 i2 l t)(Z:ZLt s.heap z TI TO i1 i2 l t i .none)(hl1:s.heap.IsList l xs)(hl2:s.heap.IsList t ys)
  (hx:xs[i]? = some x) (hy:ys[i]? = some y)
  (hQ:∀h',ZLt h' z TI TO i1 i2 l t (i+1) (rawInt s.heap.objs.size)->IsPair h' s.heap.objs.size x y->(∀c o,c≠z->c≠TO->c≠i1->c≠i2->s.heap.get? c=some o->h'.get? c=some o)->Q (some (.ref s.heap.objs.size)) { s with heap:=h' }):
  wpAny (model prog w) A (pyNext (.ref z)) Q E s:=by
 have hT:s.TypeIs (.ref z) "zip":=⟨_,Z.z,rfl⟩
 unfold pyNext
 exact wpAny_bind (wpAny_attempt (wpAny_callSpecial?_slot (name:=Str.ofString "__next__") hT F.slot_zip_next
  (wpAny_call_entry F.slot_zip_next hT F.entry_zip_next
   (Zfy D Z hl1 hl2 hx hy fun h' a1 a2 a3=>wpAny_pure (hQ h' a1 a2 a3)) (F.args_zip_next_1 _))))
theorem Zdp {z TI TO i1 i2 l t:Addr}{i:Nat}{xs:Array Value}{Q:Option Value->Shared->Prop}(hh:A.handled=none)(D:ZipApart z TI TO i1 i2 l t)(Z:ZLt s.heap z TI TO i1 i2 l t i .none)(hl1:s.heap.IsList l xs)(hx:xs[i]? = none)
  (hQ:∀h',(∀c o,c≠z->c≠TO->c≠i1->c≠i2->s.heap.get? c=some o->h'.get? c=some o)->Q none { s with heap:=h' }):wpAny (model prog w) A (pyNext (.ref z)) Q E s:=by
 have hT:s.TypeIs (.ref z) "zip":=⟨_,Z.z,rfl⟩
 unfold pyNext
 refine wpAny_bind (wpAny_attempt (wpAny_callSpecial?_slot (name:=Str.ofString "__next__") hT F.slot_zip_next
  (wpAny_call_entry F.slot_zip_next hT F.entry_zip_next (Zfz hh D Z hl1 hx fun h' e hk he=>?_) (F.args_zip_next_1 _))))
 obtain⟨o,ho,hc⟩:=he
 refine wpAny_bind (wpAny_isInstance (T:="StopIteration") (b:=true) ⟨o,ho,hc⟩ isSubtype_stop ?_)
 exact wpAny_pure (hQ _ hk)
end
abbrev yH1 (h:Heap)(l1:Addr):Heap:=h.push { cls:=.type "list_iterator",data:=.fields #[.ref l1,.int 0 0] }
abbrev yH2 (h:Heap)(l1 l2:Addr):Heap:=(yH1 h l1).push { cls:=.type "list_iterator",data:=.fields #[.ref l2,.int 0 0] }
abbrev yH3 (h:Heap)(l1 l2:Addr):Heap:=(yH2 h l1 l2).push { cls:=.type "tuple",data:=.seq #[.ref h.objs.size,.ref (yH1 h l1).objs.size] }
abbrev yH4 (h:Heap)(l1 l2:Addr):Heap:=(yH3 h l1 l2).push { cls:=.type "tuple",data:=.seq #[.none,.none] }
abbrev yH5 (h:Heap)(l1 l2:Addr):Heap:=(yH4 h l1 l2).push { cls:=.type "zip",data:=.fields #[.none,.bool false,.bool false,.ref (yH2 h l1 l2).objs.size,.ref (yH3 h l1 l2).objs.size] }
theorem Zib (l1 l2:Addr)(xs ys:Array Value):
  Meets (Builtin.«zip.__new__» ⟨[.type "zip", .ref l1, .ref l2], []⟩) (fun _ R s => s.heap.IsList l1 xs /\ s.heap.IsList l2 ys ∧
   R (.ok (.ret (.ref (yH4 s.heap l1 l2).objs.size))) { s with heap:=yH5 s.heap l1 l2 }):=
 .of_wp fun prog w A R s h=>by
  obtain⟨hp,g,d,tk,os⟩:=s;obtain⟨hl1,hl2,h⟩:=h
  have hsub:=sub_zip
  have hL1:Heap.IsList (Shared.heap ⟨hp,g,d,tk,os⟩) l1 xs:=hl1
  have hL2:Heap.IsList (Shared.heap ⟨hp.push { cls:=.type "list_iterator",data:=.fields #[.ref l1,.int 0 0] },g,d,tk,os⟩) l2 ys:=let ⟨q,q1,q2⟩:=hl2;⟨q,Heap.get?_push_of_some _ q1,q2⟩
  wp_walk using wpAny_pyIter_list hL1,wpAny_pyIter_list hL2
  exact⟨_,rfl,h⟩
section
variable {prog:Program}{w:World}{A:Around}{E:Value->Shared->Prop}{s:Shared}
theorem Zg1 {l1 l2:Addr}{xs ys:Array Value}{Q:Value->Shared->Prop}(hl1:s.heap.IsList l1 xs)(hl2:s.heap.IsList l2 ys)
  (h:∀h',ZLt h' (s.heap.objs.size+4) (s.heap.objs.size+2) (s.heap.objs.size+3) s.heap.objs.size (s.heap.objs.size+1) l1 l2 0 .none->ZipApart (s.heap.objs.size+4) (s.heap.objs.size+2) (s.heap.objs.size+3) s.heap.objs.size (s.heap.objs.size+1) l1 l2 →
   (∀c o,s.heap.get? c=some o->h'.get? c=some o)->Q (.ref (s.heap.objs.size+4)) { s with heap:=h' }):
  wpAny (model prog w) A (call (.type "zip") [.ref l1,.ref l2]) Q E s:=by
 refine callType_new F.called_zip (by decide) (F.typeCall_zip_2 _ _) (F.newCall_zip_2 _ _) (fun obj=>F.args_object_init_3 obj _ _) F.entry_zip_new
  (Zib l1 l2 xs ys) ⟨hl1,hl2,?_⟩
 have z1:(yH1 s.heap l1).objs.size=s.heap.objs.size+1:=Heap.size_push ..
 have z2:(yH2 s.heap l1 l2).objs.size=s.heap.objs.size+2:=by rw[Heap.size_push,z1]
 have z3:(yH3 s.heap l1 l2).objs.size=s.heap.objs.size+3:=by rw[Heap.size_push,z2]
 have z4:(yH4 s.heap l1 l2).objs.size=s.heap.objs.size+4:=by rw[Heap.size_push,z3]
 have g5:(yH5 s.heap l1 l2).get? (yH4 s.heap l1 l2).objs.size=some _:=Heap.get?_push_size _ rfl
 have g4:(yH5 s.heap l1 l2).get? (yH3 s.heap l1 l2).objs.size=some _:=Heap.get?_push_of_some _ (Heap.get?_push_size _ rfl)
 have g3:(yH5 s.heap l1 l2).get? (yH2 s.heap l1 l2).objs.size=some _:=Heap.get?_push_of_some _ (Heap.get?_push_of_some _ (Heap.get?_push_size _ rfl))
 have g2:(yH5 s.heap l1 l2).get? (yH1 s.heap l1).objs.size=some _:=Heap.get?_push_of_some _ (Heap.get?_push_of_some _ (Heap.get?_push_of_some _ (Heap.get?_push_size _ rfl)))
 have g1:(yH5 s.heap l1 l2).get? s.heap.objs.size=some _:=Heap.get?_push_of_some _ (Heap.get?_push_of_some _ (Heap.get?_push_of_some _ (Heap.get?_push_of_some _ (Heap.get?_push_size _ rfl))))
 show _/\_
 rw[z2,z3,z4] at g5
 rw[z1,z2] at g3
 rw[z3] at g4
 rw[z1] at g2
 rw[z4]
 have kp:∀c o,s.heap.get? c=some o->(yH5 s.heap l1 l2).get? c=some o:=fun c o x=>
  Heap.get?_push_of_some _ (Heap.get?_push_of_some _ (Heap.get?_push_of_some _ (Heap.get?_push_of_some _ (Heap.get?_push_of_some _ x))))
 have lt1:l1<s.heap.objs.size:=let ⟨_,e,_⟩:=hl1;Heap.lt_size e
 have lt2:l2<s.heap.objs.size:=let ⟨_,e,_⟩:=hl2;Heap.lt_size e
 exact⟨⟨_,g5,rfl⟩,h _ ⟨g5,g3,⟨_,_,g4⟩,⟨_,g1,rfl,rfl⟩,⟨_,g2,rfl,rfl⟩⟩ (zipApart_new lt1 lt2) kp⟩
end
def Itz (K:PySem.W.Frag)(a b:Addr):It:=
 ⟨fun i H=>∃xs ys x y,SqL K H a xs/\SqL K H b ys/\xs[i]? = some x/\ys[i]? = some y,
  fun i H v H'=>∃T x y,v = .ref T/\H T=none/\(∀xs,SqL K H a xs->xs[i]? = some x)/\(∀ys,SqL K H b ys->ys[i]? = some y)/\H'=upd H T (.tup [x,y]),
  fun i H=>∃xs,SqL K H a xs/\xs.length=i⟩
theorem Zg2 {P:Program}{w:World}{K:PySem.W.Frag}{elts:List Expr}{k:Nat}{pos:Pos}(a b z TI TO i1 i2:Addr)(D:ZipApart z TI TO i1 i2 a b):
  Turn P w K (.Tuple elts k pos) (Itz K a b) [z,TI,TO,i1,i2] z (fun i h=>ZLt h z TI TO i1 i2 a b i .none) where
 mem:=by simp
 obj:=fun i h st c hc=>by
  obtain⟨hz,hTI,⟨p,q,hTO⟩,⟨o1,e1,_,d1⟩,⟨o2,e2,_,d2⟩⟩:=st
  simp only [mem_cons,not_mem_nil,or_false] at hc
  rcases hc with rfl|rfl|rfl|rfl|rfl
  ·exact⟨_,hz,fun v z=>by cases z⟩
  ·exact⟨_,hTI,fun v z=>by cases z⟩
  ·exact⟨_,hTO,fun v z=>by cases z⟩
  ·exact⟨_,e1,fun v z=>by rw[d1] at z;cases z⟩
  ·exact⟨_,e2,fun v z=>by rw[d2] at z;cases z⟩
 keep:=fun i h h' st k=>by
  obtain⟨hz,hTI,⟨p,q,hTO⟩,g1,g2⟩:=st
  exact⟨k z (by simp) _ hz,k TI (by simp) _ hTI,⟨p,q,k TO (by simp) _ hTO⟩,g1.at fun o e=>k i1 (by simp) o e,g2.at fun o e=>k i2 (by simp) o e⟩
 item:=by
  intro X hP hw hK hc i pins s σ H E I hf st hg
  subst hP hw hK
  obtain⟨xs,ys,x,y,hq,hq2,hx,hy⟩:=hg
  obtain⟨its,rv,p,hz⟩:=I.list hq
  obtain⟨u,hu,ru⟩:=rv.get hx
  obtain⟨its2,rv2,p2,hz2⟩:=I.list hq2
  obtain⟨u2,hu2,ru2⟩:=rv2.get hy
  have p2':s.heap.IsList b its2.toArray:=p2.isList
  refine Zg0 D st p.isList p2' (x:=u) (y:=u2) (by simpa using hu) (by simpa using hu2) fun h' Z' hT hk=>?_
  refine⟨_,rfl,wpAny_letOwnedTupleGo_zip Z'.z fun h'' hz'' hs''=>?_⟩
  have hfresh:H s.heap.objs.size=none:=I.hok.fresh (Nat.le_refl _)
  have lt:∀{c o},s.heap.get? c=some o->s.heap.objs.size≠c:=fun e=>Nat.ne_of_gt (Heap.lt_size e)
  have nz:s.heap.objs.size≠z:=lt st.z
  obtain⟨ta,tb,hTO⟩:=st.to
  obtain⟨hz3,hTI3,⟨pa,pb,hTO3⟩,g13,g23⟩:=Z'
  refine⟨.ref s.heap.objs.size,_,I.turnedLaid (a:=s.heap.objs.size) (o:=.tup [x,y]) (ch:=[z,TI,TO,i1,i2]) (fun c o hc' q=>?_) hf (Nat.le_refl _) ?_,rfl,⟨s.heap.objs.size,x,y,rfl,hfresh,fun zs hzs=>by rw[I.list_inj hzs hq];exact hx,fun zs hzs=>by rw[I.list_inj hzs hq2];exact hy,rfl⟩,?_,fun c hc'=>?_⟩
  ·simp only [mem_cons,not_mem_nil,or_false,not_or] at hc'
   exact hs''.extBut _ _ hc'.1 (hk c o hc'.1 hc'.2.2.1 hc'.2.2.2.1 hc'.2.2.2.2 q)
  ·refine⟨by show 2<=sizeLine;decide,[u,u2],.cons ru (.cons ru2 .nil),?_⟩
   exact⟨_,hs''.extBut _ _ nz hT,rfl,_,rfl⟩
  ·exact⟨hz'',hs''.extBut _ _ D.TIz hTI3,⟨pa,pb,hs''.extBut _ _ D.TOz hTO3⟩,g13.extBut hs''.extBut D.i1z,g23.extBut hs''.extBut D.i2z⟩
  ·have hne:c≠s.heap.objs.size:=by
    simp only [mem_cons,not_mem_nil,or_false] at hc'
    rcases hc' with rfl|rfl|rfl|rfl|rfl
    ·exact(lt st.z).symm
    ·exact(lt st.ti).symm
    ·exact(lt hTO).symm
    ·obtain⟨o,e,_⟩:=st.g1;exact(lt e).symm
    ·obtain⟨o,e,_⟩:=st.g2;exact(lt e).symm
   rw[Z09 hne]
   exact(hf c hc').1
 done:=by
  intro X hP hw hK hc i pins s σ H E I hf st hg
  subst hP hw hK
  obtain⟨xs,hq,hx⟩:=hg
  obtain⟨its,rv,p,hz⟩:=I.list hq
  have hl:=rv.length
  refine Zdp (I.ok.hd hc) D st p.isList (by rw[Array.getElem?_eq_none];rw[size_toArray];omega) fun h' hk=>⟨rfl,I.turnedL (t':=s.toks) (ch:=[z,TI,TO,i1,i2]) (fun c o hc' q=>?_) hf⟩
  simp only [mem_cons,not_mem_nil,or_false,not_or] at hc'
  exact hk c o hc'.1 hc'.2.2.1 hc'.2.2.2.1 hc'.2.2.2.2 q
 self:=by
  intro A i s Q E st h
  exact wpAny_pyIter_zip st.z h
section
variable {X:Cx}
def Zps (K:PySem.W.Frag)(ta:TA):TI:=fun σ H R=>ta σ H fun vs H1=>∃a b,vs = [.ref a,.ref b]/\(∃xs,SqL K H1 a xs)/\(∃ys,SqL K H1 b ys)/\R (Itz K a b) H1
theorem pi_zip {a b:Expr}{ta:TA}{p pos qq:Pos}{elts:List Expr}{kn:Nat}(hg:Gl X "zip")(hm:X.mg "zip"=none)(ha:PA X [a,b] ta)(he:starEach [a,b] X.env=(false,eval a X.env)::starEach [b] X.env:=by rfl)
  (hpl:(backTo pos (starEach [b] X.env)).any (·.1)=false:=by rfl):
  PI X (.Tuple elts kn qq) (.Call (.Name "zip" p) [a,b] [] pos) (Zps X.K ta):=by
 intro pins s σ H R I h
 refine wpAny_Call_Name_kw (Z50 I hg hm (by decide+kernel:bootBuiltins "zip"=some (.type "zip")) ?_)
 refine PyProof.Rows.callWith_type1 (thn (ha pos pins s σ H _ I h) fun us s1 ⟨vs,H1,I1,r1,q1⟩=>?_) he hpl
 obtain⟨x,y,rfl,⟨xs,hx⟩,⟨ys,hy⟩,hR⟩:=q1
 cases r1 with
 |cons r rr=>
  cases rr with
  |cons r' rr=>
   cases rr
   cases r
   cases r'
   obtain⟨its,v1,pl,hz⟩:=I1.list hx
   obtain⟨its2,v2,pl2,hz2⟩:=I1.list hy
   refine Zg1 pl.isList pl2.isList fun h' Z D kk=>?_
   refine wpAny_pyIter_zip Z.z ?_
   refine⟨_,_,_,_,H1,rfl,I1.kept (t':=s1.toks) kk,Zg2 x y _ _ _ _ _ D,Z,fun b hb=>?_,hR⟩
   have hn:∀j,s1.heap.objs.size<=j->Z3x X pins H1 j:=fun j hj=>I1.fpOk hj (I1.hok.fresh hj)
   simp only [mem_cons,not_mem_nil,or_false] at hb
   rcases hb with rfl|rfl|rfl|rfl|rfl
   all_goals exact hn _ (by omega)
end
section
variable {K:PySem.W.Frag}{a b:Addr}{xs ys:List V}{σ0:St}{H:Hp}{g:TG}{tt:TT}{te:TE}{Q:List V->Hp->Prop}
theorem comp_zip (hlen:xs.length=ys.length)(Pv:Nat->List V->St->Hp->Prop)(h0:Pv 0 [] σ0 H)(hl:∀i zs σc H,Pv i zs σc H->SqL K H a xs/\SqL K H b ys)
  (hs:∀i x y zs σc H T,xs[i]? = some x->ys[i]? = some y->i<xs.length->Pv i zs σc H->zs.length<sizeLine/\(H T=none->g (.ref T) σc (upd H T (.tup [x,y])) fun σ2 H2=>tt σ2 H2 fun b H3=>
   if b=true then te σ2 H3 fun v H4=>Nx xs.length i (Pv (i+1) (zs ++ [v]) σ2 H4) else Nx xs.length i (Pv (i+1) zs σ2 H3)))
  (hd:∀zs σc H,Pv xs.length zs σc H->Q zs H):
  ∃W:Nat->Nat->List V->St->Hp->Prop,(∃m,W 0 m [] σ0 H)/\∀i m zs σc H,W i m zs σc H →
   ((Itz K a b).stop i H/\Q zs H)∨((Itz K a b).go i H/\zs.length<sizeLine/\∀v H',(Itz K a b).yld i H v H'->g v σc H' fun σ2 H2=>tt σ2 H2 fun b H3=>
    if b=true then te σ2 H3 fun v H4=>∃m',m'<m/\W (i+1) m' (zs ++ [v]) σ2 H4 else ∃m',m'<m/\W (i+1) m' zs σ2 H3):=by
 refine⟨fun i m zs σc H=>m=xs.length-i/\i<=xs.length/\Pv i zs σc H,⟨_,rfl,Nat.zero_le _,h0⟩,?_⟩
 rintro i m zs σc H ⟨rfl,hi,p⟩
 obtain⟨q1,q2⟩:=hl i zs σc H p
 by_cases hlt:i<xs.length
 ·have hx:xs[i]? = some xs[i]:=List.getElem?_eq_getElem hlt
  have hlt2:i<ys.length:=by omega
  have hy:ys[i]? = some ys[i]:=List.getElem?_eq_getElem hlt2
  obtain⟨z,_⟩:=hs i _ _ zs σc H 0 hx hy hlt p
  refine .inr ⟨⟨xs,ys,xs[i],ys[i],q1,q2,hx,hy⟩,z,fun v H' y=>?_⟩
  obtain⟨T,x',y',rfl,hT,e1,e2,rfl⟩:=y
  exact(hs i x' y' zs σc H T (e1 xs q1) (e2 ys q2) hlt p).2 hT
 ·have e:i=xs.length:=by omega
  subst e
  exact .inl ⟨⟨xs,q1,rfl⟩,hd zs σc H p⟩
end
end Z2
end L2
namespace L2
open PySem PySem.Spec PyProof.Rows
def It6 (n:Nat):It:=⟨fun i _=>i<n,fun i H x H'=>H'=H/\x = .int ((i:Nat)*6),fun i _=>n<=i⟩
theorem Zb2 {P:Program}{w:World}{K:PySem.W.Frag}{tg:Expr}(it:Addr)(n:Nat):Turn P w K tg (It6 n) [it] it (fun i h=>IsRangeIter h it (0+(i:Nat)*6) ((n:Int)-(i:Nat)) 6) where
 mem:=by simp
 obj:=fun i h st b hb=>by
  have e:b=it:=by simpa using hb
  subst e
  exact⟨_,st,fun v z=>by
   have z':Data.fields _=Data.cell v:=z
   cases z'⟩
 keep:=fun i h h' st k=>k it (by simp) _ st
 item:=by
  intro X hP hw hK hc i pins s σ H E I hf st hg
  subst hP hw hK
  obtain⟨f0,f1,f2,f3,f4,f5⟩:=hf it (by simp)
  have W:=Walks.range (prog:=X.prog) (w:=X.w) (I.ok.hd hc) it 0 6 n
  refine W.item i s _ _ hg st fun v h' tk hv st' kk=>?_
  obtain⟨t,rfl⟩:=hv
  have I1:Inv X pins σ H { s with heap:=h',toks:=tk }:=I.turned (fun b o hb e=>kk b o (by simpa using hb) e) f0 f1 f3 f4 f5
  refine⟨_,rfl,Zgt (s:={ s with heap:=h',toks:=tk }) (n:="range_iterator") st' rfl rfl (by decide) ⟨.int ((i:Nat)*6),H,I1,⟨t,?_⟩,⟨rfl,rfl⟩,st',fun b hb=>(hf b hb).1⟩⟩
  rw[Int.zero_add]
 done:=by
  intro X hP hw hK hc i pins s σ H E I hf st hg
  subst hP hw hK
  obtain⟨f0,f1,f2,f3,f4,f5⟩:=hf it (by simp)
  exact wpAny_pyNext_range_end (I.ok.hd hc) st (by have:n<=i:=hg;omega) fun h' eb=>⟨rfl,I.turned (t':=s.toks) (fun b o hb e=>eb b o hb e) f0 f1 f3 f4 f5⟩
 self:=fun _ _ _ _ _ st h=>wpAny_pyIter_rangeiter st h
theorem Zn2 {j:Nat}:Builtin.Range.rangeSize 0 (j:Int) 6=(((j+5) / 6:Nat):Int):=by
 unfold Builtin.Range.rangeSize
 rw[if_pos (by decide)]
 split <;> omega
theorem Zg3 {i:Int}(h : -(2 ^ 62)<=i)(h':i<2 ^ 62):Builtin.Range.rangeFitsLong i=true:=by
 show(decide _&&decide _)=true
 rw[Bool.and_eq_true]
 exact⟨decide_eq_true (by omega),decide_eq_true (by omega)⟩
theorem Zn3 {j:Nat}(h:j<=1000):Builtin.Range.small 0 (j:Int) 6=true:=by
 unfold Builtin.Range.small
 rw[Zn2]
 have hk:(j+5) / 6<=1000:=by omega
 generalize (j+5) / 6=k at hk
 rw[if_pos (by decide),Zg3 (i:=0) (by omega) (by omega),Zg3 (i:=(j:Int)) (by omega) (by omega),Zg3 (i:=6) (by omega) (by omega),Zg3 (i:=(k:Int)) (by omega) (by omega),Zg3 (i:=(j:Int)+(6-1)) (by omega) (by omega),Bool.or_true]
 rfl
section
variable {X:Cx}{tg:Expr}
def Zop (ta:TA):TI:=fun σ H R=>ta σ H fun vs H1=>∃j:Nat,vs = [.int 0,.int (j:Nat),.int 6]/\j<=1000/\R (It6 ((j+5) / 6)) H1
theorem Zg4 {a b c:Expr}{ta:TA}{p pos:Pos}(hg:Gl X "range")(hm:X.mg "range"=none)(ha:PA X [a,b,c] ta)(he:starEach [a,b,c] X.env=(false,eval a X.env)::starEach [b,c] X.env:=by rfl)
  (hpl:(backTo pos (starEach [b,c] X.env)).any (·.1)=false:=by rfl):PI X tg (.Call (.Name "range" p) [a,b,c] [] pos) (Zop ta):=by
 intro pins s σ H R I h
 refine Call_ (Z50 I hg hm boot_range (PyProof.Rows.callWith_type1 (thn (ha pos pins s σ H _ I h) fun us s1 ⟨vs,H1,I1,r1,q1⟩=>?_) he hpl))
 obtain⟨j,e,hj,q⟩:=q1
 subst e
 cases r1 with
 |cons r rr=>
  cases rr with
  |cons r' rr=>
   cases rr with
   |cons r'' rr=>
    cases rr
    obtain⟨t,rfl⟩:=r
    obtain⟨t',rfl⟩:=r'
    obtain⟨t'',rfl⟩:=r''
    refine call_range_3 (by decide) ?_ (Or.inl (PyProof.noPylong_small (by omega)))
    refine wpAny_pyIter_range (IsRange.new ..) (Zn3 hj) ?_
    have I2:Inv X pins σ H1 { s1 with heap:=s1.heap.push { cls:=.type "range",data:=.fields #[.int 0 t,.int (j:Nat) t',.int 6 t''] },toks:=s1.toks }:=I1.kept fun b o e=>Heap.get?_push_of_some _ e
    refine⟨(s1.heap.push { cls:=.type "range",data:=.fields #[.int 0 t,.int (j:Nat) t',.int 6 t''] }).objs.size,[(s1.heap.push { cls:=.type "range",data:=.fields #[.int 0 t,.int (j:Nat) t',.int 6 t''] }).objs.size],_,_,H1,rfl,
     I2.kept (t':=s1.toks) fun b o e=>Heap.get?_push_of_some _ e,Zb2 _ ((j+5) / 6),?_,fun b hb=>?_,q⟩
    ·show IsRangeIter _ _ (0+((0:Nat):Int)*6) ((((j+5) / 6:Nat):Int)-((0:Nat):Int)) 6
     rw[<- Zn2,show(0:Int)+((0:Nat):Int)*6=0 by decide,show ∀x:Int,x-((0:Nat):Int)=x from fun x=>by simp]
     exact Heap.get?_push_size _ rfl
    ·have e:b=(s1.heap.push { cls:=.type "range",data:=.fields #[.int 0 t,.int (j:Nat) t',.int 6 t''] }).objs.size:=by simpa using hb
     subst e
     exact I2.fpOk (Nat.le_refl _) (I2.hok.fresh (Nat.le_refl _))
end
section
variable {n:Nat}{σ0:St}{H:Hp}{g:TG}{tt:TT}{te:TE}{Q:List V->Hp->Prop}
theorem Zb3 (Pv:Nat->List V->St->Hp->Prop)(h0:Pv 0 [] σ0 H)
  (hs:∀i ys σc H,i<n->Pv i ys σc H->ys.length<sizeLine/\g (.int ((i:Nat)*6)) σc H fun σ2 H2=>tt σ2 H2 fun b H3=>
   if b=true then te σ2 H3 fun v H4=>Nx n i (Pv (i+1) (ys ++ [v]) σ2 H4) else Nx n i (Pv (i+1) ys σ2 H3))
  (hd:∀ys σc H,Pv n ys σc H->Q ys H):
  ∃W:Nat->Nat->List V->St->Hp->Prop,(∃m,W 0 m [] σ0 H)/\∀i m ys σc H,W i m ys σc H →
   ((It6 n).stop i H/\Q ys H)∨((It6 n).go i H/\ys.length<sizeLine/\∀v H',(It6 n).yld i H v H'->g v σc H' fun σ2 H2=>tt σ2 H2 fun b H3=>
    if b=true then te σ2 H3 fun v H4=>∃m',m'<m/\W (i+1) m' (ys ++ [v]) σ2 H4 else ∃m',m'<m/\W (i+1) m' ys σ2 H3):=by
 refine⟨fun i m ys σc H=>m=n-i/\i<=n/\Pv i ys σc H,⟨_,rfl,Nat.zero_le _,h0⟩,?_⟩
 rintro i m ys σc H ⟨rfl,hi,p⟩
 by_cases hlt:i<n
 ·obtain⟨z,_⟩:=hs i ys σc H hlt p
  refine .inr ⟨hlt,z,fun v H' y=>?_⟩
  obtain⟨e,ev⟩:=y
  subst e ev
  exact(hs i ys σc _ hlt p).2
 ·have e:i=n:=by omega
  subst e
  exact .inl ⟨Nat.le_refl _,hd ys σc H p⟩
end
def Zlh (c:Nat):Bool:=decide (32<c)&&decide (c<127)&&decide (c≠39)&&decide (c≠92)
def sgn (x:Str):Bool:=x.cps.toList.all Zlh
theorem Z8q {c:Nat}(h:Zlh c=true):c≠39/\Builtin.Str.reprChar 39 c = [c]:=by
 unfold Zlh at h
 simp only [Bool.and_eq_true,decide_eq_true_eq] at h
 refine⟨h.1.2,?_⟩
 unfold Builtin.Str.reprChar
 have hp:Unicode.isPrintable c=true:=by
  rw[cls_isprintable c (by omega)]
  have:∀c:Fin 127,32<c.val->inR 32 126 ⟨#[c.val]⟩=true:=by decide+kernel
  exact this ⟨c,by omega⟩ h.1.1.1
 have e1:(c==39||c==92)=false:=by simp [h.1.2,h.2]
 have e2:(c==10)=false:=by simp;omega
 have e3:(c==13)=false:=by simp;omega
 have e4:(c==9)=false:=by simp;omega
 simp only [e1,e2,e3,e4,hp,if_true,Bool.false_eq_true,if_false]
theorem Zkq:∀(l:List Nat) (acc:Array Nat),l.all Zlh=true->(l.foldl (fun out c=>out++(Builtin.Str.reprChar 39 c).toArray) acc).toList=acc.toList++l:=by
 intro l
 induction l with
 |nil=>intro acc _;simp
 |cons c l ih=>
  intro acc h
  rw[all_cons,Bool.and_eq_true] at h
  rw[List.foldl_cons,(Z8q h.1).2,ih _ h.2]
  simp
theorem Zic {x:Str}(h:sgn x=true):reprQuote x=39:=by
 unfold reprQuote
 have:x.cps.contains 39=false:=by
  rw[Bool.eq_false_iff]
  intro q
  have hm:39∈x.cps.toList:=by
   rw[Array.contains_iff_mem] at q
   exact Array.mem_def.mp q
  exact(Z8q (all_eq_true.mp h 39 hm)).1 rfl
 rw[this]
 rfl
abbrev cd (t:Th):List Nat:=(dat t).shown.cps.toList
theorem Z7d {x:Str}(h:sgn x=true):cd (.at (.str x))=39::(x.cps.toList ++ [39]):=by
 show(PyData.shown (.str x)).cps.toList=_
 rw[PyData.shown]
 unfold reprText
 rw[Zic h,<- Array.foldl_toList]
 show(Array.push _ 39).toList=_
 rw[Array.toList_push,Zkq _ _ h]
 rfl
theorem Z7e (n:Nat):cd (.at (.int (n:Nat)))=(Nat.toDigits 10 n).map Char.toNat:=by
 show(PyData.shown (.int (n:Nat))).cps.toList=_
 rw[PyData.shown,signs_ofString,Int.toString_eq_repr,Int.repr_eq_if]
 simp only [Int.natCast_nonneg,if_true,Int.toNat_natCast,Nat.toList_repr]
def dgt (c:Nat):Bool:=decide (48<=c)&&decide (c<=57)
theorem Zb4 (n:Nat):∀c∈(Nat.toDigits 10 n).map Char.toNat,dgt c=true:=fun c hc=>by
 obtain⟨ch,h,rfl⟩:=mem_map.mp hc
 have:=digit_range (Nat.isDigit_of_mem_toDigits (by decide) (by decide) h)
 unfold dgt
 rw[Bool.and_eq_true]
 exact⟨decide_eq_true this.1,decide_eq_true this.2⟩
theorem Zkr {n m:Nat}(h:(Nat.toDigits 10 n).map Char.toNat=(Nat.toDigits 10 m).map Char.toNat):n=m:=by
 have e:Nat.toDigits 10 n=Nat.toDigits 10 m:=by
  refine(List.map_inj_right fun a b q=>?_).mp h
  exact Char.ext (UInt32.toNat_inj.mp q)
 have h1:=Nat.ofDigitChars_toDigits (b:=10) (n:=n) (by decide) (by decide)
 have h2:=Nat.ofDigitChars_toDigits (b:=10) (n:=m) (by decide) (by decide)
 rw[<- h1,<- h2,e]
def tlC:List Th->List Nat
 |[]=>[41]
 |t::ts=>44::32::(cd t++tlC ts)
theorem Zks:∀(t:Th) (ts:List Th),(Str.join ", " (PyData.shownAll (Z5d (t::ts)))).cps.toList ++ [41]=cd t++tlC ts:=by
 intro t ts
 induction ts generalizing t with
 |nil=>
  rw[Z5d,Z5d,PyData.shownAll,PyData.shownAll,join_one,tlC]
 |cons u ts ih=>
  rw[Z5d,Z5d,PyData.shownAll,PyData.shownAll,join_cons_cons,cps_toList_append,cps_toList_append,tlC]
  have:=ih u
  rw[Z5d,PyData.shownAll] at this
  rw[append_assoc,this,append_assoc]
  rfl
theorem Z4w:cd (.tup []) = [40,41]:=by
 show(PyData.shown (.tuple (Z5d []))).cps.toList=_
 rw[PyData.shown,Z5d,PyData.shownAll]
 unfold tupleText
 decide+kernel
theorem Z4x (t:Th):cd (.tup [t])=40::(cd t ++ [44,41]):=by
 show(PyData.shown (.tuple (Z5d [t]))).cps.toList=_
 rw[PyData.shown,Z5d,Z5d,PyData.shownAll,PyData.shownAll]
 unfold tupleText
 rw[cps_toList_append,cps_toList_append,join_one]
 rfl
theorem Z4y (t u:Th)(ts:List Th):cd (.tup (t::u::ts))=40::(cd t++tlC (u::ts)):=by
 show(PyData.shown (.tuple (Z5d (t::u::ts)))).cps.toList=_
 rw[PyData.shown,<- Zks]
 unfold tupleText
 rw[cps_toList_append,cps_toList_append]
 rfl
mutual
def okS:Th->Bool
 | .at (.str x)=>sgn x
 | .at (.int i)=>decide (0<=i)
 | .at _=>false
 | .tup ts=>Z8u ts
 | .lst _=>false
def Z8u:List Th->Bool
 |[]=>true
 |t::ts=>okS t&&Z8u ts
end
theorem Zid:∀{ts:List Th},(∀t∈ts,okS t=true)->Z8u ts=true:=by
 intro ts
 induction ts with
 |nil=>intro _;rfl
 |cons t ts ih=>intro h;rw[Z8u,h t (mem_cons_self ..),ih fun u hu=>h u (mem_cons_of_mem _ hu)];rfl
def Bh (r:List Nat):Prop:=∀c,r.head? = some c->c=44∨c=41
inductive Kdc:Th->Prop where
 |s (x:Str):sgn x=true->Kdc (.at (.str x))
 |i (n:Nat):Kdc (.at (.int (n:Nat)))
 |t (ts:List Th):Z8u ts=true->Kdc (.tup ts)
theorem okS.kd:∀{t:Th},okS t=true->Kdc t
 | .at (.str x),h=>.s x h
 | .at (.int i),h=>by
  have h0:0<=i:=of_decide_eq_true h
  obtain⟨n,rfl⟩:=Int.eq_ofNat_of_zero_le h0
  exact .i n
 | .tup ts,h=>.t ts h
theorem Zj7 {p:Nat->Bool}:∀{a b r r':List Nat},(∀c∈a,p c=true)->(∀c∈b,p c=true)->(∀c,r.head? = some c->p c=false)->(∀c,r'.head? = some c->p c=false)->a++r=b++r'->a=b/\r=r':=by
 intro a
 induction a with
 |nil=>
  intro b r r' _ hb hr _ e
  cases b with
  |nil=>exact⟨rfl,e⟩
  |cons y b=>
   rw[nil_append,cons_append] at e
   have:=hr y (by rw[e];rfl)
   rw[hb y (mem_cons_self ..)] at this
   cases this
 |cons x a ih=>
  intro b r r' ha hb hr hr' e
  cases b with
  |nil=>
   rw[nil_append,cons_append] at e
   have:=hr' x (by rw[<- e];rfl)
   rw[ha x (mem_cons_self ..)] at this
   cases this
  |cons y b=>
   rw[cons_append,cons_append] at e
   injection e with e1 e2
   obtain⟨h1,h2⟩:=ih (fun c hc=>ha c (mem_cons_of_mem _ hc)) (fun c hc=>hb c (mem_cons_of_mem _ hc)) hr hr' e2
   exact⟨by rw[e1,h1],h2⟩
theorem Z4j (n:Nat):∃c l,(Nat.toDigits 10 n).map Char.toNat=c::l/\dgt c=true:=by
 cases e:(Nat.toDigits 10 n).map Char.toNat with
 |nil=>exact absurd (List.map_eq_nil_iff.mp e) Nat.toDigits_ne_nil
 |cons c l=>exact⟨c,l,rfl,Zb4 n c (by rw[e];exact mem_cons_self ..)⟩
theorem Z8r {t:Th}(h:okS t=true):∃c l,cd t=c::l/\c≠41/\c≠32:=by
 cases okS.kd h with
 |s x hx=>exact⟨39,_,Z7d hx,by decide,by decide⟩
 |i n=>
  obtain⟨c,l,e,hc⟩:=Z4j n
  refine⟨c,l,by rw[Z7e,e],?_,?_⟩ <;> (rintro rfl;cases hc)
 |t ts hts=>
  match ts with
  |[]=>exact⟨40,_,Z4w,by decide,by decide⟩
  |[t]=>exact⟨40,_,Z4x t,by decide,by decide⟩
  |t::u::ts=>exact⟨40,_,Z4y t u ts,by decide,by decide⟩
theorem Zdq (ts:List Th)(r:List Nat):Bh (tlC ts++r):=by
 intro c h
 cases ts with
 |nil=>rw[tlC] at h;exact .inr (Option.some.inj h).symm
 |cons t ts=>rw[tlC] at h;exact .inl (Option.some.inj h).symm
theorem Znr (r:List Nat):Bh (44::41::r):=fun c h=>.inl (Option.some.inj h).symm
theorem Zj8 {r:List Nat}(h:Bh r):∀c,r.head? = some c->dgt c=false:=fun c hc=>by
 rcases h c hc with rfl|rfl <;> rfl
mutual
theorem Z83:∀(t u:Th),okS t=true->okS u=true->∀r r':List Nat,Bh r->Bh r'->cd t++r=cd u++r'->t=u/\r=r'
 | .at (.str x),u,ht,hu,r,r',hr,hr',e=>by
  have ht:sgn x=true:=ht
  rw[Z7d ht] at e
  cases okS.kd hu with
  |s y hy=>
   rw[Z7d hy] at e
   rw[cons_append,cons_append,append_assoc,append_assoc] at e
   injection e with _ e
   obtain⟨h1,h2⟩:=Zj7 (p:=fun c=>decide (c≠39)) (fun c hc=>decide_eq_true (Z8q (all_eq_true.mp ht c hc)).1) (fun c hc=>decide_eq_true (Z8q (all_eq_true.mp hy c hc)).1) (fun c hc=>by rw[<- Option.some.inj hc];decide) (fun c hc=>by rw[<- Option.some.inj hc];decide) e
   injection h2 with _ h2
   refine⟨?_,h2⟩
   obtain⟨⟨x⟩⟩:=x
   obtain⟨⟨y⟩⟩:=y
   have h1:x=y:=h1
   rw[h1]
  |i n=>
   obtain⟨c,l,e2,hc⟩:=Z4j n
   rw[Z7e,e2] at e
   injection e with e _
   rw[<- e] at hc
   cases hc
  |t us hus=>
   match us with
   |[]=>rw[Z4w] at e;injection e with e _;cases e
   |[u]=>rw[Z4x] at e;injection e with e _;cases e
   |u::u'::us=>rw[Z4y] at e;injection e with e _;cases e
 | .at (.int i),u,ht,hu,r,r',hr,hr',e=>by
  have h0:0<=i:=of_decide_eq_true ht
  obtain⟨n,rfl⟩:=Int.eq_ofNat_of_zero_le h0
  have hr1:=Zj8 hr
  obtain⟨c,l,e2,hc⟩:=Z4j n
  rw[Z7e] at e
  cases okS.kd hu with
  |s y hy=>
   rw[Z7d hy,e2] at e
   injection e with e _
   rw[e] at hc
   cases hc
  |i m=>
   rw[Z7e] at e
   obtain⟨h1,h2⟩:=Zj7 (p:=dgt) (Zb4 n) (Zb4 m) hr1 (Zj8 hr') e
   rw[Zkr h1]
   exact⟨rfl,h2⟩
  |t us hus=>
   rw[e2] at e
   match us with
   |[]=>rw[Z4w] at e;injection e with e _;rw[e] at hc;cases hc
   |[u]=>rw[Z4x] at e;injection e with e _;rw[e] at hc;cases hc
   |u::u'::us=>rw[Z4y] at e;injection e with e _;rw[e] at hc;cases hc
 | .at (.bl _),_,ht,_,_,_,_,_,_=>by cases ht
 | .at .non,_,ht,_,_,_,_,_,_=>by cases ht
 | .at (.ref _),_,ht,_,_,_,_,_,_=>by cases ht
 | .at (.ty _),_,ht,_,_,_,_,_,_=>by cases ht
 | .lst _,_,ht,_,_,_,_,_,_=>by cases ht
 | .tup [],u,ht,hu,r,r',hr,hr',e=>by
  rw[Z4w] at e
  cases okS.kd hu with
  |s y hy=>rw[Z7d hy] at e;injection e with e _;cases e
  |i m=>
   obtain⟨c,l,e2,hc⟩:=Z4j m
   rw[Z7e,e2] at e
   injection e with e _
   rw[<- e] at hc
   cases hc
  |t us hus=>
   match us,hus with
   |[],_=>rw[Z4w] at e;exact⟨rfl,by injection e with _ e;injection e⟩
   |[u],hus=>
    rw[Z8u,Bool.and_eq_true] at hus
    obtain⟨c,l,e2,h1,_⟩:=Z8r hus.1
    rw[Z4x,e2] at e
    injection e with _ e
    injection e with e _
    exact absurd e.symm h1
   |u::u'::us,hus=>
    rw[Z8u,Bool.and_eq_true] at hus
    obtain⟨c,l,e2,h1,_⟩:=Z8r hus.1
    rw[Z4y,e2] at e
    injection e with _ e
    injection e with e _
    exact absurd e.symm h1
 | .tup [t],u,ht,hu,r,r',hr,hr',e=>by
  have ht:Z8u [t]=true:=ht
  rw[Z8u,Bool.and_eq_true] at ht
  rw[Z4x] at e
  cases okS.kd hu with
  |s y hy=>rw[Z7d hy] at e;injection e with e _;cases e
  |i m=>
   obtain⟨c,l,e2,hc⟩:=Z4j m
   rw[Z7e,e2] at e
   injection e with e _
   rw[<- e] at hc
   cases hc
  |t us hus=>
   match us,hus with
   |[],_=>
    obtain⟨c,l,e2,h1,_⟩:=Z8r ht.1
    rw[Z4w,e2] at e
    injection e with _ e
    injection e with e _
    exact absurd e h1
   |[u],hus=>
    rw[Z8u,Bool.and_eq_true] at hus
    rw[Z4x,cons_append,cons_append,append_assoc,append_assoc] at e
    injection e with _ e
    obtain⟨h1,h2⟩:=Z83 t u ht.1 hus.1 _ _ (Znr r) (Znr r') e
    rw[h1]
    exact⟨rfl,by injection h2 with _ h2;injection h2⟩
   |u::u'::us,hus=>
    rw[Z8u,Bool.and_eq_true] at hus
    rw[Z4y,cons_append,cons_append,append_assoc,append_assoc] at e
    injection e with _ e
    obtain⟨h1,h2⟩:=Z83 t u ht.1 hus.1 _ _ (Znr r) (Zdq _ _) e
    rw[tlC] at h2
    injection h2 with _ h2
    injection h2 with h2 _
    cases h2
 | .tup (t::t'::ts),u,ht,hu,r,r',hr,hr',e=>by
  have ht:Z8u (t::t'::ts)=true:=ht
  rw[Z8u,Bool.and_eq_true] at ht
  rw[Z4y] at e
  cases okS.kd hu with
  |s y hy=>rw[Z7d hy] at e;injection e with e _;cases e
  |i m=>
   obtain⟨c,l,e2,hc⟩:=Z4j m
   rw[Z7e,e2] at e
   injection e with e _
   rw[<- e] at hc
   cases hc
  |t us hus=>
   match us,hus with
   |[],_=>
    obtain⟨c,l,e2,h1,_⟩:=Z8r ht.1
    rw[Z4w,e2] at e
    injection e with _ e
    injection e with e _
    exact absurd e h1
   |[u],hus=>
    rw[Z8u,Bool.and_eq_true] at hus
    rw[Z4x,cons_append,cons_append,append_assoc,append_assoc] at e
    injection e with _ e
    obtain⟨h1,h2⟩:=Z83 t u ht.1 hus.1 _ _ (Zdq _ _) (Znr r') e
    rw[tlC] at h2
    injection h2 with _ h2
    injection h2 with h2 _
    cases h2
   |u::u'::us,hus=>
    rw[Z8u,Bool.and_eq_true] at hus
    rw[Z4y,cons_append,cons_append,append_assoc,append_assoc] at e
    injection e with _ e
    obtain⟨h1,h2⟩:=Z83 t u ht.1 hus.1 _ _ (Zdq _ _) (Zdq _ _) e
    obtain⟨h3,h4⟩:=Zj9 (t'::ts) (u'::us) ht.2 hus.2 _ _ h2
    rw[h1,h3]
    exact⟨rfl,h4⟩
theorem Zj9:∀(ts us:List Th),Z8u ts=true->Z8u us=true->∀r r':List Nat,tlC ts++r=tlC us++r'->ts=us/\r=r'
 |[],[],_,_,r,r',e=>⟨rfl,by rw[tlC] at e;injection e⟩
 |[],_::_,_,_,r,r',e=>by rw[tlC,tlC] at e;injection e with e _;cases e
 |_::_,[],_,_,r,r',e=>by rw[tlC,tlC] at e;injection e with e _;cases e
 |t::ts,u::us,ht,hu,r,r',e=>by
  rw[Z8u,Bool.and_eq_true] at ht hu
  rw[tlC,tlC,cons_append,cons_append,cons_append,cons_append,append_assoc,append_assoc] at e
  injection e with _ e
  injection e with _ e
  obtain⟨h1,h2⟩:=Z83 t u ht.1 hu.1 _ _ (Zdq _ _) (Zdq _ _) e
  obtain⟨h3,h4⟩:=Zj9 ts us ht.2 hu.2 _ _ h2
  exact⟨by rw[h1,h3],h4⟩
end
theorem Zg5 {t u:Th}(ht:okS t=true)(hu:okS u=true)(e:(dat t).shown=(dat u).shown):t=u:=
 (Z83 t u ht hu [] [] (fun c h=>by cases h) (fun c h=>by cases h) (by rw[append_nil,append_nil];unfold cd;rw[e])).1
end L2
namespace K13
open PySem L2
theorem Z5s {n:Th}{B:List Str}(h1:wd n="name")(h2:nm n∈B):Z36 n B=(B.length:Int)-1-(lix B (nm n):Int)/\0<=Z36 n B:=by
 have e:Z36 n B=(B.length:Int)-1-(lix B (nm n):Int):=by unfold Z36;rw[if_pos ⟨h1,h2⟩]
 have:=(Zmw B h2).1
 exact⟨e,by rw[e];omega⟩
theorem Z4k {n:Th}{B:List Str}(h:¬ (wd n="name"/\nm n∈B)):Z36 n B = -1:=by unfold Z36;rw[if_neg h]
theorem Zkt:∀(l M:List Str) {x:Str},x∈Z12 M l->x∈M∨x∈l:=by
 intro l
 induction l with
 |nil=>intro M x h;exact .inl h
 |cons y l ih=>
  intro M x h
  rcases ih (Z5f M y) (show x∈Z12 (Z5f M y) l from h) with q|q
  ·unfold Z5f at q
   split at q
   ·exact .inl q
   ·rcases mem_append.mp q with q|q
    ·exact .inl q
    ·rw[mem_singleton] at q
     rw[q];exact .inr (mem_cons_self ..)
  ·exact .inr (mem_cons_of_mem _ q)
theorem Zci (l:List Str)(x:Str)(h:x∈dd l):x∈l:=(Zkt l [] h).resolve_left fun q=>by cases q
theorem Sh.word {S:SS}{w:Str}{hd:List V}{n:Nat}(h:Sh S w hd n):w≠"free"/\sgn w=true/\(∀v∈hd,okS (.at v)=true):=by
 have nmS:∀{x:Str},NmU S x->okS (.at (.str x))=true:=fun {x} hx=>by
  show sgn x=true
  refine all_eq_true.mpr fun c hc=>?_
  have:=hx.1.2 c hc
  unfold Zlh
  simp only [Bool.and_eq_true,decide_eq_true_eq]
  omega
 cases h with
 |num a b=>exact⟨by decide+kernel,by decide+kernel,Z13 (decide_eq_true a)⟩
 |name a=>exact⟨by decide+kernel,by decide+kernel,Z13 (nmS a)⟩
 |take=>exact⟨by decide+kernel,by decide+kernel,fun v hv=>by cases hv⟩
 |op a=>
  refine⟨by decide+kernel,by decide+kernel,Z13 ?_⟩
  show sgn _=true
  have:∀c∈("+-*/<=":Str).cps.toList,Zlh c=true:=by decide+kernel
  exact all_eq_true.mpr (Z13 (this _ a))
 |pick=>exact⟨by decide+kernel,by decide+kernel,fun v hv=>by cases hv⟩
 |lt a=>exact⟨by decide+kernel,by decide+kernel,Z13 (nmS a)⟩
 |set a=>exact⟨by decide+kernel,by decide+kernel,Z13 (nmS a)⟩
 |say=>exact⟨by decide+kernel,by decide+kernel,fun v hv=>by cases hv⟩
 |seq a b=>exact⟨by decide+kernel,by decide+kernel,fun v hv=>by cases hv⟩
 |again a b=>exact⟨by decide+kernel,by decide+kernel,Z13 (decide_eq_true a)⟩
 |call a b c=>exact⟨by decide+kernel,by decide+kernel,Z13 (nmS b)⟩
def fwd (w:Str):Str:=if w="free" then "name" else w
theorem Z7f {S:SS}{num:Str->Int}{n:Nat}{t:Th}{o:Int}(h:PfT S (n+1) t):∃w r,shP num t o = .at (.str w)::r/\w≠"name"/\shH num t o = .at (.str (fwd w))::r:=by
 obtain⟨w,hd,ks,rfl,h1,h2,h3,h4,h5,h6⟩:=h
 have nk:∀k∈ks,L2.isTup k=true:=fun k hk=>(h6 k hk).isTup
 have fw:w≠"free":=h4.sh.word.1
 unfold shP shH
 rw[Z3w]
 by_cases c1:w="set"
 ·rw[if_pos c1,if_pos c1]
  exact⟨_,_,rfl,by decide+kernel,by rw[show fwd "set"="set" by decide+kernel]⟩
 ·rw[if_neg c1,if_neg c1]
  by_cases c2:w="name"/\o<0
  ·rw[if_pos c2,if_pos c2]
   exact⟨_,_,rfl,by decide+kernel,by rw[show fwd "free"="name" by decide+kernel]⟩
  ·rw[if_neg c2,if_neg c2]
   by_cases c3:w="let"
   ·rw[if_pos c3]
    exact⟨_,_,rfl,by decide+kernel,by rw[show fwd "let"="let" by decide+kernel]⟩
   ·rw[if_neg c3]
    by_cases c4:0<=o
    ·rw[if_pos c4]
     exact⟨_,_,rfl,by decide+kernel,by rw[show fwd "own"="own" by decide+kernel]⟩
    ·rw[if_neg c4]
     have e:Z47 (nd w hd ks) = .at (.str w)::hd.map Th.at:=Z35 nk
     rw[e]
     refine⟨_,_,rfl,fun q=>c2 ⟨q,by omega⟩,?_⟩
     unfold fwd
     rw[if_neg fw]
theorem Zku {w w':Str}(h:w≠"name")(h':w'≠"name")(e:fwd w=fwd w'):w=w':=by
 unfold fwd at e
 by_cases c:w="free"
 ·rw[if_pos c] at e
  by_cases c':w'="free"
  ·rw[c,c']
  ·rw[if_neg c'] at e;exact absurd e.symm h'
 ·rw[if_neg c] at e
  by_cases c':w'="free"
  ·rw[if_pos c'] at e;exact absurd e h
  ·rw[if_neg c'] at e;exact e
theorem Zie {S S':SS}{num num':Str->Int}{n n':Nat}{t t':Th}{o o':Int}(h:PfT S (n+1) t)(h':PfT S' (n'+1) t'):shH num t o=shH num' t' o'↔shP num t o=shP num' t' o':=by
 obtain⟨w,r,e1,e2,e3⟩:=Z7f (num:=num) (o:=o) h
 obtain⟨w',r',f1,f2,f3⟩:=Z7f (num:=num') (o:=o') h'
 rw[e1,e3,f1,f3]
 constructor
 ·intro q
  injection q with q1 q2
  injection q1 with q1
  injection q1 with q1
  rw[Zku e2 f2 q1,q2]
 ·intro q
  injection q with q1 q2
  injection q1 with q1
  injection q1 with q1
  rw[q1,q2]
theorem Zli {S:SS}{n:Nat}{t:Th}(num:Str->Int)(h:PfT S (n+1) t)(B:List Str):∃kb:List (Th×List Str),shT num t B = .tup (shH num t (Z36 t B)++kb.map fun p=>shT num p.1 p.2)/\Z2d t B=(t,Z36 t B)::(kb.map fun p=>Z2d p.1 p.2).flatten ∧
  frT t B=frO t B++(kb.map fun p=>frT p.1 p.2).flatten/\Zmy t=kb.length/\∀p∈kb,PfT S n p.1/\p.2.length<=B.length+1:=by
 rcases h.cases with ⟨x,a,b,rfl,_,ha,hb⟩|⟨w,hd,ks,rfl,hw,sh,h1,h5,h6⟩
 ·have e:Z36 (nd "let" [.str x] [a,b]) B = -1:=Z4k fun q=>absurd (show("let":Str)="name" from q.1) (by decide+kernel)
  have e2:shH num (nd "let" [.str x] [a,b]) (-1) = [.at (.str "let")]:=by
   unfold shH
   rw[Z3w,if_neg (by decide+kernel),if_neg (fun q=>absurd q.1 (by decide+kernel)),if_pos rfl]
  have e3:frO (nd "let" [.str x] [a,b]) B = []:=by
   unfold frO
   rw[Z3w,if_neg]
   rintro(q|q)
   ·exact absurd q (by decide+kernel)
   ·exact absurd q.1 (by decide+kernel)
  refine⟨[(a,B),(b,B ++ [x])],?_,?_,?_,?_,?_⟩
  ·rw[Z77 ha.isTup hb.isTup,e,e2];rfl
  ·rw[Z8m ha.isTup hb.isTup,e];simp
  ·rw[Z9x ha.isTup hb.isTup,e3];simp
  ·rw[Z8l (Z21 ha.isTup hb.isTup)];rfl
  ·exact Z21 ⟨ha,Nat.le_succ _⟩ ⟨hb,by rw[length_append];exact Nat.le_refl _⟩
 ·have nk:∀k∈ks,L2.isTup k=true:=fun k hk=>(h6 k hk).isTup
  refine⟨ks.map fun k=>(k,B),?_,?_,?_,?_,?_⟩
  ·rw[Z8n nk hw,map_map];rfl
  ·rw[Zax nk hw,map_map];rfl
  ·rw[Zdm nk hw,map_map];rfl
  ·rw[Z8l nk,length_map]
  ·intro p hp
   obtain⟨k,hk,rfl⟩:=mem_map.mp hp
   exact⟨h6 k hk,Nat.le_succ _⟩
theorem Zif {S:SS}{n:Nat}{t:Th}{num:Str->Int}{B:List Str}(h:PfT S n t):L2.isTup (shT num t B)=true:=by
 cases n with
 |zero=>exact h.elim
 |succ n=>
  obtain⟨kb,e,_⟩:=Zli num h B
  rw[e];rfl
theorem Zcj {S:SS}{num:Str->Int}{n:Nat}{t:Th}{o:Int}(h:PfT S (n+1) t):∃l:List V,shH num t o=l.map Th.at:=by
 obtain⟨w,hd,ks,rfl,h1,h2,h3,h4,h5,h6⟩:=h
 have e:Z47 (nd w hd ks) = .at (.str w)::hd.map Th.at:=Z35 fun k hk=>(h6 k hk).isTup
 unfold shH
 rw[e]
 split
 ·exact⟨[_,_],rfl⟩
 ·split
  ·exact⟨[_,_],rfl⟩
  ·split
   ·exact⟨[_],rfl⟩
   ·split
    ·exact⟨[_,_],rfl⟩
    ·exact⟨.str w::hd,rfl⟩
theorem Zig {a b:List V}{ks us:List Th}(hk:∀k∈ks,L2.isTup k=true)(hu:∀k∈us,L2.isTup k=true)(e:a.map Th.at++ks=b.map Th.at++us):a=b/\ks=us:=by
 have h1:=congrArg (List.filter L2.isTup) e
 rw[filter_append,filter_append,Z63,Z63,nil_append,nil_append,Z64 hk,Z64 hu] at h1
 rw[h1] at e
 exact⟨Zf5 (List.append_cancel_right e),h1⟩
def Zpt:List Th->List Int
 | .at (.str w) :: .at (.int i)::_=>if w="set"∨w="name" then [i] else []
 |_=>[]
theorem Zg6 {S:SS}{num:Str->Int}{n:Nat}{t:Th}{B:List Str}(h:PfT S (n+1) t):Zpt (shH num t (Z36 t B))=(frO t B).map num:=by
 obtain⟨w,hd,ks,rfl,h1,h2,h3,h4,h5,h6⟩:=h
 have nk:∀k∈ks,L2.isTup k=true:=fun k hk=>(h6 k hk).isTup
 unfold shH frO
 rw[Z3w]
 by_cases c1:w="set"
 ·rw[if_pos c1,if_pos (.inl c1)]
  show(if ("set":Str)="set"∨("set":Str)="name" then [num (nm (nd w hd ks))] else [])=_
  rw[if_pos (.inl rfl)]
  rfl
 ·rw[if_neg c1]
  by_cases c2:w="name"
  ·by_cases c3:nm (nd w hd ks)∈B
   ·have:=(Z5s (n:=nd w hd ks) (B:=B) (by rw[Z3w];exact c2) c3).2
    rw[if_neg (fun q=>by have:=q.2;omega),if_neg (by rw[c2];decide+kernel),if_pos this,if_neg]
    ·show(if ("own":Str)="set"∨("own":Str)="name" then [Z36 (nd w hd ks) B] else [])=_
     rw[if_neg (by decide+kernel)]
     rfl
    ·rintro(q|q)
     ·exact c1 q
     ·exact q.2 c3
   ·have e:Z36 (nd w hd ks) B = -1:=Z4k fun q=>c3 q.2
    rw[e,if_pos ⟨c2,by decide⟩,if_pos (.inr ⟨c2,c3⟩)]
    show(if ("name":Str)="set"∨("name":Str)="name" then [num (nm (nd w hd ks))] else [])=_
    rw[if_pos (.inr rfl)]
    rfl
  ·rw[if_neg (fun q=>c2 q.1),if_neg (fun q:w="set"∨_=>q.elim c1 fun z=>c2 z.1)]
   by_cases c4:w="let"
   ·rw[if_pos c4];rfl
   ·have e:Z36 (nd w hd ks) B = -1:=Z4k fun q=>c2 q.1
    have e2:Z47 (nd w hd ks) = .at (.str w)::hd.map Th.at:=Z35 nk
    rw[if_neg c4,e,if_neg (by decide),e2]
    cases hd with
    |nil=>rfl
    |cons v r=>
     rw[map_cons]
     cases v with
     |int i=>
      show(if w="set"∨w="name" then [i] else [])=_
      rw[if_neg (fun q=>q.elim c1 c2)]
      rfl
     |_=>rfl
theorem Z84 {α β : Type}{f : α -> List β}{g : α -> List β}:∀{a b:List α},a.length=b.length->(∀(i:Nat) x y,a[i]? = some x->b[i]? = some y->f x=g y)->(a.map f).flatten=(b.map g).flatten:=by
 intro a
 induction a with
 |nil=>intro b hl _;rw[length_nil] at hl;rw[eq_nil_of_length_eq_zero hl.symm];rfl
 |cons x a ih=>
  intro b hl h
  cases b with
  |nil=>cases hl
  |cons y b=>
   rw[map_cons,map_cons,flatten_cons,flatten_cons,h 0 x y rfl rfl,ih (Nat.succ.inj hl) fun i u v hu hv=>h (i+1) u v hu hv]
theorem Zg7 {S S':SS}{num num':Str->Int}:∀(n:Nat) {t t':Th},PfT S n t->PfT S' n t'->∀B B',shT num t B=shT num' t' B' →
  (Z2d t B).map (Zce num)=(Z2d t' B').map (Zce num')/\(frT t B).map num=(frT t' B').map num':=by
 intro n
 induction n with
 |zero=>intro t t' h;exact h.elim
 |succ n ih=>
  intro t t' h h' B B' e
  obtain⟨kb,a1,a2,a3,a4,a5⟩:=Zli num h B
  obtain⟨kb',b1,b2,b3,b4,b5⟩:=Zli num' h' B'
  obtain⟨l,hl⟩:=Zcj (num:=num) (o:=Z36 t B) h
  obtain⟨l',hl'⟩:=Zcj (num:=num') (o:=Z36 t' B') h'
  rw[a1,b1,hl,hl'] at e
  injection e with e
  have tk:∀(kb:List (Th×List Str)) (num:Str->Int) (S:SS),(∀p∈kb,PfT S n p.1)->∀k∈kb.map fun p=>shT num p.1 p.2,L2.isTup k=true:=fun kb num S hk k hk'=>by
   obtain⟨p,hp,rfl⟩:=mem_map.mp hk'
   exact Zif (hk p hp)
  obtain⟨e1,e2⟩:=Zig (tk kb num S fun p hp=>(a5 p hp).1) (tk kb' num' S' fun p hp=>(b5 p hp).1) e
  have hlen:kb.length=kb'.length:=by
   have:=congrArg List.length e2
   rwa [length_map,length_map] at this
  have pt:∀(i:Nat) p p',kb[i]? = some p->kb'[i]? = some p'->shT num p.1 p.2=shT num' p'.1 p'.2:=fun i p p' hp hp'=>by
   have:=congrArg (fun l=>l[i]?) e2
   simp only [List.getElem?_map,hp,hp',Option.map_some] at this
   exact Option.some.inj this
  have hH:shH num t (Z36 t B)=shH num' t' (Z36 t' B'):=by rw[hl,hl',e1]
  constructor
  ·rw[a2,b2,map_cons,map_cons,map_flatten,map_flatten,map_map,map_map]
   have r0:Zce num (t,Z36 t B)=Zce num' (t',Z36 t' B'):=by
    unfold Zce
    rw[(Zie h h').mp hH,a4,b4,hlen]
   rw[r0]
   refine congrArg _ (Z84 hlen fun i p p' hp hp'=>?_)
   exact(ih (a5 p (mem_of_getElem? hp)).1 (b5 p' (mem_of_getElem? hp')).1 _ _ (pt i p p' hp hp')).1
  ·rw[a3,b3,map_append,map_append,<- Zg6 h,<- Zg6 h',hH,map_flatten,map_flatten,map_map,map_map]
   refine congrArg _ (Z84 hlen fun i p p' hp hp'=>?_)
   exact(ih (a5 p (mem_of_getElem? hp)).1 (b5 p' (mem_of_getElem? hp')).1 _ _ (pt i p p' hp hp')).2
def psi:Th->Th
 | .tup (.tup (.at (.str w)::r)::k)=>.tup (.tup (.at (.str (fwd w))::r)::k)
 |t=>t
theorem Zkv {S:SS}{num:Str->Int}{n:Nat}{q:Th×Int}(h:PfT S n q.1):Z8o num q=psi (Zce num q):=by
 cases n with
 |zero=>exact h.elim
 |succ n=>
  obtain⟨w,r,e1,e2,e3⟩:=Z7f (num:=num) (o:=q.2) h
  unfold Z8o Zce
  rw[e1,e3]
  rfl
theorem Zkw {S S':SS}{num num':Str->Int}{n n':Nat}{t t':Th}(h:PfT S n t)(h':PfT S' n' t')(e:(Z2d t []).map (Zce num)=(Z2d t' []).map (Zce num')):shT num t []=shT num' t' []:=by
 have f:∀{S:SS} {num:Str->Int} {n:Nat} {t:Th},PfT S n t->(Z2d t []).map (Z8o num)=((Z2d t []).map (Zce num)).map psi:=fun {S num n t} h=>by
  rw[map_map]
  exact map_congr_left fun q hq=>Zkv (Zfw n h [] q hq)
 have h1:=Z9z (num:=num) n h [] []
 have h2:=Z9z (num:=num') n' h' [] []
 rw[f h,e,<- f h',h2] at h1
 injection h1 with h1
 injection h1 with h1
 exact h1.symm
theorem Za4 {l l':List Str}(e:l.map (ixN (dd l))=l'.map (ixN (dd l'))):(dd l').length<=(dd l).length:=by
 refine Nat.le_of_not_lt fun hlt=>?_
 have hm:(dd l').length-1<(dd l').length:=by omega
 have hx:=getElem_mem hm
 have hin:(dd l')[(dd l').length-1]∈l':=Zci l' _ hx
 have hi:ixN (dd l') (dd l')[(dd l').length-1]=(((dd l').length-1:Nat):Int):=by
  unfold ixN
  rw[Z7a (show(dd l').Nodup from Z5z l' nodup_nil) (List.getElem?_eq_getElem hm)]
 have hmem:(((dd l').length-1:Nat):Int)∈l.map (ixN (dd l)):=by
  rw[e,<- hi]
  exact mem_map.mpr ⟨_,hin,rfl⟩
 obtain⟨y,hy,hy2⟩:=mem_map.mp hmem
 have:=(Za1 (dd l) (Zj6 hy)).2.1
 unfold ixN at hy2
 omega
theorem Zn4 {l l':List Str}(e:l.map (ixN (dd l))=l'.map (ixN (dd l'))):(dd l).length=(dd l').length:=Nat.le_antisymm (Za4 e.symm) (Za4 e)
abbrev shp (t:Th):Th:=shT (ixN (dd (frT t []))) t []
abbrev rws (t:Th):List Th:=(Z2d t []).map (Zce (ixN (dd (frT t []))))
theorem Za5 {S S':SS}{n n':Nat}{t t':Th}(h:PfT S n t)(h':PfT S' n' t'):rws t=rws t'↔shp t=shp t':=by
 refine⟨Zkw h h',fun e=>?_⟩
 exact(Zg7 (n+n') (h.le (Nat.le_add_right _ _)) (h'.le (Nat.le_add_left _ _)) [] [] e).1
theorem Za6 {S S':SS}{n n':Nat}{t t':Th}(h:PfT S n t)(h':PfT S' n' t')(e:shp t=shp t'):(dd (frT t [])).length=(dd (frT t' [])).length:=
 Zn4 (Zg7 (n+n') (h.le (Nat.le_add_right _ _)) (h'.le (Nat.le_add_left _ _)) [] [] e).2
theorem Zn5 {S:SS}{num:Str->Int}(hn:∀x,0<=num x):∀(n:Nat) {t:Th},PfT S n t->∀B,okS (shT num t B)=true:=by
 intro n
 induction n with
 |zero=>intro t h;exact h.elim
 |succ n ih=>
  intro t h B
  obtain⟨kb,a1,a2,a3,a4,a5⟩:=Zli num h B
  rw[a1]
  refine Zid fun x hx=>?_
  rcases mem_append.mp hx with hx|hx
  ·obtain⟨w,hd,ks,rfl,h1,h2,h3,h4,h5,h6⟩:=h
   have e:Z47 (nd w hd ks) = .at (.str w)::hd.map Th.at:=Z35 fun k hk=>(h6 k hk).isTup
   obtain⟨_,w2,w3⟩:=h4.sh.word
   unfold shH at hx
   rw[e] at hx
   split at hx
   ·exact Z21 (p:=fun x=>okS x=true) (show okS (.at (.str "set"))=true by decide+kernel) (show okS (.at (.int (num (nm (nd w hd ks)))))=true from decide_eq_true (hn _)) x hx
   ·split at hx
    ·exact Z21 (p:=fun x=>okS x=true) (show okS (.at (.str "name"))=true by decide+kernel) (show okS (.at (.int (num (nm (nd w hd ks)))))=true from decide_eq_true (hn _)) x hx
    ·split at hx
     ·exact Z13 (p:=fun x=>okS x=true) (show okS (.at (.str "let"))=true by decide+kernel) x hx
     ·split at hx
      ·next c=>exact Z21 (p:=fun x=>okS x=true) (show okS (.at (.str "own"))=true by decide+kernel) (show okS (.at (.int (Z36 (nd w hd ks) B)))=true from decide_eq_true c) x hx
      ·rcases mem_cons.mp hx with z|z
       ·rw[z];exact w2
       ·obtain⟨v,hv,rfl⟩:=mem_map.mp z
        exact w3 v hv
  ·obtain⟨p,hp,rfl⟩:=mem_map.mp hx
   exact ih (a5 p hp).1 _
theorem Zg8 {S:SS}{n:Nat}{t:Th}(h:PfT S n t):okS (shp t)=true:=Zn5 (fun x=>Int.natCast_nonneg _) n h []
end K13
namespace L2
open PySem PySem.Spec PyProof.Rows PySem.Builtin PySem.AutoSeq1
section
variable {X:Cx}{pins:List (Addr×Obj)}{σ:St}
theorem Zb5 {A:Around}{H:Hp}{s:Shared}{z TI TO i1 i2 t1 t2:Addr}{xs ys:List V}{us ws:List Value}{Q:List Value->Shared->Prop}{E:Value->Shared->Prop}(hA:A.handled=none)(hc:X.calm=true)(D:ZipApart z TI TO i1 i2 t1 t2)(v1:Vals xs us)(v2:Vals ys ws)(hl:xs.length=ys.length)(hz:xs.length<=sizeLine)
  (I:Inv X pins σ H s) (hf:∀b ∈ [z,TO,i1,i2],Z3x X pins H b) (Z:ZAt s.heap z TI TO i1 i2 t1 t2 us.toArray ws.toArray 0) (q:∀l H' s' vs its,H l=none->Zipd H l xs ys xs.length H'->Inv X pins σ H' s'->H' l=some (.lst vs)->Vals vs its->Q its s'):
  wpAny (model X.prog X.w) A (collect (.ref z)) Q E s:=by
 have nH:H s.heap.objs.size=none:=I.fresh
 obtain⟨⟨f0,f1,h0,hz'⟩,hTI,⟨a,b,hTO⟩,g1,g2,ul1,ul2⟩:=Z
 have ne:∀{c o},s.heap.get? c=some o->s.heap.objs.size≠c:=fun e=>Nat.ne_of_gt (Heap.lt_size e)
 have nS:s.heap.objs.size≠z/\s.heap.objs.size≠TO/\s.heap.objs.size≠i1/\s.heap.objs.size≠i2/\s.heap.objs.size≠TI/\s.heap.objs.size≠t1/\s.heap.objs.size≠t2:=by
  obtain⟨o1,e1,_⟩:=g1
  obtain⟨o2,e2,_⟩:=g2
  obtain⟨o3,e3,_⟩:=ul1
  obtain⟨o4,e4,_⟩:=ul2
  exact⟨ne hz',ne hTO,ne e1,ne e2,ne hTI,ne e3,ne e4⟩
 have oth:∀(f:Array Value->Array Value) (h:Heap) b o,b≠s.heap.objs.size->h.get? b=some o->(h.update s.heap.objs.size (Obj.mapSeq f)).get? b=some o:=
  fun f h b o hb e=>(Heap.get?_update_other _ _ (Ne.symm hb)).trans e
 unfold collect
 refine wpAny_bind (wpAny_runValue (codeAny_builtin PySem.F.entry_proto_collect ?_))
 rw[Around.under_plainId PySem.F.plain_proto_collect _]
 show wpAny _ A.in1 (newList [] >>= fun l=>again (.builtin "list.__iadd__" ⟨[l,.ref z],[]⟩)) _ _ s
 refine wpAny_bind (wpAny_newObj_type ?_)
 refine wpAny_pure ⟨plainId_quiet PySem.F.plain_list_iadd _,codeAny_builtin PySem.F.entry_list_iadd ?_⟩
 rw[Around.under_plainId PySem.F.plain_list_iadd _]
 have hS:(s.heap.push { cls:=.type "list",data:=.seq ([]:List Value).toArray }).get? s.heap.objs.size=some { cls:=.type "list",data:=.seq ([]:List Value).toArray }:=Heap.get?_push_size _ rfl
 have hzip:(s.heap.push { cls:=.type "list",data:=.seq ([]:List Value).toArray }).get? z=some _:=Heap.get?_push_of_some _ hz'
 show wpAny _ A.in1 (Builtin.List.listExtendWith (.ref s.heap.objs.size) (.ref z) (.ref s.heap.objs.size)) _ _ _
 unfold Builtin.List.listExtendWith
 refine wpAny_bind (wpAny_typeOf (T:="zip") ⟨_,hzip,rfl⟩ ?_)
 have h1:Builtin.List.listSameRef (.ref s.heap.objs.size) (.ref z)=false:=by simp [Builtin.List.listSameRef,nS.1]
 rw[if_neg (by rw[h1];decide)]
 refine wpAny_bind (PySem.wpAny_pyIter_slot (T:="zip") ⟨_,hzip,rfl⟩ F.slot_zip_iter (wpAny_call_entry F.slot_zip_iter ⟨_,hzip,rfl⟩ F.entry_zip_iter (wpAny_pure ⟨_,rfl,"zip",_,⟨_,hzip,rfl⟩,F.slot_zip_next.lookup,?_⟩) (F.args_zip_iter_1 _)))
 refine wpAny_bind (wpAny_holding (Zhk ⟨_,hzip,rfl⟩ ?_))
 refine wpAny_ite_split (fun _=>?_) (fun z=>absurd rfl z)
 refine wpAny_bind (wpAny_rule ?_)
 refine wpAny_bind ?_
 show wpAny _ _ (updateSeq s.heap.objs.size (·.push .none) >>= fun _=>updateSeq s.heap.objs.size (·.pop)) _ _ _
 refine wpAny_bind (wpAny_updateSeq hS rfl ?_)
 have hS₃:=Heap.get?_update_self (Obj.mapSeq (·.push Value.none)) hS rfl
 refine wpAny_updateSeq (hz:=by seq_fits) hS₃ rfl ?_
 have hS₄:=Heap.get?_update_self (Obj.mapSeq (·.pop)) hS₃ rfl
 have kp:∀b o,b≠s.heap.objs.size->s.heap.get? b=some o->(((s.heap.push { cls:=.type "list",data:=.seq ([]:List Value).toArray }).update s.heap.objs.size (Obj.mapSeq (·.push Value.none))).update s.heap.objs.size (Obj.mapSeq (·.pop))).get? b=some o:=
  fun b o hb e=>oth _ _ _ _ hb (oth _ _ _ _ hb (Heap.get?_push_of_some _ e))
 refine wpAny_pure ⟨plainId_quiet PySem.F.plain_extend_loop _,?_⟩
 generalize ((s.heap.push { cls:=.type "list",data:=.seq ([]:List Value).toArray }).update s.heap.objs.size (Obj.mapSeq (·.push Value.none))).update s.heap.objs.size (Obj.mapSeq (·.pop))=h at hS₄ kp ⊢
 have kq:∀b o,s.heap.get? b=some o->h.get? b=some o:=fun b o e=>kp b o (ne e).symm e
 have I1:Inv X pins σ (upd H s.heap.objs.size (.lst [])) { s with heap:=h,toks:=s.toks }:=I.laid kq (Nat.le_refl _) ⟨Nat.zero_le _,[],_,.nil,hS₄⟩
 refine Zhl (H0:=H) hc (A:=A) hA D v1 v2 hl hz nS (fun s' H' I' zp=>?_) _ 0 { s with heap:=h } _ rfl (Nat.zero_le _) I1 (fun b hb=>?_) ?_ ?_
 ·obtain⟨ps,pl,hS5,pj⟩:=zp.ps
  obtain⟨zz,its,n,rv,hll,hget⟩:=I'.lstM hS5
  show wpAny _ A (load s.heap.objs.size >>= _) _ _ s'
  refine wpAny_bind (wpAny_load hget ?_)
  exact wpAny_pure (q _ _ _ _ its nH zp I' hS5 rv)
 ·have y:=hf b hb
  refine⟨?_,y.2⟩
  rw[Z09 (fun e=>?_)]
  ·exact y.1
  ·simp only [mem_cons,not_mem_nil,or_false] at hb
   rcases hb with rfl|rfl|rfl|rfl
   ·exact nS.1 e.symm
   ·exact nS.2.1 e.symm
   ·exact nS.2.2.1 e.symm
   ·exact nS.2.2.2.1 e.symm
 ·refine⟨⟨f0,f1,h0,kq _ _ hz'⟩,kq _ _ hTI,⟨a,b,kq _ _ hTO⟩,g1.at fun o e=>kq _ o e,g2.at fun o e=>kq _ o e,?_,?_⟩
  ·obtain⟨o,q1,q2⟩:=ul1;exact⟨o,kq _ _ q1,q2⟩
  ·obtain⟨o,q1,q2⟩:=ul2;exact⟨o,kq _ _ q1,q2⟩
 ·refine⟨fun b o hb e=>by rw[Z09 hb];exact e,[],rfl,by rw[Z00];rfl,fun j p hj=>by simp at hj⟩
theorem Zg9 {H:Hp}{s:Shared}{z TI TO i1 i2 t1 t2:Addr}{xs ys:List V}{us ws:List Value}{Q:VK}{E:Value->Shared->Prop}(hc:X.calm=true)(D:ZipApart z TI TO i1 i2 t1 t2)(v1:Vals xs us)(v2:Vals ys ws)(hl:xs.length=ys.length)(hz:xs.length<=sizeLine)
  (I:Inv X pins σ H s) (hf:∀b ∈ [z,TO,i1,i2],Z3x X pins H b) (Z:ZAt s.heap z TI TO i1 i2 t1 t2 us.toArray ws.toArray 0) (q:∀l H' p vs,H l=none->Zipd H l xs ys xs.length H'->H' l=some (.lst vs)->H' p=none->Q (.ref p) (upd H' p (.tup vs))):
  wpAny (model X.prog X.w) X.A (call (.type "tuple") [.ref z]) (EP X pins σ Q) E s:=by
 have hTI:s.TypeIs (.ref z) "zip":=by
  obtain⟨⟨f0,f1,h0,hz'⟩,_⟩:=Z
  exact⟨_,hz',rfl⟩
 refine callType_codes (Q₁:=fun obj s₁=>s₁.TypeIs obj "tuple"/\EP X pins σ Q obj s₁) PySem.F.called_tuple (PySem.F.typeCall_tuple_1 _) PySem.F.entry_object_init ?_ fun obj s₁ h₁=>?_
 ·refine codeAny_of_tree ?_
  show wpAny _ X.A.in1.in1 (do checkBuiltinCall "tuple.__new__" ⟨[.type "tuple",.ref z],[]⟩;again (.builtin "tuple.__new__" ⟨[.type "tuple",.ref z],[]⟩)) _ _ s
  refine wpAny_bind (wpAny_of_eq (PySem.F.newCall_tuple_1 _) (wpAny_pure ⟨plainId_quiet PySem.F.plain_tuple_new _,codeAny_builtin PySem.F.entry_tuple_new ?_⟩))
  rw[Around.under_plainId PySem.F.plain_tuple_new _]
  have hsub:=sub_tuple_self
  have hinit:=init_tuple_lookup
  have hmh:=madeHere_tuple
  have hh1:X.A.in1.in1.handled=none:=I.ok.hd hc
  wp_walk using wpAny_typeOf hTI,Zb5 (A:=X.A.in1.in1) hh1 hc D v1 v2 hl hz I hf Z
  intro l H' s' vs its hl0 zp I' hl' rv
  show wpAny _ _ (Builtin.Tuple.tupleExact its.toArray >>= fun v=>ret v) _ _ _
  unfold Builtin.Tuple.tupleExact
  have hv:=rv.length
  obtain⟨ps,pl,hS5,_⟩:=zp.ps
  have e5:vs=ps.map V.ref:=by rw[hl'] at hS5;injection hS5 with e;injection e
  have lz:its.length<=sizeLine:=by rw[<- hv,e5,length_map,pl];exact hz
  refine wpAny_bind (wpAny_newObj_type ?_ (by show its.toArray.size<=sizeLine;rw[size_toArray];exact lz))
  refine wpAny_pure ⟨⟨_,Heap.get?_push_size _ rfl,rfl⟩,.ref s'.heap.objs.size,upd H' s'.heap.objs.size (.tup vs),?_,rfl,q l H' _ vs hl0 zp hl' (I'.hok.fresh (Nat.le_refl _))⟩
  exact I'.laid (t':=s'.toks) (fun b o e=>Heap.get?_push_of_some _ e) (Nat.le_refl _) (show ObjOk X.prog X.w _ _ _ (.tup vs) from⟨by rw[hv];exact lz,its,rv,by simpa using IsTup.new _ _⟩)
 ·exact⟨h₁.1,PySem.F.args_object_init_2 obj _,object_init_meets PySem.F.called_tuple.init.lookup PySem.F.called_tuple.made (by decide) X.prog X.w X.A.in1 _ s₁ ⟨h₁.1,rfl,h₁.2⟩⟩
def Zoq (K:PySem.W.Frag)(ta:TA):TE:=fun σ H Q=>ta σ H fun vs H1=>∃a b xs ys,vs = [.ref a,.ref b]/\SqT K H1 a xs/\SqT K H1 b ys/\xs.length=ys.length/\∀l H' p vs,H1 l=none->Zipd H1 l xs ys xs.length H'->H' l=some (.lst vs)->H' p=none->Q (.ref p) (upd H' p (.tup vs))
theorem Zkx {a b:Expr}{ta:TA}{p q pos pos2:Pos}(hc:X.calm=true)(hg1:Gl X "tuple")(hm1:X.mg "tuple"=none)(hg2:Gl X "zip")(hm2:X.mg "zip"=none)(ha:PA X [a,b] ta)(he:starEach [a,b] X.env=(false,eval a X.env)::starEach [b] X.env:=by rfl)
  (hpl:(backTo pos2 (starEach [b] X.env)).any (·.1)=false:=by rfl) (hs:starEach [.Call (.Name "zip" q) [a,b] [] pos2] X.env = [(false,eval (.Call (.Name "zip" q) [a,b] [] pos2) X.env)]:=by rfl):
  PE X (.Call (.Name "tuple" p) [.Call (.Name "zip" q) [a,b] [] pos2] [] pos) (Zoq X.K ta):=by
 intro pins s σ H Q I h
 refine wpAny_Call_Name_kw (Z50 I hg1 hm1 (by decide+kernel:bootBuiltins "tuple"=some (.type "tuple")) ?_)
 refine PyProof.Rows.callWith_type1 ?_ (by rw[hs];rfl) rfl
 rw[hs]
 show wpAny _ _ (spliced [(false,eval (.Call (.Name "zip" q) [a,b] [] pos2) X.env)]) _ _ s
 refine Calls.spliced_cons ?_
 refine wpAny_Call_Name_kw (Z50 I hg2 hm2 (by decide+kernel:bootBuiltins "zip"=some (.type "zip")) ?_)
 refine PyProof.Rows.callWith_type1 (thn (ha pos2 pins s σ H _ I h) fun us s1 ⟨vs,H1,I1,r1,q1⟩=>?_) he hpl
 obtain⟨x,y,xs,ys,rfl,hx,hy,hl,q1⟩:=q1
 cases r1 with
 |cons r rr=>
  cases rr with
  |cons r' rr=>
   cases rr
   cases r
   cases r'
   obtain⟨its,v1,pl,hz⟩:=I1.tuple hx
   obtain⟨its2,v2,pl2,hz2⟩:=I1.tuple hy
   refine Zex (show s1.heap.IsTuple x its.toArray from pl) (show s1.heap.IsTuple y its2.toArray from pl2) fun h' Z D kk=>?_
   refine Calls.spliced_nil ?_
   have I2:Inv X pins σ H1 { s1 with heap:=h',toks:=s1.toks }:=I1.kept (t':=s1.toks) kk
   refine Zg9 hc D v1 v2 hl hz I2 (fun b hb=>?_) Z q1
   have fr:s1.heap.objs.size<=b:=by
    simp only [mem_cons,not_mem_nil,or_false] at hb
    rcases hb with rfl|rfl|rfl|rfl
    ·exact Nat.le_add_right _ _
    ·exact Nat.le_add_right _ _
    ·exact Nat.le_refl _
    ·exact Nat.le_add_right _ _
   exact I1.fpOk fr (I1.hok.fresh fr)
end
end L2
namespace K13
open PySem L2
theorem Zky:∀l:List V,dps (l.map Th.at)=0:=by
 intro l
 induction l with
 |nil=>rfl
 |cons v l ih=>rw[map_cons,dps,ih];rfl
theorem Zkz {S:SS}{num:Str->Int}{n:Nat}{t:Th}{o:Int}(h:PfT S n t):∃l:List V,shP num t o=l.map Th.at/\∀v∈l,plT (.at v)=true:=by
 cases n with
 |zero=>exact h.elim
 |succ n=>
  obtain⟨w,hd,ks,rfl,h1,h2,h3,h4,h5,h6⟩:=h
  have e:Z47 (nd w hd ks) = .at (.str w)::hd.map Th.at:=Z35 fun k hk=>(h6 k hk).isTup
  unfold shP
  rw[e]
  split
  ·exact⟨[_,_],rfl,Z21 rfl rfl⟩
  ·split
   ·exact⟨[_,_],rfl,Z21 rfl rfl⟩
   ·split
    ·exact⟨[_],rfl,Z13 rfl⟩
    ·split
     ·exact⟨[_,_],rfl,Z21 rfl rfl⟩
     ·refine⟨.str w::hd,rfl,fun v hv=>?_⟩
      rcases mem_cons.mp hv with z|z
      ·rw[z];rfl
      ·exact h2 v z
theorem Zga {S:SS}{n:Nat}{t:Th}(h:PfT S n t):Z4o (rws t)=true/\dps (rws t)<=2:=by
 have key:∀x∈rws t,plT x=true/\dp x<=2:=fun x hx=>by
  obtain⟨q,hq,rfl⟩:=mem_map.mp hx
  obtain⟨l,e,hl⟩:=Zkz (num:=ixN (dd (frT t []))) (o:=q.2) (Zfw n h [] q hq)
  unfold Zce
  rw[e]
  constructor
  ·rw[plT,Z4o,plT,Z2s fun y hy=>?_]
   ·rfl
   ·obtain⟨v,hv,rfl⟩:=mem_map.mp hy
    exact hl v hv
  ·rw[dp,dps,dp,Zky]
   show 1+max (1+0) (max 0 0)<=2
   decide
 exact⟨Z2s fun x hx=>(key x hx).1,Zmk fun x hx=>(key x hx).2⟩
theorem Zn6 {H:Hp}:∀(vs:List V) (ts:List Th),vs.length=ts.length->(∀(j:Nat) (v:V) (t:Th),vs[j]? = some v->ts[j]? = some t->IsTh H v t)->IsThs H vs ts:=by
 intro vs
 induction vs with
 |nil=>intro ts hl _;rw[eq_nil_of_length_eq_zero hl.symm];exact .nil
 |cons v vs ih=>
  intro ts hl h
  cases ts with
  |nil=>cases hl
  |cons t ts=>exact .cons (h 0 v t rfl rfl) (ih ts (Nat.succ.inj hl) fun j u r hu hr=>h (j+1) u r hu hr)
theorem Zgb {S:SS}:∀(n:Nat) {t:Th},PfT S n t->∀B,∀x∈frT t B,NmU S x:=by
 intro n
 induction n with
 |zero=>intro t h;exact h.elim
 |succ n ih=>
  intro t h B y hy
  rcases h.cases with ⟨x,a,b,rfl,_,ha,hb⟩|⟨w,hd,ks,rfl,hw,sh,h1,h5,h6⟩
  ·rw[Z9x ha.isTup hb.isTup] at hy
   rcases mem_append.mp hy with q|q
   ·exact ih ha B y q
   ·exact ih hb _ y q
  ·rw[Zdm (fun k hk=>(h6 k hk).isTup) hw] at hy
   rcases mem_append.mp hy with q|q
   ·unfold frO at q
    rw[Z3w] at q
    split at q
    ·next c=>
     rw[mem_singleton] at q
     generalize ks.length=m at sh
     cases sh with
     |name a=>rw[q];exact a
     |set a=>rw[q];exact a
     |_=>(rcases c with c|c;exact absurd c (by decide+kernel);exact absurd c.1 (by decide+kernel))
    ·cases q
   ·obtain⟨l,hl,hx⟩:=mem_flatten.mp q
    obtain⟨k,hk,rfl⟩:=mem_map.mp hl
    exact ih (h6 k hk) B y hx
theorem Z67 {S:SS}{n:Nat}{t:Th}(h:PfT S n t):∀x∈dd (frT t []),smallV (.str x)=true:=fun x hx=>Z3o (Zgb n h [] x (Zci _ x hx))
def pr2 (p:Str×Str):Th:=.tup [.at (.str p.1),.at (.str p.2)]
abbrev Zgc (a b:List Str):Th:=.tup ((a.zip b).map pr2)
theorem Zn7 {H H':Hp}{l:Addr}{a b:List Str}{vs:List V}(ha:∀x∈a,smallV (.str x)=true)(hb:∀x∈b,smallV (.str x)=true)(hl:a.length=b.length)(Z:Zipd H l (a.map V.str) (b.map V.str) (a.map V.str).length H')(e:H' l=some (.lst vs)):IsThs H' vs ((a.zip b).map pr2):=by
 obtain⟨ps,h1,h2,h3⟩:=Z.ps
 have ev:vs=ps.map V.ref:=by rw[e] at h2;injection h2 with h2;injection h2
 subst ev
 rw[length_map] at h1
 refine Zn6 _ _ (by rw[length_map,length_map,length_zip,h1];omega) fun j v t hv ht=>?_
 rw[List.getElem?_map] at hv ht
 obtain⟨p,hp,rfl⟩:=Option.map_eq_some_iff.mp hv
 obtain⟨q,hq,rfl⟩:=Option.map_eq_some_iff.mp ht
 obtain⟨_,x,y,hx,hy,hp2⟩:=h3 j p hp
 rw[List.getElem?_zip_eq_some] at hq
 rw[List.getElem?_map,hq.1] at hx
 rw[List.getElem?_map,hq.2] at hy
 cases hx
 cases hy
 exact .tup hp2 (.cons (.at (ha _ (mem_of_getElem? hq.1))) (.cons (.at (hb _ (mem_of_getElem? hq.2))) .nil))
theorem Zl0 {H H':Hp}{l:Addr}{xs ys:List V}{i:Nat}(Z:Zipd H l xs ys i H')(h:H l=none):Same H H':=fun b o e=>Z.same b o (fun z=>by rw[z,h] at e;cases e) e
inductive spAlike_ (S:SS)(N:Nat)(vs:List V)(H:Hp)(Q:VK):Prop
 |mk (v1 v2:V) (t1 t2:Th) (_:vs = [v1,v2]) (_:IsTh H v1 t1) (_:IsTh H v2 t2) (_:PfT S N t1) (_:PfT S N t2) (_:Th.sz t1<=30000) (_:Th.sz t2<=30000) (_:(shp t1≠shp t2->∀H',Same H H'->Q .non H')) (_:(shp t1=shp t2->∀(p:Addr) H',Same H H'->IsTh H' (.ref p) (Zgc (dd (frT t1 [])) (dd (frT t2 [])))->Q (.ref p) H')):spAlike_ S N vs H Q
def Zl1 (S:SS)(N:Nat):Sp:=fun vs H Q _=>spAlike_ S N vs H Q
section
variable {S:SS}{P:Program}{w:World}{K:PySem.W.Frag}{mg:Str->Option Value}{base:Heap}{q:ShF}
theorem Zl2:FnScope ["one","other"] ["one","other"] (Z06 Z7w):=⟨rfl,rfl,rfl,by decide+kernel,rfl,by decide+kernel,by decide+kernel⟩
theorem Zih {f:Addr}{fd:FuncData}(F:Fun K "alike" "alike" Z7w f fd)(G:Shp K mg q)(hzip:mg "zip"=none)(N:Nat):FnOk P w K mg base CX0 6 f fd ["one","other"] (Zl1 S N):=by
 have GR:FnOk P w K mg base CX0 5 q.fR q.dR ["e"] (Z7c S N):=Za3 G.R.F G N
 have GN:FnOk P w K mg base CX0 4 q.fN q.dN ["e"] (Zaw N):=Zcc G.N.F G.U G.W.F G.W.b G.W.m N
 have T:=G.U.T
 refine F.ok Zl2 (fun vs H Q E h=>?_) (fun cdv A outer s H vs Q E hr h=>?_)
 ·obtain⟨v1,v2,t1,t2,rfl,_⟩:=h
  rfl
 ·obtain⟨v1,v2,t1,t2,rfl,hv1,hv2,p1,p2,z1,z2,k1,k2⟩:=h
  have hsz:sizeLine=16777216:=sizeLine_eq
  have hr4:Room 4 _:=hr.mono (by decide)
  have hu:(_:Around).units+(2+1)<cLine:=Nat.lt_of_le_of_lt (Nat.add_le_add_left (by decide) _) hr.units
  refine'⟨?tt,?body,?fin⟩
  case body=>
   refine' Z04 ?s1 (Z07 ?s2)
   case s1=>exact Z0y (Z0a (Zjy (K:=K) rfl 2 hu) (Z05 GR hr (by rfl) G.R.m G.R.F.kp G.R.b .nil Z0f (Z0d (pv 0) Z01)) (Z05 GR hr (by rfl) G.R.m G.R.F.kp G.R.b .nil Z0f (Z0d (pv 1) Z01)) (Z0k _)) (Z07 (Z0i Zb8)) Z0h
   case s2=>exact Z0i (Zkx rfl (by rfl) T.tup (by rfl) hzip (Z2a (Z05 GN hr4 (by rfl) G.N.m G.N.F.kp G.N.b .nil Z0f (Z0d (pv 0) Z01)) (Z2a (Z05 GN hr4 (by rfl) G.N.m G.N.F.kp G.N.b .nil Z0f (Z0d (pv 1) Z01)) Z01)))
  case fin=>
   obtain⟨f1,f2⟩:=Zga p1
   obtain⟨g1,g2⟩:=Zga p2
   have o1:=Zfs N p1
   have o2:=Zfs N p2
   refine⟨_,rfl,v1,t1,rfl,hv1,p1,z1,fun pa ws H1 s1 hpa hws=>⟨_,rfl,v2,t2,rfl,IsTh.kp (Kp.of s1) hv2,p2,z2,fun pb us H2 s2 hpb hus=>?_⟩⟩
   have s12:=s1.trans s2
   refine⟨rws t1,rws t2,.lst (s2 _ _ hpa) (IsThs.kp (Kp.of s2) hws),.lst hpb hus,f1,g1,f2,g2,fun e=>⟨_,rfl,Z1b (fun g=>by cases g) fun _=>?_⟩,fun e=>⟨_,rfl,Z1b (fun _=>k1 (fun z=>e ((Za5 p1 p2).mpr z)) H2 s12) (fun g=>absurd rfl g)⟩⟩
   have sh:=(Za5 p1 p2).mp e
   have hl:=Za6 p1 p2 sh
   refine⟨_,rfl,v1,t1,rfl,IsTh.kp (Kp.of s12) hv1,o1,by omega,fun pc H3 s3 hpc=>⟨_,rfl,v2,t2,rfl,IsTh.kp (Kp.of (s12.trans s3)) hv2,o2,by omega,fun pd H4 s4 hpd=>?_⟩⟩
   refine⟨pc,pd,_,_,rfl,SqT.of (s4 _ _ hpc),SqT.of hpd,by rw[length_map,length_map];exact hl,fun l H5 p vs hl0 Z e5 hp0=>?_⟩
   have s5:=Zl0 Z hl0
   have s6:=Z02 (o:=.tup vs) hp0
   exact k2 sh p _ (((s12.trans s3).trans s4).trans (s5.trans s6)) (.tup Z00 (IsThs.kp (Kp.of s6) (Zn7 (Z67 p1) (Z67 p2) hl Z e5)))
end
theorem Zor {S:SS}{n:Nat}{num:Str->Int}{t:Th}{o:Int}(h:PfT S n t):Z4o (shH num t o)=true/\(shH num t o).length<=2:=by
 cases n with
 |zero=>exact h.elim
 |succ n=>
  obtain⟨w,hd,ks,rfl,h1,h2,h3,h4,h5,h6⟩:=h
  have nk:∀k∈ks,L2.isTup k=true:=fun k hk=>(h6 k hk).isTup
  unfold shH
  split
  ·exact⟨by simp [Z4o,plT],Nat.le_refl _⟩
  ·split
   ·exact⟨by simp [Z4o,plT],Nat.le_refl _⟩
   ·split
    ·exact⟨by simp [Z4o,plT],by show 1<=2;decide⟩
    ·split
     ·exact⟨by simp [Z4o,plT],Nat.le_refl _⟩
     ·have e:Z47 (nd w hd ks) = .at (.str w)::hd.map Th.at:=Z35 nk
      rw[e]
      refine⟨?_,by rw[length_cons,length_map];omega⟩
      rw[Z4o,plT,Bool.true_and]
      refine Z2s fun x hx=>?_
      obtain⟨v,hv,rfl⟩:=mem_map.mp hx
      exact h2 v hv
theorem Zgd {num num':Str->Int}{n:Th}{B:List Str}(h:∀x∈frO n B,num x=num' x):shH num n (Z36 n B)=shH num' n (Z36 n B):=by
 unfold shH
 by_cases h1:wd n="set"
 ·have:num (nm n)=num' (nm n):=h _ (by unfold frO;rw[if_pos (.inl h1)];simp)
  rw[if_pos h1,if_pos h1,this]
 ·rw[if_neg h1,if_neg h1]
  by_cases h2:wd n="name"/\Z36 n B<0
  ·have hB:nm n∉B:=fun q=>by have:=(Z5s h2.1 q).2;have:=h2.2;omega
   have:num (nm n)=num' (nm n):=h _ (by unfold frO;rw[if_pos (.inr ⟨h2.1,hB⟩)];simp)
   rw[if_pos h2,if_pos h2,this]
  ·rw[if_neg h2,if_neg h2]
theorem Za7 {S:SS}{num num':Str->Int}:∀(n:Nat) {t:Th},PfT S n t->∀B,(∀x∈frT t B,num x=num' x)->shT num t B=shT num' t B:=by
 intro n
 induction n with
 |zero=>intro t h;exact h.elim
 |succ n ih=>
  intro t h B hx
  rcases h.cases with ⟨x,a,b,rfl,_,ha,hb⟩|⟨w,hd,ks,rfl,hw,sh,h1,h5,h6⟩
  ·rw[Z9x ha.isTup hb.isTup] at hx
   rw[Z77 ha.isTup hb.isTup,Z77 ha.isTup hb.isTup,ih ha B fun y hy=>hx y (mem_append_left _ hy),ih hb _ fun y hy=>hx y (mem_append_right _ hy)]
  ·have nk:∀k∈ks,L2.isTup k=true:=fun k hk=>(h6 k hk).isTup
   rw[Zdm nk hw] at hx
   rw[Z8n nk hw,Z8n nk hw,Zgd fun y hy=>hx y (mem_append_left _ hy)]
   congr 2
   refine map_congr_left fun k hk=>ih (h6 k hk) B fun y hy=>hx y (mem_append_right _ ?_)
   exact mem_flatten.mpr ⟨_,mem_map.mpr ⟨k,hk,rfl⟩,hy⟩
theorem Za8 {S:SS}:∀(n:Nat) {t:Th},PfT S n t->∀B,(frT t B).length<=cnt t:=by
 intro n
 induction n with
 |zero=>intro t h;exact h.elim
 |succ n ih=>
  intro t h B
  rcases h.cases with ⟨x,a,b,rfl,_,ha,hb⟩|⟨w,hd,ks,rfl,hw,sh,h1,h5,h6⟩
  ·rw[Z9x ha.isTup hb.isTup,Zkf ha hb,length_append]
   have:=ih ha B
   have:=ih hb (B ++ [x])
   omega
  ·have nk:∀k∈ks,L2.isTup k=true:=fun k hk=>(h6 k hk).isTup
   rw[Zdm nk hw,Z1l nk,length_append]
   have e1:(frO (nd w hd ks) B).length<=1:=by unfold frO;split <;> simp
   have main:∀l:List Th,(∀k∈l,PfT S n k)->((l.map fun k=>frT k B).flatten).length<=Z1r l:=by
    intro l
    induction l with
    |nil=>intro _;simp
    |cons k l il=>
     intro hl
     rw[map_cons,flatten_cons,length_append,Z1r]
     have:=ih (hl k (mem_cons_self ..)) B
     have:=il fun y hy=>hl y (mem_cons_of_mem _ hy)
     omega
   have:=main ks h6
   omega
theorem Zge {M:List Str}{l:List Str}{x:Str}(h:x∈M):ixN (Z12 M l) x=ixN M x:=by
 obtain⟨r,e,_⟩:=Z4h l M
 rw[e,Zkp h]
theorem Z5t {M l:List Str}{x:Str}(h:x∈l):x∈Z12 M l:=by
 obtain⟨r,e,m⟩:=Z4h l M
 rw[e];exact m x h
theorem Zb6 {M l:List Str}{x:Str}(h:x∈M):x∈Z12 M l:=by
 obtain⟨r,e,m⟩:=Z4h l M
 rw[e];exact mem_append_left _ h
theorem Zja {S:SS}{num:Str->Int}:∀(n:Nat) {t:Th},PfT S n t->∀B,plT (shT num t B)=true:=by
 intro n
 induction n with
 |zero=>intro t h;exact h.elim
 |succ n ih=>
  intro t h B
  have me:=h
  rcases h.cases with ⟨x,a,b,rfl,_,ha,hb⟩|⟨w,hd,ks,rfl,hw,sh,h1,h5,h6⟩
  ·rw[Z77 ha.isTup hb.isTup]
   simp [plT,Z4o,ih ha,ih hb]
  ·rw[Z8n (fun k hk=>(h6 k hk).isTup) hw,plT,Zbw,(Zor me).1,Bool.true_and]
   refine Z2s fun x hx=>?_
   obtain⟨k,hk,rfl⟩:=mem_map.mp hx
   exact ih (h6 k hk) B
theorem Sh.leaf0 {S:SS}{x:Str}{n:Nat}(h:Sh S "name" [.str x] n):n=0:=by
 cases h;rfl
theorem Zl3 {num:Str->Int}{x:Str}{B:List Str}:shT num (nd "name" [.str x] []) B = .tup (if x∈B then [.at (.str "own"),.at (.int ((B.length:Int)-1-(lix B x:Int)))] else [.at (.str "name"),.at (.int (num x))]):=by
 rw[Z8n (fun k hk=>by cases hk) (by decide+kernel)]
 rw[map_nil,append_nil]
 unfold shH
 rw[Z3w,Zfr,if_neg (by decide+kernel)]
 by_cases h:x∈B
 ·obtain⟨e1,e2⟩:=Z5s (n:=nd "name" [.str x] []) (B:=B) rfl h
  rw[if_neg (fun q=>by have:=q.2;omega),if_neg (by decide+kernel),if_pos e2,if_pos h,e1]
  rfl
 ·have e:Z36 (nd "name" [.str x] []) B = -1:=Z4k fun q=>h q.2
  rw[e,if_pos ⟨rfl,by decide⟩,if_neg h]
theorem Zl4 {x:Str}{B:List Str}:frT (nd "name" [.str x] []) B=if x∈B then [] else [x]:=by
 rw[Zdm (fun k hk=>by cases hk) (by decide+kernel)]
 unfold frO
 rw[Z3w,Zfr]
 by_cases h:x∈B
 ·rw[if_neg,if_pos h]
  ·rfl
  ·rintro(q|q)
   ·exact absurd q (by decide+kernel)
   ·exact q.2 h
 ·rw[if_pos (.inr ⟨rfl,h⟩),if_neg h]
  rfl
theorem Zn8:∀(R:List Str) {x:Str},x∈R->Zlg R x+ixL R x+1=R.length:=by
 intro R
 induction R with
 |nil=>intro x h;cases h
 |cons y R ih=>
  intro x h
  rw[Zlg,ixL,length_cons]
  by_cases e:y=x
  ·rw[if_pos e,if_pos e]
  ·rw[if_neg e,if_neg e]
   rcases mem_cons.mp h with q|q
   ·exact absurd q.symm e
   ·have:=ih q
    omega
theorem Zn9 {B:List Str}{x:Str}(h:x∈B):(B.length:Int)-1-(lix B x:Int)=(ixL B.reverse x:Nat):=by
 have:=Zn8 B.reverse (mem_reverse.mpr h)
 rw[length_reverse] at this
 unfold lix
 omega
theorem Zl5 {num:Str->Int}{w x:Str}{ks:List Th}{B:List Str}(nk:∀k∈ks,L2.isTup k=true)(h:w="set"∨(w="name"/\x∉B)):shT num (nd w [.str x] ks) B = .tup ([.at (.str w),.at (.int (num x))]++ks.map fun k=>shT num k B):=by
 have hw:w≠"let":=by rintro rfl;rcases h with q|q;exact absurd q (by decide+kernel);exact absurd q.1 (by decide+kernel)
 rw[Z8n nk hw]
 unfold shH
 rw[Z3w,Zfr]
 by_cases c:w="set"
 ·rw[if_pos c,c]
 ·obtain⟨q1,q2⟩:=h.resolve_left c
  have e:Z36 (nd w [.str x] ks) B = -1:=Z4k fun z=>q2 (by have:=z.2;rwa [Zfr] at this)
  rw[if_neg c,e,if_pos ⟨q1,by decide⟩,q1]
theorem Zl6 {num:Str->Int}{w:Str}{hd:List V}{ks:List Th}{B:List Str}(nk:∀k∈ks,L2.isTup k=true)(h1:w≠"name")(h2:w≠"set")(h3:w≠"let"):shT num (nd w hd ks) B = .tup (.at (.str w)::hd.map Th.at++ks.map fun k=>shT num k B):=by
 rw[Z8n nk h3]
 unfold shH
 have e:Z36 (nd w hd ks) B = -1:=Z4k fun q=>h1 q.1
 rw[Z3w,e,if_neg h2,if_neg (fun q=>h1 q.1),if_neg h3,if_neg (by decide)]
 have e2:Z47 (nd w hd ks) = .at (.str w)::hd.map Th.at:=Z35 nk
 rw[e2]
inductive spShaped_ (S:SS)(N:Nat)(vs:List V)(H:Hp)(Q:VK):Prop
 |mk (v:V) (ba ma:Addr) (t:Th) (B M:List Str) (_:vs = [v,.ref ba,.ref ma]) (_:IsTh H v t) (_:PfT S N t) (_:H ba=some (.lst (B.map V.str))) (_:H ma=some (.lst (M.map V.str))) (_:ba≠ma) (_:B.length+N<=200) (_:M.length+cnt t<=50000) (_:∀(v':V) H',IsTh H' v' (shT (ixN (Z12 M (frT t B))) t B)->H' ma=some (.lst ((Z12 M (frT t B)).map V.str))->But ma H H'->Q v' H'):spShaped_ S N vs H Q
def Zck (S:SS)(N:Nat):Sp:=fun vs H Q _=>spShaped_ S N vs H Q
theorem Zna:(["_law_bound_here","_law_met","_law_one"]:List Str).Nodup:=by decide+kernel
section
variable {S:SS}{P:Program}{w:World}{K:PySem.W.Frag}{mg:Str->Option Value}{base:Heap}
theorem scShaped:FnScope ["_law_e","_law_bound_here","_law_met","_law_first","_law_inner"] ["_law_e","_law_bound_here","_law_met"] (Z06 Z41):=⟨rfl,rfl,rfl,by decide+kernel,rfl,by decide+kernel,by decide+kernel⟩
theorem Zgf {f fP fW:Addr}{fd dP dW:FuncData}(F:Fn K mg "_law_shaped" Z41 ["_law_e","_law_bound_here","_law_met"] f fd)(U:HW K mg fP fW dP dW):
  ∀N,FnOk P w K mg base CX0 (N+2) f fd ["_law_e","_law_bound_here","_law_met"] (Zck S N):=by
 have GP:FnOk P w K mg base CX0 1 fP dP ["_law_e"] spLawParts:=Z20 U.P U.T U.KI
 have GW:FnOk P w K mg base CX0 1 fW dW ["_law_e","_law_inner"] spWith:=Zap U.W U.T U.KI
 have T:=U.T
 intro N
 induction N with
 |zero=>
  refine F.F.ok scShaped (fun vs H Q E h=>?_) (fun cdv A outer s H vs Q E hr h=>?_)
  ·obtain⟨v,ba,ma,t,B,M,rfl,_⟩:=h
   rfl
  ·obtain⟨v,ba,ma,t,B,M,rfl,_,h,_⟩:=h
   exact h.elim
 |succ N ih=>
  refine F.F.ok scShaped (fun vs H Q E h=>?_) (fun cdv A outer s H vs Q E hr h=>?_)
  ·obtain⟨v,ba,ma,t,B,M,rfl,_⟩:=h
   rfl
  ·obtain⟨v,ba,ma,t,B,M,rfl,hv,hD,hba,hma,hbm,hBl,hMl,k⟩:=h
   have hsz:sizeLine=16777216:=sizeLine_eq
   have hr1:Room 1 _:=hr.mono (by omega)
   refine'⟨?tt,?body,?fin⟩
   case body=>
    refine' Z0m ?s1 ?r1
    case s1=>
     refine' Z0y ?c (Z07 (Z0i (Z1a (Z1d Z08 (Z2a (Z7g PySem.F.plainAttrs_list PySem.F.slot_list_index PySem.F.type_list_index Z70 (Zix (pv 1) (Ze1 Z8z Z03)) (Z0b (Z0r Z0v (pv 0) Z03 (fun _ _=>rfl)) Z01)) Z01))))) Z0h
     case c=>exact(Z4m (Z0a Z1c (Z0r Z0v (pv 0) Z03 (fun _ _=>rfl)) Z08 (Z0k _)) (Z33 (Z0a Z2k (Z0r Z0v (pv 0) Z03 (fun _ _=>rfl)) (pv 1) (by with_unfolding_all rfl)))).pt
    case r1=>
     refine' Z0m ?s2 ?r2
     case s2=>exact Z0y (Z4m (Z69 (Z0a Z1c (Z0r Z0v (pv 0) Z03 (fun _ _=>rfl)) Z08 (Z0k _)) (Z5u (Z0a Z1c (Z0r Z0v (pv 0) Z03 (fun _ _=>rfl)) Z08 (Z0k _)))).pt (Z33 (Z0a Z5w (Z0r Z0v (pv 0) Z03 (fun _ _=>rfl)) (pv 2) (by with_unfolding_all rfl)))).pt (Z07 (Z3y (Z7g PySem.F.plainAttrs_list PySem.F.slot_list_append PySem.F.type_list_append Z39 (pv 2) (Z0b (Z0r Z0v (pv 0) Z03 (fun _ _=>rfl)) Z01)))) Z0h
     case r2=>
      refine' Z04 ?s4 ?r4
      case s4=>
       refine' Z0y ?c (Z0m ?e1 (Z07 ?e2)) Z0h
       case c=>exact Z0a Z1c (Z0r Z0v (pv 0) Z03 (fun _ _=>rfl)) Z08 (Z0k _)
       case e1=>exact Z0c (i:=3) scShaped.nd rfl (Or.inl rfl) (Z05 ih hr (by rfl) F.m F.F.kp F.b .nil Z0f (Z0b (Z0r Z0v (pv 0) Z03 (fun _ _=>rfl)) (Z0d (pv 1) (Z0d (pv 2) Z01))))
       case e2=>exact Z0i (Z1a (Z1d Z08 (Z0d (pv 3) (Z2a (Z05 ih hr (by rfl) F.m F.F.kp F.b .nil Z0f (Z0b (Z0r Z0v (pv 0) Z03 (fun _ _=>rfl)) (Z0b (Z0l Z24 (pv 1) (Z0x (Z0b (Z0r Z0v (pv 0) Z03 (fun _ _=>rfl)) Z01))) (Z0d (pv 2) Z01)))) Z01))))
      case r4=>
       refine' Z0m ?s5 ?r5
       case s5=>
        refine' Z2v (i:=4) (N':=["_law_bound_here","_law_met","_law_one"]) (src:=[some 1,some 2,none]) ?k1 ?k2 ?k3 ?k4 ?k5 ?k6 ?k7
        case k1=>rfl
        case k2=>exact scShaped.nd
        case k3=>rfl
        case k4=>exact Or.inl rfl
        case k5=>exact Z0j (Z06 Z41) rfl ["_law_e","_law_bound_here","_law_met","_law_first","_law_inner"] rfl (by decide+kernel)
        case k6=>exact Z1w (Z05 GP hr1 (by rfl) U.mP U.P.kp U.bP .nil Z0f (Z0d (pv 0) Z01))
        case k7=>exact fun cl C ex s0 H0=>⟨Z0t (i:=2) Zna rfl (Or.inl rfl),Z1k,Z05 ih hr (by rfl) F.m F.F.kp F.b .nil Z0f (Z0d (pv 2) (Z0d (pv 0) (Z0d (pv 1) Z01)))⟩
       case r5=>
        refine' Z04 ?s6 (Z07 ?s7)
        case s6=>exact Z0y (Z69 (Z0a Z1c (Z0r Z0v (pv 0) Z03 (fun _ _=>rfl)) Z08 (Z0k _)) (Z5u (Z0a Z1c (Z0r Z0v (pv 0) Z03 (fun _ _=>rfl)) Z08 (Z0k _)))).pt (Z07 (Z0i (Z16 Z14 (by rfl) T.tup (by decide+kernel) (Z0b (Z0l Z24 (Z0x (Z0b (Z0r Z0v (pv 0) Z03 (fun _ _=>rfl)) (Z2a (Z7g PySem.F.plainAttrs_list PySem.F.slot_list_index PySem.F.type_list_index Z70 (pv 2) (Z0b (Z0r Z0v (pv 0) Z03 (fun _ _=>rfl)) Z01)) Z01))) (pv 4)) Z01)))) Z0h
        case s7=>exact Z0i (Z05 GW hr1 (by rfl) U.mW U.W.kp U.bW .nil Z0f (Z0d (pv 0) (Z0d (pv 4) Z01)))
   case fin=>
    have hD0:=hD
    obtain⟨w0,hd,ks,et,h1,h2,h3,h4,h5,h6⟩:=hD
    subst et
    have nk:∀k∈ks,L2.isTup k=true:=fun k hk=>(h6 k hk).isTup
    have sh:=h4.sh
    have fld:(w0="name"∨w0="set"∨w0="let")->∃x:Str,hd = [.str x]:=fun q=>by
     rcases q with q|q|q
     ·exact h4.st (.inr q)
     ·exact h4.st (.inl q)
     ·exact(h3 q).1
    have hv':=hv
    unfold nd at hv'
    obtain⟨a,vs,rfl,ha,hvs⟩:=Z1j hv'
    obtain⟨vr,rfl,hvr⟩:∃vr,vs = .str w0::vr/\IsThs H vr (hd.map Th.at++ks):=by
     cases hvs with
     |cons c1 c2=>
      obtain⟨rfl,_⟩:=Z1p c1
      exact⟨_,rfl,c2⟩
    have second:∀x,hd = [.str x]->∃vr2,vr = .str x::vr2/\IsThs H vr2 ks:=fun x e=>by
     subst e
     cases hvr with
     |cons c1 c2=>
      obtain⟨rfl,_⟩:=Z1p c1
      exact⟨_,rfl,c2⟩
    have ham:a≠ma:=Z3k ha hma (by intro q;cases q)
    rw[Z1l nk] at hMl
    refine⟨fun σ' H'=>σ' = [some (.ref a),some (.ref ba),some (.ref ma),none,none]/\H'=H/\∀x,hd = [.str x]->¬ (w0="name"/\x∈B),?_,?_⟩
    ·refine⟨_,rfl,a,_,_,_,rfl,rfl,SqT.of ha,Z15 _ _,rfl,_,rfl,Z1b (fun g=>?_) (fun g=>Zab ⟨rfl,rfl,fun x _ q=>g (by rw[q.1];decide+kernel)⟩)⟩
     have hw:w0="name":=by
      have g':=of_decide_eq_true g
      injection g'
     subst hw
     obtain⟨x,rfl⟩:=fld (.inl rfl)
     obtain⟨vr2,rfl,hvr2⟩:=second x rfl
     refine⟨_,rfl,a,_,_,_,rfl,rfl,SqT.of ha,Z19 _ _ _,_,rfl,ba,B.map V.str,rfl,.inl (SqL.of hba),rfl,Z1t B,_,rfl,Z1b (fun g2=>?_) (fun g2=>⟨rfl,rfl,fun y e q=>g2 ((Z1u x B).mpr (by cases e;exact q.2))⟩)⟩
     have hxB:x∈B:=(Z1u x B).mp g2
     have hk0:ks = []:=eq_nil_of_length_eq_zero (Sh.leaf0 sh)
     subst hk0
     rw[Zl4,if_pos hxB,Zl3,if_pos hxB,Zn9 hxB] at k
     refine⟨_,rfl,_,rfl,rfl,ba,_,rfl,SqL.of hba,fun l1 hl1=>?_⟩
     have q1:=Z02 (o:=.lst (B.map V.str).reverse) hl1
     have e1:(upd H l1 (.lst (B.map V.str).reverse)) l1=some (.lst (B.reverse.map V.str)):=by rw[Z00,List.map_reverse]
     generalize upd H l1 (.lst (B.map V.str).reverse)=H1 at q1 e1 ⊢
     obtain⟨i1,i2,i3⟩:=Za1 B.reverse (mem_reverse.mpr hxB)
     refine⟨.inl ⟨rfl,_,SqL.of e1⟩,_,rfl,a,_,_,.str x,rfl,rfl,SqT.of (q1 _ _ ha),Z19 _ _ _,l1,B.reverse,x,ixL B.reverse x,rfl,rfl,e1,i1,i3,(by show 2<=sizeLine;decide),fun p hp=>?_⟩
     have sp:=Z02 (o:=.tup [.str "own",.int (ixL B.reverse x:Nat)]) hp
     have sA:=q1.trans sp
     exact k (.ref p) _ (.tup Z00 (.cons (.at (by decide+kernel)) (.cons (.at rfl) .nil))) (sA _ _ hma) (But.of sA)
    rintro σ1 H1 ⟨rfl,rfl,hnb⟩
    have hfo:∀x,hd = [.str x]->(w0="name"∨w0="set")->frO (nd w0 hd ks) B = [x]:=fun x e q=>by
     subst e
     unfold frO
     rw[Z3w,Zfr,if_pos]
     rcases q with q|q
     ·exact .inr ⟨q,fun z=>hnb x rfl ⟨q,z⟩⟩
     ·exact .inl q
    have hfn:¬ (w0="name"∨w0="set")->frO (nd w0 hd ks) B = []:=fun q=>by
     unfold frO
     rw[Z3w,if_neg]
     rintro(z|z)
     ·exact q (.inr z)
     ·exact q (.inl z.1)
    refine⟨fun σ' H'=>σ' = [some (.ref a),some (.ref ba),some (.ref ma),none,none]/\H' ma=some (.lst ((Z12 M (frO (nd w0 hd ks) B)).map V.str))/\But ma H1 H',?_,?_⟩
    ·refine⟨_,rfl,a,_,_,_,rfl,rfl,SqT.of ha,Z15 _ _,rfl,_,rfl,Z1b (fun g=>?_) (fun g=>?_)⟩
     ·have hw:w0="name":=by
       have g':=of_decide_eq_true g
       injection g'
      exact Z9f (by
      obtain⟨x,ex⟩:=fld (.inl hw)
      obtain⟨vr2,evr,_⟩:=second x ex
      rw[hfo x ex (.inl hw)]
      subst evr
      refine⟨_,rfl,a,_,_,.str x,rfl,rfl,SqT.of ha,Z19 _ _ _,_,rfl,ma,M.map V.str,rfl,.inl (SqL.of hma),rfl,Z1t M,_,rfl,Z1b (fun g9=>?_) (fun g9=>⟨rfl,?_,But.refl _ _⟩)⟩
      ·have hnx:x∉M:=fun q=>by rw[(Z1u x M).mpr q] at g9;cases g9
       refine⟨_,rfl,.inl ⟨rfl,_,SqL.of hma⟩,_,rfl,a,_,_,.str x,rfl,rfl,SqT.of ha,Z19 _ _ _,ma,_,_,rfl,rfl,hma,by rw[length_map];omega,rfl,?_,But.upd⟩
       rw[Z00]
       show _=some (HO.lst ((Z5f M x).map V.str))
       unfold Z5f
       rw[if_neg hnx,map_append]
       rfl
      ·have hx:x∈M:=by
        by_cases q:inV (.str x) (M.map V.str)=true
        ·exact(Z1u x M).mp q
        ·exact absurd (by simpa using q) g9
       show _=some (HO.lst ((Z5f M x).map V.str))
       unfold Z5f
       rw[if_pos hx]
       exact hma)
     ·have hw:w0≠"name":=fun z=>g (by rw[z];decide+kernel)
      refine⟨_,rfl,a,_,_,_,rfl,rfl,SqT.of ha,Z15 _ _,rfl,_,rfl,Z1b (fun g2=>?_) (fun g2=>?_)⟩
      ·have hw2:w0="set":=by
        have g':=of_decide_eq_true g2
        injection g'
       exact(by
      obtain⟨x,ex⟩:=fld (.inr (.inl hw2))
      obtain⟨vr2,evr,_⟩:=second x ex
      rw[hfo x ex (.inr hw2)]
      subst evr
      refine⟨_,rfl,a,_,_,.str x,rfl,rfl,SqT.of ha,Z19 _ _ _,_,rfl,ma,M.map V.str,rfl,.inl (SqL.of hma),rfl,Z1t M,_,rfl,Z1b (fun g9=>?_) (fun g9=>⟨rfl,?_,But.refl _ _⟩)⟩
      ·have hnx:x∉M:=fun q=>by rw[(Z1u x M).mpr q] at g9;cases g9
       refine⟨_,rfl,.inl ⟨rfl,_,SqL.of hma⟩,_,rfl,a,_,_,.str x,rfl,rfl,SqT.of ha,Z19 _ _ _,ma,_,_,rfl,rfl,hma,by rw[length_map];omega,rfl,?_,But.upd⟩
       rw[Z00]
       show _=some (HO.lst ((Z5f M x).map V.str))
       unfold Z5f
       rw[if_neg hnx,map_append]
       rfl
      ·have hx:x∈M:=by
        by_cases q:inV (.str x) (M.map V.str)=true
        ·exact(Z1u x M).mp q
        ·exact absurd (by simpa using q) g9
       show _=some (HO.lst ((Z5f M x).map V.str))
       unfold Z5f
       rw[if_pos hx]
       exact hma)
      ·have hw2:w0≠"set":=fun z=>g2 (by rw[z];decide+kernel)
       refine Zab ⟨rfl,?_,But.refl _ _⟩
       rw[hfn (fun q=>q.elim hw hw2)]
       exact hma
    rintro σ2 H2 ⟨rfl,hma2,B2⟩
    have ha2:=B2 _ _ ha ham
    have hba2:=B2 _ _ hba hbm
    have hv2:IsTh H2 (.ref a) (nd w0 hd ks):=Z3u hma B2 hv hD0.pl
    have hfol:(frO (nd w0 hd ks) B).length<=1:=by unfold frO;split <;> simp
    have hM1l:=Z2e (frO (nd w0 hd ks) B) M
    generalize hM1:Z12 M (frO (nd w0 hd ks) B)=M1 at hma2 hM1l
    refine⟨_,rfl,a,_,_,_,rfl,rfl,SqT.of ha2,Z15 _ _,rfl,_,rfl,Z1b (fun g2=>?_) (fun g2=>?_)⟩
    ·have hw:w0="let":=by
      have g':=of_decide_eq_true g2
      injection g'
     subst hw
     obtain⟨⟨x,rfl⟩,hkl⟩:=h3 rfl
     obtain⟨vr2,rfl,hvr2⟩:=second x rfl
     match ks,hkl,h6,hvr2 with
     |[ka,kb],_,h6,hvr2=>
      have pa:=h6 ka (by simp)
      have pb:=h6 kb (by simp)
      cases hvr2 with
      | @cons va vr3 _ _ da db=>
       cases db with
       | @cons vb vr4 _ _ db1 db2=>
        cases db2
        have hc2:Z1r [ka,kb]=cnt ka+cnt kb:=by simp [Z1r]
        rw[hc2] at hMl
        rw[hfn (fun q=>q.elim (fun z=>absurd z (by decide+kernel)) (fun z=>absurd z (by decide+kernel)))] at hM1
        have hM1':M=M1:=hM1
        subst hM1'
        rw[Z9x pa.isTup pb.isTup,Z4i,Z77 pa.isTup pb.isTup] at k
        have hfa:=Za8 N pa B
        have hM2l:=Z2e (frT ka B) M
        refine⟨fun σ' H'=>∃v3,σ' = [some (.ref a),some (.ref ba),some (.ref ma),some v3,none]/\IsTh H' v3 (shT (ixN (Z12 M (frT ka B))) ka B)/\H' ma=some (.lst ((Z12 M (frT ka B)).map V.str))/\But ma H1 H',?_,?_⟩
        ·refine⟨_,rfl,a,_,_,va,rfl,rfl,SqT.of ha2,Zp8 _ _ _ _,_,rfl,_,rfl,va,ba,ma,ka,B,M,rfl,Z3u hma B2 da pa.pl,pa,hba2,hma2,hbm,by omega,by omega,fun v3 H3 hv3 hma3 B3=>⟨v3,rfl,hv3,hma3,B2.trans B3⟩⟩
        rintro σ3 H3 ⟨v3,rfl,hv3,hma3,B3⟩
        have ha3:=B3 _ _ ha ham
        have hba3:=B3 _ _ hba hbm
        refine⟨_,rfl,_,rfl,a,_,_,vb,rfl,rfl,SqT.of ha3,Zp9 _ _ _ _ _,_,rfl,_,rfl,a,_,_,.str x,rfl,rfl,SqT.of ha3,Z19 _ _ _,(by show 1<=sizeLine;decide),fun l1 hl1=>?_⟩
        have q1:=Z02 (o:=.lst [.str x]) hl1
        refine⟨ba,l1,_,_,rfl,rfl,q1 _ _ hba3,Z00,by rw[length_map,length_singleton];omega,fun l2 hl2=>?_⟩
        have q2:=Z02 (o:=.lst (B.map V.str ++ [.str x])) hl2
        have q12:=q1.trans q2
        have hl2m:l2≠ma:=fun q=>by rw[q,q1 _ _ hma3] at hl2;cases hl2
        have hvb4:IsTh (upd (upd H3 l1 (.lst [.str x])) l2 (.lst (B.map V.str ++ [.str x]))) vb kb:=IsTh.kp (Kp.of q12) (Z3u hma B3 db1 pb.pl)
        refine⟨_,rfl,vb,l2,ma,kb,B ++ [x],Z12 M (frT ka B),rfl,hvb4,pb,by rw[Z00,map_append];rfl,q12 _ _ hma3,hl2m,by rw[length_append,length_singleton];omega,by omega,fun v4 H4 hv4 hma4 B4=>⟨(by show 3<=sizeLine;decide),fun p hp=>?_⟩⟩
        have sp:=Z02 (o:=.tup [.str "let",v3,v4]) hp
        have e3:shT (ixN (Z12 M (frT ka B))) ka B=shT (ixN (Z12 (Z12 M (frT ka B)) (frT kb (B ++ [x])))) ka B:=Za7 N pa B fun y hy=>(Zge (Z5t hy)).symm
        rw[e3] at hv3
        have hv5:=Z3u (q12 _ _ hma3) B4 (IsTh.kp (Kp.of q12) hv3) (Zja N pa B)
        exact k (.ref p) _ (.tup Z00 (.cons (.at (by decide+kernel)) (.cons (IsTh.kp (Kp.of sp) hv5) (.cons (IsTh.kp (Kp.of sp) hv4) .nil)))) (sp _ _ hma4) (((B3.trans (But.of q12)).trans B4).trans (But.of sp))
    have hwl:w0≠"let":=fun z=>g2 (by rw[z];decide+kernel)
    have hfr:frT (nd w0 hd ks) B=frO (nd w0 hd ks) B++(ks.map fun k=>frT k B).flatten:=Zdm nk hwl
    rw[hfr,Z4i,hM1] at k
    have fl:∀l:List Th,(∀k∈l,PfT S N k)->((l.map fun k=>frT k B).flatten).length<=Z1r l:=by
     intro l
     induction l with
     |nil=>intro _;simp
     |cons y l il=>
      intro hl
      rw[map_cons,flatten_cons,length_append,Z1r]
      have:=Za8 N (hl y (mem_cons_self ..)) B
      have:=il fun z hz=>hl z (mem_cons_of_mem _ hz)
      omega
    refine⟨fun σ' H'=>∃(ia:Addr) (ys:List V),σ' = [some (.ref a),some (.ref ba),some (.ref ma),none,some (.ref ia)]/\H' ia=some (.lst ys)/\IsThs H' ys (ks.map fun k=>shT (ixN (Z12 M1 (ks.map fun k=>frT k B).flatten)) k B)/\H' ma=some (.lst ((Z12 M1 (ks.map fun k=>frT k B).flatten).map V.str))/\But ma H1 H',?_,?_⟩
    ·refine⟨_,rfl,.ref a,w0,hd.map Th.at++ks,rfl,hv2,by rw[length_append,length_map];omega,fun p ws H3 s3 hp0 hp hws=>?_⟩
     rw[Z43 nk] at hws
     have hl:=IsThs.len _ hws
     have hpm:p≠ma:=fun q=>by rw[q,hma2] at hp0;cases hp0
     have hma3:=s3 _ _ hma2
     refine⟨p,rfl,⟨_,SqL.of hp⟩,Z1i (K:=K) (a:=p) (xs:=ws) (fun i ys σc H'=>∃(o:Option V),σc = [some (.ref ba),some (.ref ma),o]/\ys.length=i/\IsThs H' ys ((ks.take i).map fun k=>shT (ixN (Z12 M1 ((ks.take i).map fun k=>frT k B).flatten)) k B)/\H' ma=some (.lst ((Z12 M1 ((ks.take i).map fun k=>frT k B).flatten).map V.str))/\But ma H3 H')
      ⟨none,rfl,rfl,by rw[take_zero];exact .nil,by rw[take_zero];exact hma3,But.refl _ _⟩ (fun i ys σc H' ⟨_,_,_,_,_,b⟩=>SqL.of (b _ _ hp hpm)) ?_ ?_⟩
     ·rintro i x ys σc H' hx hi ⟨o,rfl,hyl,hys,hma4,B4⟩
      obtain⟨t,ht,hxt⟩:=Z1o _ hws hx
      have htm:=mem_of_getElem? ht
      have pt:=h6 t htm
      have htk:∀k∈ks.take i,PfT S N k:=fun k hk=>h6 k (mem_of_mem_take hk)
      have e1:ks.take (i+1)=ks.take i ++ [t]:=by rw[take_add_one,ht];rfl
      have hc1:Z1r (ks.take (i+1))<=Z1r ks:=by
       have:Z1r ks=Z1r (ks.take (i+1))+Z1r (ks.drop (i+1)):=by
        conv=>lhs;rw[<- take_append_drop (i+1) ks]
        generalize ks.take (i+1)=A1
        generalize ks.drop (i+1)=A2
        induction A1 with
        |nil=>simp [Z1r]
        |cons y A1 ih9=>rw[cons_append,Z1r,Z1r,ih9];omega
       omega
      rw[e1,Z3i] at hc1
      have hf1:=fl _ htk
      have hm1:=Z2e ((ks.take i).map fun k=>frT k B).flatten M1
      refine⟨by omega,?_⟩
      refine⟨_,rfl,_,rfl,_,rfl,x,ba,ma,t,B,_,rfl,Z3u hma3 B4 hxt pt.pl,pt,B4 _ _ (s3 _ _ hba2) hbm,hma4,hbm,by omega,by omega,fun v5 H5 hv5 hma5 B5=>nx hi ⟨_,rfl,by rw[length_append,hyl];rfl,?_,?_,B4.trans B5⟩⟩
      ·rw[e1]
       simp only [map_append,map_cons,map_nil,List.flatten_append,flatten_cons,List.flatten_nil,append_nil]
       rw[Z4i]
       refine IsThs.app _ ?_ (.cons hv5 .nil)
       have e2:((ks.take i).map fun k=>shT (ixN (Z12 M1 ((ks.take i).map fun k=>frT k B).flatten)) k B)=(ks.take i).map fun k=>shT (ixN (Z12 (Z12 M1 ((ks.take i).map fun k=>frT k B).flatten) (frT t B))) k B:=by
        refine map_congr_left fun k hk=>Za7 N (htk k hk) B fun y hy=>(Zge (Z5t ?_)).symm
        exact mem_flatten.mpr ⟨_,mem_map.mpr ⟨k,hk,rfl⟩,hy⟩
       rw[e2] at hys
       refine Z6y hma4 B5 hys (Z2s fun y hy=>?_)
       obtain⟨k,hk,rfl⟩:=mem_map.mp hy
       exact Zja N (htk k hk) B
      ·rw[e1]
       simp only [map_append,map_cons,map_nil,List.flatten_append,flatten_cons,List.flatten_nil,append_nil]
       rw[Z4i]
       exact hma5
     ·rintro ys σc H' ⟨o,rfl,hyl,hys,hma4,B4⟩ l hl'
      rw[take_of_length_le (by omega)] at hys hma4
      have sl:=Z02 (o:=.lst ys) hl'
      exact⟨l,ys,rfl,Z00,IsThs.kp (Kp.of sl) hys,sl _ _ hma4,((B2.trans (But.of s3)).trans B4).trans (But.of sl)⟩
    rintro σ3 H3 ⟨ia,ys,rfl,hia,hys,hma3,B3⟩
    have ha3:=B3 _ _ ha ham
    have hyl:=IsThs.len _ hys
    rw[length_map] at hyl
    have both:w0="name"∨w0="set"->∃x:Str,hd = [.str x]/\∃vr2,vr = .str x::vr2/\x∈Z12 M1 (ks.map fun k=>frT k B).flatten/\(w0="set"∨(w0="name"/\x∉B)):=fun hw=>by
     obtain⟨x,rfl⟩:=fld (hw.elim .inl fun z=>.inr (.inl z))
     obtain⟨vr2,rfl,hvr2⟩:=second x rfl
     rw[hfo x rfl hw] at hM1
     exact⟨x,rfl,vr2,rfl,Zb6 (by rw[<- hM1];exact Z5t (by simp)),hw.elim (fun z=>.inr ⟨z,fun q=>hnb x rfl ⟨z,q⟩⟩) .inl⟩
    refine⟨_,rfl,a,_,_,_,rfl,rfl,SqT.of ha3,Z15 _ _,rfl,_,rfl,?_⟩
    by_cases hw:w0="name"∨w0="set"
    ·obtain⟨x,rfl,vr2,rfl,hxM,hfree⟩:=both hw
     obtain⟨i1,i2,i3⟩:=Za1 _ hxM
     rw[Zl5 nk hfree] at k
     rcases hw with hw|hw
     refine Z1b (fun _=>Z9f ?_) (fun g=>absurd (by rw[hw];decide+kernel) g)
     rotate_left
     refine Z1b (fun g=>absurd g (by rw[hw];decide+kernel)) (fun _=>⟨_,rfl,a,_,_,_,rfl,rfl,SqT.of ha3,Z15 _ _,rfl,_,rfl,Z1b (fun _=>?_) (fun g=>absurd (by rw[hw];decide+kernel) g)⟩)
     all_goals
      refine⟨_,rfl,a,_,_,_,rfl,rfl,SqT.of ha3,Z15 _ _,_,rfl,.inl ⟨rfl,_,SqL.of hma3⟩,_,rfl,a,_,_,.str x,rfl,rfl,SqT.of ha3,Z19 _ _ _,ma,_,x,_,rfl,rfl,hma3,i1,i3,(by show 2<=sizeLine;decide),fun l2 hl2=>?_⟩
      have q2:=Z02 (o:=.lst [.str w0,.int (ixL (Z12 M1 (ks.map fun k=>frT k B).flatten) x:Nat)]) hl2
      refine⟨_,rfl,l2,ia,_,_,rfl,rfl,Z00,q2 _ _ hia,by rw[length_cons,length_singleton];omega,fun l3 hl3=>?_⟩
      have q3:=Z02 (o:=.lst ([.str w0,.int (ixL (Z12 M1 (ks.map fun k=>frT k B).flatten) x:Nat)]++ys)) hl3
      refine⟨l3,_,rfl,.inl ⟨SqL.of Z00,fun p hp=>?_⟩⟩
      have q4:=Z02 (o:=.tup ([.str w0,.int (ixL (Z12 M1 (ks.map fun k=>frT k B).flatten) x:Nat)]++ys)) hp
      have qA:=q2.trans (q3.trans q4)
      exact k (.ref p) _ (.tup Z00 (.cons (.at (by rw[hw];decide+kernel)) (.cons (.at rfl) (IsThs.kp (Kp.of qA) hys)))) (qA _ _ hma3) (B3.trans (But.of qA))
    ·have hwn:w0≠"name":=fun z=>hw (.inl z)
     have hws:w0≠"set":=fun z=>hw (.inr z)
     refine Z1b (fun g=>absurd (show w0="name" by have g':=of_decide_eq_true g;injection g') hwn) (fun _=>⟨_,rfl,a,_,_,_,rfl,rfl,SqT.of ha3,Z15 _ _,rfl,_,rfl,Z1b (fun g=>absurd (show w0="set" by have g':=of_decide_eq_true g;injection g') hws) (fun _=>?_)⟩)
     rw[Zl6 nk hwn hws hwl] at k
     have hv3:IsTh H3 (.ref a) (nd w0 hd ks):=Z3u hma B3 hv hD0.pl
     unfold nd at hv3
     refine⟨_,rfl,_,rfl,.ref a,ia,_,_,ys,rfl,hv3,by rw[length_cons,length_append,length_map];omega,hia,hys,by rw[length_map];omega,fun p H4 s4 hp=>?_⟩
     rw[Z35 nk] at hp
     exact k (.ref p) H4 hp (s4 _ _ hma3) (B3.trans (But.of s4))
end
mutual
def lf:Th->Bool
 | .at v=>lfV v
 | .tup xs=>lfs xs
 | .lst _=>false
def lfs:List Th->Bool
 |[]=>true
 |x::xs=>lf x&&lfs xs
end
theorem Zgg:∀ts:List Th,lfs ts=true↔∀t∈ts,lf t=true:=by
 intro ts
 induction ts with
 |nil=>simp [lfs]
 |cons t ts ih=>rw[lfs,Bool.and_eq_true,ih];simp
theorem Zgh {i:Int}(h:i.natAbs<10 ^ 12):i.natAbs.log2<1920:=by
 by_cases h0:i.natAbs=0
 ·rw[h0];decide
 ·have h1:i.natAbs<2 ^ 40:=Nat.lt_of_lt_of_le h (by decide)
  have:=(Nat.log2_lt h0).mpr h1
  omega
mutual
theorem Znb:∀t:Th,lf t=true->(dat t).showable=true/\(dat t).leavesShort 13=true/\(dat t).bulk+1<=17*Th.sz t/\(dat t).depth=dp t
 | .at v,h=>by
  rw[lf] at h
  cases v with
  |str x=>
   have h':(decide (x.length<=16)&&x.cps.toList.all fun c=>decide (c<16 ^ 8))=true:=h
   rw[Bool.and_eq_true,decide_eq_true_iff] at h'
   have hx:x.cps.size=x.length:=rfl
   refine⟨by simp [dat,Zbo,PyData.showable],?_,?_,by simp [dat,Zbo,PyData.depth,dp]⟩
   ·simp only [dat,Zbo,PyData.leavesShort]
    exact h'.2
   ·simp only [dat,Zbo,PyData.bulk,Th.sz]
    omega
  |int i=>
   have h':i.natAbs<10 ^ 12:=of_decide_eq_true h
   refine⟨?_,?_,by simp [dat,Zbo,PyData.bulk,Th.sz],by simp [dat,Zbo,PyData.depth,dp]⟩
   ·simp only [dat,Zbo,PyData.showable]
    exact decide_eq_true (Zgh h')
   ·simp only [dat,Zbo,PyData.leavesShort]
    exact decide_eq_true (PyData.shown_int_le h')
  |_=>exact⟨by simp [dat,Zbo,PyData.showable],by simp [dat,Zbo,PyData.leavesShort],by simp [dat,Zbo,PyData.bulk,Th.sz],by simp [dat,Zbo,PyData.depth,dp]⟩
 | .tup xs,h=>by
  rw[lf] at h
  obtain⟨h1,h2,h3,h4⟩:=Zjb xs h
  refine⟨by simpa only [dat,PyData.showable] using h1,by simpa only [dat,PyData.leavesShort] using h2,?_,?_⟩
  ·simp only [dat,PyData.bulk,Th.sz]
   omega
  ·simp only [dat,PyData.depth,dp]
   omega
 | .lst xs,h=>by rw[lf] at h;cases h
theorem Zjb:∀ts:List Th,lfs ts=true->PyData.showableAll (Z5d ts)=true/\PyData.leavesShortAll 13 (Z5d ts)=true/\PyData.bulkAll (Z5d ts)<=17*szs ts/\PyData.depthAll (Z5d ts)=dps ts
 |[],_=>by simp [Z5d,PyData.showableAll,PyData.leavesShortAll,PyData.bulkAll,szs,PyData.depthAll,dps]
 |t::ts,h=>by
  rw[lfs,Bool.and_eq_true] at h
  obtain⟨a1,a2,a3,a4⟩:=Znb t h.1
  obtain⟨b1,b2,b3,b4⟩:=Zjb ts h.2
  refine⟨by simp only [Z5d,PyData.showableAll,a1,b1,Bool.and_self],by simp only [Z5d,PyData.leavesShortAll,a2,b2,Bool.and_self],?_,?_⟩
  ·simp only [Z5d,PyData.bulkAll,szs]
   omega
  ·simp only [Z5d,PyData.depthAll,dps,a4,b4]
end
theorem Zjc {A:Around}{t:Th}(h:lf t=true)(hz:Th.sz t<=60000)(hd:dp t<=100)(hu:A.units+200<cLine):(dat t).showable=true/\A.units+((dat t).depth+1)<cLine/\(dat t).shown.length<=sizeLine:=by
 obtain⟨h1,h2,h3,h4⟩:=Znb t h
 refine⟨h1,by omega,?_⟩
 have h5:=PyData.shown_le_bulk 13 (by decide) (dat t) h2
 have:sizeLine=16777216:=sizeLine_eq
 omega
theorem Z85 {X:Cx}{A:Around}(hA:X.A=A)(hg:A.guards=some []):Z3l X (.builtin "repr") (fun xs H Q=>∃(a:Addr) (t:Th),xs = [.ref a]/\IsTh H (.ref a) t/\((dat t).showable=true/\A.units+((dat t).depth+1)<cLine/\(dat t).shown.length<=sizeLine)/\Q (.str (dat t).shown) H):=by
 subst hA
 intro pins s σ H xs us Q I r h
 obtain⟨a,t,e,h1,⟨h2,h3,h4⟩,q⟩:=h
 exact Z9j hg pins s σ H xs us Q I r ⟨a,t,e,h1,h2,h3,h4,q⟩
theorem Zjd {l:List V}(h:l.length<=1):szs (l.map Th.at)<=1/\dps (l.map Th.at)=0:=by
 cases l with
 |nil=>exact⟨by simp [szs],by simp [dps]⟩
 |cons v l=>
  cases l with
  |nil=>exact⟨by simp [szs,Th.sz],by simp [dps,L2.dp]⟩
  |cons u l=>exact absurd (Nat.le_of_succ_le_succ h) (Nat.not_succ_le_zero _)
theorem Z3v {S:SS}:∀(n:Nat) {t:Th},PfT S n t->Th.sz t<=3*cnt t:=by
 intro n
 induction n with
 |zero=>intro t h;exact h.elim
 |succ n ih=>
  intro t h
  obtain⟨w,hd,ks,rfl,h1,h2,h3,h4,h5,h6⟩:=h
  have h7:∀ks:List Th,(∀k∈ks,PfT S n k)->szs ks<=3*Z1r ks:=by
   intro ks
   induction ks with
   |nil=>intro _;rw[szs,Z1r];exact Nat.le_refl _
   |cons k ks ih2=>
    intro hk
    have e1:=ih (hk k (mem_cons_self ..))
    have e2:=ih2 fun u hu=>hk u (mem_cons_of_mem _ hu)
    rw[szs,Z1r]
    omega
  have h8:=(Zjd h1).1
  have h9:=h7 ks h6
  rw[Zk6,Z1l fun k hk=>(h6 k hk).isTup]
  omega
theorem Znc:∀(M:List Str) (x:Str),ixL M x<=M.length:=by
 intro M
 induction M with
 |nil=>intro x;exact Nat.le_refl _
 |cons y M ih=>
  intro x
  rw[ixL]
  split
  ·exact Nat.zero_le _
  ·have:=ih x
   rw[length_cons];omega
theorem Zos {S:SS}{num:Str->Int}(hn:∀x,(num x).natAbs<10 ^ 12):∀(n:Nat) {t:Th},PfT S n t->∀B:List Str,B.length+n<=1000->lf (shT num t B)=true/\Th.sz (shT num t B)<=3*cnt t/\dp (shT num t B)<=n:=by
 intro n
 induction n with
 |zero=>intro t h;exact h.elim
 |succ n ih=>
  intro t h B hB
  have me:=h
  rcases h.cases with ⟨x,a,b,rfl,_,ha,hb⟩|⟨w,hd,ks,rfl,hw,sh,h1,h5,h6⟩
  ·obtain⟨a1,a2,a3⟩:=ih ha B (by omega)
   obtain⟨b1,b2,b3⟩:=ih hb (B ++ [x]) (by rw[length_append,length_singleton];omega)
   rw[Z77 ha.isTup hb.isTup,Zkf ha hb]
   refine⟨?_,?_,?_⟩
   ·rw[lf,lfs,lfs,lfs,lfs,a1,b1,lf]
    decide+kernel
   ·simp only [Th.sz,szs]
    omega
   ·rw[L2.dp,dps,dps,dps,dps,L2.dp]
    exact Nat.add_comm n 1▸Nat.add_le_add_left (Nat.max_le.mpr ⟨Nat.zero_le n,Nat.max_le.mpr ⟨a3,Nat.max_le.mpr ⟨b3,Nat.zero_le n⟩⟩⟩) 1
  ·have nk:∀k∈ks,L2.isTup k=true:=fun k hk=>(h6 k hk).isTup
   rw[Z8n nk hw,Z1l nk]
   have hh:lfs (shH num (nd w hd ks) (Z36 (nd w hd ks) B))=true/\szs (shH num (nd w hd ks) (Z36 (nd w hd ks) B))<=2/\dps (shH num (nd w hd ks) (Z36 (nd w hd ks) B))=0:=by
    have num2:∀(u:Str) (i:Int),lfV (.str u)=true->i.natAbs<10 ^ 12->lfs [.at (.str u),.at (.int i)]=true/\szs [.at (.str u),.at (.int i)]<=2/\dps [.at (.str u),.at (.int i)]=0:=fun u i h1 h2=>by
     refine⟨?_,by simp [szs,Th.sz],by simp [dps,L2.dp]⟩
     rw[lfs,lfs,lfs,lf,lf,h1]
     simpa [lfV] using h2
    unfold shH
    split
    ·exact num2 _ _ (by decide+kernel) (hn _)
    ·split
     ·exact num2 _ _ (by decide+kernel) (hn _)
     ·split
      ·exact⟨by decide+kernel,by simp [szs,Th.sz],by simp [dps,L2.dp]⟩
      ·split
       ·next q=>
        refine num2 _ _ (by decide+kernel) ?_
        have:Z36 (nd w hd ks) B<=B.length:=by
         unfold Z36
         split <;> omega
        omega
       ·have e:Z47 (nd w hd ks) = .at (.str w)::hd.map Th.at:=Z35 nk
        rw[e]
        obtain⟨w',hd',ks0,e9,g1,g2,g3,g4,g5,g6⟩:=me
        have ee:w'=w/\hd'=hd:=by
         unfold nd at e9
         injection e9 with e
         injection e with e1 e2
         injection e1 with e1
         injection e1 with e1
         have nk0:∀k∈ks0,L2.isTup k=true:=fun k hk=>(g6 k hk).isTup
         have l1:=congrArg Z9q e2
         unfold Z9q at l1
         rw[filter_append,filter_append,Z8h,Z8h,Z6w nk,Z6w nk0,append_nil,append_nil] at l1
         exact⟨e1.symm,(Zf5 l1).symm⟩
        obtain⟨rfl,rfl⟩:=ee
        have hs:=Zjd g1
        refine⟨?_,?_,?_⟩
        ·rw[lfs,lf,g4.lw,Bool.true_and,Zgg]
         intro x hx
         obtain⟨v,hv,rfl⟩:=mem_map.mp hx
         rw[lf];exact g4.lv v hv
        ·rw[szs,Th.sz]
         omega
        ·rw[dps,L2.dp,hs.2]
         rfl
   have main:∀l:List Th,(∀k∈l,PfT S n k)->lfs (l.map fun k=>shT num k B)=true/\szs (l.map fun k=>shT num k B)<=3*Z1r l/\dps (l.map fun k=>shT num k B)<=n:=by
    intro l
    induction l with
    |nil=>intro _;exact⟨by simp [lfs],by simp [szs],by simp [dps]⟩
    |cons k l il=>
     intro hl
     obtain⟨a1,a2,a3⟩:=ih (hl k (mem_cons_self ..)) B (by omega)
     obtain⟨b1,b2,b3⟩:=il fun y hy=>hl y (mem_cons_of_mem _ hy)
     refine⟨by rw[map_cons,lfs,a1,b1];rfl,by rw[map_cons,szs,Z1r];omega,by rw[map_cons,dps];omega⟩
   obtain⟨m1,m2,m3⟩:=main ks h6
   obtain⟨q1,q2,q3⟩:=hh
   generalize shH num (nd w hd ks) (Z36 (nd w hd ks) B)=L at q1 q2 q3
   have lapp:∀a b:List Th,lfs a=true->lfs b=true->lfs (a++b)=true:=fun a b ha hb=>by
    rw[Zgg] at ha hb ⊢
    intro t ht
    rcases mem_append.mp ht with z|z
    ·exact ha t z
    ·exact hb t z
   have dapp:∀a b:List Th,dps (a++b)=max (dps a) (dps b):=by
    intro a
    induction a with
    |nil=>intro b;simp [dps]
    |cons y a ia=>intro b;rw[cons_append,dps,dps,ia];omega
   refine⟨by rw[lf];exact lapp _ _ q1 m1,by rw[Th.sz,Zer];omega,by rw[L2.dp,dapp];omega⟩
theorem Zje {S:SS}{n:Nat}{t:Th}{A:Around}(h:PfT S n t)(hn:n<=90)(hc:cnt t<=19500)(hu:A.units+200<cLine):(dat (shp t)).showable=true/\A.units+((dat (shp t)).depth+1)<cLine/\(dat (shp t)).shown.length<=sizeLine:=by
 have hl:(dd (frT t [])).length<=cnt t:=by
  have h1:=Z2e (frT t []) []
  have h2:=Za8 n h []
  rw[<- Zfx,length_nil] at h1
  omega
 obtain⟨a1,a2,a3⟩:=Zos (num:=ixN (dd (frT t []))) (fun x=>by
  have:=Znc (dd (frT t [])) x
  unfold ixN
  rw[Int.natAbs_natCast]
  omega) n h [] (by simp;omega)
 have a2:Th.sz (shp t)<=3*cnt t:=a2
 have a3:dp (shp t)<=n:=a3
 exact Zjc a1 (by omega) (by omega) hu
inductive spDue_ (S:SS)(N:Nat)(vs:List V)(H:Hp)(Q:VK):Prop
 |mk (v1 v2:V) (t1 t2:Th) (_:vs = [v1,v2]) (_:IsTh H v1 t1) (_:IsTh H v2 t2) (_:PfT S N t1) (_:PfT S N t2) (_:cnt t1<=19500) (_:cnt t2<=19500) (_:(shp t1≠shp t2->∀H',Same H H'->Q .non H')) (_:(shp t1=shp t2->∀(p:Addr) H',Same H H'->IsTh H' (.ref p) (Zgc (dd (frT t1 [])) (dd (frT t2 [])))->Q (.ref p) H')):spDue_ S N vs H Q
def Zot (S:SS)(N:Nat):Sp:=fun vs H Q _=>spDue_ S N vs H Q
theorem Znd:(["_law_x","_law_y"]:List Str).Nodup:=by decide+kernel
theorem Zii {a b:List Str}{i:Nat}{x y:Str}(hx:a[i]? = some x)(hy:b[i]? = some y):((a.zip b).take (i+1)).map pr2=((a.zip b).take i).map pr2 ++ [pr2 (x,y)]:=by
 have:(a.zip b)[i]? = some (x,y):=List.getElem?_zip_eq_some.mpr ⟨hx,hy⟩
 rw[take_add_one,this,map_append]
 rfl
section
variable {S:SS}{P:Program}{w:World}{K:PySem.W.Frag}{mg:Str->Option Value}{base:Heap}
theorem scDue:FnScope ["_law_one","_law_other","_law_here","_law_there"] ["_law_one","_law_other"] (Z06 Zj1):=⟨rfl,rfl,rfl,by decide+kernel,rfl,by decide+kernel,by decide+kernel⟩
theorem Zne {f fS:Addr}{fd dS:FuncData}{N:Nat}(F:Fun K "_law_due" "_law_due" Zj1 f fd)(T:TxtT mg)(hrepr:mg "repr"=none)(hzip:mg "zip"=none)(FS:Fn K mg "_law_shaped" Z41 ["_law_e","_law_bound_here","_law_met"] fS dS)(hN:N<=90)
  (GS:FnOk P w K mg base CX0 (N+2) fS dS ["_law_e","_law_bound_here","_law_met"] (Zck S N)):FnOk P w K mg base CX0 (N+3) f fd ["_law_one","_law_other"] (Zot S N):=by
 refine F.ok scDue (fun vs H Q E h=>?_) (fun cdv A outer s H vs Q E hr h=>?_)
 ·obtain⟨v1,v2,t1,t2,rfl,_⟩:=h
  rfl
 ·obtain⟨v1,v2,t1,t2,rfl,hv1,hv2,p1,p2,z1,z2,k1,k2⟩:=h
  have hsz:sizeLine=16777216:=sizeLine_eq
  have hg:=hr.gd
  have hrS:Room (N+2) _:=hr.mono (by omega)
  have hu2:(A.deeper (PyProof.Rows.envOfC "_law_due" (Z06 Zj1) s.heap.objs.size f cdv)).units+200<cLine:=by have:=hr.un;omega
  refine'⟨?tt,?body,?fin⟩
  case body=>
   refine' Z04 ?s1 ?r1
   case s1=>exact Z0c (i:=2) scDue.nd rfl (Or.inl rfl) (Z0x Z01)
   case r1=>
    refine' Z04 ?s2 ?r2
    case s2=>exact Z0c (i:=3) scDue.nd rfl (Or.inl rfl) (Z0x Z01)
    case r2=>
     refine' Z04 ?s3 (Z07 ?s4)
     case s3=>
      refine' Z0y (Z0a Ze5 ?a1 ?b1 (Z0k _)) (Z07 (Z0i Zb8)) Z0h
      case a1=>exact Z0n (id:="repr") (Z85 rfl hg) (by rfl) hrepr (by decide+kernel) (Z2a (Z05 GS hrS (by rfl) FS.m FS.F.kp FS.b .nil Z0f (Z0d (pv 0) (Z0b (Z0x Z01) (Z0d (pv 2) Z01)))) Z01)
      case b1=>exact Z0n (id:="repr") (Z85 rfl hg) (by rfl) hrepr (by decide+kernel) (Z2a (Z05 GS hrS (by rfl) FS.m FS.F.kp FS.b .nil Z0f (Z0d (pv 1) (Z0b (Z0x Z01) (Z0d (pv 3) Z01)))) Z01)
     case s4=>
      refine' Z0i (Z16 Z14 (by rfl) T.tup (by decide+kernel) (Z0b ?comp Z01))
      case comp=>
       refine' Z1n (N':=["_law_x","_law_y"]) (src:=[none,none]) ?k1 ?k5 ?k6 ?k7
       case k1=>rfl
       case k5=>exact Z0j (Z06 Zj1) rfl ["_law_one","_law_other","_law_here","_law_there"] rfl (by decide+kernel)
       case k6=>exact Z2.pi_zip (by rfl) hzip (Z0d (pv 2) (Z0d (pv 3) Z01))
       case k7=>exact fun cl C ex s0 H0=>⟨Z4f (K:=K) (i:=0) (j:=1) rfl rfl Znd rfl (Or.inl rfl) rfl (Or.inl rfl) (Or.inr rfl) (Or.inr rfl),Z1k,Z1a (Z0d (pv 0) (Z0d (pv 1) Z01))⟩
  case fin=>
   obtain⟨u1,e1⟩:∃us,shp t1 = .tup us:=by
    cases N with
    |zero=>exact p1.elim
    |succ N=>obtain⟨kb,e,_⟩:=Zli (ixN (dd (frT t1 []))) p1 [];exact⟨_,e⟩
   obtain⟨u2,e2⟩:∃us,shp t2 = .tup us:=by
    cases N with
    |zero=>exact p2.elim
    |succ N=>obtain⟨kb,e,_⟩:=Zli (ixN (dd (frT t2 []))) p2 [];exact⟨_,e⟩
   refine⟨Nat.zero_le _,fun a1 ha1=>⟨Nat.zero_le _,fun a2 ha2=>?_⟩⟩
   have q1:=Z02 (o:=.lst []) ha1
   have q2:=Z02 (o:=.lst []) ha2
   have g1:upd (upd H a1 (.lst [])) a2 (.lst []) a1=some (.lst []):=q2 _ _ Z00
   have g2:upd (upd H a1 (.lst [])) a2 (.lst []) a2=some (.lst []):=Z00
   have n12:a1≠a2:=Z0e Z00 ha2
   have q12:=q1.trans q2
   generalize upd (upd H a1 (.lst [])) a2 (.lst [])=H2 at q12 g1 g2 ⊢
   refine⟨_,rfl,Nat.zero_le _,fun b1 hb1=>⟨_,rfl,?_⟩⟩
   have q3:=Z02 (o:=.lst []) hb1
   have nb1:b1≠a1:=(Z0e g1 hb1).symm
   refine⟨v1,b1,a1,t1,[],[],rfl,IsTh.kp (Kp.of (q12.trans q3)) hv1,p1,Z00,q3 _ _ g1,nb1,by rw[length_nil];omega,by rw[length_nil];omega,fun w1 H4 hw1 hm4 B4=>?_⟩
   have hw1:IsTh H4 w1 (shp t1):=hw1
   have hm4:H4 a1=some (.lst ((dd (frT t1 [])).map V.str)):=hm4
   rw[e1] at hw1
   obtain⟨c1,_,rfl,_,_⟩:=Z1j hw1
   rw[<- e1] at hw1
   have k4:But a1 H2 H4:=(But.of q3).trans B4
   refine⟨c1,shp t1,rfl,hw1,Zje p1 hN z1 hu2,?_⟩
   refine⟨_,rfl,Nat.zero_le _,fun b2 hb2=>⟨_,rfl,?_⟩⟩
   have q5:=Z02 (o:=.lst []) hb2
   have g24:H4 a2=some (.lst []):=k4 _ _ g2 n12.symm
   have nb2:b2≠a2:=(Z0e g24 hb2).symm
   have hv24:IsTh H4 v2 t2:=Z3u g1 k4 (IsTh.kp (Kp.of q12) hv2) p2.pl
   refine⟨v2,b2,a2,t2,[],[],rfl,IsTh.kp (Kp.of q5) hv24,p2,Z00,q5 _ _ g24,nb2,by rw[length_nil];omega,by rw[length_nil];omega,fun w2 H6 hw2 hm6 B6=>?_⟩
   have hw2:IsTh H6 w2 (shp t2):=hw2
   have hm6:H6 a2=some (.lst ((dd (frT t2 [])).map V.str)):=hm6
   rw[e2] at hw2
   obtain⟨c2,_,rfl,_,_⟩:=Z1j hw2
   rw[<- e2] at hw2
   have k6:But a2 H4 H6:=(But.of q5).trans B6
   have hm46:=k6 _ _ hm4 n12
   have sA:Same H H6:=fun c o e=>by
    have x1:=q12 _ _ e
    have n1:c≠a1:=fun z=>by rw[z,ha1] at e;cases e
    have n2:c≠a2:=fun z=>by rw[z] at e;rw[q1 _ _ e] at ha2;cases ha2
    exact k6 _ _ (k4 _ _ x1 n1) n2
   refine⟨c2,shp t2,rfl,hw2,Zje p2 hN z2 hu2,rfl,_,rfl,Z1b (fun g=>?_) (fun g=>?_)⟩
   ·refine k1 (fun z=>?_) H6 sA
    rw[z,decide_eq_true rfl] at g
    cases g
   ·have sh:shp t1=shp t2:=by
     refine Zg5 (Zg8 p1) (Zg8 p2) ?_
     by_cases z:(dat (shp t1)).shown=(dat (shp t2)).shown
     ·exact z
     ·exfalso
      refine g ?_
      rw[decide_eq_false (fun y=>z (by injection y))]
      rfl
    have hl:=Za6 p1 p2 sh
    refine⟨_,rfl,_,rfl,a1,a2,rfl,⟨_,SqL.of hm46⟩,⟨_,SqL.of hm6⟩,Z2.comp_zip (K:=K) (a:=a1) (b:=a2) (xs:=(dd (frT t1 [])).map V.str) (ys:=(dd (frT t2 [])).map V.str) (by rw[length_map,length_map];exact hl) (fun i zs σc H'=>∃o o',σc = [o,o']/\Same H6 H'/\zs.length=i/\i<=(dd (frT t1 [])).length/\IsThs H' zs ((((dd (frT t1 [])).zip (dd (frT t2 []))).take i).map pr2))
     ⟨none,none,rfl,Same.refl _,rfl,Nat.zero_le _,.nil⟩ (fun i zs σc H' ⟨_,_,_,e,_⟩=>⟨SqL.of (e _ _ hm46),SqL.of (e _ _ hm6)⟩) ?_ ?_⟩
    ·rintro i x y zs σc H' T' hx hy hi ⟨o,o',rfl,s',hzl,hil,hzs⟩
     rw[length_map] at hi
     rw[List.getElem?_map] at hx hy
     obtain⟨x',hx',rfl⟩:=Option.map_eq_some_iff.mp hx
     obtain⟨y',hy',rfl⟩:=Option.map_eq_some_iff.mp hy
     have hln:(dd (frT t1 [])).length<=cnt t1:=by
      have h1:=Z2e (frT t1 []) []
      have h2:=Za8 N p1 []
      rw[<- Zfx,length_nil] at h1
      omega
     refine⟨by omega,fun hT=>?_⟩
     have sT:=Z02 (o:=.tup [.str x',.str y']) hT
     refine⟨T',_,rfl,SqT.of Z00,rfl,_,_,rfl,_,_,rfl,rfl,_,rfl,_,rfl,(by show 2<=sizeLine;decide),fun p hp=>nx (by rw[length_map];exact hi) ⟨_,_,rfl,s'.trans (sT.trans (Z02 hp)),by rw[length_append,hzl];rfl,hi,?_⟩⟩
     rw[Zii hx' hy']
     exact IsThs.app _ (IsThs.kp (Kp.of (sT.trans (Z02 hp))) hzs) (.cons (.tup Z00 (.cons (.at (Z67 p1 _ (mem_of_getElem? hx'))) (.cons (.at (Z67 p2 _ (mem_of_getElem? hy'))) .nil))) .nil)
    ·rintro zs σc H' ⟨o,o',rfl,s',hzl,hil,hzs⟩ l hl'
     rw[length_map,take_of_length_le (by rw[length_zip];omega)] at hzs
     have sl:=Z02 (o:=.lst zs) hl'
     refine⟨l,zs,rfl,.inl ⟨SqL.of Z00,fun p hp=>?_⟩⟩
     have sp:=Z02 (o:=.tup zs) hp
     exact k2 sh p _ (sA.trans (s'.trans (sl.trans sp))) (.tup Z00 (IsThs.kp (Kp.of (sl.trans sp)) hzs))
end
mutual
theorem Zcl:∀t:Th,cnt t<=Th.sz t
 | .at _=>by simp [cnt]
 | .lst _=>by simp [cnt]
 | .tup xs=>by
  have:=Zgi xs
  simp only [cnt,Th.sz]
  omega
theorem Zgi:∀ts:List Th,Z1r ts<=szs ts
 |[]=>Nat.le_refl _
 |t::ts=>by
  have:=Zcl t
  have:=Zgi ts
  rw[Z1r,szs]
  omega
end
theorem Z8s:∀a b:List Th,Z1r (a++b)=Z1r a+Z1r b:=by
 intro a b
 induction a with
 |nil=>simp [Z1r]
 |cons x a ih=>rw[cons_append,Z1r,Z1r,ih];omega
theorem Zl7:∀(ks:List Th) (u:Th),u∈ks->cnt u<=Z1r ks:=by
 intro ks u h
 obtain⟨a,b,rfl⟩:=List.append_of_mem h
 rw[Z8s,Z1r]
 omega
theorem Sh.mono {S S':SS}(hc:∀x∈S.c,x∈S'.c)(hu:∀x∈S.u,x∈S'.u){w:Str}{hd:List V}{n:Nat}(h:Sh S w hd n):Sh S' w hd n:=by
 have g:∀{x},NmU S x->NmU S' x:=fun z=>⟨z.1,hu _ z.2⟩
 cases h with
 |num a b=>exact .num a b
 |name a=>exact .name (g a)
 |take=>exact .take
 |op a=>exact .op a
 |pick=>exact .pick
 |lt a=>exact .lt (g a)
 |set a=>exact .set (g a)
 |say=>exact .say
 |seq a b=>exact .seq a b
 |again a b=>exact .again a b
 |call a b c=>exact .call (hc _ a) (g b) c
theorem PfT.mono {S S':SS}(hc:∀x∈S.c,x∈S'.c)(hu:∀x∈S.u,x∈S'.u):∀(n:Nat) {t:Th},PfT S n t->PfT S' n t:=by
 intro n
 induction n with
 |zero=>intro t h;exact h.elim
 |succ n ih=>
  intro t h
  obtain⟨w,hd,ks,e,h1,h2,h3,h4,h5,h6⟩:=h
  exact⟨w,hd,ks,e,h1,h2,h3,⟨h4.st,fun z=>let ⟨x,a,b⟩:=h4.ca z;⟨x,a,hc x b⟩,h4.ag,h4.lv,h4.lw,h4.sh.mono hc hu⟩,h5,fun k hk=>ih (h6 k hk)⟩
inductive spAll_ (S:SS)(N:Nat)(vs:List V)(H:Hp)(Q:VK):Prop
 |mk (v:V) (t:Th) (_:vs = [v]) (_:IsTh H v t) (_:PfT S N t) (_:cnt t<=5000) (_:∀(p:Addr) (ws:List V) (ls:List Th) H',Same H H'->H' p=some (.lst ws)->IsThs H' ws ls->ls.length<=cnt t->(∀u∈ls,PfT S N u/\cnt u<=cnt t)->Q (.ref p) H'):spAll_ S N vs H Q
def Znf (S:SS)(N:Nat):Sp:=fun vs H Q _=>spAll_ S N vs H Q
section
variable {S:SS}{P:Program}{w:World}{K:PySem.W.Frag}{mg:Str->Option Value}{base:Heap}
theorem scAll:FnScope ["_law_e","_law_found","_law_one"] ["_law_e"] (Z06 Zk1):=⟨rfl,rfl,rfl,by decide+kernel,rfl,by decide+kernel,by decide+kernel⟩
theorem Zng {f fP fW:Addr}{fd dP dW:FuncData}(F:Fn K mg "_law_all" Zk1 ["_law_e"] f fd)(U:HW K mg fP fW dP dW):∀N,FnOk P w K mg base CX0 (N+2) f fd ["_law_e"] (Znf S N):=by
 have GP:FnOk P w K mg base CX0 1 fP dP ["_law_e"] spLawParts:=Z20 U.P U.T U.KI
 intro N
 induction N with
 |zero=>
  refine F.F.ok scAll (fun vs H Q E h=>?_) (fun cdv A outer s H vs Q E hr h=>?_)
  ·obtain⟨v,t,rfl,_⟩:=h
   rfl
  ·obtain⟨v,t,rfl,_,h,_⟩:=h
   exact h.elim
 |succ N ih=>
  refine F.F.ok scAll (fun vs H Q E h=>?_) (fun cdv A outer s H vs Q E hr h=>?_)
  ·obtain⟨v,t,rfl,_⟩:=h
   rfl
  ·obtain⟨v,t,rfl,hv,pf,hc,k⟩:=h
   have hsz:sizeLine=16777216:=sizeLine_eq
   have hr1:Room 1 _:=hr.mono (by omega)
   refine'⟨?tt,?body,?fin⟩
   case body=>
    refine' Z04 ?s1 (Z04 ?s2 (Z07 ?s3))
    case s1=>exact Z0c (i:=1) scAll.nd rfl (Or.inl rfl) (Z0x (Z0d (pv 0) Z01))
    case s2=>
     refine' Z4n PassesOwn.never rfl (Z1w (Z05 GP hr1 (by rfl) U.mP U.P.kp U.bP .nil Z0f (Z0d (pv 0) Z01))) (Z0t (i:=2) scAll.nd rfl (Or.inl rfl)) (Z07 ?b)
     case b=>exact Z0c (i:=1) scAll.nd rfl (Or.inl rfl) (Z0l Z24 (pv 1) (Z05 ih hr (by rfl) F.m F.F.kp F.b .nil Z0f (Z0d (pv 2) Z01)))
    case s3=>exact Z0i (pv 1)
   case fin=>
    have me:=pf
    obtain⟨w0,hd,ks,rfl,h1,h2,h3,h4,h5,h6⟩:=pf
    have nk:∀x∈ks,L2.isTup x=true:=fun x hx=>(h6 x hx).isTup
    have hvt:IsTh H v (.tup (.at (.str w0)::(hd.map Th.at++ks))):=hv
    have hl7:(hd.map Th.at++ks).length<=1000000:=by rw[length_append,length_map];omega
    have hct:cnt (nd w0 hd ks)=1+Z1r ks:=Z1l nk
    refine⟨_,rfl,(by show 1<=sizeLine;decide),fun q0 hq0=>?_⟩
    have s0:=Z02 (o:=.lst [v]) hq0
    refine⟨_,rfl,v,w0,hd.map Th.at++ks,rfl,IsTh.kp (Kp.of s0) hvt,hl7,fun q4 ws4 H4 s4 hq40 hq4 hws4=>?_⟩
    rw[Z43 nk] at hws4
    have hw4:=IsThs.len _ hws4
    have sA:=s0.trans s4
    refine⟨q4,rfl,⟨_,SqL.of hq4⟩,Z88 (K:=K) (a:=q4) (xs:=ws4) (fun i σ H'=>∃(fa:Addr) (ys:List V) (ls:List Th) (o:Option V),σ = [some v,some (.ref fa),o]/\Same H4 H'/\H' fa=some (.lst ys)/\IsThs H' ys ls/\ls.length<=1+Z1r (ks.take i)/\∀u∈ls,PfT S (N+1) u/\cnt u<=cnt (nd w0 hd ks))
     ⟨q0,[v],[nd w0 hd ks],none,rfl,Same.refl _,s4 _ _ Z00,.cons (IsTh.kp (Kp.of sA) hv) .nil,by rw[length_singleton];omega,Z13 ⟨me,Nat.le_refl _⟩⟩ (fun i σ H' _ ⟨_,_,_,_,_,e,_⟩=>SqL.of (e _ _ hq4)) ?_ ?_⟩
    ·rintro i x σ H5 hx ⟨fa,ys,ls,o,rfl,s5,hfa,hys,hl,ha⟩
     obtain⟨u,hu,hxu⟩:=Z1o _ (IsThs.kp (Kp.of s5) hws4) hx
     have hum:=mem_of_getElem? hu
     have hcu:=Zl7 ks u hum
     have htk:Z1r (ks.take (i+1))=Z1r (ks.take i)+cnt u:=by rw[take_add_one,hu,Z8s];simp [Z1r]
     have hti:Z1r (ks.take i)<=Z1r ks:=by
      have:=Z8s (ks.take i) (ks.drop i)
      rw[take_append_drop] at this
      omega
     have hyl:=IsThs.len _ hys
     refine⟨_,rfl,_,rfl,x,u,rfl,hxu,h6 u hum,by omega,fun p6 ws6 ls6 H6 s6 hp6 hws6 l2 a6=>?_⟩
     have h6l:=IsThs.len _ hws6
     refine⟨fa,p6,ys,ws6,rfl,rfl,s6 _ _ hfa,hp6,by omega,fun q7 hq7=>?_⟩
     have s7:=Z02 (o:=.lst (ys++ws6)) hq7
     refine⟨q7,_,ls++ls6,_,rfl,(s5.trans s6).trans s7,Z00,IsThs.app _ (IsThs.kp (Kp.of (s6.trans s7)) hys) (IsThs.kp (Kp.of s7) hws6),by rw[length_append];omega,fun y hy=>?_⟩
     rcases mem_append.mp hy with z|z
     ·exact ha y z
     ·have:=(a6 y z).2
      exact⟨(a6 y z).1.up,by omega⟩
    ·rintro σ H5 ⟨fa,ys,ls,o,rfl,s5,hfa,hys,hl,ha⟩
     rw[hw4,take_of_length_le (Nat.le_refl _)] at hl
     exact⟨_,rfl,k fa ys ls H5 (sA.trans s5) hfa hys (by omega) ha⟩
end
inductive spChanged_ (S:SS)(N:Nat)(vs:List V)(H:Hp)(Q:VK):Prop
 |mk (d l ca:Addr) (v:V) (t:Th) (ns:List Int) (n:Nat) (cs:List Str) (_:vs = [.ref d,v,.ref ca]) (_:Feed H d l ns n) (_:n<=800000000000) (_:IsTh H v t) (_:PfT S N t) (_:cnt t<=5000) (_:H ca=some (.lst (cs.map V.str))) (_:1<=cs.length) (_:cs.length<=1000) (_:(∀x∈cs,x∈S.c/\NmU S x)) (_:∀(v':V) (t':Th) (n':Nat) H',IsTh H' v' t'->PfT S (N+N) t'->Th.sz t'<=3*cnt t+cnt t*(3*cnt t)->n'<=n+3->Feed H' d l ns n'->But d H H'->Q v' H'):spChanged_ S N vs H Q
def Za9 (S:SS)(N:Nat):Sp:=fun vs H Q _=>spChanged_ S N vs H Q
abbrev words4:List Str:=["op","again","call","do"]
theorem Sh.op1 {S:SS}{hd:List V}{n:Nat}(h:Sh S "op" hd n):(∃c:Nat,hd = [.str ⟨#[c]⟩])/\n=2:=by
 cases h;exact⟨⟨_,rfl⟩,rfl⟩
theorem Sh.again1 {S:SS}{hd:List V}{n:Nat}(h:Sh S "again" hd n):(∃i:Int,hd = [.int i])/\n=1:=by
 cases h;exact⟨⟨_,rfl⟩,rfl⟩
theorem Sh.do1 {S:SS}{hd:List V}{n:Nat}(h:Sh S "do" hd n):hd = []/\1<=n/\n<=6:=by
 cases h with
 |seq a b=>exact⟨rfl,a,b⟩
theorem Sh.call1 {S:SS}{hd:List V}{n:Nat}(h:Sh S "call" hd n):(∃x:Str,hd = [.str x]/\x∈S.c/\NmU S x)/\n<=6:=by
 cases h with
 |call a b c=>exact⟨⟨_,rfl,a,b⟩,c⟩
theorem Zaa (ks:List Th)(i:Nat):Z1r (ks.take i)<=Z1r ks:=by
 have:=Z8s (ks.take i) (ks.drop i)
 rw[take_append_drop] at this
 omega
theorem Zou:(["_law_k","_law_some"]:List Str).Nodup:=by decide+kernel
abbrev Zpa:List Str:=["_law_feed_here","_law_e","_law_calls","_law_some","_law_spots","_law_spot","_law_one","_law_way","_law_name_here"]
section
variable {S:SS}{P:Program}{w:World}{K:PySem.W.Frag}{mg:Str->Option Value}{base:Heap}{g:GenF}
theorem scChanged:FnScope Zpa ["_law_feed_here","_law_e","_law_calls"] (Z06 Z3n):=⟨rfl,rfl,rfl,by decide+kernel,rfl,by decide+kernel,by decide+kernel⟩
theorem Zdr {f fA:Addr}{fd dA:FuncData}{N:Nat}(F:Fun K "_law_changed" "_law_changed" Z3n f fd)(G:Gen K mg g)(hmax:mg "max"=none)(FA:Fn K mg "_law_all" Zk1 ["_law_e"] fA dA):FnOk P w K mg base CX0 (N+4) f fd ["_law_feed_here","_law_e","_law_calls"] (Za9 S N):=by
 have GD:FnOk P w K mg base CX0 1 g.fD g.dD ["_law_feed_here","_law_many"] spDraw:=G.gD
 have GA:FnOk P w K mg base CX0 (N+2) fA dA ["_law_e"] (Znf S N):=Zng FA G.X N
 have GS:FnOk P w K mg base CX0 (N+3) g.fX g.dX ["_law_e","_law_at","_law_leaf_here"] (Z4d S N N):=Z9r G.S.F G.S.b G.S.m G.X G.U.T.range G.sum G.N.F G.N.b G.N.m N N
 have T:=G.X.T
 refine F.ok scChanged (fun vs H Q E h=>?_) (fun cdv A outer s H vs Q E hr h=>?_)
 ·obtain⟨d,l,ca,v,t,ns,n,cs,rfl,_⟩:=h
  rfl
 ·obtain⟨d,l,ca,v,t,ns,n,cs,rfl,F0,hn,hv,pf,hc,hca,hc1,hc2,hcs,k⟩:=h
  have hsz:sizeLine=16777216:=sizeLine_eq
  have hr1:Room 1 _:=hr.mono (by omega)
  have hrA:Room (N+2) _:=hr.mono (by omega)
  have hu0:=hr.units0
  refine'⟨?tt,?body,?fin⟩
  case body=>
   refine' Z04 ?s1 ?r1
   case s1=>exact Z0c (i:=3) scChanged.nd rfl (Or.inr rfl) (Z05 GA hrA (by rfl) FA.m FA.F.kp FA.b .nil Z0f (Z0d (pv 1) Z01))
   case r1=>
    refine' Z0m ?s2 ?r2
    case s2=>
     refine' Z2v (i:=4) (N':=["_law_k","_law_some"]) (src:=[none,some 3]) ?k1 ?k2 ?k3 ?k4 ?k5 ?k6 ?k7
     case k1=>rfl
     case k2=>exact scChanged.nd
     case k3=>rfl
     case k4=>exact Or.inl rfl
     case k5=>exact Z0j (Z06 Z3n) rfl Zpa rfl (by decide+kernel)
     case k6=>exact Z1y (by rfl) G.U.T.range (Z2a (Z0n Z0o (by rfl) T.len PySem.boot_len (Z0d (pv 3) Z01)) Z01)
     case k7=>exact fun cl C ex s0 H0=>⟨Z0t (i:=0) Zou rfl (Or.inl rfl),Z5i (Z0a (Zd1 (K:=K) rfl) (Z0r (Zjp (K:=K) rfl) (Z0r (Zbl (K:=K) rfl) (pv 1) (pv 0) (fun _ _=>rfl)) Z03 (fun _ _=>rfl)) (Z0x (Z1d Z08 (Z1d Z08 (Z1d Z08 (Z1d Z08 Z01))))) (by with_unfolding_all rfl)),pv 0⟩
    case r2=>
     refine' Z04 ?s3 ?r3
     case s3=>exact Z0y (Z0a (Z54 hu0) (pv 4) (Z0x Z01) (Z0k _)) (Z07 (Z0i (pv 1))) Z0h
     case r3=>
      refine' Z04 ?s4 ?r4
      case s4=>exact Z0c (i:=5) scChanged.nd rfl (Or.inl rfl) (Z0r Z0z (pv 4) (Z05 GD hr1 (by rfl) G.U.mD G.U.D.kp G.U.bD .nil Z0f (Z0d (pv 0) (Z2a (Z0n Z0o (by rfl) T.len PySem.boot_len (Z0d (pv 4) Z01)) Z01))) (fun _ _=>rfl))
      case r4=>
       refine' Z04 ?s5 ?r5
       case s5=>exact Z0c (i:=6) scChanged.nd rfl (Or.inl rfl) (Z0r Z0z (pv 3) (pv 5) (fun _ _=>rfl))
       case r5=>
        refine' Z04 ?s6 ?r6
        case s6=>
         refine' Z0y (Z0a Z1c (Z0r Z0v (pv 6) Z03 (fun _ _=>rfl)) Z08 (Z0k _)) (Z07 ?e1) Z0h
         case e1=>exact Z0i (Z05 GS hr (by rfl) G.S.m G.S.F.kp G.S.b .nil Z0f (Z0d (pv 1) (Z0d (pv 5) (Z0b (Z0l Z8d (Z1a (Z1d Z08 (Z0b (Z0r Z96 Z08 (Z05 GD hr1 (by rfl) G.U.mD G.U.D.kp G.U.bD .nil Z0f (Z0d (pv 0) (Z1d Z03 Z01))) (fun _ _=>rfl)) Z01))) (Z17 Z4r (pv 6) (Z1h Z03) Z1m)) Z01))))
        case r6=>
         refine' Z04 ?s7 ?r7
         case s7=>
          refine' Z0y (Z0a Z1c (Z0r Z0v (pv 6) Z03 (fun _ _=>rfl)) Z08 (Z0k _)) (Z07 ?e1) Z0h
          case e1=>exact Z0i (Z05 GS hr (by rfl) G.S.m G.S.F.kp G.S.b .nil Z0f (Z0d (pv 1) (Z0d (pv 5) (Z0b (Z0l Z8d (Z1a (Z1d Z08 (Z2a (Z05 GD hr1 (by rfl) G.U.mD G.U.D.kp G.U.bD .nil Z0f (Z0d (pv 0) (Z1d Z03 Z01))) Z01))) (Z17 Z4r (pv 6) (Z1h Z03) Z1m)) Z01))))
         case r7=>
          refine' Z04 ?s8 ?r8
          case s8=>
           refine' Z0y (Z0a Z1c (Z0r Z0v (pv 6) Z03 (fun _ _=>rfl)) Z08 (Z0k _)) (Z07 ?e1) Z0h
           case e1=>exact Z0i (Z05 GS hr (by rfl) G.S.m G.S.F.kp G.S.b .nil Z0f (Z0d (pv 1) (Z0d (pv 5) (Z0b (Z17 Z4r (pv 6) Z1m (Z1h (Z0n (id:="max") (Z90 rfl) (by rfl) hmax (by decide+kernel) (Z1d Z03 (Z0b (Z0l Z1v (Z0n Z0o (by rfl) T.len PySem.boot_len (Z0d (pv 6) Z01)) Z03) Z01))))) Z01))))
          case r8=>
           refine' Z04 ?s9 ?r9
           case s9=>exact Z0c (i:=7) scChanged.nd rfl (Or.inl rfl) (Z05 GD hr1 (by rfl) G.U.mD G.U.D.kp G.U.bD .nil Z0f (Z0d (pv 0) (Z1d Z03 Z01)))
           case r9=>
            refine' Z04 ?s10 (Z07 ?s11)
            case s10=>exact Z0c (i:=8) scChanged.nd rfl (Or.inl rfl) (Z0r Z0z (pv 2) (Z05 GD hr1 (by rfl) G.U.mD G.U.D.kp G.U.bD .nil Z0f (Z0d (pv 0) (Z2a (Z0n Z0o (by rfl) T.len PySem.boot_len (Z0d (pv 2) Z01)) Z01))) (fun _ _=>rfl))
            case s11=>
             refine' Z0i (Z05 GS hr (by rfl) G.S.m G.S.F.kp G.S.b .nil Z0f (Z0d (pv 1) (Z0d (pv 5) (Z0b ?x Z01))))
             case x=>
              refine' Z0r Z0z (Z0x (Z0b ?y (Z0b ?z Z01))) (pv 7) (fun _ _=>rfl)
              case y=>exact Z0l Z8d (Z1a (Z1d Z08 (Z0d (pv 8) Z01))) (Z17 Z4r (pv 6) (Z1h Z03) Z1m)
              case z=>exact Z17 Z4r (pv 6) Z1m (Z1h (Z0n (id:="max") (Z90 rfl) (by rfl) hmax (by decide+kernel) (Z1d Z03 (Z0b (Z0l Z1v (Z0n Z0o (by rfl) T.len PySem.boot_len (Z0d (pv 6) Z01)) Z03) Z01))))
  case fin=>
   have last:∀(vl:V) (l0:Th) (H9:Hp) (n9:Nat) (z:Int),IsTh H9 vl l0->PfT S N l0->cnt l0<=cnt t->Feed H9 d l ns n9->n9<=n+3->But d H H9->Z4d S N N [v,.int z,vl] H9 Q E0:=fun vl l0 H9 n9 z h1 h2 h3 F9 hn9 b9=>
    ⟨v,vl,z,t,l0,rfl,IsTh.kp (b9.kp F0) hv,pf,h1,h2,fun v' t' H' s' hv' p' z'=>k v' t' n9 H' hv' p' (by
     have a1:=Z3v N pf
     have a2:=Z3v N h2
     have a3:cnt t*Th.sz l0<=cnt t*(3*cnt t):=Nat.mul_le_mul_left _ (by omega)
     unfold bdS at z'
     omega) hn9 (F9.same s') (b9.trans (But.of s'))⟩
   refine⟨_,rfl,v,t,rfl,hv,pf,hc,fun pA ws ls H1 s1 hpA hws hll hla=>?_⟩
   have hwl:=IsThs.len _ hws
   refine⟨fun σ' H'=>∃(sa:Addr) (is:List Int),σ' = [some (.ref d),some v,some (.ref ca),some (.ref pA),some (.ref sa),none,none,none,none]/\Same H1 H'/\H' sa=some (.lst (is.map V.int))/\is.length<=ls.length/\∀i∈is,∃(q:Nat) (u:Th),i=(q:Int)/\ls[q]? = some u/\wd u∈words4,?_,?_⟩
   ·refine⟨_,rfl,pA,_,rfl,.inl (SqL.of hpA),_,rfl,by omega,by omega,Z5k (lo:=0) (n:=((ws.length:Nat):Int).toNat) (fun j ys σc H'=>∃(o:Option V) (is:List Int),σc = [o,some (.ref pA)]/\Same H1 H'/\ys=is.map V.int/\is.length<=j/\∀i∈is,∃(q:Nat) (u:Th),i=(q:Int)/\ls[q]? = some u/\wd u∈words4)
     ⟨none,[],rfl,Same.refl _,rfl,Nat.le_refl _,fun i hi=>by cases hi⟩ ?_ ?_⟩
    ·rintro j ys σc H' hj ⟨o,is,rfl,s',rfl,hil,hia⟩
     rw[Int.toNat_natCast] at hj
     have hjl:j<ls.length:=by omega
     have hu:ls[j]? = some ls[j]:=List.getElem?_eq_getElem hjl
     obtain⟨pu,_⟩:=hla _ (getElem_mem hjl)
     obtain⟨x,hx,hxt⟩:∃x,ws[j]? = some x/\IsTh H1 x ls[j]:=by
      obtain⟨u,hu2,h2⟩:=Z1o _ hws (List.getElem?_eq_getElem hj)
      rw[hu] at hu2
      cases hu2
      exact⟨_,List.getElem?_eq_getElem hj,h2⟩
     obtain⟨N',rfl⟩:∃N',N=N'+1:=by
      cases N with
      |zero=>exact pu.elim
      |succ N'=>exact⟨N',rfl⟩
     obtain⟨w0,hd,ks,eu,_⟩:=pu
     rw[eu] at hxt
     obtain⟨a,vs,rfl,ha,hvs⟩:=Z1j hxt
     obtain⟨vr,rfl⟩:∃vr,vs = .str w0::vr:=by
      cases hvs with
      |cons c1 c2=>
       obtain⟨rfl,_⟩:=Z1p c1
       exact⟨_,rfl⟩
     have hat:atI ws (0+(j:Int))=some (.ref a):=by
      rw[show(0:Int)+(j:Int)=((j:Nat):Int) by omega]
      exact Z23 hx
     refine⟨by rw[length_map];omega,_,rfl,_,rfl,pA,ws,_,.ref a,rfl,rfl,SqL.of (s' _ _ hpA),hat,a,_,_,.str w0,rfl,rfl,SqT.of (s' _ _ ha),Z15 _ _,(by show 4<=sizeLine;decide),fun q hq=>?_⟩
     have sq:=Z02 (o:=.lst (words4.map V.str)) hq
     refine⟨q,words4.map V.str,rfl,.inl (SqL.of Z00),rfl,rfl,_,rfl,Z1b (fun g1=>?_) (fun g1=>?_)⟩
     ·refine⟨_,rfl,nx (by rw[Int.toNat_natCast];exact hj) ⟨_,is ++ [0+(j:Int)],rfl,s'.trans sq,by rw[map_append];rfl,by rw[length_append,length_singleton];omega,fun i hi=>?_⟩⟩
      rcases mem_append.mp hi with z|z
      ·exact hia i z
      ·rw[mem_singleton] at z
       exact⟨j,ls[j],by omega,hu,by rw[eu,Z3w];exact(Z1u w0 words4).mp g1⟩
     ·exact nx (by rw[Int.toNat_natCast];exact hj) ⟨_,is,rfl,s'.trans sq,rfl,by omega,hia⟩
    ·rintro ys σc H' ⟨o,is,rfl,s',rfl,hil,hia⟩ sa hsa
     rw[Int.toNat_natCast] at hil
     exact⟨sa,is,rfl,s'.trans (Z02 hsa),Z00,by omega,hia⟩
   rintro σ2 H2 ⟨sa,is,rfl,s2,hsa,hil,hia⟩
   have s12:=s1.trans s2
   refine⟨_,rfl,Nat.zero_le _,fun q2 hq2=>?_⟩
   have s3:=Z02 (o:=.lst []) hq2
   have s13:=s12.trans s3
   have hsa3:=s3 _ _ hsa
   have hpA3:=s3 _ _ (s2 _ _ hpA)
   have hws3:=IsThs.kp (Kp.of (s2.trans s3)) hws
   have e3:upd H2 q2 (.lst []) q2=some (.lst []):=Z00
   generalize upd H2 q2 (.lst [])=H3 at s13 hsa3 hpA3 hws3 e3 ⊢
   have F3:=F0.same s13
   refine⟨sa,q2,_,rfl,rfl,SqL.of hsa3,SqL.of e3,_,rfl,Z1b (fun _=>?_) (fun g1=>?_)⟩
   ·refine⟨_,rfl,k v t n H3 (IsTh.kp (Kp.of s13) hv) (pf.le (by omega)) ?_ (by omega) F3 (But.of s13)⟩
    have:=Z3v N pf
    omega
   have hi1:1<=is.length:=by
    cases is with
    |nil=>exact absurd rfl g1
    |cons _ _=>rw[length_cons];omega
   refine⟨_,rfl,_,rfl,_,rfl,sa,_,rfl,.inl (SqL.of hsa3),d,l,ns,n,_,rfl,F3,by omega,by rw[length_map];omega,by rw[length_map];omega,fun x n4 H4 x0 x1 hn4 F4 b4=>?_⟩
   obtain⟨vq,hvq,hat⟩:=Z34 (xs:=is.map V.int) (i:=x) x0 x1
   obtain⟨i,hi,rfl⟩:=mem_map.mp hvq
   obtain⟨q,u,rfl,hu,hwu⟩:=hia i hi
   obtain⟨pu,cu⟩:=hla u (mem_of_getElem? hu)
   have kb:=b4.kp F3
   have hpA4:=F3.lst b4 hpA3
   have hsa4:=F3.lst b4 hsa3
   have B4:But d H H4:=(But.of s13).trans b4
   have hql:q<ws.length:=by
    have:=(List.getElem?_eq_some_iff.mp hu).1
    omega
   obtain⟨u',hu',hxt⟩:=Z1o _ (IsThs.kp kb hws3) (List.getElem?_eq_getElem hql)
   rw[hu] at hu'
   cases hu'
   generalize hvx:ws[q]=vx at hxt
   refine⟨sa,_,x,.int (q:Nat),rfl,rfl,SqL.of hsa4,hat,_,rfl,_,rfl,pA,ws,_,vx,rfl,rfl,SqL.of hpA4,Z23 (by rw[List.getElem?_eq_getElem hql,hvx]),?_⟩
   obtain⟨N',rfl⟩:∃N',N=N'+1:=by
    cases N with
    |zero=>exact pu.elim
    |succ N'=>exact⟨N',rfl⟩
   obtain⟨w0,hd,ks,eu,h1,h2,h3,h4,h5,h6⟩:=pu
   subst eu
   have sh:=h4.sh
   have nk:∀y∈ks,L2.isTup y=true:=fun y hy=>(h6 y hy).isTup
   have hcu:cnt (nd w0 hd ks)=1+Z1r ks:=Z1l nk
   unfold nd at hxt
   obtain⟨a,vs,rfl,ha,hvs⟩:=Z1j hxt
   obtain⟨vr,rfl,hvr⟩:∃vr,vs = .str w0::vr/\IsThs H4 vr (hd.map Th.at++ks):=by
    cases hvs with
    |cons c1 c2=>
     obtain⟨rfl,_⟩:=Z1p c1
     exact⟨_,rfl,c2⟩
   have second:∀y,hd = [y]->∃vr2,vr=y::vr2/\IsThs H4 vr2 ks/\smallV y=true:=fun y e=>by
    subst e
    cases hvr with
    |cons c1 c2=>
     obtain⟨rfl,c3⟩:=Z1p c1
     exact⟨_,rfl,c2,c3⟩
   have tk:∀(j:Nat) (kv:List V) (H9:Hp),IsThs H9 kv ks->IsThs H9 (kv.take j) (ks.take j):=fun j kv H9 h=>Zbt j h
   have tm:∀j,∀y∈ks.take j,PfT S N' y:=fun j y hy=>h6 y (mem_of_mem_take hy)
   have tn:∀j,∀y∈ks.take j,L2.isTup y=true:=fun j y hy=>nk y (mem_of_mem_take hy)
   have hvl:=IsThs.len _ hvr
   rw[length_append,length_map] at hvl
   refine⟨_,rfl,a,_,_,_,rfl,rfl,SqT.of ha,Z15 _ _,rfl,_,rfl,Z1b (fun g2=>?_) (fun g2=>?_)⟩
   ·have hw:w0="op":=by
     have g':=of_decide_eq_true g2
     injection g'
    subst hw
    obtain⟨⟨c0,rfl⟩,hk2⟩:=sh.op1
    obtain⟨vr2,rfl,hv2,_⟩:=second _ rfl
    have hvl:vr2.length=ks.length:=IsThs.len _ hv2
    refine⟨_,rfl,_,rfl,_,rfl,d,l,ns,n4,_,rfl,F4,by omega,by decide,by decide,fun y n5 H5 y0 y1 hn5 F5 b5=>?_⟩
    obtain⟨c,hcm,hcat⟩:=Z34 (xs:=signs6.cps.toList) (i:=y) y0 (Int.lt_of_lt_of_le y1 (by decide+kernel))
    have kb5:=b5.kp F4
    have ha5:=kb5 _ _ ha (by intro q z;cases z)
    refine⟨signs6,y,c,rfl,rfl,(by decide+kernel),hcat,(by show 2<=sizeLine;decide),fun p6 hp6=>?_⟩
    have q6:=Z02 (o:=.tup [.str "op",.str ⟨#[c]⟩]) hp6
    refine⟨_,rfl,_,rfl,a,_,rfl,q6 _ _ ha5,fun p7 H7 q7 hp7=>?_⟩
    rw[Z2b (by decide) (by show 2<=_;rw[length_cons,length_cons];omega)] at hp7
    refine⟨p6,p7,_,_,rfl,rfl,q7 _ _ Z00,hp7,(by show 2+vr2.length<=_;omega),fun p8 H8 q8 hp8=>?_⟩
    have qA:=q6.trans (q7.trans q8)
    have hO:=Zj4 (S:=S) hcm
    have hcn:cnt (nd "op" [.str ⟨#[c]⟩] ks)=1+Z1r ks:=Z1l nk
    refine last (.ref p8) (nd "op" [.str ⟨#[c]⟩] ks) H8 n5 _ (.tup hp8 (.cons (.at hO.t) (.cons (.at (hO.s _ (by simp))) (IsThs.kp (Kp.of qA) (IsThs.kp kb5 hv2))))) (Z3p hO.l hO.p hO.n (by rw[hk2];exact hO.e) h5 h6) (by omega) (F5.same qA) (by omega) ((B4.trans b5).trans (But.of qA))
   refine⟨_,rfl,a,_,_,_,rfl,rfl,SqT.of ha,Z15 _ _,rfl,_,rfl,Z1b (fun g3=>?_) (fun g3=>?_)⟩
   ·have hw:w0="again":=by
     have g':=of_decide_eq_true g3
     injection g'
    subst hw
    obtain⟨⟨c0,rfl⟩,hk2⟩:=sh.again1
    obtain⟨vr2,rfl,hv2,_⟩:=second _ rfl
    have hvl:vr2.length=ks.length:=IsThs.len _ hv2
    refine⟨_,rfl,_,rfl,_,rfl,d,l,ns,n4,_,rfl,F4,by omega,by decide,by decide,fun y n5 H5 y0 y1 hn5 F5 b5=>⟨(by show 2<=sizeLine;decide),fun p6 hp6=>?_⟩⟩
    have kb5:=b5.kp F4
    have ha5:=kb5 _ _ ha (by intro q z;cases z)
    have q6:=Z02 (o:=.tup [.str "again",.int y]) hp6
    refine⟨_,rfl,_,rfl,a,_,rfl,q6 _ _ ha5,fun p7 H7 q7 hp7=>?_⟩
    rw[Z2b (by decide) (by show 2<=_;rw[length_cons,length_cons];omega)] at hp7
    refine⟨p6,p7,_,_,rfl,rfl,q7 _ _ Z00,hp7,(by show 2+vr2.length<=_;omega),fun p8 H8 q8 hp8=>?_⟩
    have qA:=q6.trans (q7.trans q8)
    have hcn:cnt (nd "again" [.int y] ks)=1+Z1r ks:=Z1l nk
    obtain⟨k1,rfl⟩:∃k1,ks = [k1]:=List.length_eq_one_iff.mp hk2
    exact last (.ref p8) (nd "again" [.int y] [k1]) H8 n5 _ (.tup hp8 (.cons (.at (by decide+kernel)) (.cons (.at rfl) (IsThs.kp (Kp.of qA) (IsThs.kp kb5 hv2))))) (Zc1 y0 (by omega) (h6 k1 (by simp))) (by omega) (F5.same qA) (by omega) ((B4.trans b5).trans (But.of qA))
   refine⟨_,rfl,a,_,_,_,rfl,rfl,SqT.of ha,Z15 _ _,rfl,_,rfl,Z1b (fun g4=>?_) (fun g4=>?_)⟩
   ·have hw:w0="do":=by
     have g':=of_decide_eq_true g4
     injection g'
    subst hw
    obtain⟨rfl,hk1,hk6⟩:=sh.do1
    have hvr:IsThs H4 vr ks:=hvr
    have hvl:vr.length=ks.length:=by rw[hvl];simp
    refine⟨_,rfl,_,rfl,_,rfl,_,rfl,a,_,rfl,.inr (SqT.of ha),_,_,rfl,rfl,_,_,rfl,_,rfl,a,_,rfl,ha,fun p7 H7 q7 hp7=>?_⟩
    have hz:(if ((((V.str "do"::vr).length:Nat):Int)-1)>2 then ((((V.str "do"::vr).length:Nat):Int)-1) else 2)=((max 2 vr.length:Nat):Int):=by
     rw[length_cons]
     split <;> omega
    rw[hz,Z9l (by omega) (by rw[Int.toNat_natCast,length_cons];omega),Int.toNat_natCast,show max 2 vr.length=(max 2 vr.length-1)+1 by omega,take_succ_cons] at hp7
    have ht:=tk (max 2 vr.length-1) vr H4 hvr
    have hkl:(ks.take (max 2 vr.length-1)).length=max 2 vr.length-1:=by rw[length_take];omega
    have hO:=Zc2 (S:=S) (n:=(ks.take (max 2 vr.length-1)).length) (by omega) (by omega)
    have hct:=Zaa ks (max 2 vr.length-1)
    have hcn:cnt (nd "do" [] (ks.take (max 2 vr.length-1)))=1+Z1r (ks.take (max 2 vr.length-1)):=Z1l (tn _)
    exact last (.ref p7) (nd "do" [] (ks.take (max 2 vr.length-1))) H7 n4 _ (.tup hp7 (.cons (.at hO.t) (IsThs.kp (Kp.of q7) ht))) (Z3p hO.l hO.p hO.n hO.e (by omega) (tm _)) (by omega) (F4.same q7) (by omega) (B4.trans (But.of q7))
   have hw:w0="call":=by
    rw[Z3w] at hwu
    simp only [mem_cons,not_mem_nil,or_false] at hwu
    rcases hwu with z|z|z|z
    ·exact absurd (by rw[z];decide+kernel) g2
    ·exact absurd (by rw[z];decide+kernel) g3
    ·exact z
    ·exact absurd (by rw[z];decide+kernel) g4
   subst hw
   obtain⟨⟨y,rfl,hyc,hyn⟩,hk6⟩:=sh.call1
   obtain⟨vr2,rfl,hv2,hy3⟩:=second _ rfl
   have hvl:vr2.length=ks.length:=IsThs.len _ hv2
   refine⟨_,rfl,d,l,ns,n4,_,rfl,F4,by omega,by decide,by decide,fun y2 n5 H5 y0 y1 hn5 F5 b5=>?_⟩
   have kb5:=b5.kp F4
   have ha5:=kb5 _ _ ha (by intro q z;cases z)
   have hca5:=F4.lst b5 (F3.lst b4 (s13 _ _ hca))
   refine⟨_,rfl,_,rfl,_,rfl,ca,_,rfl,.inl (SqL.of hca5),d,l,ns,n5,_,rfl,F5,by omega,by rw[length_map];omega,by rw[length_map];omega,fun z n6 H6 z0 z1 hn6 F6 b6=>?_⟩
   obtain⟨vn,hvn,hvat⟩:=Z34 (xs:=cs.map V.str) (i:=z) z0 z1
   obtain⟨nm,hnm,rfl⟩:=mem_map.mp hvn
   obtain⟨nc,nu⟩:=hcs nm hnm
   have kb6:=b6.kp F5
   have ha6:=kb6 _ _ ha5 (by intro q z;cases z)
   have B6:But d H H6:=(B4.trans b5).trans b6
   have hv6:IsThs H6 vr2 ks:=IsThs.kp kb6 (IsThs.kp kb5 hv2)
   refine⟨ca,_,z,.str nm,rfl,rfl,SqL.of (F5.lst b6 hca5),hvat,_,rfl,_,rfl,_,rfl,(by show 2<=sizeLine;decide),fun p7 hp7=>?_⟩
   have q7:=Z02 (o:=.tup [.str "call",.str nm]) hp7
   refine⟨_,rfl,_,rfl,a,_,rfl,q7 _ _ ha6,fun p8 H8 q8 hp8=>?_⟩
   rw[Z2b (by decide) (by show 2<=_;rw[length_cons,length_cons];omega)] at hp8
   refine⟨p7,p8,_,_,rfl,rfl,q8 _ _ Z00,hp8,(by show 2+vr2.length<=_;omega),fun p9 H9 q9 hp9=>?_⟩
   have qA:=q7.trans (q8.trans q9)
   have ha9:=qA _ _ ha6
   refine⟨_,rfl,_,rfl,a,_,rfl,.inr (SqT.of ha9),_,_,rfl,rfl,_,_,rfl,_,rfl,a,_,rfl,ha9,fun pB HB qB hpB=>⟨(by show 2<=sizeLine;decide),fun pL hpL=>?_⟩⟩
   have hz:(if ((((V.str "call" :: .str y::vr2).length:Nat):Int)-1)>2 then ((((V.str "call" :: .str y::vr2).length:Nat):Int)-1) else 2)=((max 2 (vr2.length+1):Nat):Int):=by
    rw[length_cons,length_cons]
    split <;> omega
   rw[hz,Z9l (by omega) (by rw[Int.toNat_natCast,length_cons,length_cons];omega),Int.toNat_natCast,show max 2 (vr2.length+1)=(max 2 (vr2.length+1)-2)+1+1 by omega,take_succ_cons,take_succ_cons] at hpB
   have qL:=Z02 (o:=.lst [.ref p9,.ref pB]) hpL
   have qC:=(qA.trans qB).trans qL
   have hct:=Zaa ks (max 2 (vr2.length+1)-2)
   have hcn:cnt (nd "call" [.str y] (ks.take (max 2 (vr2.length+1)-2)))=1+Z1r (ks.take (max 2 (vr2.length+1)-2)):=Z1l (tn _)
   have hcm:cnt (nd "call" [.str nm] ks)=1+Z1r ks:=Z1l nk
   obtain⟨vz,hvz,hzat⟩:=Z34 (xs:=[V.ref p9,.ref pB]) (i:=y2) y0 y1
   refine⟨_,rfl,pL,_,y2,vz,rfl,rfl,SqL.of Z00,hzat,?_⟩
   have smc:smallV (.str "call")=true:=by decide+kernel
   rcases mem_cons.mp hvz with e|e
   ·subst e
    exact last (.ref p9) (nd "call" [.str nm] ks) _ n6 _ (.tup (qL _ _ (qB _ _ hp9)) (.cons (.at smc) (.cons (.at (Z3o nu)) (IsThs.kp (Kp.of qC) hv6)))) (Zas nc nu h5 h6) (by omega) (F6.same qC) (by omega) (B6.trans (But.of qC))
   ·rw[mem_singleton] at e
    subst e
    exact last (.ref pB) (nd "call" [.str y] (ks.take (max 2 (vr2.length+1)-2))) _ n6 _ (.tup (qL _ _ hpB) (.cons (.at smc) (.cons (.at hy3) (IsThs.kp (Kp.of qC) (tk _ _ _ hv6))))) (Zas hyc hyn (by rw[length_take];omega) (tm _)) (by omega) (F6.same qC) (by omega) (B6.trans (But.of qC))
end
structure Bs (S:SS)(M:Nat)(H:Hp)(d l wd:Addr)(a:WA)(i:WI)(ns:List Int)(n:Nat)(r z:Int):Prop where
 F:Feed H d l ns n
 W:H wd=some (.dK (Z0g a r z))
 N:Wf S M H d wd a i
section
variable {S:SS}{M:Nat}{H H':Hp}{d l wd:Addr}{a:WA}{i:WI}{ns:List Int}{n n':Nat}{r z:Int}
theorem Bs.go (X:Bs S M H d l wd a i ns n r z)(b:But d H H')(F':Feed H' d l ns n'):Bs S M H' d l wd a i ns n' r z:=
 ⟨F',b _ _ X.W (Z66 X.F X.W),X.N.go (b.kp X.F) (But2.of b)⟩
theorem Bs.same (X:Bs S M H d l wd a i ns n r z)(s:Same H H'):Bs S M H' d l wd a i ns n r z:=X.go (But.of s) (X.F.same s)
theorem Bs.ctx (X:Bs S M H d l wd a i ns n r z){bd:Addr}(h:H bd=some (.lst [])):Ctx S M H H d l wd a i bd [] ns n r z:=⟨X.F,X.W,X.N,h,Nat.zero_le _,(fun t ht=>by cases ht),But2.refl _ _ _⟩
theorem Zl8 {bd:Addr}{bs:List Str}(W:H wd=some (.dK (Z0g a r z)))(C:Ctx S M H H' d l wd a i bd bs ns n' r z):But d H H':=fun c o e hc=>by
 by_cases q:c=wd
 ·rw[q,W] at e;rw[q,C.W];exact e
 ·exact C.b2 c o e hc q
end
theorem Zcm (xs:List V):Z5v xs none (some (-1))=xs.take (xs.length-1):=by
 unfold Z5v HT.sIx
 simp only [drop_zero,Nat.sub_zero]
 rw[if_pos (by decide)]
 congr 1
 omega
abbrev SS.all (S:SS):SS:=⟨S.u,S.u⟩
theorem Zgj {S:SS}(h:∀x∈S.c,x∈S.u){n:Nat}{t:Th}(p:PfT S n t):PfT S.all n t:=PfT.mono (S:=S) (S':=S.all) h (fun x hx=>hx) n p
inductive spBeside_ (S:SS)(M N:Nat)(vs:List V)(H:Hp)(Q:VK):Prop
 |mk (d l wd:Addr) (a:WA) (i:WI) (ns:List Int) (n:Nat) (r z:Int) (v:V) (t:Th) (_:vs = [.ref d,v,.ref a.nm,.ref wd]) (_:Bs S M H d l wd a i ns n r z) (_:IsTh H v t) (_:PfT S.all N t) (_:cnt t<=80) (_:n<=500000000000) (_:(∀x∈S.c,x∈S.u)) (_:r<=40) (_:∀(v':V) (t':Th) (n':Nat) H',IsTh H' v' t'->PfT S.all (N+N) t'->Th.sz t'<=19500->n'<=n+100000->Feed H' d l ns n'->But d H H'->Q v' H'):spBeside_ S M N vs H Q
def Zcn (S:SS)(M N:Nat):Sp:=fun vs H Q _=>spBeside_ S M N vs H Q
abbrev Zpb:List Str:=["_law_feed_here","_law_one","_law_names_here","_law_world_here","_law_way","_law_shift","_law_others","_law_found"]
theorem Zjf:(["_law_name_here","_law_many"]:List Str).Nodup:=by decide+kernel
theorem cD3:cD 3=1720:=by decide+kernel
section
variable {S:SS}{P:Program}{w:World}{K:PySem.W.Frag}{mg:Str->Option Value}{base:Heap}{x:ExpF}
theorem scBeside:FnScope Zpb ["_law_feed_here","_law_one","_law_names_here","_law_world_here"] (Z06 Z5n):=⟨rfl,rfl,rfl,by decide+kernel,rfl,by decide+kernel,by decide+kernel⟩
theorem Zgk {f fC fA:Addr}{fd dC dA:FuncData}{M N:Nat}(hM:M<=20)(hMN:M+3<=N)(hN8:8<=N)(hN:N<=40)(F:Fun K "_law_beside" "_law_beside" Z5n f fd)(Y:Exp K mg x)(hmax:mg "max"=none)(FC:Fn K mg "_law_changed" Z3n ["_law_feed_here","_law_e","_law_calls"] fC dC)(FA:Fn K mg "_law_all" Zk1 ["_law_e"] fA dA):
  FnOk P w K mg base CX0 (2*N+4) f fd ["_law_feed_here","_law_one","_law_names_here","_law_world_here"] (Zcn S M N):=by
 have G:=Y.G
 have GD:FnOk P w K mg base CX0 1 x.g.fD x.g.dD ["_law_feed_here","_law_many"] spDraw:=G.gD
 have GL:FnOk P w K mg base CX0 3 x.g.fL x.g.dL ["_law_feed_here","_law_world_here","_law_bound_here"] (Z5b S M):=G.gL
 have GN:FnOk P w K mg base CX0 (N+2) x.g.fN x.g.dN ["_law_e"] (Z6x S.all N):=G.gN N
 have GT:FnOk P w K mg base CX0 (N+2) x.g.fT x.g.dT ["_law_e","_law_names_here","_law_others"] (Z65 S.all N):=G.gT N
 have GX:FnOk P w K mg base CX0 (N+3) x.g.fX x.g.dX ["_law_e","_law_at","_law_leaf_here"] (Z4d S.all N 1):=G.gS N
 have GE:FnOk P w K mg base CX0 (2*3+M+4) x.fE x.dE ["_law_feed_here","_law_world_here","_law_bound_here","_law_below","_law_times"] (Z72 S M 3):=Y.gE (M:=M) 3
 have GC:FnOk P w K mg base CX0 (N+4) fC dC ["_law_feed_here","_law_e","_law_calls"] (Za9 S.all N):=Zdr FC.F G hmax FA
 have GR:FnOk P w K mg base CX0 (N+N+2) x.g.fR x.g.dR ["_law_e","_law_bound_here"] (Z8i S.all (N+N)):=G.gR (N+N)
 refine F.ok scBeside (fun vs H Q E h=>?_) (fun cdv A outer s H vs Q E hr h=>?_)
 ·obtain⟨d,l,wd,a,i,ns,n,r,z,v,t,rfl,_⟩:=h
  rfl
 ·obtain⟨d,l,wd,a,i,ns,n,r,z,v,t,rfl,X0,hv,pf,hc,hn,hcu,hr40,k⟩:=h
  have hsz:sizeLine=16777216:=sizeLine_eq
  have hu:(_:Around).units+1<cLine:=Nat.lt_of_le_of_lt (Nat.add_le_add_left (by decide) _) hr.units
  have hr1:Room 1 _:=hr.mono (by omega)
  have hr3:Room 3 _:=hr.mono (by omega)
  have hrN2:Room (N+2) _:=hr.mono (by omega)
  have hrN3:Room (N+3) _:=hr.mono (by omega)
  have hrN4:Room (N+4) _:=hr.mono (by omega)
  have hrE:Room (2*3+M+4) _:=hr.mono (by omega)
  have hrR:Room (N+N+2) _:=hr.mono (by omega)
  refine'⟨?tt,?body,?fin⟩
  case body=>
   refine' Z04 ?s1 ?r1
   case s1=>exact Z0c (i:=4) scBeside.nd rfl (Or.inl rfl) (Z05 GD hr1 (by rfl) G.U.mD G.U.D.kp G.U.bD .nil Z0f (Z0d (pv 0) (Z1d Z03 Z01)))
   case r1=>
    refine' Z04 ?s2 ?r2
    case s2=>exact Z0c (i:=5) scBeside.nd rfl (Or.inl rfl) (Z05 GD hr1 (by rfl) G.U.mD G.U.D.kp G.U.bD .nil Z0f (Z0d (pv 0) (Z2a (Z0n Z0o (by rfl) G.U.T.len PySem.boot_len (Z0d (pv 2) Z01)) Z01)))
    case r2=>
     refine' Z0m ?s3 ?r3
     case s3=>exact Z0c (i:=6) scBeside.nd rfl (Or.inl rfl) (Z0l Z24 (Z17 Z3m (pv 2) (Z1h (pv 5)) Z1m) (Z17 Z3m (pv 2) Z1m (Z1h (pv 5))))
     case r3=>
      refine' Z04 ?s4 ?r4
      case s4=>exact Z0y (Z0a Z1c (pv 4) Z03 (Z0k _)) (Z07 (Z0i (pv 1))) Z0h
      case r4=>
       refine' Z0m ?s5 ?r5
       case s5=>
        refine' Z0y (Z0a Z1c (pv 4) Z03 (Z0k _)) (Z07 ?b) Z0h
        case b=>exact Z0c (i:=6) scBeside.nd rfl (Or.inl rfl) (Z0l Z24 (Z0x (Z0b (Z0r Z0z (pv 6) Z03 (fun _ _=>rfl)) Z01)) (Z17 Z3m (pv 6) Z1m (Z1h (Ze1 Z8z Z03))))
       case r5=>
        refine' Z04 ?s6 ?r6
        case s6=>exact Z0c (i:=7) scBeside.nd rfl (Or.inl rfl) (Z05 GT hrN2 (by rfl) G.T.m G.T.F.kp G.T.b .nil Z0f (Z0d (pv 1) (Z0d (pv 2) (Z0d (pv 6) Z01))))
        case r6=>
         refine' Z0m ?s7 ?r7
         case s7=>
          refine' Z0y (Z0a Z1c (pv 4) Z03 (Z0k _)) (Z07 ?b) Z0h
          case b=>exact Z0c (i:=7) scBeside.nd rfl (Or.inl rfl) (Z05 GX hrN3 (by rfl) G.S.m G.S.F.kp G.S.b .nil Z0f (Z0d (pv 1) (Z2a (Z05 GD hr1 (by rfl) G.U.mD G.U.D.kp G.U.bD .nil Z0f (Z0d (pv 0) (Z2a (Z05 GN hrN2 (by rfl) G.N.m G.N.F.kp G.N.b .nil Z0f (Z0d (pv 1) Z01)) Z01))) (Z2a (Z05 GL hr3 (by rfl) G.L.m G.L.F.kp G.L.b .nil Z0f (Z0d (pv 0) (Z0d (pv 3) (Z0b (Z0x Z01) Z01)))) Z01))))
         case r7=>
          refine' Z0m ?s8 ?r8
          case s8=>
           refine' Z0y (Z0a Z1c (pv 4) Z03 (Z0k _)) (Z07 ?b) Z0h
           case b=>exact Z0c (i:=7) scBeside.nd rfl (Or.inl rfl) (Z05 GX hrN3 (by rfl) G.S.m G.S.F.kp G.S.b .nil Z0f (Z0d (pv 7) (Z2a (Z05 GD hr1 (by rfl) G.U.mD G.U.D.kp G.U.bD .nil Z0f (Z0d (pv 0) (Z2a (Z05 GN hrN2 (by rfl) G.N.m G.N.F.kp G.N.b .nil Z0f (Z0d (pv 1) Z01)) Z01))) (Z0b (Z1a (Z1d Z08 (Z0b (Z0r Z0z (pv 2) (pv 5) (fun _ _=>rfl)) Z01))) Z01))))
          case r8=>
           refine' Z0m ?s9 ?r9
           case s9=>
            refine' Z0y (Z0a Z1c (pv 4) Z03 (Z0k _)) (Z07 ?b) Z0h
            case b=>exact Z0c (i:=7) scBeside.nd rfl (Or.inl rfl) (Z05 GE hrE (by rfl) Y.E.m Y.E.F.kp Y.E.b .nil Z0f (Z0d (pv 0) (Z2a (Z16 Z44 (by rfl) Y.dict (by decide+kernel) (Z0d (pv 3) Z01)) (Z0b (Z0x Z01) (Z1d Z03 (Z1d Z03 Z01))))))
           case r9=>
            refine' Z0m ?s10 ?r10
            case s10=>
             refine' Z0y (Z0a Zgw (pv 4) Z03 (Z0k _)) (Z07 ?b) Z0h
             case b=>
              refine' Z0c (i:=7) scBeside.nd rfl (Or.inl rfl) (Z05 GC hrN4 (by rfl) FC.m FC.F.kp FC.b .nil Z0f (Z0d (pv 0) (Z0d (pv 7) (Z0b (Z0l Z24 ?cmp (pv 2)) Z01))))
              case cmp=>
               refine' Z1n (N':=["_law_name_here","_law_many"]) (src:=[none,none]) ?k1 ?k5 ?k6 ?k7
               case k1=>rfl
               case k5=>exact Z0j (Z06 Z5n) rfl Zpb rfl (by decide+kernel)
               case k6=>exact Z1w (Z0s hu (pv 3) Z08 (fun _ _=>rfl))
               case k7=>exact fun cl C ex s0 H0=>⟨Z4f (K:=K) (i:=0) (j:=1) rfl rfl Zjf rfl (Or.inl rfl) rfl (Or.inl rfl) (Or.inr rfl) (Or.inr rfl),Z1k,pv 0⟩
            case r10=>
             refine' Z04 ?s11 (Z07 ?s12)
             case s11=>exact Z0y (Z8x (Z68 (Z05 GR hrR (by rfl) G.R.m G.R.F.kp G.R.b .nil Z0f (Z0d (pv 7) (Z0b (Z0x Z01) Z01))))) (Z07 (Z0i (pv 1))) Z0h
             case s12=>exact Z0i (pv 7)
  case fin=>
   have n1:=X0.N.n1
   have n2:=X0.N.n2
   have hc0:=Z5y pf
   have hs0:=Z3v N pf
   have e3:=cD3
   have hl1:((i.T1.map V.str).length:Int)=(i.T1.length:Int):=by rw[length_map]
   refine⟨_,rfl,d,l,ns,n,_,rfl,X0.F,by omega,by decide,by decide,fun y m1 H1 y0 y1 hm1 F1 b1=>?_⟩
   have X1:=X0.go b1 F1
   refine⟨_,rfl,_,rfl,a.nm,_,rfl,.inl (SqL.of X1.N.nm),d,l,ns,m1,_,rfl,F1,by omega,by show(0:Int)<((i.T1.map V.str).length:Int);omega,by show((i.T1.map V.str).length:Int)<18446744073709551616;omega,fun sh m2 H2 sh0 sh1 hm2 F2 b2=>?_⟩
   have X2:=X1.go b2 F2
   have B2:But d H H2:=b1.trans b2
   clear X1 F1 F2 b1 b2
   have hm2':m2<=n+2:=by omega
   clear hm1 hm2
   let Oth:Hp->Addr->Prop:=fun H' oa=>∃T2:List Str,H' oa=some (.lst (T2.map V.str))/\T2.length=i.T1.length/\∀t∈T2,NmU S t
   refine⟨fun σ' H'=>∃oa,σ' = [some (.ref d),some v,some (.ref a.nm),some (.ref wd),some (.int y),some (.int sh),some (.ref oa),none]/\Oth H' oa/\Bs S M H' d l wd a i ns m2 r z/\But d H H',?_,?_⟩
   ·refine⟨_,rfl,_,rfl,sh,rfl,a.nm,_,rfl,SqL.of X2.N.nm,fun p1 hp1=>?_⟩
    rw[Z2b sh0 (by rw[length_map];omega)]
    have s1:=Z02 (o:=.lst ((i.T1.map V.str).drop sh.toNat)) hp1
    refine⟨_,rfl,_,rfl,sh,rfl,a.nm,_,rfl,SqL.of (X2.same s1).N.nm,fun p2 hp2=>?_⟩
    rw[Z9l sh0 (by rw[length_map];omega)]
    have s2:=Z02 (o:=.lst ((i.T1.map V.str).take sh.toNat)) hp2
    refine⟨p1,p2,_,_,rfl,rfl,s2 _ _ Z00,Z00,by rw[length_drop,length_take,length_map];omega,fun p3 hp3=>?_⟩
    have s3:=Z02 (o:=.lst ((i.T1.map V.str).drop sh.toNat++(i.T1.map V.str).take sh.toNat)) hp3
    have sA:=(s1.trans s2).trans s3
    refine⟨p3,rfl,⟨i.T1.drop sh.toNat++i.T1.take sh.toNat,?_,?_,?_⟩,X2.same sA,B2.trans (But.of sA)⟩
    ·rw[Z00,map_append,map_drop,map_take]
    ·rw[length_append,length_drop,length_take];omega
    ·intro t ht
     rcases mem_append.mp ht with q|q
     ·exact X2.N.an t (mem_of_mem_drop q)
     ·exact X2.N.an t (mem_of_mem_take q)
   clear X2 B2
   rintro σ3 H3 ⟨oa,rfl,O3,X3,B3⟩
   have one:∀H9 n9,n9<=n+90000->Feed H9 d l ns n9->But d H H9->Q v H9:=fun H9 n9 h9 F9 b9=>k v t n9 H9 (IsTh.kp (b9.kp X0.F) hv) (pf.le (by omega)) (by omega) (by omega) F9 b9
   refine⟨_,rfl,rfl,_,rfl,Z1b (fun g=>⟨_,rfl,one H3 m2 (by omega) X3.F B3⟩) (fun g0=>?_)⟩
   refine⟨fun σ' H'=>∃oa,σ' = [some (.ref d),some v,some (.ref a.nm),some (.ref wd),some (.int y),some (.int sh),some (.ref oa),none]/\Oth H' oa/\Bs S M H' d l wd a i ns m2 r z/\But d H H',?_,?_⟩
   ·refine⟨_,rfl,rfl,_,rfl,Z1b (fun g=>?_) (fun g=>⟨oa,rfl,O3,X3,B3⟩)⟩
    obtain⟨T2,hT,hTl,hTn⟩:=O3
    obtain⟨x0,hx0⟩:∃x,T2[0]? = some x:=⟨_,List.getElem?_eq_getElem (by omega)⟩
    refine⟨_,rfl,oa,_,0,.str x0,rfl,rfl,SqL.of hT,Z23 (j:=0) (by rw[List.getElem?_map,hx0];rfl),(by show 1<=sizeLine;decide),fun p1 hp1=>?_⟩
    have s1:=Z02 (o:=.lst [.str x0]) hp1
    refine⟨_,rfl,_,rfl,_,rfl,oa,_,rfl,SqL.of (s1 _ _ hT),fun p2 hp2=>?_⟩
    have s2:=Z02 (o:=.lst (Z5v (T2.map V.str) none (some (-1)))) hp2
    refine⟨p1,p2,_,_,rfl,rfl,s2 _ _ Z00,Z00,by rw[Zcm,length_take,length_map,length_singleton];omega,fun p3 hp3=>?_⟩
    have s3:=Z02 (o:=.lst ([.str x0]++Z5v (T2.map V.str) none (some (-1)))) hp3
    have sA:=(s1.trans s2).trans s3
    refine⟨p3,rfl,⟨x0::T2.take (T2.length-1),?_,?_,?_⟩,X3.same sA,B3.trans (But.of sA)⟩
    ·rw[Z00,Zcm,length_map,map_cons,map_take];rfl
    ·rw[length_cons,length_take];omega
    ·intro t ht
     rcases mem_cons.mp ht with q|q
     ·rw[q];exact hTn _ (mem_of_getElem? hx0)
     ·exact hTn t (mem_of_mem_take q)
   clear O3 X3 B3
   rintro σ4 H4 ⟨oa,rfl,⟨T2,hT,hTl,hTn⟩,X4,B4⟩
   have hv4:=IsTh.kp (B4.kp X0.F) hv
   refine⟨_,rfl,_,rfl,_,rfl,v,a.nm,oa,t,i.T1,T2,rfl,hv4,pf,X4.N.nm,hT,hTl.symm,by omega,hTn,fun v5 t5 H5 s5 hv5 pf5 c5=>?_⟩
   have X5:=X4.same s5
   have B5:But d H H5:=B4.trans (But.of s5)
   clear X4 B4 hv4 hT hTn s5
   have hs5:=Z3v N pf5
   let Fnd:(Int->Prop)->Nat->St->Hp->Prop:=fun sm c σ' H'=>∃v6 t6 n6,σ' = [some (.ref d),some v,some (.ref a.nm),some (.ref wd),some (.int y),some (.int sh),some (.ref oa),some v6]/\n6<=n+c/\IsTh H' v6 t6/\PfT S.all (N+N) t6/\Th.sz t6<=19500/\(sm y->PfT S.all N t6/\cnt t6=cnt t)/\Bs S M H' d l wd a i ns n6 r z/\But d H H'
   refine⟨Fnd (fun y=>y≠2) 10,?_,?_⟩
   ·refine⟨_,rfl,rfl,_,rfl,Z1b (fun g=>?_) (fun g=>⟨v5,t5,m2,rfl,by omega,hv5,pf5.le (by omega),by omega,fun _=>⟨pf5,c5⟩,X5,B5⟩)⟩
    have gy:y=2:=by have g':=of_decide_eq_true g;injection g'
    have hv5':=IsTh.kp (B5.kp X0.F) hv
    refine⟨_,rfl,_,rfl,_,rfl,v,t,rfl,hv5',pf,fun H6 s6=>?_⟩
    have X6:=X5.same s6
    refine⟨d,l,ns,m2,_,rfl,X6.F,by omega,by omega,by omega,fun q2 m7 H7 _ _ hm7 F7 b7=>?_⟩
    have X7:=X6.go b7 F7
    refine⟨_,rfl,_,rfl,Nat.zero_le _,fun bd hbd=>?_⟩
    have s8:=Z02 (o:=.lst []) hbd
    have X8:=X7.same s8
    refine⟨d,l,wd,a,i,bd,[],ns,m7,r,z,rfl,by omega,X8.ctx Z00,fun vl tl m9 H9 hvl hL hm9 C9=>?_⟩
    have b9:=Zl8 X8.W C9
    have X9:=X8.go b9 C9.F
    have B9:But d H H9:=(((B5.trans (But.of s6)).trans b7).trans (But.of s8)).trans b9
    refine⟨v,vl,q2,t,tl,rfl,IsTh.kp (B9.kp X0.F) hv,pf,hvl,Zgj hcu hL.1,fun v10 t10 H10 s10 hv10 pf10 z10=>?_⟩
    refine⟨v10,t10,m9,rfl,by omega,hv10,pf10.le (by omega),?_,fun g9=>absurd gy g9,X9.same s10,B9.trans (But.of s10)⟩
    have a2:=Z3v 1 hL.1
    have a3:cnt t*Th.sz tl<=80*3:=Nat.mul_le_mul hc (by have:=hL.2;omega)
    unfold bdS at z10
    omega
   clear X5 B5 hv5 hs5
   rintro σ6 H6 ⟨v6,t6,m6,rfl,hm6,hv6,pf6,hz6,sm6,X6,B6⟩
   refine⟨Fnd (fun y=>y≠2/\y≠3) 20,?_,?_⟩
   ·refine⟨_,rfl,rfl,_,rfl,Z1b (fun g=>?_) (fun g=>⟨v6,t6,m6,rfl,by omega,hv6,pf6,hz6,fun q=>sm6 q.1,X6,B6⟩)⟩
    have gy:y=3:=by have g':=of_decide_eq_true g;injection g'
    obtain⟨pg,cg⟩:=sm6 (by omega)
    refine⟨_,rfl,_,rfl,_,rfl,v,t,rfl,IsTh.kp (B6.kp X0.F) hv,pf,fun H7 s7=>?_⟩
    have X7:=X6.same s7
    refine⟨d,l,ns,m6,_,rfl,X7.F,by omega,by omega,by omega,fun q2 m8 H8 _ _ hm8 F8 b8=>?_⟩
    have X8:=X7.go b8 F8
    obtain⟨vn,hvn,hvat⟩:=Z34 (xs:=i.T1.map V.str) (i:=sh) sh0 sh1
    obtain⟨nm,hnm,rfl⟩:=mem_map.mp hvn
    have nu:=X8.N.an nm hnm
    refine⟨_,rfl,_,rfl,a.nm,_,sh,.str nm,rfl,rfl,SqL.of X8.N.nm,hvat,(by show 2<=sizeLine;decide),fun p9 hp9=>?_⟩
    have s9:=Z02 (o:=.tup [.str "name",.str nm]) hp9
    have X9:=X8.same s9
    have hL:=Zka (S:=S.all) (x:=nm) nu
    have hv9:=IsTh.kp (Kp.of s9) (IsTh.kp (b8.kp X7.F) (IsTh.kp (Kp.of s7) hv6))
    refine⟨v6,.ref p9,q2,t6,nd "name" [.str nm] [],rfl,hv9,pg,.tup Z00 (.cons (.at (by decide+kernel)) (.cons (.at (Z3o nu)) .nil)),hL.1,fun v10 t10 H10 s10 hv10 pf10 z10=>?_⟩
    refine⟨v10,t10,m8,rfl,by omega,hv10,pf10.le (by omega),?_,fun g9=>absurd gy g9.2,X9.same s10,(((B6.trans (But.of s7)).trans b8).trans (But.of s9)).trans (But.of s10)⟩
    have a1:=Z3v N pg
    have a2:=Z3v 1 hL.1
    have a3:cnt t6*Th.sz (nd "name" [.str nm] [])<=80*3:=Nat.mul_le_mul (by omega) (by have:=hL.2;omega)
    unfold bdS at z10
    omega
   clear X6 B6 hv6 pf6 hz6 sm6 hm6
   rintro σ7 H7 ⟨v7,t7,m7,rfl,hm7,hv7,pf7,hz7,sm7,X7,B7⟩
   refine⟨Fnd (fun y=>y≠2/\y≠3/\y≠4) 2000,?_,?_⟩
   ·refine⟨_,rfl,rfl,_,rfl,Z1b (fun g=>?_) (fun g=>⟨v7,t7,m7,rfl,by omega,hv7,pf7,hz7,fun q=>sm7 ⟨q.1,q.2.1⟩,X7,B7⟩)⟩
    have gy:y=4:=by have g':=of_decide_eq_true g;injection g'
    refine⟨_,rfl,_,rfl,wd,_,rfl,X7.W,fun w8 hw8=>⟨Nat.zero_le _,fun bd hbd=>?_⟩⟩
    have s8:=Z02 (o:=.dK (Z0g a r z)) hw8
    have s9:=Z02 (o:=.lst []) hbd
    have W9:=s9 _ _ (Z00 (a:=w8) (o:=.dK (Z0g a r z)) (H:=H7))
    have D9:upd (upd H7 w8 (.dK (Z0g a r z))) bd (.lst []) bd=some (.lst []):=Z00
    have s89:=s8.trans s9
    have hno:∀{b:Addr} {o:HO},H7 b=some o->b≠w8:=fun {b o} e q=>by rw[q,hw8] at e;cases e
    generalize upd (upd H7 w8 (.dK (Z0g a r z))) bd (.lst [])=H9 at s89 W9 D9 ⊢
    have X9:=X7.same s89
    have N9:Wf S M H9 d w8 a i:=⟨X9.N.nm,X9.N.lt,X9.N.fn,X9.N.fe,X9.N.wo,X9.N.wk,X9.N.o1,hno X7.N.wo,X9.N.sd,X9.N.ss,X9.N.sp,X9.N.n1,X9.N.n2,X9.N.l2,X9.N.f2,X9.N.s2,X9.N.an,X9.N.bn⟩
    have C9:Ctx S M H9 H9 d l w8 a i bd [] ns m7 r z:=⟨X9.F,W9,N9,D9,Nat.zero_le _,(fun t ht=>by cases ht),But2.refl _ _ _⟩
    refine⟨d,l,w8,a,i,bd,[],ns,m7,r,z,3,1,rfl,by decide,by decide,by decide,hM,by decide,?_,by omega,by decide,C9,fun v10 t10 m10 r10 z10 H10 hv10 p10 c10 c11 c12 hm10 C10=>?_⟩
    ·have:=Z9s 3
     omega
    have B10:But d H7 H10:=fun c o e hcd=>C10.b2 c o (s89 _ _ e) hcd (hno e)
    have a2:=Z3v _ p10
    have hcb:cnt t10<=60:=by
     by_cases h6:r<=6
     ·have:=c11 h6
      omega
     ·have:=c12 (by omega)
      omega
    exact⟨v10,t10,m10,rfl,by omega,hv10,(Zgj hcu p10).le (by omega),by omega,fun g9=>absurd gy g9.2.2,X7.go B10 C10.F,B7.trans B10⟩
   clear X7 B7 hv7 pf7 hz7 sm7 hm7
   rintro σ8 H8 ⟨v8,t8,m8,rfl,hm8,hv8,pf8,hz8,sm8,X8,B8⟩
   refine⟨fun σ' H'=>∃v6 t6 n6,σ' = [some (.ref d),some v,some (.ref a.nm),some (.ref wd),some (.int y),some (.int sh),some (.ref oa),some v6]/\n6<=n+60000/\IsTh H' v6 t6/\PfT S.all (N+N) t6/\Th.sz t6<=19500/\Feed H' d l ns n6/\But d H H',?_,?_⟩
   ·refine⟨_,rfl,_,_,rfl,rfl,_,rfl,Z1b (fun g=>?_) (fun g=>⟨v8,t8,m8,rfl,by omega,hv8,pf8,hz8,X8.F,B8⟩)⟩
    have gy:y>5:=of_decide_eq_true g
    obtain⟨pg,cg⟩:=sm8 (by omega)
    have f2:=X8.N.f2
    refine⟨_,rfl,_,rfl,_,rfl,wd,.ref a.fn,rfl,Z2i X8.W,a.fn,rfl,⟨_,SqL.of X8.N.fn⟩,Z1i (K:=K) (a:=a.fn) (xs:=i.fv) (fun j ys σc H'=>∃(o o':Option V) (fs:List Str),σc = [o,o']/\H'=H8/\ys=fs.map V.str/\fs.length=j/\∀t∈fs,NmU S t)
     ⟨none,none,[],rfl,rfl,rfl,rfl,(fun t ht=>by cases ht)⟩ (fun i ys σc H' ⟨_,_,_,_,e,_⟩=>by rw[e];exact SqL.of X8.N.fn) ?_ ?_⟩
    ·rintro j vx ys σc H' hx hj ⟨o,o',fs,rfl,rfl,rfl,hfl,hfa⟩
     obtain⟨c,nx',m,rfl,hcx,_,nu,_,_⟩:=X8.N.fe vx (mem_of_getElem? hx)
     refine⟨by rw[length_map];omega,c,_,rfl,SqT.of hcx,rfl,_,_,rfl,_,_,rfl,rfl,_,rfl,nx hj ⟨_,_,fs ++ [nx'],rfl,rfl,by rw[map_append];rfl,by rw[length_append,hfl];rfl,fun u hu=>?_⟩⟩
     rcases mem_append.mp hu with q|q
     ·exact hfa u q
     ·rw[mem_singleton] at q;rw[q];exact nu
    ·rintro ys σc H' ⟨o,o',fs,rfl,rfl,rfl,hfl,hfa⟩ q hq
     have sq:=Z02 (o:=.lst (fs.map V.str)) hq
     have X9:=X8.same sq
     refine⟨_,rfl,q,a.nm,_,_,rfl,rfl,Z00,X9.N.nm,by rw[length_map,length_map];omega,fun q2 hq2=>?_⟩
     have s2:=Z02 (o:=.lst (fs.map V.str++i.T1.map V.str)) hq2
     have X10:=X9.same s2
     have sA:=sq.trans s2
     refine⟨d,l,q2,v8,t8,ns,m8,fs++i.T1,rfl,X10.F,by omega,IsTh.kp (Kp.of sA) hv8,pg,by omega,by rw[Z00,map_append],by rw[length_append];omega,by rw[length_append];omega,fun u hu=>?_,fun v11 t11 m11 H11 hv11 p11 z11 hm11 F11 b11=>?_⟩
     ·have nu:NmU S u:=by
       rcases mem_append.mp hu with q|q
       ·exact hfa u q
       ·exact X8.N.an u q
      exact⟨nu.2,nu⟩
     ·refine⟨v11,t11,m11,rfl,by omega,hv11,p11,?_,F11,(B8.trans (But.of sA)).trans b11⟩
      have a3:cnt t8*(3*cnt t8)<=80*240:=Nat.mul_le_mul (by omega) (by omega)
      omega
   clear X8 B8 hv8 pf8 hz8 sm8 hm8
   rintro σ9 H9 ⟨v9,t9,m9,rfl,hm9,hv9,pf9,hz9,F9,B9⟩
   refine⟨_,rfl,Nat.zero_le _,fun bd hbd=>?_⟩
   have s10:=Z02 (o:=.lst []) hbd
   refine⟨v9,bd,t9,[],rfl,IsTh.kp (Kp.of s10) hv9,pf9,Z00,by rw[length_nil];omega,fun b H11 s11=>?_⟩
   have sA:=s10.trans s11
   cases b with
   |false=>exact⟨_,rfl,Z9f ⟨_,rfl,one H11 m9 (by omega) (F9.same sA) (B9.trans (But.of sA))⟩⟩
   |true=>exact⟨_,rfl,Zab ⟨_,rfl,k v9 t9 m9 H11 (IsTh.kp (Kp.of sA) hv9) pf9 hz9 (by omega) (F9.same sA) (B9.trans (But.of sA))⟩⟩
end
end K13
namespace L2
open PySem PySem.Spec PyProof.Rows
theorem Zij {X:Cx}{K:PySem.W.Frag}(h:X.K=K):SlR X (rSlL K):=by subst h;exact Z3m
theorem Z7h {X:Cx}{K:PySem.W.Frag}(h:X.K=K):Z3l X (.type "tuple") (fun xs H Q=>∃p ys,xs = [.ref p]/\((SqL K H p ys/\∀l,H l=none->Q (.ref l) (upd H l (.tup ys)))∨(SqT K H p ys/\Q (.ref p) H))):=by subst h;exact Z14
theorem Z4z:bootBuiltins "tuple"=some (.type "tuple"):=by decide+kernel
theorem Zik {X:Cx}{K:PySem.W.Frag}(h:X.K=K){tg l:Expr}{tl:TE}(hl:PE X l tl):PI X tg l (Zls K tl):=by subst h;exact Z1w hl
end L2
namespace K13
open PySem L2
abbrev nmT (x:Str):Th:=nd "name" [.str x] []
abbrev chk (T:List Str)(i:Nat):List Str:=(T.drop (i*6)).take 6
def Zjg (l:List Str):Th:=nd "do" [] (l.map nmT)
def Z7i (T:List Str):Th:=nd "do" [] ((List.range ((T.length+5) / 6)).map fun i=>Zjg (chk T i))
theorem Zgl {T:List Str}{i:Nat}(h:i<(T.length+5) / 6):1<=(chk T i).length/\(chk T i).length<=6:=by
 rw[length_take,length_drop]
 omega
theorem Znh {S:SS}{l:List Str}(h1:1<=l.length)(h6:l.length<=6)(h:∀x∈l,NmU S x):PfT S 2 (Zjg l)/\cnt (Zjg l)<=7:=by
 have hO:=Zc2 (S:=S) (n:=(l.map nmT).length) (by rw[length_map];exact h1) (by rw[length_map];exact h6)
 have hk:∀k∈l.map nmT,PfT S 1 k/\cnt k=1:=fun k hk=>by
  obtain⟨x,hx,rfl⟩:=mem_map.mp hk
  exact Zka (h x hx)
 refine⟨Z3p hO.l hO.p hO.n hO.e (by rw[length_map];exact h6) fun k q=>(hk k q).1,?_⟩
 unfold Zjg
 rw[Z1l fun k q=>(hk k q).1.isTup]
 have:=Zaq (m:=1) (ks:=l.map nmT) fun k q=>Nat.le_of_eq (hk k q).2
 rw[length_map] at this
 omega
theorem Zgm {S:SS}{T:List Str}(h1:1<=T.length)(h36:T.length<=36)(h:∀x∈T,NmU S x):PfT S 3 (Z7i T)/\cnt (Z7i T)<=60:=by
 have hO:=Zc2 (S:=S) (n:=((List.range ((T.length+5) / 6)).map fun i=>Zjg (chk T i)).length) (by rw[length_map,length_range];omega) (by rw[length_map,length_range];omega)
 have hk:∀k∈(List.range ((T.length+5) / 6)).map fun i=>Zjg (chk T i),PfT S 2 k/\cnt k<=7:=fun k hk=>by
  obtain⟨i,hi,rfl⟩:=mem_map.mp hk
  obtain⟨a,b⟩:=Zgl (mem_range.mp hi)
  exact Znh a b fun x hx=>h x (mem_of_mem_drop (mem_of_mem_take hx))
 refine⟨Z3p hO.l hO.p hO.n hO.e (by rw[length_map,length_range];omega) fun k q=>(hk k q).1,?_⟩
 unfold Z7i
 rw[Z1l fun k q=>(hk k q).1.isTup]
 have:=Zaq (m:=7) (ks:=(List.range ((T.length+5) / 6)).map fun i=>Zjg (chk T i)) fun k q=>(hk k q).2
 rw[length_map,length_range] at this
 omega
theorem Zl9 (xs:List V)(i:Nat):Z5v xs (some ((i:Nat)*6:Int)) (some ((i:Nat)*6+6:Int))=(xs.drop (i*6)).take 6:=by
 have e1:∀(n d:Nat) (z:Int),0<=z->HT.sIx n d (some z)=min z.toNat n:=fun n d z hz=>by
  unfold HT.sIx
  exact if_neg (by omega)
 unfold Z5v
 rw[e1 _ _ _ (by omega),e1 _ _ _ (by omega)]
 by_cases h:i*6<=xs.length
 ·rw[show min ((i:Nat)*6:Int).toNat xs.length=i*6 by omega]
  refine List.take_eq_take_iff.mpr ?_
  rw[length_drop]
  omega
 ·rw[show min ((i:Nat)*6:Int).toNat xs.length=xs.length by omega,List.drop_of_length_le (Nat.le_refl _),List.drop_of_length_le (by omega),List.take_nil,List.take_nil]
theorem Zov:(["_law_k","_law_names_here"]:List Str).Nodup:=by decide+kernel
theorem Zni:(["_law_row"]:List Str).Nodup:=by decide+kernel
theorem Znj:(["_law_name_here"]:List Str).Nodup:=by decide+kernel
abbrev Zow:Scope:=⟨.function,[(".0",.local),("_law_row",.local),("tuple",.globalImplicit)],false,false,[]⟩
inductive spWide_ (vs:List V)(H:Hp)(Q:VK):Prop
 |mk (nm:Addr) (T:List Str) (_:vs = [.ref nm]) (_:H nm=some (.lst (T.map V.str))) (_:1<=T.length) (_:T.length<=36) (_:(∀x∈T,Nm x)) (_:∀(v:V) H',Same H H'->IsTh H' v (Z7i T)->Q v H'):spWide_ vs H Q
def spWide:Sp:=fun vs H Q _=>spWide_ vs H Q
section
variable {P:Program}{w:World}{K:PySem.W.Frag}{mg:Str->Option Value}{base:Heap}
theorem scWide:FnScope ["_law_names_here","_law_rows"] ["_law_names_here"] (Z06 Zan):=⟨rfl,rfl,rfl,by decide+kernel,rfl,by decide+kernel,by decide+kernel⟩
theorem Zla {f:Addr}{fd:FuncData}(F:Fun K "_law_wide" "_law_wide" Zan f fd)(T:TxtT mg)(hrange:mg "range"=none):FnOk P w K mg base CX0 1 f fd ["_law_names_here"] spWide:=by
 refine F.ok scWide (fun vs H Q E h=>?_) (fun cdv A outer s H vs Q E hr h=>?_)
 ·obtain⟨nm,T,rfl,_⟩:=h
  rfl
 ·obtain⟨nm,ts,rfl,hnm,h1,h36,hnn,k⟩:=h
  have hsz:sizeLine=16777216:=sizeLine_eq
  refine'⟨?tt,?body,?fin⟩
  case body=>
   refine' Z0m ?s1 (Z07 ?s2)
   case s1=>
    refine' Z2v (i:=1) (N':=["_law_k","_law_names_here"]) (src:=[none,some 0]) ?k1 ?k2 ?k3 ?k4 ?k5 ?k6 ?k7
    case k1=>rfl
    case k2=>exact scWide.nd
    case k3=>rfl
    case k4=>exact Or.inl rfl
    case k5=>exact Z0j (Z06 Zan) rfl ["_law_names_here","_law_rows"] rfl (by decide+kernel)
    case k6=>exact Zg4 (by rfl) hrange (Z1d Z03 (Z2a (Z0n Z0o (by rfl) T.len PySem.boot_len (Z0d (pv 0) Z01)) (Z1d Z03 Z01)))
    case k7=>exact fun cl C ex s0 H0=>⟨Z0t (i:=0) Zov rfl (Or.inl rfl),Z1k,Z17 (Zij (K:=K) rfl) (pv 1) (Z1h (pv 0)) (Z1h (Z0l Z1q (pv 0) Z03))⟩
   case s2=>
    refine' Z0i (Z16 Z14 (by rfl) T.tup Z4z (Z0b (Z0l Z24 (Z0x (Z1d Z08 Z01)) ?x) Z01))
    case x=>
     refine' Z1n (N':=["_law_row"]) (src:=[none]) ?k1 ?k5 ?k6 ?k7
     case k1=>rfl
     case k5=>exact Z0j (Z06 Zan) rfl ["_law_names_here","_law_rows"] rfl (by decide+kernel)
     case k6=>exact Z1w (pv 1)
     case k7=>
      intro cl C ex s0 H0
      refine'⟨?g1,?g2,?g3⟩
      case g1=>exact Z0t (i:=0) Zni rfl (Or.inl rfl)
      case g2=>exact Z1k
      case g3=>
       refine' Z16 (Z7h (K:=K) rfl) (by rfl) T.tup Z4z (Z0b (Z0l Z24 (Z0x (Z1d Z08 Z01)) ?c) Z01)
       case c=>
        refine' Z1n (N':=["_law_name_here"]) (src:=[none]) ?j1 ?j5 ?j6 ?j7
        case j1=>rfl
        case j5=>exact Z0j Zow rfl ["_law_row"] rfl (by decide+kernel)
        case j6=>exact Zik (K:=K) rfl (pv 0)
        case j7=>exact fun cl C ex s0 H0=>⟨Z0t (i:=0) Znj rfl (Or.inl rfl),Z1k,Z1a (Z1d Z08 (Z0d (pv 0) Z01))⟩
  case fin=>
   have hm:=hnn
   have hsm:∀x∈ts,smallV (.str x)=true:=fun x hx=>decide_eq_true (Nat.le_trans (hnn x hx).1.2 (by decide))
   refine⟨fun σ' H'=>∃(ra:Addr) (rs:List Addr),σ' = [some (.ref nm),some (.ref ra)]/\Same H H'/\H' ra=some (.lst (rs.map V.ref))/\rs.length=(ts.length+5) / 6/\∀j p,rs[j]? = some p->H' p=some (.lst ((chk ts j).map V.str)),?_,?_⟩
   ·refine⟨_,rfl,nm,_,rfl,.inl (SqL.of hnm),ts.length,by rw[length_map],by omega,Zb3 (n:=(ts.length+5) / 6) (fun j ys σc H'=>∃(o:Option V) (rs:List Addr),σc = [o,some (.ref nm)]/\Same H H'/\ys=rs.map V.ref/\rs.length=j/\∀j p,rs[j]? = some p->H' p=some (.lst ((chk ts j).map V.str)))
     ⟨none,[],rfl,Same.refl _,rfl,rfl,fun j p h=>by simp at h⟩ ?_ ?_⟩
    ·rintro j ys σc H' hj ⟨o,rs,rfl,s',rfl,hl,ha⟩
     refine⟨by rw[length_map];omega,_,rfl,_,rfl,_,rfl,_,rfl,_,_,rfl,rfl,_,rfl,nm,_,rfl,SqL.of (s' _ _ hnm),fun p hp=>?_⟩
     have sp:=Z02 (o:=.lst (Z5v (ts.map V.str) (some ((j:Nat)*6:Int)) (some ((j:Nat)*6+6:Int)))) hp
     refine nx hj ⟨_,rs ++ [p],rfl,s'.trans sp,by rw[map_append];rfl,by rw[length_append,hl];rfl,fun i q hq=>?_⟩
     by_cases hi:i<rs.length
     ·rw[List.getElem?_append_left hi] at hq
      exact sp _ _ (ha i q hq)
     ·rw[List.getElem?_append_right (by omega)] at hq
      have hi0:i-rs.length=0:=by
       cases e:i-rs.length with
       |zero=>rfl
       |succ m=>rw[e] at hq;simp at hq
      rw[hi0] at hq
      have:p=q:=by simpa using hq
      subst this
      have:i=j:=by omega
      subst this
      rw[Z00,Zl9]
      simp
    ·rintro ys σc H' ⟨o,rs,rfl,s',rfl,hl,ha⟩ ra hra
     have sr:=Z02 (o:=.lst (rs.map V.ref)) hra
     exact⟨ra,rs,rfl,s'.trans sr,Z00,hl,fun j p hp=>sr _ _ (ha j p hp)⟩
   rintro σ1 H1 ⟨ra,rs,rfl,s1,hra,hrl,hrs⟩
   refine⟨(by show 1<=sizeLine;decide),fun q2 hq2=>?_⟩
   have s2:=Z02 (o:=.lst [.str "do"]) hq2
   have e2:upd H1 q2 (.lst [.str "do"]) q2=some (.lst [.str "do"]):=Z00
   generalize upd H1 q2 (.lst [.str "do"])=H2 at s2 e2 ⊢
   refine⟨_,rfl,ra,rfl,⟨_,SqL.of (s2 _ _ hra)⟩,Z1i (K:=K) (a:=ra) (xs:=rs.map V.ref) (fun j ys σc H'=>∃(o:Option V),σc = [o]/\Same H2 H'/\ys.length=j/\IsThs H' ys ((List.range j).map fun i=>Zjg (chk ts i)))
    ⟨none,rfl,Same.refl _,rfl,.nil⟩ (fun i ys σc H' ⟨_,_,e,_⟩=>SqL.of (e _ _ (s2 _ _ hra))) ?_ ?_⟩
   ·rintro j x ys σc H3 hx hj ⟨o,rfl,s3,hyl,hys⟩
    rw[length_map] at hj
    rw[List.getElem?_map] at hx
    obtain⟨p,hp,rfl⟩:=Option.map_eq_some_iff.mp hx
    have hp3:=s3 _ _ (s2 _ _ (hrs j p hp))
    obtain⟨c1,c6⟩:=Zgl (T:=ts) (i:=j) (by omega)
    refine⟨by omega,(by show 1<=sizeLine;decide),fun q4 hq4=>?_⟩
    have s4:=Z02 (o:=.lst [.str "do"]) hq4
    have e4:upd H3 q4 (.lst [.str "do"]) q4=some (.lst [.str "do"]):=Z00
    generalize upd H3 q4 (.lst [.str "do"])=H4 at s4 e4 ⊢
    refine⟨_,rfl,p,rfl,⟨_,SqL.of (s4 _ _ hp3)⟩,Z1i (K:=K) (a:=p) (xs:=(chk ts j).map V.str) (fun i us σd H'=>∃(o:Option V),σd = [o]/\Same H4 H'/\us.length=i/\IsThs H' us (((chk ts j).take i).map nmT))
     ⟨none,rfl,Same.refl _,rfl,.nil⟩ (fun i ys σc H' ⟨_,_,e,_⟩=>SqL.of (e _ _ (s4 _ _ hp3))) ?_ ?_⟩
    ·rintro i y us σd H5 hy hi ⟨o5,rfl,s5,hul,hus⟩
     rw[length_map] at hi
     rw[List.getElem?_map] at hy
     obtain⟨x,hx',rfl⟩:=Option.map_eq_some_iff.mp hy
     have hxt:x∈ts:=mem_of_mem_drop (mem_of_mem_take (mem_of_getElem? hx'))
     refine⟨by omega,_,rfl,(by show 2<=sizeLine;decide),fun p6 hp6=>nx (by rw[length_map];exact hi) ⟨_,rfl,s5.trans (Z02 hp6),by rw[length_append,hul];rfl,?_⟩⟩
     rw[take_add_one,hx',map_append]
     exact IsThs.app _ (IsThs.kp (Kp.of (Z02 hp6)) hus) (.cons (.tup Z00 (.cons (.at (by decide+kernel)) (.cons (.at (hsm x hxt)) .nil))) .nil)
    ·rintro us σd H5 ⟨o5,rfl,s5,hul,hus⟩ l5 hl5
     rw[length_map] at hul
     rw[length_map,take_of_length_le (Nat.le_refl _)] at hus
     have s6:=Z02 (o:=.lst us) hl5
     refine⟨q4,l5,_,_,rfl,rfl,s6 _ _ (s5 _ _ e4),Z00,(by show 1+us.length<=_;omega),fun q7 hq7=>?_⟩
     have s7:=Z02 (o:=.lst ([.str "do"]++us)) hq7
     refine⟨q7,_,rfl,.inl ⟨SqL.of Z00,fun q8 hq8=>?_⟩⟩
     have s8:=Z02 (o:=.tup ([.str "do"]++us)) hq8
     have sA:=s6.trans (s7.trans s8)
     refine nx (by rw[length_map];exact hj) ⟨_,rfl,(s3.trans s4).trans (s5.trans sA),by rw[length_append,hyl];rfl,?_⟩
     rw[List.range_succ,map_append]
     exact IsThs.app _ (IsThs.kp (Kp.of (s4.trans (s5.trans sA))) hys) (.cons (.tup Z00 (.cons (.at (by decide+kernel)) (IsThs.kp (Kp.of sA) hus))) .nil)
   ·rintro ys σc H3 ⟨o,rfl,s3,hyl,hys⟩ l3 hl3
    rw[length_map,hrl] at hys hyl
    have s4:=Z02 (o:=.lst ys) hl3
    refine⟨q2,l3,_,_,rfl,rfl,s4 _ _ (s3 _ _ e2),Z00,(by show 1+ys.length<=_;omega),fun q5 hq5=>?_⟩
    have s5:=Z02 (o:=.lst ([.str "do"]++ys)) hq5
    refine⟨q5,_,rfl,.inl ⟨SqL.of Z00,fun q6 hq6=>?_⟩⟩
    have s6:=Z02 (o:=.tup ([.str "do"]++ys)) hq6
    have sA:=s4.trans (s5.trans s6)
    exact k (.ref q6) _ ((s1.trans s2).trans (s3.trans sA)) (.tup Z00 (.cons (.at (by decide+kernel)) (IsThs.kp (Kp.of sA) hys)))
end
def CallsAt (H:Hp)(ys:List V)(ts:List Str):Prop:=ys.length=ts.length/\∀(j:Nat) (y:V),ys[j]? = some y->∃(c:Addr) (x:Str) (m:Int),y = .ref c/\ts[j]? = some x/\H c=some (.tup [.str x,.int m])/\0<=m/\m<=6
theorem CallsAt.kp {H H':Hp}{ys:List V}{ts:List Str}(k:Kp H H')(h:CallsAt H ys ts):CallsAt H' ys ts:=
 ⟨h.1,fun j y hy=>let ⟨c,x,m,h1,h2,h3,h4⟩:=h.2 j y hy;⟨c,x,m,h1,h2,k _ _ h3 (fun _ z=>by cases z),h4⟩⟩
theorem Zco {α : Type}{l:List α}{x y : α}{j:Nat}(h:(l ++ [x])[j]? = some y):l[j]? = some y∨(j=l.length/\y=x):=by
 by_cases hj:j<l.length
 ·rw[List.getElem?_append_left hj] at h
  exact .inl h
 ·rw[List.getElem?_append_right (by omega)] at h
  have h0:j-l.length=0:=by
   cases q:j-l.length with
   |zero=>rfl
   |succ m=>rw[q] at h;simp at h
  rw[h0] at h
  exact .inr ⟨by omega,by simpa using h.symm⟩
theorem Zds:∀(ts:List Str) (kvs:List (Key×V)) (x:Str),(x∈ts∨Z2h kvs (Sum.inr x)=some (.int 1))->Z2h (Z78 kvs (ts.map fun t=>(t,V.int 1))) (Sum.inr x)=some (.int 1):=by
 intro ts
 induction ts with
 |nil=>
  intro kvs x h
  rcases h with h|h
  ·cases h
  ·exact h
 |cons t ts ih=>
  intro kvs x h
  rw[map_cons,Z78]
  refine ih _ x ?_
  by_cases e:x=t
  ·refine .inr ?_
   rw[e,Z2q,if_pos rfl]
  ·rcases h with h|h
   ·rcases mem_cons.mp h with q|q
    ·exact absurd q e
    ·exact .inl q
   ·refine .inr ?_
    rw[Z2q,if_neg (by intro q;injection q with q;exact e q)]
    exact h
def Ans (t1 t2 u:Th):Prop:=(shp t1=shp t2/\u=Zgc (dd (frT t1 [])) (dd (frT t2 [])))∨(shp t1≠shp t2/\u = .at .non)
theorem Ans.one {t1 t2 u u':Th}(h:Ans t1 t2 u)(h':Ans t1 t2 u'):u=u':=by
 rcases h with ⟨a,b⟩|⟨a,b⟩ <;> rcases h' with ⟨c,e⟩|⟨c,e⟩
 ·rw[b,e]
 ·exact absurd a c
 ·exact absurd c a
 ·rw[b,e]
theorem Zil {P:Str->Prop}(hP:∀x,P x->lfV (.str x)=true):∀l:List (Str×Str),(∀p∈l,P p.1/\P p.2)->lfs (l.map pr2)=true/\szs (l.map pr2)=3*l.length/\dps (l.map pr2)<=1:=by
 intro l
 induction l with
 |nil=>intro _;exact⟨rfl,rfl,Nat.zero_le _⟩
 |cons p l ih=>
  intro h
  obtain⟨a,b,c⟩:=ih fun q hq=>h q (mem_cons_of_mem _ hq)
  obtain⟨h1,h2⟩:=h p (mem_cons_self ..)
  refine⟨?_,?_,?_⟩
  ·rw[map_cons,lfs,a]
   show(lf (.at (.str p.1))&&(lf (.at (.str p.2))&&true)&&true)=true
   have e1:lf (.at (.str p.1))=true:=hP _ h1
   have e2:lf (.at (.str p.2))=true:=hP _ h2
   rw[e1,e2]
   rfl
  ·rw[map_cons,szs,b,length_cons]
   show Th.sz (.tup [.at (.str p.1),.at (.str p.2)])+_=_
   simp only [Th.sz,szs]
   omega
  ·rw[map_cons,dps]
   have e:dp (pr2 p)=1:=rfl
   rw[e]
   omega
theorem Zjh {S:SS}{n:Nat}{t:Th}(h:PfT S n t):(dd (frT t [])).length<=cnt t:=by
 have h1:=Z2e (frT t []) []
 have h2:=Za8 n h []
 rw[<- Zfx,length_nil] at h1
 omega
theorem Ans.rep {S:SS}{n:Nat}{t1 t2 u:Th}{A:Around}(h1:PfT S n t1)(h2:PfT S n t2)(hz:Th.sz t1<=19500)(hu:A.units+200<cLine)(h:Ans t1 t2 u):(dat u).showable=true/\A.units+((dat u).depth+1)<cLine/\(dat u).shown.length<=sizeLine:=by
 rcases h with ⟨_,rfl⟩|⟨_,rfl⟩
 ·have c1:=Zjh h1
  have c2:=Zcl t1
  obtain⟨a,b,c⟩:=Zil (P:=NmU S) (fun x hx=>Zdc hx) ((dd (frT t1 [])).zip (dd (frT t2 []))) fun p hp=>by
   obtain⟨q1,q2⟩:=of_mem_zip hp
   exact⟨Zgb n h1 [] _ (Zci _ _ q1),Zgb n h2 [] _ (Zci _ _ q2)⟩
  refine Zjc (by rw[lf];exact a) ?_ ?_ hu
  ·rw[Th.sz,b,length_zip]
   omega
  ·rw[dp]
   omega
 ·refine⟨rfl,?_,by show 4<=sizeLine;decide⟩
  show A.units+(0+1)<cLine
  omega
theorem Z2w {X:Cx}{A:Around}(hA:X.A=A)(hg:A.guards=some []):Z3l X (.builtin "repr") (fun xs H Q=>∃(v:V) (t:Th),xs = [v]/\IsTh H v t/\(t = .at .non∨∃ts,t = .tup ts)/\((dat t).showable=true/\A.units+((dat t).depth+1)<cLine/\(dat t).shown.length<=sizeLine)/\Q (.str (dat t).shown) H):=by
 subst hA
 intro pins s σ H xs us Q I r h
 obtain⟨v,t,rfl,ha,ht,⟨h1,h2,h3⟩,q⟩:=h
 rcases ht with rfl|⟨ts,rfl⟩
 ·obtain⟨u,rfl,ru⟩:=Z6c r
  obtain⟨rfl,_⟩:=Z1p ha
  cases ru
  exact PySem.P.repr_of_none ⟨.str _,H,I.kept (t':=s.toks+1) (fun b o e=>e),⟨_,rfl⟩,q⟩
 ·obtain⟨a,vs,rfl,_,_⟩:=Z1j ha
  exact Z9j hg pins s σ H _ us Q I r ⟨a,_,rfl,ha,h1,h2,h3,q⟩
theorem Ans.kind {t1 t2 u:Th}(h:Ans t1 t2 u):u = .at .non∨∃ts,u = .tup ts:=by
 rcases h with ⟨_,rfl⟩|⟨_,rfl⟩
 ·exact .inr ⟨_,rfl⟩
 ·exact .inl rfl
inductive spAns_ (S:SS)(N:Nat)(vs:List V)(H:Hp)(Q:VK):Prop
 |mk (v1 v2:V) (t1 t2:Th) (_:vs = [v1,v2]) (_:IsTh H v1 t1) (_:IsTh H v2 t2) (_:PfT S N t1) (_:PfT S N t2) (_:Th.sz t1<=19500) (_:Th.sz t2<=19500) (_:∀(v:V) (u:Th) H',Same H H'->Ans t1 t2 u->IsTh H' v u->Q v H'):spAns_ S N vs H Q
def Zox (S:SS)(N:Nat):Sp:=fun vs H Q _=>spAns_ S N vs H Q
def Zcp (N:Nat):Sp:=fun vs H Q E=>∃S,Zox S N vs H Q E
def spBesideA:Sp:=fun vs H Q E=>∃S,Zcn S 4 12 vs H Q E
def Zlb (M N:Nat):Sp:=fun vs H Q E=>∃S,Z72 S M N vs H Q E
def spSeedsA:Sp:=fun vs H Q E=>∃S,Zfg S vs H Q E
theorem FnOk.ex {P:Program}{w:World}{K:PySem.W.Frag}{mg:Str->Option Value}{base:Heap}{CX:CXT}{k:Nat}{f:Addr}{fd:FuncData}{ps:List Str}{ι : Type}{sp : ι -> Sp}(h:∀i,FnOk P w K mg base CX k f fd ps (sp i)):
  FnOk P w K mg base CX k f fd ps (fun vs H Q E=>∃i,sp i vs H Q E):=
 ⟨fun vs H Q E ⟨i,q⟩=>(h i).len vs H Q E q,fun A outer s H args us vs Q E hr e0 hb r ⟨i,q⟩=>(h i).run A outer s H args us vs Q E hr e0 hb r q⟩
theorem Zgn {H:Hp}:IsTh H .non (.at .non):=.at rfl
theorem Zlc {T:List Str}{z:Int}(h0:0<=z)(h1:z<T.length):∃x∈T,atI (T.map V.str) (z-1)=some (.str x):=by
 by_cases hz:z=0
 ·subst hz
  have hne:T ≠ []:=fun q=>by rw[q,length_nil] at h1;omega
  refine⟨T.getLast hne,List.getLast_mem hne,?_⟩
  have e:T.map V.str=T.dropLast.map V.str ++ [.str (T.getLast hne)]:=by
   conv=>lhs;rw[<- dropLast_concat_getLast hne]
   rw[map_append]
   rfl
  rw[e]
  exact Zbd _ _
 ·obtain⟨v,hv,hat⟩:=Z34 (xs:=T.map V.str) (i:=z-1) (by omega) (by rw[length_map];omega)
  obtain⟨x,hx,rfl⟩:=mem_map.mp hv
  exact⟨x,hx,hat⟩
theorem Zoy {n:Nat}{z:Int}(h0:0<=z)(h1:z<n):L2.ixN n z=some z.toNat:=by
 unfold L2.ixN
 rw[if_pos h0,if_pos (by omega)]
theorem Zim (a b:List Str):(a.zip b).map (fun p=>pr2 (p.2,p.1))=(b.zip a).map pr2:=by
 induction a generalizing b with
 |nil=>cases b <;> rfl
 |cons x a ih=>
  cases b with
  |nil=>rfl
  |cons y b=>rw[List.zip_cons_cons,List.zip_cons_cons,map_cons,map_cons,ih]
section
variable {S:SS}{P:Program}{w:World}{K:PySem.W.Frag}{mg:Str->Option Value}{base:Heap}{q:ShF}
theorem Zgo {f:Addr}{fd:FuncData}(F:Fun K "alike" "alike" Z7w f fd)(G:Shp K mg q)(hzip:mg "zip"=none)(N:Nat):FnOk P w K mg base CX0 6 f fd ["one","other"] (Zcp N):=
 FnOk.ex fun S=>(Zih (S:=S) F G hzip N).imp fun vs H Q E ⟨v1,v2,t1,t2,e,a1,a2,p1,p2,z1,z2,k⟩=>⟨v1,v2,t1,t2,e,a1,a2,p1,p2,Nat.le_trans z1 (by decide),Nat.le_trans z2 (by decide),fun ne H' s=>k .non _ H' s (.inr ⟨ne,rfl⟩) Zgn,fun eq p H' s h=>k (.ref p) _ H' s (.inl ⟨eq,rfl⟩) h⟩
theorem Zld {f fS:Addr}{fd dS:FuncData}{N:Nat}(F:Fun K "_law_due" "_law_due" Zj1 f fd)(T:TxtT mg)(hrepr:mg "repr"=none)(hzip:mg "zip"=none)(FS:Fn K mg "_law_shaped" Z41 ["_law_e","_law_bound_here","_law_met"] fS dS)(hN:N<=90){fP fW:Addr}{dP dW:FuncData}(U:HW K mg fP fW dP dW):
  FnOk P w K mg base CX0 (N+3) f fd ["_law_one","_law_other"] (Zcp N):=
 FnOk.ex fun S=>(Zne (S:=S) F T hrepr hzip FS hN (Zgf FS U N)).imp fun vs H Q E ⟨v1,v2,t1,t2,e,a1,a2,p1,p2,z1,z2,k⟩=>⟨v1,v2,t1,t2,e,a1,a2,p1,p2,Nat.le_trans (Zcl t1) z1,Nat.le_trans (Zcl t2) z2,fun ne H' s=>k .non _ H' s (.inr ⟨ne,rfl⟩) Zgn,fun eq p H' s h=>k (.ref p) _ H' s (.inl ⟨eq,rfl⟩) h⟩
end
inductive spLaw_ (K:PySem.W.Frag)(vs:List V)(H:Hp)(Q:VK):Prop
 |mk (a:Addr) (ns:List Int) (_:vs = [.ref a]) (_:SqL K H a (ns.map V.int)) (_:ns.length<=63) (_:∀H',Q (.bl true) H'):spLaw_ K vs H Q
def Zin (K:PySem.W.Frag):Sp:=fun vs H Q _=>spLaw_ K vs H Q
theorem lim {a n c b k:Nat}(h:a<=n+c)(hn:n<=k)(d:k+c<=b:=by decide):a<=b:=Nat.le_trans h (Nat.le_trans (Nat.add_le_add_right hn c) d)
theorem Znk {x y c i:Nat}(h:x<=y+100000)(g:y<=c+i*100000):x<=c+(i+1)*100000:=by omega
theorem Znl {x n j:Nat}(h:x<=n+13500000+4*100000)(g:n<=500+j*14000000):x<=500+(j+1)*14000000:=by omega
theorem Znm:(["_law_feed_here","_law_name_here"]:List Str).Nodup:=by decide+kernel
theorem cD8:cD 8=13436920:=by decide+kernel
abbrev Zns:List Str:=["_law_script","_law_feed_here","_law_names_here","_law_shift","_law_others","_law_turn","_law_lets","_law_calls","_law_works","_law_world_here","_law_one","_law_k","_law_other","_law_due_here","_law_again"]
structure LwF where
 x:ExpF
 q:ShF
 fF:Addr
 fM:Addr
 fA:Addr
 fO:Addr
 fZ:Addr
 fL:Addr
 fD:Addr
 fS:Addr
 fW:Addr
 fB:Addr
 fC:Addr
 fX:Addr
 dF:FuncData
 dM:FuncData
 dA:FuncData
 dO:FuncData
 dZ:FuncData
 dL:FuncData
 dD:FuncData
 dS:FuncData
 dW:FuncData
 dB:FuncData
 dC:FuncData
 dX:FuncData
structure Lw (K:PySem.W.Frag)(mg:Str->Option Value)(p:LwF):Prop where
 E:Exp K mg p.x
 G:Shp K mg p.q
 F:Fn K mg "_law_feed" Zey ["_law_script"] p.fF p.dF
 M:Fn K mg "_law_names" Z9n ["_law_feed_here","_law_many"] p.fM p.dM
 A:Fn K mg "_law_name" Z32 ["_law_feed_here","_law_taken"] p.fA p.dA
 O:Fn K mg "_law_world" Z9o ["_law_names_here","_law_lets","_law_functions","_law_works","_law_room","_law_toil"] p.fO p.dO
 Z:Fn K mg "_law_seeds" Z9p ["_law_feed_here","_law_world_here","_law_many"] p.fZ p.dZ
 L:Fn K mg "alike" Z7w ["one","other"] p.fL p.dL
 D:Fn K mg "_law_due" Zj1 ["_law_one","_law_other"] p.fD p.dD
 S:Fn K mg "_law_shaped" Z41 ["_law_e","_law_bound_here","_law_met"] p.fS p.dS
 W:Fn K mg "_law_wide" Zan ["_law_names_here"] p.fW p.dW
 B:Fn K mg "_law_beside" Z5n ["_law_feed_here","_law_one","_law_names_here","_law_world_here"] p.fB p.dB
 C:Fn K mg "_law_changed" Z3n ["_law_feed_here","_law_e","_law_calls"] p.fC p.dC
 X:Fn K mg "_law_all" Zk1 ["_law_e"] p.fX p.dX
 max:mg "max"=none
 repr:mg "repr"=none
 zip:mg "zip"=none
section
variable {P:Program}{w:World}{K:PySem.W.Frag}{mg:Str->Option Value}{base:Heap}{p:LwF}
theorem scLaw:FnScope Zns ["_law_script"] (Z06 Zdt):=⟨rfl,rfl,rfl,by decide+kernel,rfl,by decide+kernel,by decide+kernel⟩
theorem Znn {f:Addr}{fd:FuncData}(F:Fun K "law" "law" Zdt f fd)(Y:Lw K mg p):FnOk P w K mg base CX0 30 f fd ["_law_script"] (Zin K):=by
 have G:=Y.E.G
 have T:=Y.E.G.X.T
 have hrange:=Y.E.G.U.T.range
 have GF:FnOk P w K mg base CX0 1 p.fF p.dF ["_law_script"] (Zj2 K):=Zk3 Y.F.F Y.E.G.U.T
 have GD:FnOk P w K mg base CX0 1 p.x.g.fD p.x.g.dD ["_law_feed_here","_law_many"] spDraw:=Y.E.G.gD
 have GM:FnOk P w K mg base CX0 3 p.fM p.dM ["_law_feed_here","_law_many"] spNames:=Zho Y.M.F Y.E.G.U Y.A.F Y.A.b Y.A.m
 have GA:FnOk P w K mg base CX0 2 p.fA p.dA ["_law_feed_here","_law_taken"] spLawName:=Z7y Y.A.F Y.E.G.U
 have GO:FnOk P w K mg base CX0 1 p.fO p.dO ["_law_names_here","_law_lets","_law_functions","_law_works","_law_room","_law_toil"] spWorld:=Zht Y.O.F
 have GZ:FnOk P w K mg base CX0 13 p.fZ p.dZ ["_law_feed_here","_law_world_here","_law_many"] spSeedsA:=FnOk.ex fun S=>Zhx Y.Z.F Y.E
 have GE:FnOk P w K mg base CX0 24 p.x.fE p.x.dE ["_law_feed_here","_law_world_here","_law_bound_here","_law_below","_law_times"] (Zlb 4 8):=FnOk.ex fun S=>Y.E.gE (M:=4) 8
 have GL:FnOk P w K mg base CX0 6 p.fL p.dL ["one","other"] (Zcp 24):=Zgo Y.L.F Y.G Y.zip 24
 have GU:FnOk P w K mg base CX0 27 p.fD p.dD ["_law_one","_law_other"] (Zcp 24):=Zld Y.D.F T Y.repr Y.zip Y.S (by decide) Y.E.G.X
 have GW:FnOk P w K mg base CX0 1 p.fW p.dW ["_law_names_here"] spWide:=Zla Y.W.F T hrange
 have GB:FnOk P w K mg base CX0 28 p.fB p.dB ["_law_feed_here","_law_one","_law_names_here","_law_world_here"] spBesideA:=FnOk.ex fun S=>Zgk (M:=4) (N:=12) (by decide) (by decide) (by decide) (by decide) Y.B.F Y.E Y.max Y.C Y.X
 refine F.ok scLaw (fun vs H Q E h=>?_) (fun cdv A outer s H vs Q E hr h=>?_)
 ·obtain⟨a,ns,rfl,_⟩:=h
  rfl
 ·obtain⟨a,ns,rfl,hS,hlen,k⟩:=h
  have hsz:sizeLine=16777216:=sizeLine_eq
  have hg:=hr.gd
  have hu2:(A.deeper (PyProof.Rows.envOfC "law" (Z06 Zdt) s.heap.objs.size f cdv)).units+200<cLine:=by have:=hr.un;omega
  have hu:(A.deeper (PyProof.Rows.envOfC "law" (Z06 Zdt) s.heap.objs.size f cdv)).units+1<cLine:=by omega
  have hr1:Room 1 _:=hr.mono (by decide)
  have hr2:Room 2 _:=hr.mono (by decide)
  have hr3:Room 3 _:=hr.mono (by decide)
  have hr6:Room 6 _:=hr.mono (by decide)
  have hr13:Room 13 _:=hr.mono (by decide)
  have hr24:Room 24 _:=hr.mono (by decide)
  have hr27:Room 27 _:=hr.mono (by decide)
  have hr28:Room 28 _:=hr.mono (by decide)
  refine'⟨?tt,?body,?fin⟩
  case body=>
   refine' Z04 ?s1 ?r1
   case s1=>exact Z0c (i:=1) scLaw.nd rfl (Or.inr rfl) (Z05 GF hr1 (by rfl) Y.F.m Y.F.F.kp Y.F.b .nil Z0f (Z0d (pv 0) Z01))
   case r1=>
    refine' Z0m ?s2 ?r2
    case s2=>exact Z0c (i:=2) scLaw.nd rfl (Or.inl rfl) (Z05 GM hr3 (by rfl) Y.M.m Y.M.F.kp Y.M.b .nil Z0f (Z0d (pv 1) (Z0b (Z0l Z1q Z03 (Z05 GD hr1 (by rfl) G.U.mD G.U.D.kp G.U.bD .nil Z0f (Z0d (pv 1) (Z1d Z03 Z01)))) Z01)))
    case r2=>
     refine' Z04 ?s3 ?r3
     case s3=>exact Z0c (i:=3) scLaw.nd rfl (Or.inl rfl) (Z05 GD hr1 (by rfl) G.U.mD G.U.D.kp G.U.bD .nil Z0f (Z0d (pv 1) (Z2a (Z0n Z0o (by rfl) T.len PySem.boot_len (Z0d (pv 2) Z01)) Z01)))
     case r3=>
      refine' Z0m ?s4 ?r4
      case s4=>exact Z0c (i:=4) scLaw.nd rfl (Or.inl rfl) (Z0l Z24 (Z17 Z3m (pv 2) (Z1h (pv 3)) Z1m) (Z17 Z3m (pv 2) Z1m (Z1h (pv 3))))
      case r4=>
       refine' Z0m ?s5 ?r5
       case s5=>
        refine' Z0y (Z0a Z1c (Z05 GD hr1 (by rfl) G.U.mD G.U.D.kp G.U.bD .nil Z0f (Z0d (pv 1) (Z1d Z03 Z01))) Z03 (Z0k _)) (Z07 ?b) Z0h
        case b=>exact Zb9 (Z0r Z0z (pv 4) (Z0l Z1v (pv 3) Z03) (fun _ _=>rfl)) (Zio (pv 4) (pv 3) Zbe)
       case r5=>
        refine' Z0m ?s6 (Z04 ?s7 (Z07 ?s8))
        case s6=>
         refine' Z0y (Z0a Ze5 ?a1 ?b1 (Z0k _)) (Z07 (Z0i Z8w)) Z0h
         case a1=>exact Z0n (id:="repr") (Z2w rfl hg) (by rfl) Y.repr (by decide+kernel) (Z2a (Z05 GL hr6 (by rfl) Y.L.m Y.L.F.kp Y.L.b .nil Z0f (Z2a (Z05 GW hr1 (by rfl) Y.W.m Y.W.F.kp Y.W.b .nil Z0f (Z0d (pv 2) Z01)) (Z2a (Z05 GW hr1 (by rfl) Y.W.m Y.W.F.kp Y.W.b .nil Z0f (Z0d (pv 4) Z01)) Z01))) Z01)
         case b1=>exact Z0n (id:="repr") (Z2w rfl hg) (by rfl) Y.repr (by decide+kernel) (Z2a (Z05 GU hr27 (by rfl) Y.D.m Y.D.F.kp Y.D.b .nil Z0f (Z2a (Z05 GW hr1 (by rfl) Y.W.m Y.W.F.kp Y.W.b .nil Z0f (Z0d (pv 2) Z01)) (Z2a (Z05 GW hr1 (by rfl) Y.W.m Y.W.F.kp Y.W.b .nil Z0f (Z0d (pv 4) Z01)) Z01))) Z01)
        case s8=>exact Z0i Z8w
        case s7=>
         refine' Z4n PassesOwn.never rfl (Z1y (by rfl) hrange (Z1d Z03 Z01)) (Z0t (i:=5) scLaw.nd rfl (Or.inl rfl)) ?blk
         case blk=>
          refine' Z0m ?c1 ?q1
          case c1=>exact Z0c (i:=2) scLaw.nd rfl (Or.inl rfl) (Z05 GM hr3 (by rfl) Y.M.m Y.M.F.kp Y.M.b .nil Z0f (Z0d (pv 1) (Z0b (Z0l Z1q Z03 (Z05 GD hr1 (by rfl) G.U.mD G.U.D.kp G.U.bD .nil Z0f (Z0d (pv 1) (Z1d Z03 Z01)))) Z01)))
          case q1=>
           refine' Z0m ?c2 ?q2
           case c2=>exact Z0c (i:=6) scLaw.nd rfl (Or.inl rfl) (Z0x (Z2a (Z05 GA hr2 (by rfl) Y.A.m Y.A.F.kp Y.A.b .nil Z0f (Z0d (pv 1) (Z0d (pv 2) Z01))) (Z0b (Z0r Z0z (pv 2) Z03 (fun _ _=>rfl)) Z01)))
           case q2=>
            refine' Z0m ?c3 ?q3
            case c3=>
             refine' Z2v (i:=7) (N':=["_law_feed_here","_law_name_here"]) (src:=[some 1,none]) ?k1 ?k2 ?k3 ?k4 ?k5 ?k6 ?k7
             case k1=>rfl
             case k2=>exact scLaw.nd
             case k3=>rfl
             case k4=>exact Or.inl rfl
             case k5=>exact Z0j (Z06 Zdt) rfl Zns rfl (by decide+kernel)
             case k6=>exact Z1w (Z05 GM hr3 (by rfl) Y.M.m Y.M.F.kp Y.M.b .nil Z0f (Z0d (pv 1) (Z1d Z03 Z01)))
             case k7=>exact fun cl C ex s0 H0=>⟨Z0t (i:=1) Znm rfl (Or.inl rfl),Z1k,Z1a (Z0d (pv 1) (Z2a (Z05 GD hr1 (by rfl) G.U.mD G.U.D.kp G.U.bD .nil Z0f (Z0d (pv 0) (Z1d Z03 Z01))) Z01))⟩
            case q3=>
             refine' Z0m ?c4 ?q4
             case c4=>
              refine' Z0c (i:=8) scLaw.nd rfl (Or.inl rfl) (Z16 (Z79 rfl) (by rfl) Y.E.dict (by decide+kernel) (Z0b (Z1n (N':=["_law_name_here","_law_many"]) (src:=[none,none]) ?k1 ?k5 ?k6 ?k7) Z01))
              case k1=>rfl
              case k5=>exact Z0j (Z06 Zdt) rfl Zns rfl (by decide+kernel)
              case k6=>exact Z1w (pv 7)
              case k7=>exact fun cl C ex s0 H0=>⟨Z4f (K:=K) (i:=0) (j:=1) rfl rfl Zjf rfl (Or.inl rfl) rfl (Or.inl rfl) (Or.inr rfl) (Or.inr rfl),Z1k,Z1a (Z0d (pv 0) (Z1d Z03 Z01))⟩
             case q4=>
              refine' Z0m ?c5 ?q5
              case c5=>exact Z0c (i:=9) scLaw.nd rfl (Or.inl rfl) (Z05 GO hr1 (by rfl) Y.O.m Y.O.F.kp Y.O.b .nil Z0f (Z0d (pv 2) (Z0d (pv 6) (Z0d (pv 7) (Z0d (pv 8) (Z0b (Z0r Z0z (Z0x (Z1d Z03 (Z1d Z03 (Z1d Z03 Z01)))) (pv 5) (fun _ _=>rfl)) (Z0b (Z0l Ziq Z03 Z03) Z01)))))))
              case q5=>
               refine' Z04 ?c6 ?q6
               case c6=>exact Z29 hu (pv 9) Z08 (Z05 GZ hr13 (by rfl) Y.Z.m Y.Z.F.kp Y.Z.b .nil Z0f (Z0d (pv 1) (Z0d (pv 9) (Z1d Z03 Z01)))) (by rfl)
               case q6=>
                refine' Z0m ?c7 (Z07 ?c8)
                case c7=>exact Z0c (i:=10) scLaw.nd rfl (Or.inl rfl) (Z05 GE hr24 (by rfl) Y.E.E.m Y.E.E.F.kp Y.E.E.b .nil Z0f (Z0d (pv 1) (Z2a (Z16 Z44 (by rfl) Y.E.dict (by decide+kernel) (Z0d (pv 9) Z01)) (Z0b (Z0x Z01) (Z0b (Z0l Z1q Z03 (Z05 GD hr1 (by rfl) G.U.mD G.U.D.kp G.U.bD .nil Z0f (Z0d (pv 1) (Z1d Z03 Z01)))) (Z1d Z03 Z01))))))
                case c8=>
                 refine' Z4n PassesOwn.never rfl (Z1y (by rfl) hrange (Z1d Z03 Z01)) (Z0t (i:=11) scLaw.nd rfl (Or.inl rfl)) ?blk2
                 case blk2=>
                  refine' Z04 ?e1 ?g1
                  case e1=>exact Z0c (i:=12) scLaw.nd rfl (Or.inl rfl) (Z05 GB hr28 (by rfl) Y.B.m Y.B.F.kp Y.B.b .nil Z0f (Z0d (pv 1) (Z0d (pv 10) (Z0d (pv 2) (Z0d (pv 9) Z01)))))
                  case g1=>
                   refine' Z04 ?e2 ?g2
                   case e2=>exact Z0c (i:=13) scLaw.nd rfl (Or.inl rfl) (Z05 GU hr27 (by rfl) Y.D.m Y.D.F.kp Y.D.b .nil Z0f (Z0d (pv 10) (Z0d (pv 12) Z01)))
                   case g2=>
                    refine' Z04 ?e3 ?g3
                    case e3=>
                     refine' Z4n PassesOwn.never rfl (Z1y (by rfl) hrange (Z1d Z03 Z01)) (Z0t (i:=14) scLaw.nd rfl (Or.inl rfl)) (Z07 ?b)
                     case b=>
                      refine' Z0y (Z0a Ze5 ?a1 ?b1 (Z0k _)) (Z07 (Z0i Z8w)) Z0h
                      case a1=>exact Z0n (id:="repr") (Z2w rfl hg) (by rfl) Y.repr (by decide+kernel) (Z2a (Z05 GL hr6 (by rfl) Y.L.m Y.L.F.kp Y.L.b .nil Z0f (Z0d (pv 10) (Z0d (pv 12) Z01))) Z01)
                      case b1=>exact Z0n (id:="repr") (Z2w rfl hg) (by rfl) Y.repr (by decide+kernel) (Z0d (pv 13) Z01)
                    case g3=>
                     refine' Z0m ?e4 (Z07 ?e5)
                     case e4=>
                      refine' Z0y (Z0a Zjk (pv 13) Zb8 (Z0k _)) (Z07 ?b) Z0h
                      case b=>
                       refine' Z0c (i:=13) scLaw.nd rfl (Or.inl rfl) (Z16 Z14 (by rfl) T.tup Z4z (Z0b (Z1n (N':=["_law_x","_law_y"]) (src:=[none,none]) ?k1 ?k5 ?k6 ?k7) Z01))
                       case k1=>rfl
                       case k5=>exact Z0j (Z06 Zdt) rfl Zns rfl (by decide+kernel)
                       case k6=>exact Z7j (pv 13)
                       case k7=>exact fun cl C ex s0 H0=>⟨Z4f (K:=K) (i:=0) (j:=1) rfl rfl Znd rfl (Or.inl rfl) rfl (Or.inl rfl) (Or.inr rfl) (Or.inr rfl),Z1k,Z1a (Z0d (pv 1) (Z0d (pv 0) Z01))⟩
                     case e5=>
                      refine' Z0y (Z0a Ze5 ?a1 ?b1 (Z0k _)) (Z07 (Z0i Z8w)) Z0h
                      case a1=>exact Z0n (id:="repr") (Z2w rfl hg) (by rfl) Y.repr (by decide+kernel) (Z2a (Z05 GL hr6 (by rfl) Y.L.m Y.L.F.kp Y.L.b .nil Z0f (Z0d (pv 12) (Z0d (pv 10) Z01))) Z01)
                      case b1=>exact Z0n (id:="repr") (Z2w rfl hg) (by rfl) Y.repr (by decide+kernel) (Z0d (pv 13) Z01)
  case fin=>
   have e8:=cD8
   refine⟨_,rfl,a,ns,rfl,hS,hlen,fun d l H1 F1 _ s1=>?_⟩
   refine⟨fun σ' H'=>∃(nm:Addr) (T1:List Str) (n':Nat),σ' = [some (.ref a),some (.ref d),some (.ref nm),none,none,none,none,none,none,none,none,none,none,none,none]/\H' nm=some (.lst (T1.map V.str))/\25<=T1.length/\T1.length<=36/\(∀t∈T1,Nm t)/\n'<=400/\Feed H' d l ns n',?_,?_⟩
   ·refine⟨_,rfl,_,rfl,d,l,ns,0,_,rfl,F1,by decide,by decide,by decide,fun q n1 H2 q0 q1 hn1 F2 b2=>?_⟩
    refine⟨_,_,rfl,rfl,d,l,ns,n1,_,rfl,F2,by omega,by omega,by omega,fun nm ts n2 H3 hnm0 hnm hl ha hnd hn2 F3 b3=>?_⟩
    exact⟨nm,ts,n2,rfl,hnm,by omega,by omega,ha,by omega,F3⟩
   clear F1 s1 hS
   rintro σ2 H2 ⟨nm,T1,n2,rfl,hnm2,hT25,hT36,hTn,hn2,F2⟩
   refine⟨_,rfl,_,rfl,nm,_,rfl,.inl (SqL.of hnm2),d,l,ns,n2,_,rfl,F2,by omega,by rw[length_map];omega,by rw[length_map];omega,fun sh n3 H3 sh0 sh1 hn3 F3 b3=>?_⟩
   have hnm3:=F2.lst b3 hnm2
   rw[length_map] at sh1
   refine⟨fun σ' H'=>∃(oa:Addr) (T2:List Str),σ' = [some (.ref a),some (.ref d),some (.ref nm),some (.int sh),some (.ref oa),none,none,none,none,none,none,none,none,none,none]/\H' oa=some (.lst (T2.map V.str))/\T2.length=T1.length/\(∀t∈T2,t∈T1)/\H' nm=some (.lst (T1.map V.str))/\oa≠nm/\oa≠l/\oa≠d/\Feed H' d l ns n3,?_,?_⟩
   ·refine⟨_,rfl,_,rfl,sh,rfl,nm,_,rfl,SqL.of hnm3,fun p1 hp1=>?_⟩
    rw[Z2b sh0 (by rw[length_map];omega)]
    have s1:=Z02 (o:=.lst ((T1.map V.str).drop sh.toNat)) hp1
    refine⟨_,rfl,_,rfl,sh,rfl,nm,_,rfl,SqL.of (s1 _ _ hnm3),fun p2 hp2=>?_⟩
    rw[Z9l sh0 (by rw[length_map];omega)]
    have s2:=Z02 (o:=.lst ((T1.map V.str).take sh.toNat)) hp2
    refine⟨p1,p2,_,_,rfl,rfl,s2 _ _ Z00,Z00,by rw[length_drop,length_take,length_map];omega,fun p3 hp3=>?_⟩
    have s3:=Z02 (o:=.lst ((T1.map V.str).drop sh.toNat++(T1.map V.str).take sh.toNat)) hp3
    have s12:=s1.trans s2
    have sA:=s12.trans s3
    refine⟨p3,T1.drop sh.toNat++T1.take sh.toNat,rfl,by rw[Z00,map_append,map_drop,map_take],by rw[length_append,length_drop,length_take];omega,fun t ht=>?_,sA _ _ hnm3,(Z0e (s12 _ _ hnm3) hp3).symm,(Z0e (s12 _ _ F3.ls) hp3).symm,(Z0e (s12 _ _ F3.dc.choose_spec) hp3).symm,F3.same sA⟩
    rcases mem_append.mp ht with q|q
    ·exact mem_of_mem_drop q
    ·exact mem_of_mem_take q
   clear hnm2 hnm3 F2 F3 b3
   rintro σ4 H4 ⟨oa,T2,rfl,hoa,hTl,hT2,hnm4,hon,hol,hod,F4⟩
   refine⟨fun σ' H'=>∃(T2:List Str) (n':Nat),σ' = [some (.ref a),some (.ref d),some (.ref nm),some (.int sh),some (.ref oa),none,none,none,none,none,none,none,none,none,none]/\H' oa=some (.lst (T2.map V.str))/\T2.length=T1.length/\(∀t∈T2,t∈T1)/\H' nm=some (.lst (T1.map V.str))/\n'<=500/\Feed H' d l ns n',?_,?_⟩
   ·refine⟨_,rfl,d,l,ns,n3,_,rfl,F4,by omega,by decide,by decide,fun q n5 H5 _ _ hn5 F5 b5=>⟨rfl,_,rfl,Z1b (fun g=>?_) (fun g=>⟨T2,n5,rfl,F4.lst b5 hoa,hTl,hT2,F4.lst b5 hnm4,by omega,F5⟩)⟩⟩
    have hoa5:=F4.lst b5 hoa
    obtain⟨x,hx,hat⟩:=Zlc (T:=T2) (z:=sh) sh0 (by omega)
    refine⟨_,rfl,_,rfl,_,_,rfl,rfl,oa,_,_,.str x,rfl,rfl,SqL.of hoa5,hat,_,rfl,_,rfl,oa,_,sh,sh.toNat,rfl,rfl,hoa5,Zoy sh0 (by rw[length_map];omega),T2.set sh.toNat x,n5,rfl,by rw[Z00,List.map_set],by rw[length_set];exact hTl,fun t ht=>?_,by rw[Z09 hon.symm];exact F4.lst b5 hnm4,by omega,?_⟩
    ·rcases List.mem_or_eq_of_mem_set ht with z|z
     ·exact hT2 t z
     ·rw[z];exact hT2 x hx
    ·obtain⟨⟨zz,hd⟩,hls,hlz⟩:=F5
     exact⟨⟨zz,by rw[Z09 hod.symm];exact hd⟩,by rw[Z09 hol.symm];exact hls,hlz⟩
   clear hoa hTl hT2 hnm4 F4
   rintro σ5 H5 ⟨T2,n5,rfl,hoa,hTl,hT2,hnm5,hn5,F5⟩
   refine⟨fun σ' H'=>σ' = [some (.ref a),some (.ref d),some (.ref nm),some (.int sh),some (.ref oa),none,none,none,none,none,none,none,none,none,none]/\Feed H' d l ns n5,?_,?_⟩
   ·let S:SS:=⟨T1,T1⟩
    have w1:=Zgm (S:=S) (T:=T1) (by omega) hT36 fun x hx=>⟨hTn x hx,hx⟩
    have w2:=Zgm (S:=S) (T:=T2) (by omega) (by omega) fun x hx=>⟨hTn x (hT2 x hx),hT2 x hx⟩
    have z1:=Z3v 3 w1.1
    have z2:=Z3v 3 w2.1
    have w12:=w1.2
    have w22:=w2.2
    have p1:PfT S 24 (Z7i T1):=w1.1.le (by decide)
    have p2:PfT S 24 (Z7i T2):=w2.1.le (by decide)
    have hT2n:∀x∈T2,Nm x:=fun x hx=>hTn x (hT2 x hx)
    refine⟨_,rfl,nm,T1,rfl,hnm5,by omega,hT36,hTn,fun v1 H6 s6 hv1=>⟨_,rfl,oa,T2,rfl,s6 _ _ hoa,by omega,by omega,hT2n,fun v2 H7 s7 hv2=>?_⟩⟩
    have s67:=s6.trans s7
    refine⟨S,v1,v2,Z7i T1,Z7i T2,rfl,IsTh.kp (Kp.of s7) hv1,hv2,p1,p2,by omega,by omega,fun u ut H8 s8 hA hu8=>?_⟩
    have s68:=s67.trans s8
    refine⟨u,ut,rfl,hu8,hA.kind,hA.rep p1 p2 (by omega) hu2,?_⟩
    refine⟨_,rfl,nm,T1,rfl,s68 _ _ hnm5,by omega,hT36,hTn,fun v3 H9 s9 hv3=>⟨_,rfl,oa,T2,rfl,s9 _ _ (s68 _ _ hoa),by omega,by omega,hT2n,fun v4 H10 s10 hv4=>?_⟩⟩
    refine⟨S,v3,v4,Z7i T1,Z7i T2,rfl,IsTh.kp (Kp.of s10) hv3,hv4,p1,p2,by omega,by omega,fun u' ut' H11 s11 hA' hu11=>?_⟩
    refine⟨u',ut',rfl,hu11,hA'.kind,hA'.rep p1 p2 (by omega) hu2,rfl,_,rfl,Z1b (fun g=>?_) (fun _=>⟨rfl,F5.same (s68.trans ((s9.trans s10).trans s11))⟩)⟩
    rw[hA.one hA',decide_eq_true rfl] at g
    cases g
   clear hoa hnm5 F5 hT2 hTl
   rintro σ6 H6 ⟨rfl,F6⟩
   refine⟨3,rfl,by decide,by decide,Z2x (n:=3) (fun j σ H'=>∃(n':Nat) (o2 o3 o4 o5 o6 o7 o8 o9 o10 o11 o12 o13 o14:Option V),σ = [some (.ref a),some (.ref d),o2,o3,o4,o5,o6,o7,o8,o9,o10,o11,o12,o13,o14]/\n'<=500+j*14000000/\Feed H' d l ns n')
    ⟨n5,_,_,_,_,_,_,_,_,_,_,_,_,_,rfl,by omega,F6⟩ ?_ ?_⟩
   rotate_left
   ·rintro σ H2 ⟨n2,o2,o3,o4,o5,o6,o7,o8,o9,o10,o11,o12,o13,o14,rfl,hn2,F2⟩
    exact k H2
   clear F6 hT25 hT36 hTn sh0 sh1 hn3 hn2 hn5 hon hol hod
   rintro j σ H hj ⟨n,o2,o3,o4,o5,o6,o7,o8,o9,o10,o11,o12,o13,o14,rfl,hn,F0⟩
   have hB:n<=28000500:=by omega
   refine⟨fun σ' H'=>∃(nm:Addr) (T1:List Str) (n':Nat),σ' = [some (.ref a),some (.ref d),some (.ref nm),o3,o4,some (.int (0+(j:Int))),o6,o7,o8,o9,o10,o11,o12,o13,o14]/\H' nm=some (.lst (T1.map V.str))/\2<=T1.length/\T1.length<=5/\(∀t∈T1,Nm t)/\n'<=n+41/\Feed H' d l ns n',?_,?_⟩
   ·refine⟨_,rfl,_,rfl,d,l,ns,n,_,rfl,F0,lim (Nat.le_add_right n 0) hB,by decide,by decide,fun q n1 H1 q0 q1 hn1 F1 b1=>?_⟩
    refine⟨_,_,rfl,rfl,d,l,ns,n1,_,rfl,F1,lim hn1 hB,by omega,by omega,fun nm ts n2 H2 hnm0 hnm hl ha hnd hn2 F2 b2=>?_⟩
    exact⟨nm,ts,n2,rfl,hnm,by omega,by omega,ha,by omega,F2⟩
   rintro σ1 H1 ⟨nm,T1,n1,rfl,hnm1,hT2,hT5,hTn,hn1,F1⟩
   obtain⟨x0,hx0⟩:∃x,T1[0]? = some x:=⟨_,List.getElem?_eq_getElem (by omega)⟩
   have hx0m:=mem_of_getElem? hx0
   have at0:atI (T1.map V.str) 0=some (.str x0):=Z23 (j:=0) (by rw[List.getElem?_map,hx0];rfl)
   refine⟨fun σ' H'=>∃(lt:Addr) (T2:List Str) (n':Nat),σ' = [some (.ref a),some (.ref d),some (.ref nm),o3,o4,some (.int (0+(j:Int))),some (.ref lt),o7,o8,o9,o10,o11,o12,o13,o14]/\H' lt=some (.lst (T2.map V.str))/\T2.length=2/\(∀t∈T2,Nm t)/\H' nm=some (.lst (T1.map V.str))/\n'<=n+49/\Feed H' d l ns n',?_,?_⟩
   ·refine⟨_,rfl,_,rfl,d,l,nm,ns,n1,T1,rfl,F1,lim hn1 hB,hnm1,by omega,hTn,fun y n2 H2 hy _ _ hn2 F2 b2=>?_⟩
    have hnm2:=F1.lst b2 hnm1
    refine⟨_,rfl,nm,_,_,.str x0,rfl,rfl,SqL.of hnm2,at0,(by show 2<=sizeLine;decide),fun lt hlt=>?_⟩
    have sl:=Z02 (o:=.lst [.str y,.str x0]) hlt
    exact⟨lt,[y,x0],n2,rfl,Z00,rfl,Z21 hy (hTn x0 hx0m),sl _ _ hnm2,by omega,F2.same sl⟩
   clear hnm1 F1 hn1
   rintro σ2 H2 ⟨lt,T2,n2,rfl,hlt2,hTl,hT2n,hnm2,hn2,F2⟩
   refine⟨fun σ' H'=>∃(ca:Addr) (cs:List V) (ts:List Str) (n':Nat),σ' = [some (.ref a),some (.ref d),some (.ref nm),o3,o4,some (.int (0+(j:Int))),some (.ref lt),some (.ref ca),o8,o9,o10,o11,o12,o13,o14]/\H' ca=some (.lst cs)/\CallsAt H' cs ts/\ts.length=2/\(∀t∈ts,Nm t)/\n'<=n+67/\Feed H' d l ns n'/\But d H2 H',?_,?_⟩
   ·refine⟨_,rfl,d,l,ns,n2,_,rfl,F2,lim hn2 hB,by decide,by decide,fun na ts n3 H3 hna0 hna hl ha _ hn3 F3 b3=>?_⟩
    have hl2:ts.length=2:=by omega
    refine⟨na,rfl,⟨_,SqL.of hna⟩,Z1i (K:=K) (a:=na) (xs:=ts.map V.str) (fun i ys σc H'=>∃(o:Option V) (n':Nat),σc = [some (.ref d),o]/\CallsAt H' ys (ts.take i)/\n'<=n3+i/\Feed H' d l ns n'/\But d H3 H')
     ⟨none,n3,rfl,⟨rfl,fun j y hy=>by simp at hy⟩,Nat.le_refl _,F3,But.of (Same.refl _)⟩ (fun i ys σc H' ⟨_,_,_,_,_,_,b⟩=>SqL.of (F3.lst b hna)) ?_ ?_⟩
    ·rintro i x ys σc H' hx hi ⟨o,n',rfl,hys,hn',F',b'⟩
     rw[List.getElem?_map] at hx
     obtain⟨t,ht,rfl⟩:=Option.map_eq_some_iff.mp hx
     have hil:i<ts.length:=(List.getElem?_eq_some_iff.mp ht).1
     have hyl:=hys.1
     rw[length_take] at hyl
     refine⟨by omega,_,rfl,_,rfl,d,l,ns,n',_,rfl,F',by omega,by decide,by decide,fun q n5 H5 q0 q1 hn5 F5 b5=>⟨(by show 2<=sizeLine;decide),fun c hc=>?_⟩⟩
     have sc:=Z02 (o:=.tup [.str t,.int q]) hc
     have hys5:=(hys.kp (b5.kp F')).kp (Kp.of sc)
     refine nx hi ⟨_,n5,rfl,⟨?_,fun j y hy=>?_⟩,by omega,F5.same sc,(b'.trans b5).trans (But.of sc)⟩
     ·rw[length_append,hyl,length_take]
      show min i ts.length+1=_
      omega
     ·rcases Zco hy with hy|⟨rfl,rfl⟩
      ·obtain⟨c',x,m,h1,h2,h3⟩:=hys5.2 j y hy
       refine⟨c',x,m,h1,?_,h3⟩
       rw[take_add_one,ht]
       exact(List.getElem?_append_left (List.getElem?_eq_some_iff.mp h2).1).trans h2
      ·refine⟨c,t,q,rfl,?_,Z00,q0,by omega⟩
       rw[hyl,Nat.min_eq_left (by omega),List.getElem?_take]
       rw[if_pos (by omega)]
       exact ht
    ·rintro ys σc H' ⟨o,n',rfl,hys,hn',F',b'⟩ q hq
     rw[length_map,take_of_length_le (Nat.le_refl _)] at hys
     rw[length_map] at hn'
     have sq:=Z02 (o:=.lst ys) hq
     exact⟨q,ys,ts,n',rfl,Z00,hys.kp (Kp.of sq),hl2,ha,by omega,F'.same sq,(b3.trans b').trans (But.of sq)⟩
   rintro σ3 H3 ⟨ca,cs,ts,n3,rfl,hca,hcs,hts,htn,hn3,F3,b3⟩
   have hcl:=hcs.1
   let S:SS:=⟨ts,T1++T2++ts⟩
   have hu1:∀x∈T1,NmU S x:=fun x hx=>⟨hTn x hx,mem_append_left _ (mem_append_left _ hx)⟩
   have huT2:∀x∈T2,NmU S x:=fun x hx=>⟨hT2n x hx,mem_append_left _ (mem_append_right _ hx)⟩
   have hcu:∀x∈S.c,x∈S.u:=fun x hx=>mem_append_right _ hx
   refine⟨fun σ' H'=>∃(wo:Addr) (kvs:List (Key×V)),σ' = [some (.ref a),some (.ref d),some (.ref nm),o3,o4,some (.int (0+(j:Int))),some (.ref lt),some (.ref ca),some (.ref wo),o9,o10,o11,o12,o13,o14]/\H3 wo=none/\H' wo=some (.dK kvs)/\Zk8 S (fun _=>1) kvs/\Same H3 H',?_,?_⟩
   ·refine⟨_,rfl,ca,rfl,⟨_,SqL.of hca⟩,Z1i (K:=K) (a:=ca) (xs:=cs) (fun i ys σc H'=>∃(o o':Option V),σc = [o,o']/\Same H3 H'/\ys.length=i/\∀(j:Nat) (y:V),ys[j]? = some y->∃q x,y = .ref q/\ts[j]? = some x/\H' q=some (.tup [.str x,.int 1]))
     ⟨none,none,rfl,Same.refl _,rfl,fun j y hy=>by simp at hy⟩ (fun i ys σc H' ⟨_,_,_,e,_⟩=>SqL.of (e _ _ hca)) ?_ ?_⟩
    ·rintro i x ys σc H' hx hi ⟨o,o',rfl,s',hyl,hys⟩
     obtain⟨c,y,m,rfl,hy,hc,_,_⟩:=hcs.2 i x hx
     refine⟨by omega,c,_,rfl,SqT.of (s' _ _ hc),rfl,_,_,rfl,_,_,rfl,rfl,_,rfl,(by show 2<=sizeLine;decide),fun q hq=>?_⟩
     have sq:=Z02 (o:=.tup [.str y,.int 1]) hq
     refine nx hi ⟨_,_,rfl,s'.trans sq,by rw[length_append,hyl];rfl,fun j z hz=>?_⟩
     rcases Zco hz with hz|⟨rfl,rfl⟩
     ·obtain⟨q',x',h1,h2,h3⟩:=hys j z hz
      exact⟨q',x',h1,h2,sq _ _ h3⟩
     ·exact⟨q,y,rfl,by rw[hyl];exact hy,Z00⟩
    ·rintro ys σc H' ⟨o,o',rfl,s',hyl,hys⟩ q hq
     have sq:=Z02 (o:=.lst ys) hq
     refine⟨q,ys,ts.map fun t=>(t,V.int 1),rfl,Z00,⟨by rw[length_map];omega,fun j y hy=>?_⟩,by rw[length_map];omega,fun wo hwo=>?_⟩
     ·obtain⟨q',x',h1,h2,h3⟩:=hys j y hy
      exact⟨q',x',.int 1,h1,by rw[List.getElem?_map,h2];rfl,sq _ _ h3⟩
     ·exact⟨wo,_,rfl,Z1z (s'.trans sq) hwo,Z00,fun x hx=>Zds ts [] x (.inl hx),(s'.trans sq).trans (Z02 hwo)⟩
   rintro σ4 H4 ⟨wo,kvs,rfl,hwo0,hwo,hwk,s4⟩
   have F4:=F3.same s4
   have hnm4:=s4 _ _ (F2.lst b3 hnm2)
   have hlt4:=s4 _ _ (F2.lst b3 hlt2)
   have hca4:=s4 _ _ hca
   have hcs4:=hcs.kp (Kp.of s4)
   have hwod:wo≠d:=fun q=>by rw[q,F3.dc.choose_spec] at hwo0;cases hwo0
   refine⟨fun σ' H'=>∃(wd sd:Addr) (r Z:Int),σ' = [some (.ref a),some (.ref d),some (.ref nm),o3,o4,some (.int (0+(j:Int))),some (.ref lt),some (.ref ca),some (.ref wo),some (.ref wd),o10,o11,o12,o13,o14]/\r<=40/\Same H4 H'/\H4 wd=none/\H' wd=some (.dK (Z0g ⟨nm,lt,ca,wo,sd⟩ r Z))/\H' sd=some (.lst []),?_,?_⟩
   ·refine⟨_,rfl,_,rfl,_,rfl,_,rfl,(by show 3<=sizeLine;decide),fun c hc=>?_⟩
    have sc:=Z02 (o:=.lst [.int 6,.int 25,.int 40]) hc
    obtain⟨u,hu',hat⟩:=Z34 (xs:=[V.int 6,.int 25,.int 40]) (i:=0+(j:Int)) (by omega) (Int.lt_of_lt_of_le (b:=3) (by omega) (by decide))
    obtain⟨r,rfl,hr5⟩:∃r:Int,u = .int r/\r<=40:=by
     simp only [mem_cons,not_mem_nil,or_false] at hu'
     rcases hu' with rfl|rfl|rfl <;> exact⟨_,rfl,by decide⟩
    refine⟨_,rfl,c,_,_,.int r,rfl,rfl,SqL.of Z00,hat,_,_,rfl,rfl,⟨by decide,by decide,by decide⟩,nm,lt,ca,wo,r,_,rfl,fun wd sd H5 s5 hwd hsd W5 Q5=>?_⟩
    generalize (10:Int) ^ (Int.toNat 9)=Z at W5
    exact⟨wd,sd,r,Z,rfl,hr5,sc.trans s5,Z1z sc hwd,W5,Q5⟩
   rintro σ5 H5 ⟨wd,sd,r,Z,rfl,hr5,s5,hwd,W5,Q5⟩
   have now:∀{b:Addr} {o:HO},H4 b=some o->b≠wd:=fun {b o} e q=>by rw[q,hwd] at e;cases e
   have hdw:wd≠d:=(now F4.dc.choose_spec).symm
   have hcall:∀{Hx:Hp},Kp H4 Hx->∀v∈cs,∃(c:Addr) (x:Str) (m:Int),v = .ref c/\Hx c=some (.tup [.str x,.int m])/\x∈S.c/\NmU S x/\0<=m/\m<=6:=fun {Hx} kx v hv=>by
    obtain⟨j,hj⟩:=List.getElem?_of_mem hv
    obtain⟨c,x,m,h1,h2,h3,h4,h5⟩:=hcs4.2 j v hj
    have hx:=mem_of_getElem? h2
    exact⟨c,x,m,h1,kx _ _ h3 (fun _ z=>by cases z),hx,⟨htn x hx,hcu x hx⟩,h4,h5⟩
   have N5:Wf S 0 H5 d wd ⟨nm,lt,ca,wo,sd⟩ ⟨T1,T2,cs,[],[],fun _=>1,kvs⟩:=⟨s5 _ _ hnm4,s5 _ _ hlt4,s5 _ _ hca4,hcall (Kp.of s5),s5 _ _ hwo,hwk,hwod,now hwo,Q5,.nil,(fun t ht=>by cases ht),by show 1<=T1.length;omega,by show T1.length<=10;omega,by show T2.length<=10;omega,by show cs.length<=10;omega,Nat.zero_le _,hu1,huT2⟩
   have F5:=F4.same s5
   refine⟨_,rfl,_,rfl,S,d,l,wd,_,_,ns,n3,r,_,_,rfl,by decide,by decide,lim hn3 hB,F5,W5,N5,fun sd' sv ss n6 H6 hs0 hs hss hsp hsl hn6 F6 b6=>?_⟩
   have W6:=b6 wd _ W5 hdw
   have hsl1:sv.length=1:=hsl
   have hn6':n6<=n3+10360:=hn6
   refine⟨_,rfl,wd,_,rfl,Z81 W6,?_⟩
   have k7:Kp H6 (upd H6 wd (.dK (Z0g { (⟨nm,lt,ca,wo,sd⟩:WA) with sd:=sd' } r Z))):=(But2.upd (d:=d)).kp F6 W6
   have F7:=F6.world (a2:={ (⟨nm,lt,ca,wo,sd⟩:WA) with sd:=sd' }) (r2:=r) (z2:=Z) W6
   have W7:upd H6 wd (.dK (Z0g { (⟨nm,lt,ca,wo,sd⟩:WA) with sd:=sd' } r Z)) wd=some (.dK (Z0g ⟨nm,lt,ca,wo,sd'⟩ r Z)):=Z00
   have b7:∀b o,H6 b=some o->b≠wd->upd H6 wd (.dK (Z0g { (⟨nm,lt,ca,wo,sd⟩:WA) with sd:=sd' } r Z)) b=some o:=fun b o e hb=>by rw[Z09 hb];exact e
   generalize upd H6 wd (.dK (Z0g { (⟨nm,lt,ca,wo,sd⟩:WA) with sd:=sd' } r Z))=H7 at k7 F7 W7 b7
   have k47:Kp H4 H7:=fun b o e hk=>k7 _ _ (b6.kp F5 _ _ (s5 _ _ e) hk) hk
   have X7:Bs S 4 H7 d l wd ⟨nm,lt,ca,wo,sd'⟩ ⟨T1,T2,cs,sv,ss,fun _=>1,kvs⟩ ns n6 r Z:=⟨F7,W7,⟨k47 _ _ hnm4 (fun _ z=>by cases z),k47 _ _ hlt4 (fun _ z=>by cases z),k47 _ _ hca4 (fun _ z=>by cases z),hcall k47,b7 _ _ (b6 _ _ (s5 _ _ hwo) hwod) (now hwo),hwk,hwod,now hwo,k7 _ _ hs (fun _ z=>by cases z),IsThs.kp k7 hss,hsp,by show 1<=T1.length;omega,by show T1.length<=10;omega,by show T2.length<=10;omega,by show cs.length<=10;omega,by show sv.length<=10;omega,hu1,huT2⟩⟩
   clear k47 b7 k7 F7 W7 W6 hsp hss hs N5 F5 hcall hdw now hca4 hlt4 hnm4 F4 hwod hwk hwo hwo0 hwd s5 W5 Q5 b6 F6 hcs4 s4 hcs hca b3 F3 hnm2 hlt2 F2 hs0 hn6 hsl
   refine⟨fun σ' H'=>∃(v:V) (t:Th) (n':Nat),σ' = [some (.ref a),some (.ref d),some (.ref nm),o3,o4,some (.int (0+(j:Int))),some (.ref lt),some (.ref ca),some (.ref wo),some (.ref wd),some v,o11,o12,o13,o14]/\IsTh H' v t/\PfT S 12 t/\cnt t<=80/\n'<=n+13500000/\Bs S 4 H' d l wd ⟨nm,lt,ca,wo,sd'⟩ ⟨T1,T2,cs,sv,ss,fun _=>1,kvs⟩ ns n' r Z,?_,?_⟩
   ·refine⟨_,rfl,_,rfl,wd,_,rfl,X7.W,fun w8 hw8=>⟨Nat.zero_le _,fun bd hbd=>?_⟩⟩
    have s8:=Z02 (o:=.dK (Z0g ⟨nm,lt,ca,wo,sd'⟩ r Z)) hw8
    have s9:=Z02 (o:=.lst []) hbd
    have W9:=s9 _ _ (Z00 (a:=w8) (o:=.dK (Z0g ⟨nm,lt,ca,wo,sd'⟩ r Z)) (H:=H7))
    have D9:upd (upd H7 w8 (.dK (Z0g ⟨nm,lt,ca,wo,sd'⟩ r Z))) bd (.lst []) bd=some (.lst []):=Z00
    have s89:=s8.trans s9
    have hno:∀{b:Addr} {o:HO},H7 b=some o->b≠w8:=fun {b o} e q=>by rw[q,hw8] at e;cases e
    generalize upd (upd H7 w8 (.dK (Z0g ⟨nm,lt,ca,wo,sd'⟩ r Z))) bd (.lst [])=H9 at s89 W9 D9 ⊢
    have X9:=X7.same s89
    have N9:Wf S 4 H9 d w8 ⟨nm,lt,ca,wo,sd'⟩ ⟨T1,T2,cs,sv,ss,fun _=>1,kvs⟩:=⟨X9.N.nm,X9.N.lt,X9.N.fn,X9.N.fe,X9.N.wo,X9.N.wk,X9.N.o1,hno X7.N.wo,X9.N.sd,X9.N.ss,X9.N.sp,X9.N.n1,X9.N.n2,X9.N.l2,X9.N.f2,X9.N.s2,X9.N.an,X9.N.bn⟩
    have C9:Ctx S 4 H9 H9 d l w8 ⟨nm,lt,ca,wo,sd'⟩ ⟨T1,T2,cs,sv,ss,fun _=>1,kvs⟩ bd [] ns n6 r Z:=⟨X9.F,W9,N9,D9,Nat.zero_le _,(fun t ht=>by cases ht),But2.refl _ _ _⟩
    refine⟨_,rfl,d,l,ns,n6,_,rfl,C9.F,by omega,by decide,by decide,fun q n10 H10 q0 q1 hn10 F10 b10=>?_⟩
    have C10:=C9.draw b10 F10
    refine⟨_,_,rfl,rfl,S,d,l,w8,_,_,bd,[],ns,n10,r,Z,_,1,rfl,by decide,by decide,by omega,by decide,by decide,?_,by omega,by decide,C10.zero,fun v t n11 r11 z11 H11 h11 p11 c11 y1 y2 hn11 C11=>?_⟩
    ·have:=Z9s 8
     omega
    have B11:But d H7 H11:=fun c o e hcd=>C11.b2 c o (b10 c o (s89 _ _ e) hcd) hcd (hno e)
    refine⟨v,t,n11,rfl,h11,p11,?_,by omega,X7.go B11 C11.F⟩
    by_cases h6:r<=6
    ·have:=y1 h6
     omega
    ·have:=y2 (by omega)
     omega
   clear X7
   rintro σ8 H8 ⟨v,t,n8,rfl,hv8,hpf,hcn,hn8,X8⟩
   have pt:=Zgj hcu hpf
   have pt24:PfT S.all 24 t:=pt.le (by decide)
   have hzt:=Z3v 12 pt
   refine⟨4,rfl,by decide,by decide,Z2x (n:=4) (fun i σ H'=>∃(n':Nat) (o11 o12 o13 o14:Option V),σ = [some (.ref a),some (.ref d),some (.ref nm),o3,o4,some (.int (0+(j:Int))),some (.ref lt),some (.ref ca),some (.ref wo),some (.ref wd),some v,o11,o12,o13,o14]/\IsTh H' v t/\n'<=n+13500000+i*100000/\Bs S 4 H' d l wd ⟨nm,lt,ca,wo,sd'⟩ ⟨T1,T2,cs,sv,ss,fun _=>1,kvs⟩ ns n' r Z)
    ⟨n8,_,_,_,_,rfl,hv8,by omega,X8⟩ ?_ ?_⟩
   rotate_left
   ·rintro σ H9 ⟨n9,o11,o12,o13,o14,rfl,_,hn9,X9⟩
    exact⟨n9,_,_,_,_,_,_,_,_,_,_,_,_,_,rfl,Znl hn9 hn,X9.F⟩
   clear X8 hv8 hn8
   rintro i σ H9 hi ⟨n9,o11,o12,o13,o14,rfl,hv9,hn9,X9⟩
   refine⟨_,rfl,_,rfl,_,rfl,_,rfl,S,d,l,wd,⟨nm,lt,ca,wo,sd'⟩,⟨T1,T2,cs,sv,ss,fun _=>1,kvs⟩,ns,n9,r,Z,v,t,rfl,X9,hv9,pt,hcn,by omega,hcu,hr5,fun v2 t2 n10 H10 hv10 p10 z10 hn10 F10 b10=>?_⟩
   have X10:=X9.go b10 F10
   have hvA:=IsTh.kp (b10.kp X9.F) hv9
   have p2:PfT S.all 24 t2:=p10
   refine⟨_,rfl,_,rfl,S.all,v,v2,t,t2,rfl,hvA,hv10,pt24,p2,by omega,z10,fun u ut H11 s11 hA hu11=>?_⟩
   refine⟨2,rfl,by decide,by decide,Z2x (n:=2) (fun i2 σ H'=>∃(o14:Option V),σ = [some (.ref a),some (.ref d),some (.ref nm),o3,o4,some (.int (0+(j:Int))),some (.ref lt),some (.ref ca),some (.ref wo),some (.ref wd),some v,some (.int (0+(i:Int))),some v2,some u,o14]/\Same H11 H') ⟨_,rfl,Same.refl _⟩ ?_ ?_⟩
   ·rintro i2 σ H12 hi2 ⟨o14,rfl,s12⟩
    have sB:=s11.trans s12
    refine⟨_,rfl,_,rfl,S.all,v,v2,t,t2,rfl,IsTh.kp (Kp.of sB) hvA,IsTh.kp (Kp.of sB) hv10,pt24,p2,by omega,z10,fun u' ut' H13 s13 hA' hu13=>?_⟩
    refine⟨u',ut',rfl,hu13,hA'.kind,hA'.rep pt24 p2 (by omega) hu2,_,rfl,u,ut,rfl,IsTh.kp (Kp.of (s12.trans s13)) hu11,hA.kind,hA.rep pt24 p2 (by omega) hu2,rfl,_,rfl,Z1b (fun g=>?_) (fun _=>⟨_,rfl,s12.trans s13⟩)⟩
    rw[hA.one hA',decide_eq_true rfl] at g
    cases g
   rintro σ12 H12 ⟨o14',rfl,s12⟩
   have sB:=s11.trans s12
   have hu12:=IsTh.kp (Kp.of s12) hu11
   refine⟨fun σ' H'=>∃(u':V) (ut':Th),σ' = [some (.ref a),some (.ref d),some (.ref nm),o3,o4,some (.int (0+(j:Int))),some (.ref lt),some (.ref ca),some (.ref wo),some (.ref wd),some v,some (.int (0+(i:Int))),some v2,some u',o14']/\Same H12 H'/\Ans t2 t ut'/\IsTh H' u' ut',?_,?_⟩
   ·refine⟨_,rfl,rfl,_,rfl,?_⟩
    rcases hA with ⟨eq,rfl⟩|⟨ne,rfl⟩
    ·obtain⟨ua,uvs,rfl,hua,huvs⟩:=Z1j hu12
     have hul:=IsThs.len _ huvs
     rw[length_map] at hul
     have hzl:((dd (frT t [])).zip (dd (frT t2 []))).length<=80:=by
      have:=Zjh pt
      rw[length_zip]
      omega
     refine Z1b (fun _=>?_) (fun g=>absurd rfl g)
     refine⟨_,rfl,ua,rfl,⟨_,SqT.of hua⟩,Z49 (K:=K) (a:=ua) (xs:=uvs) (fun i ys σc H'=>∃o o',σc = [o,o']/\Same H12 H'/\ys.length=i/\IsThs H' ys ((((dd (frT t [])).zip (dd (frT t2 []))).take i).map fun p=>pr2 (p.2,p.1)))
      ⟨none,none,rfl,Same.refl _,rfl,.nil⟩ (fun i ys σc H' ⟨_,_,_,e,_⟩=>SqT.of (e _ _ hua)) ?_ ?_⟩
     ·rintro i3 x ys σc H13 hx hi3 ⟨o,o',rfl,s13,hyl,hys⟩
      obtain⟨tx,htx,hxt⟩:=Z1o _ huvs hx
      rw[List.getElem?_map] at htx
      obtain⟨pq,hpq,rfl⟩:=Option.map_eq_some_iff.mp htx
      obtain⟨c,cvs,rfl,hc,hcvs⟩:=Z1j hxt
      cases hcvs with
      |cons d1 d2=>
       obtain⟨rfl,sm1⟩:=Z1p d1
       cases d2 with
       |cons d3 d4=>
        obtain⟨rfl,sm2⟩:=Z1p d3
        cases d4
        refine⟨by omega,c,_,rfl,SqT.of (s13 _ _ hc),rfl,_,_,rfl,_,_,rfl,rfl,_,rfl,_,rfl,(by show 2<=sizeLine;decide),fun q hq=>nx hi3 ⟨_,_,rfl,s13.trans (Z02 hq),by rw[length_append,hyl];rfl,?_⟩⟩
        rw[take_add_one,hpq,map_append]
        exact IsThs.app _ (IsThs.kp (Kp.of (Z02 hq)) hys) (.cons (.tup Z00 (.cons (.at sm2) (.cons (.at sm1) .nil))) .nil)
     ·rintro ys σc H13 ⟨o,o',rfl,s13,hyl,hys⟩ q hq
      rw[take_of_length_le (by omega),Zim] at hys
      have sq:=Z02 (o:=.lst ys) hq
      refine⟨q,ys,rfl,.inl ⟨SqL.of Z00,fun q2 hq2=>?_⟩⟩
      have sq2:=Z02 (o:=.tup ys) hq2
      exact⟨.ref q2,_,rfl,s13.trans (sq.trans sq2),.inl ⟨eq.symm,rfl⟩,.tup Z00 (IsThs.kp (Kp.of (sq.trans sq2)) hys)⟩
    ·obtain⟨rfl,_⟩:=Z1p hu12
     exact Z1b (fun g=>by cases g) (fun _=>⟨.non,.at .non,rfl,Same.refl _,.inr ⟨fun z=>ne z.symm,rfl⟩,Zgn⟩)
   rintro σ13 H13 ⟨u',ut',rfl,s13,hA',hu13⟩
   have sC:=sB.trans s13
   refine⟨_,rfl,_,rfl,S.all,v2,v,t2,t,rfl,IsTh.kp (Kp.of sC) hv10,IsTh.kp (Kp.of sC) hvA,p2,pt24,z10,by omega,fun w14 wt H14 s14 hA14 hw14=>?_⟩
   refine⟨w14,wt,rfl,hw14,hA14.kind,hA14.rep p2 pt24 z10 hu2,_,rfl,u',ut',rfl,IsTh.kp (Kp.of s14) hu13,hA'.kind,hA'.rep p2 pt24 z10 hu2,rfl,_,rfl,Z1b (fun g=>?_) (fun _=>⟨n10,_,_,_,_,rfl,IsTh.kp (Kp.of (sC.trans s14)) hvA,Znk hn10 hn9,X10.same (sC.trans s14)⟩)⟩
   rw[hA14.one hA',decide_eq_true rfl] at g
   cases g
end
theorem Zle {P:List Value->Prop}(h:P []):∀us:List Value,us.length=0->P us:=fun us e=>by
 cases us with
 |nil=>exact h
 |cons a r=>cases e
theorem Z2f {P:List Value->Prop}(h:∀a,P [a]):∀us:List Value,us.length=1->P us:=fun us e=>by
 cases us with
 |nil=>cases e
 |cons a r=>exact Zle (P:=fun r=>P (a::r)) (h a) r (Nat.succ.inj e)
theorem Z2z {P:List Value->Prop}(h:∀a b,P [a,b]):∀us:List Value,us.length=2->P us:=fun us e=>by
 cases us with
 |nil=>cases e
 |cons a r=>exact Z2f (P:=fun r=>P (a::r)) (h a) r (Nat.succ.inj e)
theorem Z3r {P:List Value->Prop}(h:∀a b c,P [a,b,c]):∀us:List Value,us.length=3->P us:=fun us e=>by
 cases us with
 |nil=>cases e
 |cons a r=>exact Z2z (P:=fun r=>P (a::r)) (h a) r (Nat.succ.inj e)
theorem Zgp {P:List Value->Prop}(h:∀a b c d,P [a,b,c,d]):∀us:List Value,us.length=4->P us:=fun us e=>by
 cases us with
 |nil=>cases e
 |cons a r=>exact Z3r (P:=fun r=>P (a::r)) (h a) r (Nat.succ.inj e)
theorem Z8t {P:List Value->Prop}(h:∀a b c d e,P [a,b,c,d,e]):∀us:List Value,us.length=5->P us:=fun us e=>by
 cases us with
 |nil=>cases e
 |cons a r=>exact Zgp (P:=fun r=>P (a::r)) (h a) r (Nat.succ.inj e)
theorem Zgq {P:List Value->Prop}(h:∀a b c d e f,P [a,b,c,d,e,f]):∀us:List Value,us.length=6->P us:=fun us e=>by
 cases us with
 |nil=>cases e
 |cons a r=>exact Z8t (P:=fun r=>P (a::r)) (h a) r (Nat.succ.inj e)
theorem Zlf {K:PySem.W.Frag}(kt_NoneType_int:PySem.W.kitOne K (.type "NoneType") (.type "int")=some false)(kt_bool_int:PySem.W.kitOne K (.type "bool") (.type "int")=some true)(kt_int_int:PySem.W.kitOne K (.type "int") (.type "int")=some true)(kt_str_int:PySem.W.kitOne K (.type "str") (.type "int")=some false)(kt_tuple_int:PySem.W.kitOne K (.type "tuple") (.type "int")=some false)(kt_list_int:PySem.W.kitOne K (.type "list") (.type "int")=some false)(kt_NoneType_bool:PySem.W.kitOne K (.type "NoneType") (.type "bool")=some false)(kt_bool_bool:PySem.W.kitOne K (.type "bool") (.type "bool")=some true)(kt_int_bool:PySem.W.kitOne K (.type "int") (.type "bool")=some false)(kt_str_bool:PySem.W.kitOne K (.type "str") (.type "bool")=some false)(kt_tuple_bool:PySem.W.kitOne K (.type "tuple") (.type "bool")=some false)(kt_list_bool:PySem.W.kitOne K (.type "list") (.type "bool")=some false)(kt_NoneType_tuple:PySem.W.kitOne K (.type "NoneType") (.type "tuple")=some false)(kt_bool_tuple:PySem.W.kitOne K (.type "bool") (.type "tuple")=some false)(kt_int_tuple:PySem.W.kitOne K (.type "int") (.type "tuple")=some false)(kt_str_tuple:PySem.W.kitOne K (.type "str") (.type "tuple")=some false)(kt_tuple_tuple:PySem.W.kitOne K (.type "tuple") (.type "tuple")=some true)(kt_list_tuple:PySem.W.kitOne K (.type "list") (.type "tuple")=some false):Kits K:=by
 refine⟨?i,?b,?t⟩
 case i=>
  intro H v t h
  cases h with
  | «at» f =>
   cases v with
   |non=>exact kt_NoneType_int
   |bl b=>exact kt_bool_int
   |int i=>exact kt_int_int
   |str x=>exact kt_str_int
   |_=>exact absurd (show false=true from f) Bool.false_ne_true
  |tup e r=>exact kt_tuple_int
  |lst e r=>exact kt_list_int
 case b=>
  intro H v t h
  cases h with
  | «at» f =>
   cases v with
   |non=>exact kt_NoneType_bool
   |bl b=>exact kt_bool_bool
   |int i=>exact kt_int_bool
   |str x=>exact kt_str_bool
   |_=>exact absurd (show false=true from f) Bool.false_ne_true
  |tup e r=>exact kt_tuple_bool
  |lst e r=>exact kt_list_bool
 case t=>
  intro H v t h
  cases h with
  | «at» f =>
   cases v with
   |non=>exact kt_NoneType_tuple
   |bl b=>exact kt_bool_tuple
   |int i=>exact kt_int_tuple
   |str x=>exact kt_str_tuple
   |_=>exact absurd (show false=true from f) Bool.false_ne_true
  |tup e r=>exact kt_tuple_tuple
  |lst e r=>exact kt_list_tuple
abbrev hA (K:PySem.W.Frag)(n:Str)(f:Addr):Prop:=PySem.W.nsIn K mainGlobals n=some (some (.ref f))
abbrev hL (K:PySem.W.Frag)(n:Str)(S:Stmt)(f:Addr)(oc:Value)(od:Option Addr)(kV dc pm:Value)(an:Option Addr)(cd ct:Value)(sl:Array (Option Value)):Prop:=K.lookup f=some ⟨oc,od,.func (PySem.W.fnOf n n (Z0q S) (Z0p S) (Z06 S) .none kV dc pm an cd ct),sl⟩
abbrev hC (K:PySem.W.Frag)(cd:Value)(n:Str):Prop:=PySem.W.codeIn K cd n=true
abbrev hP (K:PySem.W.Frag)(f:Addr):Prop:=PySem.W.keepIn K (.ref f)=true
abbrev hZ (K:PySem.W.Frag)(n:Str):Prop:=PySem.W.nsIn K mainGlobals n=some none
abbrev hI (K:PySem.W.Frag)(a b:String)(v:Bool):Prop:=PySem.W.kitOne K (.type a) (.type b)=some v
theorem all_mk {l:PySem.W.OpenLaw}{w:World}{K:PySem.W.Frag}{h:Heap}{mg:Str->Option Value}{fa f0 f1 f2 f3 f4 f5 f6 f7 f8 f9 f10 f11 f12 f13 f14 f15 f16 f17 f18 f19 f20 f21 f22 f23 f24 f25 f26 f27 f28 f29 f30 f31 f32 f33 f34 f35 f36:Addr}(X:K.In h)(G:h.Ns mainGlobals mg)(hfa:mg "law"=some (.ref fa))
  {od0 an0 od1 an1 od2 an2 od3 an3 od4 an4 od5 an5 od6 an6 od7 an7 od8 an8 od9 an9 od10 an10 od11 an11 od12 an12 od13 an13 od14 an14 od15 an15 od16 an16 od17 an17 od18 an18 od19 an19 od20 an20 od21 an21 od22 an22 od23 an23 od24 an24 od25 an25 od26 an26 od27 an27 od28 an28 od29 an29 od30 an30 od31 an31 od32 an32 od33 an33 od34 an34 od35 an35 od36 an36:Option Addr} {sl0 sl1 sl2 sl3 sl4 sl5 sl6 sl7 sl8 sl9 sl10 sl11 sl12 sl13 sl14 sl15 sl16 sl17 sl18 sl19 sl20 sl21 sl22 sl23 sl24 sl25 sl26 sl27 sl28 sl29 sl30 sl31 sl32 sl33 sl34 sl35 sl36:Array (Option Value)} {oc0 kV0 dc0 pm0 cd0 ct0 oc1 kV1 dc1 pm1 cd1 ct1 oc2 kV2 dc2 pm2 cd2 ct2 oc3 kV3 dc3 pm3 cd3 ct3 oc4 kV4 dc4 pm4 cd4 ct4 oc5 kV5 dc5 pm5 cd5 ct5 oc6 kV6 dc6 pm6 cd6 ct6 oc7 kV7 dc7 pm7 cd7 ct7 oc8 kV8 dc8 pm8 cd8 ct8 oc9 kV9 dc9 pm9 cd9 ct9 oc10 kV10 dc10 pm10 cd10 ct10 oc11 kV11 dc11 pm11 cd11 ct11 oc12 kV12 dc12 pm12 cd12 ct12 oc13 kV13 dc13 pm13 cd13 ct13 oc14 kV14 dc14 pm14 cd14 ct14 oc15 kV15 dc15 pm15 cd15 ct15 oc16 kV16 dc16 pm16 cd16 ct16 oc17 kV17 dc17 pm17 cd17 ct17 oc18 kV18 dc18 pm18 cd18 ct18 oc19 kV19 dc19 pm19 cd19 ct19 oc20 kV20 dc20 pm20 cd20 ct20 oc21 kV21 dc21 pm21 cd21 ct21 oc22 kV22 dc22 pm22 cd22 ct22 oc23 kV23 dc23 pm23 cd23 ct23 oc24 kV24 dc24 pm24 cd24 ct24 oc25 kV25 dc25 pm25 cd25 ct25 oc26 kV26 dc26 pm26 cd26 ct26 oc27 kV27 dc27 pm27 cd27 ct27 oc28 kV28 dc28 pm28 cd28 ct28 oc29 kV29 dc29 pm29 cd29 ct29 oc30 kV30 dc30 pm30 cd30 ct30 oc31 kV31 dc31 pm31 cd31 ct31 oc32 kV32 dc32 pm32 cd32 ct32 oc33 kV33 dc33 pm33 cd33 ct33 oc34 kV34 dc34 pm34 cd34 ct34 oc35 kV35 dc35 pm35 cd35 ct35 oc36 kV36 dc36 pm36 cd36 ct36:Value} {tkN tkO tkC:Tok}
  (a0:hA K "head" f0) (l0:hL K "head" Z9m f0 oc0 od0 kV0 dc0 pm0 an0 cd0 ct0 sl0) (c0:hC K cd0 "head") (k0:hP K f0)
  (a1:hA K "parts" f1) (l1:hL K "parts" Z6p f1 oc1 od1 kV1 dc1 pm1 an1 cd1 ct1 sl1) (c1:hC K cd1 "parts") (k1:hP K f1)
  (a2:hA K "steps" f2) (l2:hL K "steps" Z7u f2 oc2 od2 kV2 dc2 pm2 an2 cd2 ct2 sl2) (c2:hC K cd2 "steps") (k2:hP K f2)
  (a3:hA K "own_number" f3) (l3:hL K "own_number" Z3d f3 oc3 od3 kV3 dc3 pm3 an3 cd3 ct3 sl3) (c3:hC K cd3 "own_number") (k3:hP K f3)
  (a4:hA K "owned" f4) (l4:hL K "owned" Z7v f4 oc4 od4 kV4 dc4 pm4 an4 cd4 ct4 sl4) (c4:hC K cd4 "owned") (k4:hP K f4)
  (a5:hA K "free_names" f5) (l5:hL K "free_names" Z3e f5 oc5 od5 kV5 dc5 pm5 an5 cd5 ct5 sl5) (c5:hC K cd5 "free_names") (k5:hP K f5)
  (a6:hA K "bare_head" f6) (l6:hL K "bare_head" Z3f f6 oc6 od6 kV6 dc6 pm6 an6 cd6 ct6 sl6) (c6:hC K cd6 "bare_head") (k6:hP K f6)
  (a7:hA K "shape_head" f7) (l7:hL K "shape_head" Z3g f7 oc7 od7 kV7 dc7 pm7 an7 cd7 ct7 sl7) (c7:hC K cd7 "shape_head") (k7:hP K f7)
  (a8:hA K "shape_rows" f8) (l8:hL K "shape_rows" Z2c f8 oc8 od8 kV8 dc8 pm8 an8 cd8 ct8 sl8) (c8:hC K cd8 "shape_rows") (k8:hP K f8)
  (a9:hA K "alike" f9) (l9:hL K "alike" Z7w f9 oc9 od9 kV9 dc9 pm9 an9 cd9 ct9 sl9) (c9:hC K cd9 "alike") (k9:hP K f9)
  (a10:hA K "_law_feed" f10) (l10:hL K "_law_feed" Zey f10 oc10 od10 kV10 dc10 pm10 an10 cd10 ct10 sl10) (c10:hC K cd10 "_law_feed") (k10:hP K f10)
  (a11:hA K "_law_draw" f11) (l11:hL K "_law_draw" Zez f11 oc11 od11 kV11 dc11 pm11 an11 cd11 ct11 sl11) (c11:hC K cd11 "_law_draw") (k11:hP K f11)
  (a12:hA K "_law_value" f12) (l12:hL K "_law_value" Z3h f12 oc12 od12 kV12 dc12 pm12 an12 cd12 ct12 sl12) (c12:hC K cd12 "_law_value") (k12:hP K f12)
  (a13:hA K "_law_spelled" f13) (l13:hL K "_law_spelled" Z57 f13 oc13 od13 kV13 dc13 pm13 an13 cd13 ct13 sl13) (c13:hC K cd13 "_law_spelled") (k13:hP K f13)
  (a14:hA K "_law_name" f14) (l14:hL K "_law_name" Z32 f14 oc14 od14 kV14 dc14 pm14 an14 cd14 ct14 sl14) (c14:hC K cd14 "_law_name") (k14:hP K f14)
  (a15:hA K "_law_names" f15) (l15:hL K "_law_names" Z9n f15 oc15 od15 kV15 dc15 pm15 an15 cd15 ct15 sl15) (c15:hC K cd15 "_law_names") (k15:hP K f15)
  (a16:hA K "_law_parts" f16) (l16:hL K "_law_parts" Z28 f16 oc16 od16 kV16 dc16 pm16 an16 cd16 ct16 sl16) (c16:hC K cd16 "_law_parts") (k16:hP K f16)
  (a17:hA K "_law_with" f17) (l17:hL K "_law_with" Zd8 f17 oc17 od17 kV17 dc17 pm17 an17 cd17 ct17 sl17) (c17:hC K cd17 "_law_with") (k17:hP K f17)
  (a18:hA K "_law_nodes" f18) (l18:hL K "_law_nodes" Z6q f18 oc18 od18 kV18 dc18 pm18 an18 cd18 ct18 sl18) (c18:hC K cd18 "_law_nodes") (k18:hP K f18)
  (a19:hA K "_law_work" f19) (l19:hL K "_law_work" Z4c f19 oc19 od19 kV19 dc19 pm19 an19 cd19 ct19 sl19) (c19:hC K cd19 "_law_work") (k19:hP K f19)
  (a20:hA K "_law_right" f20) (l20:hL K "_law_right" Z7x f20 oc20 od20 kV20 dc20 pm20 an20 cd20 ct20 sl20) (c20:hC K cd20 "_law_right") (k20:hP K f20)
  (a21:hA K "_law_leaf" f21) (l21:hL K "_law_leaf" Zf0 f21 oc21 od21 kV21 dc21 pm21 an21 cd21 ct21 sl21) (c21:hC K cd21 "_law_leaf") (k21:hP K f21)
  (a22:hA K "_law_turned" f22) (l22:hL K "_law_turned" Z5m f22 oc22 od22 kV22 dc22 pm22 an22 cd22 ct22 sl22) (c22:hC K cd22 "_law_turned") (k22:hP K f22)
  (a23:hA K "_law_spoilt" f23) (l23:hL K "_law_spoilt" Z6r f23 oc23 od23 kV23 dc23 pm23 an23 cd23 ct23 sl23) (c23:hC K cd23 "_law_spoilt") (k23:hP K f23)
  (a24:hA K "_law_copied" f24) (l24:hL K "_law_copied" Z4u f24 oc24 od24 kV24 dc24 pm24 an24 cd24 ct24 sl24) (c24:hC K cd24 "_law_copied") (k24:hP K f24)
  (a25:hA K "_law_bound" f25) (l25:hL K "_law_bound" Z6s f25 oc25 od25 kV25 dc25 pm25 an25 cd25 ct25 sl25) (c25:hC K cd25 "_law_bound") (k25:hP K f25)
  (a26:hA K "_law_called" f26) (l26:hL K "_law_called" Z4v f26 oc26 od26 kV26 dc26 pm26 an26 cd26 ct26 sl26) (c26:hC K cd26 "_law_called") (k26:hP K f26)
  (a27:hA K "_law_expr" f27) (l27:hL K "_law_expr" Z8e f27 oc27 od27 kV27 dc27 pm27 an27 cd27 ct27 sl27) (c27:hC K cd27 "_law_expr") (k27:hP K f27)
  (a28:hA K "_law_world" f28) (l28:hL K "_law_world" Z9o f28 oc28 od28 kV28 dc28 pm28 an28 cd28 ct28 sl28) (c28:hC K cd28 "_law_world") (k28:hP K f28)
  (a29:hA K "_law_seeds" f29) (l29:hL K "_law_seeds" Z9p f29 oc29 od29 kV29 dc29 pm29 an29 cd29 ct29 sl29) (c29:hC K cd29 "_law_seeds") (k29:hP K f29)
  (a30:hA K "_law_shaped" f30) (l30:hL K "_law_shaped" Z41 f30 oc30 od30 kV30 dc30 pm30 an30 cd30 ct30 sl30) (c30:hC K cd30 "_law_shaped") (k30:hP K f30)
  (a31:hA K "_law_due" f31) (l31:hL K "_law_due" Zj1 f31 oc31 od31 kV31 dc31 pm31 an31 cd31 ct31 sl31) (c31:hC K cd31 "_law_due") (k31:hP K f31)
  (a32:hA K "_law_all" f32) (l32:hL K "_law_all" Zk1 f32 oc32 od32 kV32 dc32 pm32 an32 cd32 ct32 sl32) (c32:hC K cd32 "_law_all") (k32:hP K f32)
  (a33:hA K "_law_changed" f33) (l33:hL K "_law_changed" Z3n f33 oc33 od33 kV33 dc33 pm33 an33 cd33 ct33 sl33) (c33:hC K cd33 "_law_changed") (k33:hP K f33)
  (a34:hA K "_law_beside" f34) (l34:hL K "_law_beside" Z5n f34 oc34 od34 kV34 dc34 pm34 an34 cd34 ct34 sl34) (c34:hC K cd34 "_law_beside") (k34:hP K f34)
  (a35:hA K "_law_wide" f35) (l35:hL K "_law_wide" Zan f35 oc35 od35 kV35 dc35 pm35 an35 cd35 ct35 sl35) (c35:hC K cd35 "_law_wide") (k35:hP K f35)
  (a36:hA K "law" f36) (l36:hL K "law" Zdt f36 oc36 od36 kV36 dc36 pm36 an36 cd36 ct36 sl36) (c36:hC K cd36 "law") (k36:hP K f36)
  (q_isinstance:hZ K "isinstance")
  (q_int:hZ K "int")
  (q_bool:hZ K "bool")
  (q_tuple:hZ K "tuple")
  (q_len:hZ K "len")
  (q_list:hZ K "list")
  (q_range:hZ K "range")
  (q_sum:hZ K "sum")
  (q_all:hZ K "all")
  (q_dict:hZ K "dict")
  (q_repr:hZ K "repr")
  (q_enumerate:hZ K "enumerate")
  (q_max:hZ K "max")
  (q_zip:hZ K "zip")
  (gN:PySem.W.nsIn K mainGlobals "NODE"=some (some (.str "node" tkN)))
  (gO:PySem.W.nsIn K mainGlobals "OPENED"=some (some (.str "opened" tkO)))
  (gC:PySem.W.nsIn K mainGlobals "CLOSED"=some (some (.str "closed" tkC)))
  (kt_NoneType_int:hI K "NoneType" "int" false)
  (kt_bool_int:hI K "bool" "int" true)
  (kt_int_int:hI K "int" "int" true)
  (kt_str_int:hI K "str" "int" false)
  (kt_tuple_int:hI K "tuple" "int" false)
  (kt_list_int:hI K "list" "int" false)
  (kt_NoneType_bool:hI K "NoneType" "bool" false)
  (kt_bool_bool:hI K "bool" "bool" true)
  (kt_int_bool:hI K "int" "bool" false)
  (kt_str_bool:hI K "str" "bool" false)
  (kt_tuple_bool:hI K "tuple" "bool" false)
  (kt_list_bool:hI K "list" "bool" false)
  (kt_NoneType_tuple:hI K "NoneType" "tuple" false)
  (kt_bool_tuple:hI K "bool" "tuple" false)
  (kt_int_tuple:hI K "int" "tuple" false)
  (kt_str_tuple:hI K "str" "tuple" false)
  (kt_tuple_tuple:hI K "tuple" "tuple" true)
  (kt_list_tuple:hI K "list" "tuple" false):
  ∃fd:FuncData,(∀(s:Shared) (v:Value),BindsTo s fd ⟨[v],[]⟩ [("_law_script",v)])/\∀base:Heap,K.In base->base.Ns mainGlobals mg->FnOk l.prog w K mg base CX0 30 fa fd ["_law_script"] (Zin K):=by
 have e:=hfa.symm.trans (PySem.W.mg_of X G a36)
 cases e
 have F0:=Z11 (st:=Z9m) l0 c0 k0
 have b0:=F0.binds (ps:=["node"]) fun _ _ _ _ _ _=>Z2f fun _=>rfl
 have m0:=PySem.W.mg_of X G a0
 have F1:=Z11 (st:=Z6p) l1 c1 k1
 have b1:=F1.binds (ps:=["e"]) fun _ _ _ _ _ _=>Z2f fun _=>rfl
 have m1:=PySem.W.mg_of X G a1
 have F2:=Z11 (st:=Z7u) l2 c2 k2
 have b2:=F2.binds (ps:=["tree"]) fun _ _ _ _ _ _=>Z2f fun _=>rfl
 have m2:=PySem.W.mg_of X G a2
 have F3:=Z11 (st:=Z3d) l3 c3 k3
 have b3:=F3.binds (ps:=["node","lets","level"]) fun _ _ _ _ _ _=>Z3r fun _ _ _=>rfl
 have m3:=PySem.W.mg_of X G a3
 have F4:=Z11 (st:=Z7v) l4 c4 k4
 have b4:=F4.binds (ps:=["e"]) fun _ _ _ _ _ _=>Z2f fun _=>rfl
 have m4:=PySem.W.mg_of X G a4
 have F5:=Z11 (st:=Z3e) l5 c5 k5
 have b5:=F5.binds (ps:=["e"]) fun _ _ _ _ _ _=>Z2f fun _=>rfl
 have m5:=PySem.W.mg_of X G a5
 have F6:=Z11 (st:=Z3f) l6 c6 k6
 have b6:=F6.binds (ps:=["node","own"]) fun _ _ _ _ _ _=>Z2z fun _ _=>rfl
 have m6:=PySem.W.mg_of X G a6
 have F7:=Z11 (st:=Z3g) l7 c7 k7
 have b7:=F7.binds (ps:=["node","own","numbers"]) fun _ _ _ _ _ _=>Z3r fun _ _ _=>rfl
 have m7:=PySem.W.mg_of X G a7
 have F8:=Z11 (st:=Z2c) l8 c8 k8
 have b8:=F8.binds (ps:=["e"]) fun _ _ _ _ _ _=>Z2f fun _=>rfl
 have m8:=PySem.W.mg_of X G a8
 have F9:=Z11 (st:=Z7w) l9 c9 k9
 have b9:=F9.binds (ps:=["one","other"]) fun _ _ _ _ _ _=>Z2z fun _ _=>rfl
 have m9:=PySem.W.mg_of X G a9
 have F10:=Z11 (st:=Zey) l10 c10 k10
 have b10:=F10.binds (ps:=["_law_script"]) fun _ _ _ _ _ _=>Z2f fun _=>rfl
 have m10:=PySem.W.mg_of X G a10
 have F11:=Z11 (st:=Zez) l11 c11 k11
 have b11:=F11.binds (ps:=["_law_feed_here","_law_many"]) fun _ _ _ _ _ _=>Z2z fun _ _=>rfl
 have m11:=PySem.W.mg_of X G a11
 have F12:=Z11 (st:=Z3h) l12 c12 k12
 have b12:=F12.binds (ps:=["_law_feed_here"]) fun _ _ _ _ _ _=>Z2f fun _=>rfl
 have m12:=PySem.W.mg_of X G a12
 have F13:=Z11 (st:=Z57) l13 c13 k13
 have b13:=F13.binds (ps:=["_law_number","_law_long"]) fun _ _ _ _ _ _=>Z2z fun _ _=>rfl
 have m13:=PySem.W.mg_of X G a13
 have F14:=Z11 (st:=Z32) l14 c14 k14
 have b14:=F14.binds (ps:=["_law_feed_here","_law_taken"]) fun _ _ _ _ _ _=>Z2z fun _ _=>rfl
 have m14:=PySem.W.mg_of X G a14
 have F15:=Z11 (st:=Z9n) l15 c15 k15
 have b15:=F15.binds (ps:=["_law_feed_here","_law_many"]) fun _ _ _ _ _ _=>Z2z fun _ _=>rfl
 have m15:=PySem.W.mg_of X G a15
 have F16:=Z11 (st:=Z28) l16 c16 k16
 have b16:=F16.binds (ps:=["_law_e"]) fun _ _ _ _ _ _=>Z2f fun _=>rfl
 have m16:=PySem.W.mg_of X G a16
 have F17:=Z11 (st:=Zd8) l17 c17 k17
 have b17:=F17.binds (ps:=["_law_e","_law_inner"]) fun _ _ _ _ _ _=>Z2z fun _ _=>rfl
 have m17:=PySem.W.mg_of X G a17
 have F18:=Z11 (st:=Z6q) l18 c18 k18
 have b18:=F18.binds (ps:=["_law_e"]) fun _ _ _ _ _ _=>Z2f fun _=>rfl
 have m18:=PySem.W.mg_of X G a18
 have F19:=Z11 (st:=Z4c) l19 c19 k19
 have b19:=F19.binds (ps:=["_law_e","_law_works"]) fun _ _ _ _ _ _=>Z2z fun _ _=>rfl
 have m19:=PySem.W.mg_of X G a19
 have F20:=Z11 (st:=Z7x) l20 c20 k20
 have b20:=F20.binds (ps:=["_law_e","_law_bound_here"]) fun _ _ _ _ _ _=>Z2z fun _ _=>rfl
 have m20:=PySem.W.mg_of X G a20
 have F21:=Z11 (st:=Zf0) l21 c21 k21
 have b21:=F21.binds (ps:=["_law_feed_here","_law_world_here","_law_bound_here"]) fun _ _ _ _ _ _=>Z3r fun _ _ _=>rfl
 have m21:=PySem.W.mg_of X G a21
 have F22:=Z11 (st:=Z5m) l22 c22 k22
 have b22:=F22.binds (ps:=["_law_e","_law_names_here","_law_others"]) fun _ _ _ _ _ _=>Z3r fun _ _ _=>rfl
 have m22:=PySem.W.mg_of X G a22
 have F23:=Z11 (st:=Z6r) l23 c23 k23
 have b23:=F23.binds (ps:=["_law_e","_law_at","_law_leaf_here"]) fun _ _ _ _ _ _=>Z3r fun _ _ _=>rfl
 have m23:=PySem.W.mg_of X G a23
 have F24:=Z11 (st:=Z4u) l24 c24 k24
 have b24:=F24.binds (ps:=["_law_feed_here","_law_world_here","_law_bound_here","_law_below","_law_times"]) fun _ _ _ _ _ _=>Z8t fun _ _ _ _ _=>rfl
 have m24:=PySem.W.mg_of X G a24
 have F25:=Z11 (st:=Z6s) l25 c25 k25
 have b25:=F25.binds (ps:=["_law_feed_here","_law_world_here","_law_bound_here","_law_below","_law_times","_law_kind"]) fun _ _ _ _ _ _=>Zgq fun _ _ _ _ _ _=>rfl
 have m25:=PySem.W.mg_of X G a25
 have F26:=Z11 (st:=Z4v) l26 c26 k26
 have b26:=F26.binds (ps:=["_law_feed_here","_law_world_here","_law_bound_here","_law_below","_law_times"]) fun _ _ _ _ _ _=>Z8t fun _ _ _ _ _=>rfl
 have m26:=PySem.W.mg_of X G a26
 have F27:=Z11 (st:=Z8e) l27 c27 k27
 have b27:=F27.binds (ps:=["_law_feed_here","_law_world_here","_law_bound_here","_law_below","_law_times"]) fun _ _ _ _ _ _=>Z8t fun _ _ _ _ _=>rfl
 have m27:=PySem.W.mg_of X G a27
 have F28:=Z11 (st:=Z9o) l28 c28 k28
 have b28:=F28.binds (ps:=["_law_names_here","_law_lets","_law_functions","_law_works","_law_room","_law_toil"]) fun _ _ _ _ _ _=>Zgq fun _ _ _ _ _ _=>rfl
 have m28:=PySem.W.mg_of X G a28
 have F29:=Z11 (st:=Z9p) l29 c29 k29
 have b29:=F29.binds (ps:=["_law_feed_here","_law_world_here","_law_many"]) fun _ _ _ _ _ _=>Z3r fun _ _ _=>rfl
 have m29:=PySem.W.mg_of X G a29
 have F30:=Z11 (st:=Z41) l30 c30 k30
 have b30:=F30.binds (ps:=["_law_e","_law_bound_here","_law_met"]) fun _ _ _ _ _ _=>Z3r fun _ _ _=>rfl
 have m30:=PySem.W.mg_of X G a30
 have F31:=Z11 (st:=Zj1) l31 c31 k31
 have b31:=F31.binds (ps:=["_law_one","_law_other"]) fun _ _ _ _ _ _=>Z2z fun _ _=>rfl
 have m31:=PySem.W.mg_of X G a31
 have F32:=Z11 (st:=Zk1) l32 c32 k32
 have b32:=F32.binds (ps:=["_law_e"]) fun _ _ _ _ _ _=>Z2f fun _=>rfl
 have m32:=PySem.W.mg_of X G a32
 have F33:=Z11 (st:=Z3n) l33 c33 k33
 have b33:=F33.binds (ps:=["_law_feed_here","_law_e","_law_calls"]) fun _ _ _ _ _ _=>Z3r fun _ _ _=>rfl
 have m33:=PySem.W.mg_of X G a33
 have F34:=Z11 (st:=Z5n) l34 c34 k34
 have b34:=F34.binds (ps:=["_law_feed_here","_law_one","_law_names_here","_law_world_here"]) fun _ _ _ _ _ _=>Zgp fun _ _ _ _=>rfl
 have m34:=PySem.W.mg_of X G a34
 have F35:=Z11 (st:=Zan) l35 c35 k35
 have b35:=F35.binds (ps:=["_law_names_here"]) fun _ _ _ _ _ _=>Z2f fun _=>rfl
 have m35:=PySem.W.mg_of X G a35
 have F36:=Z11 (st:=Zdt) l36 c36 k36
 have z_isinstance:=PySem.W.mg_none_of X G q_isinstance
 have z_int:=PySem.W.mg_none_of X G q_int
 have z_bool:=PySem.W.mg_none_of X G q_bool
 have z_tuple:=PySem.W.mg_none_of X G q_tuple
 have z_len:=PySem.W.mg_none_of X G q_len
 have z_list:=PySem.W.mg_none_of X G q_list
 have z_range:=PySem.W.mg_none_of X G q_range
 have z_sum:=PySem.W.mg_none_of X G q_sum
 have z_all:=PySem.W.mg_none_of X G q_all
 have z_dict:=PySem.W.mg_none_of X G q_dict
 have z_repr:=PySem.W.mg_none_of X G q_repr
 have z_enumerate:=PySem.W.mg_none_of X G q_enumerate
 have z_max:=PySem.W.mg_none_of X G q_max
 have z_zip:=PySem.W.mg_none_of X G q_zip
 have T0:Txt0 mg:=⟨z_len,z_list,z_range⟩
 have T:TxtT mg:=⟨z_isinstance,z_int,z_bool,z_tuple,z_len⟩
 have KI:Kits K:=Zlf kt_NoneType_int kt_bool_int kt_int_int kt_str_int kt_tuple_int kt_list_int kt_NoneType_bool kt_bool_bool kt_int_bool kt_str_bool kt_tuple_bool kt_list_bool kt_NoneType_tuple kt_bool_tuple kt_int_tuple kt_str_tuple kt_tuple_tuple kt_list_tuple
 have TD:TxtD mg:=⟨⟨_,PySem.W.mg_of X G gN⟩,⟨_,PySem.W.mg_of X G gO⟩,⟨_,PySem.W.mg_of X G gC⟩⟩
 have U:Helpers K mg f11 f13 _ _:=⟨T0,F11,b11,m11,F13,b13,m13⟩
 have HWW:HW K mg f16 f17 _ _:=⟨T,KI,F16,b16,m16,F17,b17,m17⟩
 have HOO:HOw K mg f1 f2 f3 _ _ _:=⟨T,TD,KI,F1,b1,m1,F2,b2,m2,F3,b3,m3⟩
 have SS0:Shp K mg ⟨f1,f2,f3,f4,f5,f0,f6,f7,f8,_,_,_,_,_,_,_,_,_⟩:=⟨HOO,⟨F4,b4,m4⟩,⟨F5,b5,m5⟩,⟨F0,b0,m0⟩,⟨F6,b6,m6⟩,⟨F7,b7,m7⟩,⟨F8,b8,m8⟩,z_enumerate⟩
 have GG:Gen K mg ⟨f11,f13,f12,f21,f16,f17,f18,f19,f20,f22,f23,_,_,_,_,_,_,_,_,_,_,_⟩:=⟨U,HWW,⟨F12,b12,m12⟩,⟨F21,b21,m21⟩,⟨F18,b18,m18⟩,⟨F19,b19,m19⟩,⟨F20,b20,m20⟩,⟨F22,b22,m22⟩,⟨F23,b23,m23⟩,z_sum,z_all⟩
 have EE:Exp K mg ⟨_,f27,f25,f26,f24,_,_,_,_⟩:=⟨GG,⟨F27,b27,m27⟩,⟨F25,b25,m25⟩,⟨F26,b26,m26⟩,⟨F24,b24,m24⟩,z_dict⟩
 have LL:Lw K mg ⟨_,_,f10,f15,f14,f28,f29,f9,f31,f30,f35,f34,f33,f32,_,_,_,_,_,_,_,_,_,_,_,_⟩:=⟨EE,SS0,⟨F10,b10,m10⟩,⟨F15,b15,m15⟩,⟨F14,b14,m14⟩,⟨F28,b28,m28⟩,⟨F29,b29,m29⟩,⟨F9,b9,m9⟩,⟨F31,b31,m31⟩,⟨F30,b30,m30⟩,⟨F35,b35,m35⟩,⟨F34,b34,m34⟩,⟨F33,b33,m33⟩,⟨F32,b32,m32⟩,z_max,z_repr,z_zip⟩
 refine⟨PySem.W.fnOf "law" "law" (Z0q Zdt) (Z0p Zdt) (Z06 Zdt) .none kV36 dc36 pm36 an36 cd36 ct36,fun s v=>.of_eq rfl,fun base _ _=>?_⟩
 exact Znn F36 LL
theorem walk {l:PySem.W.OpenLaw}{q:Program}{loose:List Str}{XP:(Str->Option Value)->Heap->Prop}{YP:World->Heap->Prop}{d:DefRec}{K:Params->PySem.W.Frag}(hn:l.most=some 63)(hdf:d.params.defaults = [])
  (hY:∀(w:World) (h:Heap),YP w h->(K w.params).In h)
  (F:∀(w:World) (mg:Str->Option Value) (fa:Addr) (h:Heap),(K w.params).In h->h.Ns mainGlobals mg->mg d.name=some (.ref fa) →
   ∃fd:FuncData,(∀(s:Shared) (u:Value),BindsTo s fd ⟨[u],[]⟩ [("_law_script",u)])/\∀base:Heap,(K w.params).In base->base.Ns mainGlobals mg->FnOk l.prog w (K w.params) mg base CX0 30 fa fd ["_law_script"] (Zin (K w.params))):
  PySem.W.WalkO q loose XP YP l.row.toRowW d [] (fun f vs=>PySem.call f vs):=
 L2.walk_of (n:=63) (k:=30) (x:="_law_script") (CX:=fun _=>CX0) (sp:=fun w=>Zin (K w.params)) hn (by decide) hdf ⟨rfl,rfl,by decide,by decide⟩ hY F (fun _ _ a ns hl _ hS=>⟨a,ns,rfl,hS,hl,fun _=>rfl⟩) fun _ _ _ _ _ z=>z
end K13
open PySem PySem.W PyProof.Rows
set_option maxRecDepth 100000 in
set_option maxHeartbeats 0 in
theorem PySem.Challenge.cw_likepieces_k13_alike_or_not_holds : PySem.Challenge.rw_likepieces_k13_alike_or_not.Holds := by
 w_on
 refine holds_law K13.hdS fun sd=>?_
 refine holds_open (q:=K13.hdQ) (loose:=K13.hdL) (Yf:=K13.hdH.obs) (Ya:=K13.hdH.val)
  (XP:=XL K13.hdQ []) (YP:=InK K13.hdK) (N:=K13.hdN) K13.hdT K13.hdH.of
  K13.hdH.keeps (fun s e=>xl_of s (Bool.and_eq_true_iff.mp e).1) XL.keeps (by rfl) (by rfl)
  (by rfl) (fun s e=>recFacts_of (Bool.and_eq_true_iff.mp e).2) (by rfl) sd (by decide+kernel)
  ⟨rfl,rfl,rfl,rfl,rfl,by decide+kernel⟩ ?hw ?hc
 (case hw=>w_witness2)
 k_fill
 refine K13.walk (l:=PySem.Challenge.rw_likepieces_k13_alike_or_not) rfl rfl (K:=K13.hdK) (fun w h Y=>Y) ?F
 case F=>
  intro w mg fa h KX G hmg
  refine' K13.all_mk KX G hmg ?a0 ?l0 ?c0 ?k0 ?a1 ?l1 ?c1 ?k1 ?a2 ?l2 ?c2 ?k2 ?a3 ?l3 ?c3 ?k3 ?a4 ?l4 ?c4 ?k4 ?a5 ?l5 ?c5 ?k5 ?a6 ?l6 ?c6 ?k6 ?a7 ?l7 ?c7 ?k7 ?a8 ?l8 ?c8 ?k8 ?a9 ?l9 ?c9 ?k9 ?a10 ?l10 ?c10 ?k10 ?a11 ?l11 ?c11 ?k11 ?a12 ?l12 ?c12 ?k12 ?a13 ?l13 ?c13 ?k13 ?a14 ?l14 ?c14 ?k14 ?a15 ?l15 ?c15 ?k15 ?a16 ?l16 ?c16 ?k16 ?a17 ?l17 ?c17 ?k17 ?a18 ?l18 ?c18 ?k18 ?a19 ?l19 ?c19 ?k19 ?a20 ?l20 ?c20 ?k20 ?a21 ?l21 ?c21 ?k21 ?a22 ?l22 ?c22 ?k22 ?a23 ?l23 ?c23 ?k23 ?a24 ?l24 ?c24 ?k24 ?a25 ?l25 ?c25 ?k25 ?a26 ?l26 ?c26 ?k26 ?a27 ?l27 ?c27 ?k27 ?a28 ?l28 ?c28 ?k28 ?a29 ?l29 ?c29 ?k29 ?a30 ?l30 ?c30 ?k30 ?a31 ?l31 ?c31 ?k31 ?a32 ?l32 ?c32 ?k32 ?a33 ?l33 ?c33 ?k33 ?a34 ?l34 ?c34 ?k34 ?a35 ?l35 ?c35 ?k35 ?a36 ?l36 ?c36 ?k36 ?q_isinstance ?q_int ?q_bool ?q_tuple ?q_len ?q_list ?q_range ?q_sum ?q_all ?q_dict ?q_repr ?q_enumerate ?q_max ?q_zip ?gN ?gO ?gC ?kt_NoneType_int ?kt_bool_int ?kt_int_int ?kt_str_int ?kt_tuple_int ?kt_list_int ?kt_NoneType_bool ?kt_bool_bool ?kt_int_bool ?kt_str_bool ?kt_tuple_bool ?kt_list_bool ?kt_NoneType_tuple ?kt_bool_tuple ?kt_int_tuple ?kt_str_tuple ?kt_tuple_tuple ?kt_list_tuple
  all_goals first|unfold K13.hA|unfold K13.hL|unfold K13.hC|unfold K13.hP|unfold K13.hZ|unfold K13.hI|skip
  (case a0|l0|c0|k0|a1|l1|c1|k1|a2|l2|c2|k2|a3|l3|c3|k3|a4|l4|c4|k4|a5|l5|c5|k5|a6|l6|c6|k6|a7|l7|c7|k7|a8|l8|c8|k8|a9|l9|c9|k9|a10|l10|c10|k10|a11|l11|c11|k11|a12|l12|c12|k12|a13|l13|c13|k13|a14|l14|c14|k14|a15|l15|c15|k15|a16|l16|c16|k16|a17|l17|c17|k17|a18|l18|c18|k18|a19|l19|c19|k19|a20|l20|c20|k20|a21|l21|c21|k21|a22|l22|c22|k22|a23|l23|c23|k23|a24|l24|c24|k24|a25|l25|c25|k25|a26|l26|c26|k26|a27|l27|c27|k27|a28|l28|c28|k28|a29|l29|c29|k29|a30|l30|c30|k30|a31|l31|c31|k31|a32|l32|c32|k32|a33|l33|c33|k33|a34|l34|c34|k34|a35|l35|c35|k35|a36|l36|c36|k36|q_isinstance|q_int|q_bool|q_tuple|q_len|q_list|q_range|q_sum|q_all|q_dict|q_repr|q_enumerate|q_max|q_zip|gN|gO|gC=>k_is)
  (case kt_NoneType_int|kt_bool_int|kt_int_int|kt_str_int|kt_tuple_int|kt_list_int|kt_NoneType_bool|kt_bool_bool|kt_int_bool|kt_str_bool|kt_tuple_bool|kt_list_bool|kt_NoneType_tuple|kt_bool_tuple|kt_int_tuple|kt_str_tuple|kt_tuple_tuple|kt_list_tuple=>first|k_is|rfl|decide)
