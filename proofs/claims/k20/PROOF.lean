import PyProof.Rows.All
import Wide.All
import OpenK.AllK
import Wide.FinOn
import Lean
import PyProof.EqAt
import PyProof.EqKinds
import PyProof.TupleCall
import PyProof.NeKinds
import PyProof.Rows.SortStr
import PyProof.Rows.SeqMore
import PyProof.Rows.CatFin
import PyProof.MeetsStr
import PyProof.Rows.SumAny
import PyProof.Rows.SortShell
import PyProof.Rows.SetFrom
import PyProof.DictWalks
import PyProof.Rows.SortReads
import KE.KDictSum
import PyProof.ZipIter
import PyProof.Rows.ZipGen
import PySem.Challenge.RW_likepieces_k20_whole_each_other_is_got
import PyProof.TupleOfGen
import PyProof.TupleOfStr
import KE.KIsAll
set_option Elab.async false
set_option linter.all false
set_option maxRecDepth 100000
set_option maxHeartbeats 4000000
namespace L2
open PySem
def Z0t (s:Stmt):Arguments:=match s with
 | .FunctionDef _ a _ _ _ _ _ _ _ _=>a
 | _=>{ posonlyargs := [],args := [],vararg:=none,kwonlyargs := [],kw_defaults := [],kwarg:=none,defaults := [] }
def Z0r (s:Stmt):List Stmt:=match s with
 | .FunctionDef _ _ b _ _ _ _ _ _ _=>b
 | _ => []
def Z05 (s:Stmt):Scope:=match s with
 | .FunctionDef _ _ _ _ _ _ sc _ _ _=>sc
 | _=>{ kind := .function,names := [],isGenerator:=false,isCoroutine:=false }
end L2
namespace K20
open PySem L2
def top (i:Nat):Stmt:=PySem.Challenge.pw_likepieces_k20_whole_each_other_is_got.main.body.getD i (.Pass ⟨0,0,0,0⟩)
abbrev eT:Obj:=⟨(.type "tuple"),none,(.seq #[] 0),#[]⟩
abbrev eF (n:Str)(i:Nat)(r:Addr):Obj:=⟨(.type "function"),none,(.func (PySem.W.fnOf n n (Z0t (top i)) (Z0r (top i)) (Z05 (top i)) .none .none .none (.str "likepieces.trees" 187) none (.ref r) .none)),#[]⟩
abbrev eC (n:Str)(a b c:Tok)(l k f:Int)(r s:Addr)(v w:Value)(t:Addr)(m:Int)(d:Tok):Obj:=⟨(.type "code"),none,(.fields #[(.str n a),(.str n b),(.str "/claim/cut.py" c),(.int l 0),(.int k 0),(.int 0 0),(.int 0 0),(.int f 0),(.ref r),(.bool true),(.int 181 0),(.ref s),.none,v,w,(.ref t),(.int m 0),(.int l 0),(.str "/claim/cut.py" d)]),#[]⟩
def hdQ:Program:={ PySem.Challenge.pw_likepieces_k20_whole_each_other_is_got with main:={ PySem.Challenge.pw_likepieces_k20_whole_each_other_is_got.main with body := [top 1,top 2,top 3,top 4,top 5,top 6,top 7,top 8,top 10,top 11,top 12,top 13,top 15,top 16,top 17,top 18,top 19,top 20,top 21,top 22,top 23,top 24,top 25,top 26,top 27,top 28,top 29,top 30,top 31,top 32,top 33,top 34,top 35,top 36] } }
def hdK:Params->PySem.W.Frag:=fun P =>
 (nat_lit 2,⟨.none,none,(.dict #[] 0),#[]⟩) ::
 (nat_lit 3,⟨(.type "dict"),none,(.dict #[⟨(PySem.PyData.keyHash P "__name__"),(.str "__name__" 165),(.str "law_likepieces_k20_whole_each_other_is_got" 257)⟩,⟨(PySem.PyData.keyHash P "__doc__"),(.str "__doc__" 166),.none⟩,⟨(PySem.PyData.keyHash P "__package__"),(.str "__package__" 167),.none⟩,⟨(PySem.PyData.keyHash P "__loader__"),(.str "__loader__" 168),(.builtin "__main__.__loader__#opaque")⟩,⟨(PySem.PyData.keyHash P "__spec__"),(.str "__spec__" 169),.none⟩,⟨(PySem.PyData.keyHash P "__annotations__"),(.str "__annotations__" 170),(.ref 6)⟩,⟨(PySem.PyData.keyHash P "__builtins__"),(.str "__builtins__" 171),(.ref 4)⟩,⟨(PySem.PyData.keyHash P "__file__"),(.str "__file__" 173),(.str "/claim/cut.py" 172)⟩,⟨(PySem.PyData.keyHash P "__cached__"),(.str "__cached__" 174),.none⟩,⟨(PySem.PyData.keyHash P "NODE"),(.str "NODE" 190),(.str "node" 189)⟩,⟨(PySem.PyData.keyHash P "OPENED"),(.str "OPENED" 192),(.str "opened" 191)⟩,⟨(PySem.PyData.keyHash P "CLOSED"),(.str "CLOSED" 194),(.str "closed" 193)⟩,⟨(PySem.PyData.keyHash P "head"),(.str "head" 200),(.ref 19)⟩,⟨(PySem.PyData.keyHash P "parts"),(.str "parts" 206),(.ref 24)⟩,⟨(PySem.PyData.keyHash P "steps"),(.str "steps" 212),(.ref 29)⟩,⟨(PySem.PyData.keyHash P "flat"),(.str "flat" 218),(.ref 34)⟩,⟨(PySem.PyData.keyHash P "built"),(.str "built" 230),(.ref 41)⟩,⟨(PySem.PyData.keyHash P "headed_alike"),(.str "headed_alike" 238),(.ref 46)⟩,⟨(PySem.PyData.keyHash P "got"),(.str "got" 244),(.ref 51)⟩,⟨(PySem.PyData.keyHash P "parts_together"),(.str "parts_together" 250),(.ref 56)⟩,⟨(PySem.PyData.keyHash P "most_shared"),(.str "most_shared" 256),(.ref 61)⟩,⟨(PySem.PyData.keyHash P "_law_feed"),(.str "_law_feed" 265),(.ref 68)⟩,⟨(PySem.PyData.keyHash P "_law_draw"),(.str "_law_draw" 277),(.ref 75)⟩,⟨(PySem.PyData.keyHash P "_law_value"),(.str "_law_value" 285),(.ref 82)⟩,⟨(PySem.PyData.keyHash P "_law_spelled"),(.str "_law_spelled" 295),(.ref 89)⟩,⟨(PySem.PyData.keyHash P "_law_name"),(.str "_law_name" 310),(.ref 96)⟩,⟨(PySem.PyData.keyHash P "_law_names"),(.str "_law_names" 320),(.ref 103)⟩,⟨(PySem.PyData.keyHash P "_law_parts"),(.str "_law_parts" 326),(.ref 108)⟩,⟨(PySem.PyData.keyHash P "_law_with"),(.str "_law_with" 332),(.ref 113)⟩,⟨(PySem.PyData.keyHash P "_law_nodes"),(.str "_law_nodes" 338),(.ref 118)⟩,⟨(PySem.PyData.keyHash P "_law_same"),(.str "_law_same" 344),(.ref 123)⟩,⟨(PySem.PyData.keyHash P "_law_world"),(.str "_law_world" 354),(.ref 130)⟩,⟨(PySem.PyData.keyHash P "_law_leaf"),(.str "_law_leaf" 364),(.ref 137)⟩,⟨(PySem.PyData.keyHash P "_law_form"),(.str "_law_form" 370),(.ref 142)⟩,⟨(PySem.PyData.keyHash P "_law_turned_about"),(.str "_law_turned_about" 376),(.ref 147)⟩,⟨(PySem.PyData.keyHash P "_law_fill"),(.str "_law_fill" 382),(.ref 152)⟩,⟨(PySem.PyData.keyHash P "_law_kin"),(.str "_law_kin" 388),(.ref 157)⟩,⟨(PySem.PyData.keyHash P "_law_leaves"),(.str "_law_leaves" 397),(.ref 164)⟩,⟨(PySem.PyData.keyHash P "_law_leafed"),(.str "_law_leafed" 403),(.ref 169)⟩,⟨(PySem.PyData.keyHash P "_law_kindred"),(.str "_law_kindred" 419),(.ref 176)⟩,⟨(PySem.PyData.keyHash P "_law_headed"),(.str "_law_headed" 428),(.ref 183)⟩,⟨(PySem.PyData.keyHash P "_law_less"),(.str "_law_less" 434),(.ref 188)⟩,⟨(PySem.PyData.keyHash P "law"),(.str "law" 440),(.ref 193)⟩] 43),#[]⟩) ::
 (nat_lit 15,eT) ::
 (nat_lit 18,eC "head" 195 196 197 5 1 3 15 16 .none .none 17 198 199) ::
 (nat_lit 19,eF "head" 4 18) ::
 (nat_lit 20,eT) ::
 (nat_lit 23,eC "parts" 201 202 203 7 1 3 20 21 .none .none 22 204 205) ::
 (nat_lit 24,eF "parts" 5 23) ::
 (nat_lit 25,eT) ::
 (nat_lit 28,eC "steps" 207 208 209 9 1 3 25 26 .none .none 27 210 211) ::
 (nat_lit 29,eF "steps" 6 28) ::
 (nat_lit 30,eT) ::
 (nat_lit 33,eC "flat" 213 214 215 21 1 3 30 31 .none .none 32 216 217) ::
 (nat_lit 34,eF "flat" 7 33) ::
 (nat_lit 35,eT) ::
 (nat_lit 37,⟨(.type "tuple"),none,(.seq #[(.str "rows" 222),(.str "done" 223),(.str "lead" 224),(.str "many" 225),(.str "start" 226),(.str "inner" 227)] 0),#[]⟩) ::
 (nat_lit 38,eT) ::
 (nat_lit 40,eC "built" 219 220 221 23 1 3 35 36 (.ref 37) (.ref 38) 39 228 229) ::
 (nat_lit 41,eF "built" 8 40) ::
 (nat_lit 42,eT) ::
 (nat_lit 45,eC "headed_alike" 233 234 235 32 1 3 42 43 .none .none 44 236 237) ::
 (nat_lit 46,⟨(.type "function"),none,(.func (PySem.W.fnOf "headed_alike" "headed_alike" (Z0t (top 10)) (Z0r (top 10)) (Z05 (top 10)) .none .none .none (.str "likepieces.patterns" 231) none (.ref 45) .none)),#[]⟩) ::
 (nat_lit 47,eT) ::
 (nat_lit 50,eC "got" 239 240 241 35 2 3 47 48 .none .none 49 242 243) ::
 (nat_lit 51,⟨(.type "function"),none,(.func (PySem.W.fnOf "got" "got" (Z0t (top 11)) (Z0r (top 11)) (Z05 (top 11)) .none .none .none (.str "likepieces.patterns" 231) none (.ref 50) .none)),#[]⟩) ::
 (nat_lit 52,eT) ::
 (nat_lit 55,eC "parts_together" 245 246 247 51 1 3 52 53 .none .none 54 248 249) ::
 (nat_lit 56,⟨(.type "function"),none,(.func (PySem.W.fnOf "parts_together" "parts_together" (Z0t (top 12)) (Z0r (top 12)) (Z05 (top 12)) .none .none .none (.str "likepieces.patterns" 231) none (.ref 55) .none)),#[]⟩) ::
 (nat_lit 57,eT) ::
 (nat_lit 60,eC "most_shared" 251 252 253 54 1 3 57 58 .none .none 59 254 255) ::
 (nat_lit 61,⟨(.type "function"),none,(.func (PySem.W.fnOf "most_shared" "most_shared" (Z0t (top 13)) (Z0r (top 13)) (Z05 (top 13)) .none .none .none (.str "likepieces.patterns" 231) none (.ref 60) .none)),#[]⟩) ::
 (nat_lit 62,eT) ::
 (nat_lit 64,⟨(.type "tuple"),none,(.seq #[(.str "_law_script" 262)] 0),#[]⟩) ::
 (nat_lit 65,eT) ::
 (nat_lit 67,eC "_law_feed" 259 260 261 73 1 3 62 63 (.ref 64) (.ref 65) 66 263 264) ::
 (nat_lit 68,⟨(.type "function"),none,(.func (PySem.W.fnOf "_law_feed" "_law_feed" (Z0t (top 15)) (Z0r (top 15)) (Z05 (top 15)) .none .none .none (.str "law_likepieces_k20_whole_each_other_is_got" 257) none (.ref 67) .none)),#[]⟩) ::
 (nat_lit 69,eT) ::
 (nat_lit 71,⟨(.type "tuple"),none,(.seq #[(.str "_law_feed_here" 269),(.str "_law_many" 270),(.str "_law_found" 271),(.str "_law_at" 272),(.str "_law_cell" 273),(.str "_law_number" 274)] 0),#[]⟩) ::
 (nat_lit 72,eT) ::
 (nat_lit 74,eC "_law_draw" 266 267 268 75 2 3 69 70 (.ref 71) (.ref 72) 73 275 276) ::
 (nat_lit 75,⟨(.type "function"),none,(.func (PySem.W.fnOf "_law_draw" "_law_draw" (Z0t (top 16)) (Z0r (top 16)) (Z05 (top 16)) .none .none .none (.str "law_likepieces_k20_whole_each_other_is_got" 257) none (.ref 74) .none)),#[]⟩) ::
 (nat_lit 76,eT) ::
 (nat_lit 78,⟨(.type "tuple"),none,(.seq #[(.str "_law_feed_here" 281),(.str "_law_way" 282)] 0),#[]⟩) ::
 (nat_lit 79,eT) ::
 (nat_lit 81,eC "_law_value" 278 279 280 92 1 3 76 77 (.ref 78) (.ref 79) 80 283 284) ::
 (nat_lit 82,⟨(.type "function"),none,(.func (PySem.W.fnOf "_law_value" "_law_value" (Z0t (top 17)) (Z0r (top 17)) (Z05 (top 17)) .none .none .none (.str "law_likepieces_k20_whole_each_other_is_got" 257) none (.ref 81) .none)),#[]⟩) ::
 (nat_lit 83,eT) ::
 (nat_lit 85,⟨(.type "tuple"),none,(.seq #[(.str "_law_number" 289),(.str "_law_long" 290),(.str "_law_word" 291),(.str "_law_k" 292)] 0),#[]⟩) ::
 (nat_lit 86,eT) ::
 (nat_lit 88,eC "_law_spelled" 286 287 288 99 2 3 83 84 (.ref 85) (.ref 86) 87 293 294) ::
 (nat_lit 89,⟨(.type "function"),none,(.func (PySem.W.fnOf "_law_spelled" "_law_spelled" (Z0t (top 18)) (Z0r (top 18)) (Z05 (top 18)) .none .none .none (.str "law_likepieces_k20_whole_each_other_is_got" 257) none (.ref 88) .none)),#[]⟩) ::
 (nat_lit 90,eT) ::
 (nat_lit 92,⟨(.type "tuple"),none,(.seq #[(.str "_law_feed_here" 299),(.str "_law_taken" 300),(.str "_law_words" 301),(.str "_law_way" 302),(.str "_law_long" 303),(.str "_law_number" 304),(.str "_law_name_here" 305),(.str "_law_word" 306),(.str "_law_at" 307)] 0),#[]⟩) ::
 (nat_lit 93,eT) ::
 (nat_lit 95,eC "_law_name" 296 297 298 105 2 3 90 91 (.ref 92) (.ref 93) 94 308 309) ::
 (nat_lit 96,⟨(.type "function"),none,(.func (PySem.W.fnOf "_law_name" "_law_name" (Z0t (top 19)) (Z0r (top 19)) (Z05 (top 19)) .none .none .none (.str "law_likepieces_k20_whole_each_other_is_got" 257) none (.ref 95) .none)),#[]⟩) ::
 (nat_lit 97,eT) ::
 (nat_lit 99,⟨(.type "tuple"),none,(.seq #[(.str "_law_feed_here" 314),(.str "_law_many" 315),(.str "_law_names_here" 316),(.str "_law_k" 317)] 0),#[]⟩) ::
 (nat_lit 100,eT) ::
 (nat_lit 102,eC "_law_names" 311 312 313 125 2 3 97 98 (.ref 99) (.ref 100) 101 318 319) ::
 (nat_lit 103,⟨(.type "function"),none,(.func (PySem.W.fnOf "_law_names" "_law_names" (Z0t (top 20)) (Z0r (top 20)) (Z05 (top 20)) .none .none .none (.str "law_likepieces_k20_whole_each_other_is_got" 257) none (.ref 102) .none)),#[]⟩) ::
 (nat_lit 104,eT) ::
 (nat_lit 107,eC "_law_parts" 321 322 323 130 1 3 104 105 .none .none 106 324 325) ::
 (nat_lit 108,⟨(.type "function"),none,(.func (PySem.W.fnOf "_law_parts" "_law_parts" (Z0t (top 21)) (Z0r (top 21)) (Z05 (top 21)) .none .none .none (.str "law_likepieces_k20_whole_each_other_is_got" 257) none (.ref 107) .none)),#[]⟩) ::
 (nat_lit 109,eT) ::
 (nat_lit 112,eC "_law_with" 327 328 329 132 2 3 109 110 .none .none 111 330 331) ::
 (nat_lit 113,⟨(.type "function"),none,(.func (PySem.W.fnOf "_law_with" "_law_with" (Z0t (top 22)) (Z0r (top 22)) (Z05 (top 22)) .none .none .none (.str "law_likepieces_k20_whole_each_other_is_got" 257) none (.ref 112) .none)),#[]⟩) ::
 (nat_lit 114,eT) ::
 (nat_lit 117,eC "_law_nodes" 333 334 335 134 1 3 114 115 .none .none 116 336 337) ::
 (nat_lit 118,⟨(.type "function"),none,(.func (PySem.W.fnOf "_law_nodes" "_law_nodes" (Z0t (top 23)) (Z0r (top 23)) (Z05 (top 23)) .none .none .none (.str "law_likepieces_k20_whole_each_other_is_got" 257) none (.ref 117) .none)),#[]⟩) ::
 (nat_lit 119,eT) ::
 (nat_lit 122,eC "_law_same" 339 340 341 136 2 3 119 120 .none .none 121 342 343) ::
 (nat_lit 123,⟨(.type "function"),none,(.func (PySem.W.fnOf "_law_same" "_law_same" (Z0t (top 24)) (Z0r (top 24)) (Z05 (top 24)) .none .none .none (.str "law_likepieces_k20_whole_each_other_is_got" 257) none (.ref 122) .none)),#[]⟩) ::
 (nat_lit 124,eT) ::
 (nat_lit 126,⟨(.type "tuple"),none,(.seq #[(.str "_law_names_here" 348),(.str "_law_room" 349),(.str "_law_holes" 350),(.str "_law_astray" 351)] 0),#[]⟩) ::
 (nat_lit 127,eT) ::
 (nat_lit 129,eC "_law_world" 345 346 347 142 4 3 124 125 (.ref 126) (.ref 127) 128 352 353) ::
 (nat_lit 130,⟨(.type "function"),none,(.func (PySem.W.fnOf "_law_world" "_law_world" (Z0t (top 25)) (Z0r (top 25)) (Z05 (top 25)) .none .none .none (.str "law_likepieces_k20_whole_each_other_is_got" 257) none (.ref 129) .none)),#[]⟩) ::
 (nat_lit 131,eT) ::
 (nat_lit 133,⟨(.type "tuple"),none,(.seq #[(.str "_law_feed_here" 358),(.str "_law_world_here" 359),(.str "_law_lets" 360),(.str "_law_way" 361)] 0),#[]⟩) ::
 (nat_lit 134,eT) ::
 (nat_lit 136,eC "_law_leaf" 355 356 357 144 3 3 131 132 (.ref 133) (.ref 134) 135 362 363) ::
 (nat_lit 137,⟨(.type "function"),none,(.func (PySem.W.fnOf "_law_leaf" "_law_leaf" (Z0t (top 26)) (Z0r (top 26)) (Z05 (top 26)) .none .none .none (.str "law_likepieces_k20_whole_each_other_is_got" 257) none (.ref 136) .none)),#[]⟩) ::
 (nat_lit 138,eT) ::
 (nat_lit 141,eC "_law_form" 365 366 367 155 4 3 138 139 .none .none 140 368 369) ::
 (nat_lit 142,⟨(.type "function"),none,(.func (PySem.W.fnOf "_law_form" "_law_form" (Z0t (top 27)) (Z0r (top 27)) (Z05 (top 27)) .none .none .none (.str "law_likepieces_k20_whole_each_other_is_got" 257) none (.ref 141) .none)),#[]⟩) ::
 (nat_lit 143,eT) ::
 (nat_lit 146,eC "_law_turned_about" 371 372 373 187 2 3 143 144 .none .none 145 374 375) ::
 (nat_lit 147,⟨(.type "function"),none,(.func (PySem.W.fnOf "_law_turned_about" "_law_turned_about" (Z0t (top 28)) (Z0r (top 28)) (Z05 (top 28)) .none .none .none (.str "law_likepieces_k20_whole_each_other_is_got" 257) none (.ref 146) .none)),#[]⟩) ::
 (nat_lit 148,eT) ::
 (nat_lit 151,eC "_law_fill" 377 378 379 191 2 3 148 149 .none .none 150 380 381) ::
 (nat_lit 152,⟨(.type "function"),none,(.func (PySem.W.fnOf "_law_fill" "_law_fill" (Z0t (top 29)) (Z0r (top 29)) (Z05 (top 29)) .none .none .none (.str "law_likepieces_k20_whole_each_other_is_got" 257) none (.ref 151) .none)),#[]⟩) ::
 (nat_lit 153,eT) ::
 (nat_lit 156,eC "_law_kin" 383 384 385 195 5 3 153 154 .none .none 155 386 387) ::
 (nat_lit 157,⟨(.type "function"),none,(.func (PySem.W.fnOf "_law_kin" "_law_kin" (Z0t (top 30)) (Z0r (top 30)) (Z05 (top 30)) .none .none .none (.str "law_likepieces_k20_whole_each_other_is_got" 257) none (.ref 156) .none)),#[]⟩) ::
 (nat_lit 158,eT) ::
 (nat_lit 160,⟨(.type "tuple"),none,(.seq #[(.str "_law_b" 392),(.str "_law_found" 393),(.str "_law_one" 394)] 0),#[]⟩) ::
 (nat_lit 161,eT) ::
 (nat_lit 163,eC "_law_leaves" 389 390 391 210 1 3 158 159 (.ref 160) (.ref 161) 162 395 396) ::
 (nat_lit 164,⟨(.type "function"),none,(.func (PySem.W.fnOf "_law_leaves" "_law_leaves" (Z0t (top 31)) (Z0r (top 31)) (Z05 (top 31)) .none .none .none (.str "law_likepieces_k20_whole_each_other_is_got" 257) none (.ref 163) .none)),#[]⟩) ::
 (nat_lit 165,eT) ::
 (nat_lit 168,eC "_law_leafed" 398 399 400 215 3 3 165 166 .none .none 167 401 402) ::
 (nat_lit 169,⟨(.type "function"),none,(.func (PySem.W.fnOf "_law_leafed" "_law_leafed" (Z0t (top 32)) (Z0r (top 32)) (Z05 (top 32)) .none .none .none (.str "law_likepieces_k20_whole_each_other_is_got" 257) none (.ref 168) .none)),#[]⟩) ::
 (nat_lit 170,eT) ::
 (nat_lit 172,⟨(.type "tuple"),none,(.seq #[(.str "_law_feed_here" 407),(.str "_law_names_here" 408),(.str "_law_many" 409),(.str "_law_world_here" 410),(.str "_law_k" 411),(.str "_law_found" 412),(.str "_law_base" 413),(.str "_law_more" 414),(.str "_law_some" 415),(.str "_law_leaf_here" 416)] 0),#[]⟩) ::
 (nat_lit 173,eT) ::
 (nat_lit 175,eC "_law_kindred" 404 405 406 219 3 3 170 171 (.ref 172) (.ref 173) 174 417 418) ::
 (nat_lit 176,⟨(.type "function"),none,(.func (PySem.W.fnOf "_law_kindred" "_law_kindred" (Z0t (top 33)) (Z0r (top 33)) (Z05 (top 33)) .none .none .none (.str "law_likepieces_k20_whole_each_other_is_got" 257) none (.ref 175) .none)),#[]⟩) ::
 (nat_lit 177,eT) ::
 (nat_lit 179,⟨(.type "tuple"),none,(.seq #[(.str "_law_forms" 423),(.str "_law_inner" 424),(.str "_law_other" 425)] 0),#[]⟩) ::
 (nat_lit 180,eT) ::
 (nat_lit 182,eC "_law_headed" 420 421 422 235 1 3 177 178 (.ref 179) (.ref 180) 181 426 427) ::
 (nat_lit 183,⟨(.type "function"),none,(.func (PySem.W.fnOf "_law_headed" "_law_headed" (Z0t (top 34)) (Z0r (top 34)) (Z05 (top 34)) .none .none .none (.str "law_likepieces_k20_whole_each_other_is_got" 257) none (.ref 182) .none)),#[]⟩) ::
 (nat_lit 184,eT) ::
 (nat_lit 187,eC "_law_less" 429 430 431 241 3 3 184 185 .none .none 186 432 433) ::
 (nat_lit 188,⟨(.type "function"),none,(.func (PySem.W.fnOf "_law_less" "_law_less" (Z0t (top 35)) (Z0r (top 35)) (Z05 (top 35)) .none .none .none (.str "law_likepieces_k20_whole_each_other_is_got" 257) none (.ref 187) .none)),#[]⟩) ::
 (nat_lit 189,eT) ::
 (nat_lit 192,eC "law" 435 436 437 249 1 3 189 190 .none .none 191 438 439) ::
 (nat_lit 193,⟨(.type "function"),none,(.func (PySem.W.fnOf "law" "law" (Z0t (top 36)) (Z0r (top 36)) (Z05 (top 36)) .none .none .none (.str "law_likepieces_k20_whole_each_other_is_got" 257) none (.ref 192) .none)),#[]⟩) :: []
def hdA:List Addr := [2,3,15,18,19,20,23,24,25,28,29,30,33,34,35,37,38,40,41,42,45,46,47,50,51,52,55,56,57,60,61,62,64,65,67,68,69,71,72,74,75,76,78,79,81,82,83,85,86,88,89,90,92,93,95,96,97,99,100,102,103,104,107,108,109,112,113,114,117,118,119,122,123,124,126,127,129,130,131,133,134,136,137,138,141,142,143,146,147,148,151,152,153,156,157,158,160,161,163,164,165,168,169,170,172,173,175,176,177,179,180,182,183,184,187,188,189,192,193]
abbrev hdL:List Str := []
abbrev hdN:Nat:=2006
abbrev hdH:PySem.W.Hook:=PySem.W.kHook hdK hdA (fun _=>by kernel_rfl)
theorem hdS:PySem.Challenge.rw_likepieces_k20_whole_each_other_is_got.wellSaid=true:=by decide +kernel
set_option maxHeartbeats 0 in
open PySem.W.Fast in
theorem hdT:PySem.W.LeftO (PySem.Challenge.rw_likepieces_k20_whole_each_other_is_got).row.toRowW.prog hdQ hdL (fun s=>PySem.W.xlAt hdQ [] s&&PySem.W.recOk (PySem.W.RowW.records (PySem.Challenge.rw_likepieces_k20_whole_each_other_is_got).row.toRowW) s) (PySem.W.Hook.obs hdH) (PySem.W.Hook.val hdH) hdN:=by
 intro w
 unfold PySem.W.openEnds PySem.W.fencedOpening PySem.W.topFrom
 rw[te10274390034422433532,te1435165496053646825,te14289696077712309145,te14082659384304107361,te4187177175401517315,te14364793385576792824,te8920871248978507458,te5923862056798008813]
 kernel_rfl
end K20
namespace L2
open PySem PySem.Spec PyProof.Rows
abbrev Key:=Sum Int Str
def Zc2:Key->Value->Bool
 | .inl k,v=>Value.isInt k v
 | .inr x,v=>Value.isStrOf x v
def Znr (w:World):Key->Int
 | .inl k=>hashInt k
 | .inr x=>hashStr w x
theorem Z16:∀{k:Key} {v:Value},Zc2 k v=true->(∃i t,k=Sum.inl i/\v=Value.int i t)∨(∃x t,k=Sum.inr x/\v=Value.str x t)
 | .inl i,v,h=>by
  obtain⟨t,e⟩:=Value.isInt_shape (k:=i) (v:=v) h
  exact .inl ⟨i,t,rfl,e⟩
 | .inr x,v,h=>by
  obtain⟨t,e⟩:=Value.isStrOf_shape (x:=x) (v:=v) h
  exact .inr ⟨x,t,rfl,e⟩
theorem Zcz (i:Int)(t:Tok):Zc2 (.inl i) (.int i t)=true:=by simp [Zc2,Value.isInt]
theorem Zd0 (x:Str)(t:Tok):Zc2 (.inr x) (.str x t)=true:=by simp [Zc2,Value.isStrOf]
theorem Zk6 (a b:Int):decide ((Sum.inl a:Key)=Sum.inl b)=(a==b):=by
 by_cases e:a=b
 ·subst e;simp
 ·have h:¬ (Sum.inl a:Key)=Sum.inl b:=fun q=>e (Sum.inl.inj q)
  rw[decide_eq_false h]
  exact(beq_eq_false_iff_ne.mpr e).symm
theorem Zk7 (a b:Str):decide ((Sum.inr a:Key)=Sum.inr b)=decide (a=b):=by
 by_cases e:a=b
 ·subst e;simp
 ·have h:¬ (Sum.inr a:Key)=Sum.inr b:=fun q=>e (Sum.inr.inj q)
  rw[decide_eq_false h,decide_eq_false e]
theorem Zk8 (a:Int)(b:Str):decide ((Sum.inl a:Key)=Sum.inr b)=false:=decide_eq_false (fun q=>nomatch q)
theorem Zk9 (a:Str)(b:Int):decide ((Sum.inr a:Key)=Sum.inl b)=false:=decide_eq_false (fun q=>nomatch q)
def Z0v (prog:Program)(w:World):PySem.KeyKind prog w Key where
 is:=Zc2
 hash:=Znr w
 inj:=fun v a b ha hb=>by
  rcases Z16 ha with ⟨i,t,rfl,rfl⟩ | ⟨x,t,rfl,rfl⟩
  ·rcases Z16 hb with ⟨j,u,rfl,e⟩ | ⟨y,u,rfl,e⟩
   ·injection e with e1 _;rw[e1]
   ·exact nomatch e
  ·rcases Z16 hb with ⟨j,u,rfl,e⟩ | ⟨y,u,rfl,e⟩
   ·exact nomatch e
   ·injection e with e1 _;rw[e1]
 byValue:=fun k v h=>by
  rcases Z16 h with ⟨i,t,rfl,rfl⟩ | ⟨x,t,rfl,rfl⟩ <;> rfl
 pyHash:=fun hv h=>by
  rcases Z16 hv with ⟨i,t,rfl,rfl⟩ | ⟨x,t,rfl,rfl⟩
  ·exact wpAny_pyHash_int h
  ·exact wpAny_pyHash_str h
 eqBool:=fun hu hv h=>by
  rcases Z16 hu with ⟨i,t,rfl,rfl⟩ | ⟨x,t,rfl,rfl⟩
  ·rcases Z16 hv with ⟨j,u,rfl,rfl⟩ | ⟨y,u,rfl,rfl⟩
   ·rw[Zk6] at h;exact wpAny_eqBool_int h
   ·rw[Zk8] at h;exact SeqAt.EqAt.int_str i t y u _ _ _ _ h
  ·rcases Z16 hv with ⟨j,u,rfl,rfl⟩ | ⟨y,u,rfl,rfl⟩
   ·rw[Zk9] at h;exact SeqAt.EqAt.str_int x t j u _ _ _ _ h
   ·rw[Zk7] at h;exact wpAny_eqBool_str h
 «strs» := fun k x t v h => by
  rcases Z16 h with ⟨i,u,rfl,e⟩ | ⟨y,u,rfl,e⟩
  ·exact nomatch e
  ·injection e with e1 _
   subst e1
   cases v <;> rfl
theorem Z9u (prog:Program)(w:World)(i:Int)(t:Tok):(Z0v prog w).is (.inl i) (.int i t)=true:=Zcz i t
theorem Z9v (prog:Program)(w:World)(x:Str)(t:Tok):(Z0v prog w).is (.inr x) (.str x t)=true:=Zd0 x t
inductive V where
 | non | bl (b:Bool) | int (i:Int) | str (x:Str) | byt (b:Array UInt8) | flt (b:UInt64) | ref (a:Addr) | ty (n:String)
 deriving DecidableEq
def RelV:V->Value->Prop
 | .non,u=>u=Value.none
 | .bl b,u=>u=Value.bool b
 | .int i,u=>∃t,u=Value.int i t
 | .str x,u=>∃t,u=Value.str x t
 | .byt b,u=>∃t,u=Value.bytes b t
 | .flt b,u=>∃t,u=Value.float b t
 | .ref a,u=>u=Value.ref a
 | .ty n,u=>u=Value.type n
abbrev Vals:List V->List Value->Prop:=Paired RelV
theorem Vals.length {xs:List V}{us:List Value}(r:Vals xs us):xs.length=us.length:=Paired.length r
theorem Vals.get:∀{xs:List V} {us:List Value} {i:Nat} {x:V},Vals xs us->xs[i]? = some x->∃u,us[i]? = some u/\RelV x u
 | _,_,_,_,.nil,e=>by simp at e
 | _,_,0,_,.cons r _,e=>by simp at e;subst e;exact⟨_,rfl,r⟩
 | _,_,i+1,x,.cons _ t,e=>by
  obtain⟨u,h1,h2⟩:=Vals.get (i:=i) (x:=x) t (by simpa using e)
  exact⟨u,by simpa using h1,h2⟩
theorem Vals.append:∀{xs ys:List V} {us ws:List Value},Vals xs us->Vals ys ws->Vals (xs++ys) (us++ws)
 | _,_,_,_,.nil,s=>s
 | _,_,_,_,.cons r t,s => .cons r (Vals.append t s)
theorem Vals.take:∀{xs:List V} {us:List Value} (n:Nat),Vals xs us->Vals (xs.take n) (us.take n)
 | _,_,0,_ => .nil
 | _,_,_+1,.nil => .nil
 | _,_,n+1,.cons r t => .cons r (Vals.take n t)
theorem Vals.drop:∀{xs:List V} {us:List Value} (n:Nat),Vals xs us->Vals (xs.drop n) (us.drop n)
 | _,_,0,r=>r
 | _,_,_+1,.nil => .nil
 | _,_,n+1,.cons _ t=>Vals.drop n t
def RelO:Option V->Option Value->Prop
 | some v,some u=>RelV v u
 | none,none=>True
 | _,_=>False
def KV {κ : Type}:List (κ × V)->List (κ × Value)->Prop:=Paired fun(p : κ × V) (q : κ × Value)=>p.1=q.1/\RelV p.2 q.2
def kV:Key->V
 | .inl i => .int i
 | .inr x => .str x
inductive HO where
 | lst (xs:List V)
 | tup (xs:List V)
 | dK (kvs:List (Key × V)) | dT (kvs:List (List Key × V))
 | set (S:Int->Bool) (n:Nat)
 | ins (C dx:Addr) (fs:List (Str × V))
 | own (x:Addr)
 | xd (fs:List (Str × V))
 | met (f x:Addr)
 | rng (lo hi:Int)
 | frz (o:Obj) (u:HO)
 | tbl (ps:Array Value)
 | ext (φ : Heap->Prop)
abbrev Hp:=Addr->Option HO
def upd (H:Hp)(a:Addr)(o:HO):Hp:=fun b=>if b=a then some o else H b
theorem Z00 {H:Hp}{a:Addr}{o:HO}:upd H a o a=some o:=by unfold upd;rw[if_pos rfl]
theorem Z08 {H:Hp}{a b:Addr}{o:HO}(h:b≠a):upd H a o b=H b:=by unfold upd;rw[if_neg h]
theorem Z1b {H:Hp}{a b:Addr}{o u:HO}(h:H a=some o)(h':H b=some u)(d:o≠u):a≠b:=by
 intro e;subst e;rw[h] at h';exact d (Option.some.inj h')
theorem Z0a {H:Hp}{a b:Addr}{o:HO}(h:H a=some o)(h':H b=none):a≠b:=by
 intro e;subst e;rw[h] at h';cases h'
section
variable (P:Program)(w:World)
def ObjOk (H:Hp)(h:Heap)(a:Addr):HO->Prop
 | .lst xs=>xs.length<=sizeLine/\∃(its:List Value) (n:Nat),Vals xs its/\h.get? a=some { cls := .type "list",data := .seq its.toArray n }
 | .tup xs=>xs.length<=sizeLine/\∃its:List Value,Vals xs its/\IsTup h a its.toArray
 | .dK kvs=>kvs.length<=sizeLine/\(a==sysModules)=false/\∃vs,KV kvs vs/\h.DictOf (Z0v P w) a vs
 | .dT kvs=>kvs.length<=sizeLine/\(a==sysModules)=false/\∃xs:List (List Key × Addr × Value),
   Paired (fun(p:List Key × V) (q:List Key × Addr × Value)=>p.1=q.1/\H q.2.1=some (.tup (p.1.map kV))/\RelV p.2 q.2.2) kvs xs ∧
   ∃o es ep,h.get? a=some o/\o.ExactDict/\o.data = .dict es ep/\es.toList=xs.map (entryOfKey (tupleKind (Z0v P w)))/\(xs.map (·.1)).Nodup
 | .set S n=>h.SetOf (intKind P w) a S n
 | .ins C dx fs=>H dx=some (.own a)/\fs.length<=1000/\dx≠a/\h.get? a=some (PySem.W.instObj C dx) ∧
   ∃mA,h.Ns1 dx mA/\(∀f,RelO (fs.lookup f) (mA f))/\PySem.Within mA (fs.map (·.1))
 | .own _=>∃o,h.get? a=some o
 | .xd fs=>∃mA,h.Ns1 a mA/\∀f,RelO (fs.lookup f) (mA f)
 | .rng lo hi=>∃t u v,h.get? a=some { cls := .type "range",data := .fields #[.int lo t,.int hi u,.int 1 v] }
 | .frz o u=>h.get? a=some o/\ObjOk H h a u
 | .tbl ps=>h.get? a=some { cls := .none,data := .fields ps }
 | .met f x=>h.get? a=some (PySem.W.methodObj (.ref f) (.ref x))
 | .ext φ => φ h/\(∃o,h.get? a=some o)/\∀h1 h2:Heap,φ h1->(∀o,h1.get? a=some o->h2.get? a=some o) -> φ h2
def HOk (H:Hp)(h:Heap):Prop:=∀a o,H a=some o->ObjOk P w H h a o
end
section
variable {P:Program}{w:World}{H H':Hp}{h h':Heap}{a:Addr}{o:HO}
theorem ObjOk.lt (x:ObjOk P w H h a o):a<h.objs.size:=by
 cases o with
 | lst xs=>obtain⟨_,_,_,_,e⟩:=x;exact Heap.lt_size e
 | tup xs=>obtain⟨_,_,_,p⟩:=x;exact p.lt
 | dK kvs=>obtain⟨_,_,_,_,o,_,_,e,_⟩:=x;exact Heap.lt_size e
 | dT kvs=>obtain⟨_,_,_,_,o,_,_,e,_⟩:=x;exact Heap.lt_size e
 | set S n=>obtain⟨o,_,_,_,e,_⟩:=x;exact Heap.lt_size e
 | ins C dx fs=>obtain⟨_,_,_,e,_⟩:=x;exact Heap.lt_size e
 | own y=>obtain⟨_,e⟩:=x;exact Heap.lt_size e
 | xd fs=>obtain⟨_,⟨_,_,_,e,_⟩,_⟩:=x;exact Heap.lt_size e
 | rng lo hi=>obtain⟨_,_,_,e⟩:=x;exact Heap.lt_size e
 | frz ob u=>obtain⟨e,_⟩:=x;exact Heap.lt_size e
 | tbl ps=>exact Heap.lt_size (show h.get? a=some _ from x)
 | met f y=>exact Heap.lt_size (show h.get? a=some _ from x)
 | ext φ => obtain⟨_,⟨_,e⟩,_⟩:=x;exact Heap.lt_size e
theorem Paired.mapP {α β : Type}{F G : α -> β -> Prop}:∀{l₁:List α} {l₂:List β},Paired F l₁ l₂->(∀a b,F a b->G a b)->Paired G l₁ l₂
 | _,_,.nil,_ => .nil
 | _,_,.cons r t,f => .cons (f _ _ r) (Paired.mapP t f)
theorem ObjOk.stay (x:ObjOk P w H h a o)(k:∀b u,(b=a∨H b=some (.own a))->h.get? b=some u->h'.get? b=some u)
  (ho:∀b,H b=some (.own a)->H' b=some (.own a)) (ht:∀b xs,H b=some (.tup xs)->H' b=some (.tup xs)):ObjOk P w H' h' a o:=by
 induction o with
 | lst xs=>obtain⟨z,its,n,r,e⟩:=x;exact⟨z,its,n,r,k _ _ (.inl rfl) e⟩
 | tup xs=>obtain⟨z,its,r,ob,e,c⟩:=x;exact⟨z,its,r,ob,k _ _ (.inl rfl) e,c⟩
 | dK kvs=>obtain⟨z,y,vs,r,ob,es,ep,e,c⟩:=x;exact⟨z,y,vs,r,ob,es,ep,k _ _ (.inl rfl) e,c⟩
 | dT kvs =>
  obtain⟨z,y,xs,r,ob,es,ep,e,c⟩:=x
  exact⟨z,y,xs,Paired.mapP r fun p q z=>⟨z.1,ht _ _ z.2.1,z.2.2⟩,ob,es,ep,k _ _ (.inl rfl) e,c⟩
 | set S n=>obtain⟨ob,es,ep,t,e,c⟩:=x;exact⟨ob,es,ep,t,k _ _ (.inl rfl) e,c⟩
 | ins C dx fs =>
  obtain⟨d,z,ne,e,mA,⟨od,es,ep,e2,c⟩,r⟩:=x
  exact⟨ho _ d,z,ne,k _ _ (.inl rfl) e,mA,⟨od,es,ep,k _ _ (.inr d) e2,c⟩,r⟩
 | own y=>obtain⟨ob,e⟩:=x;exact⟨ob,k _ _ (.inl rfl) e⟩
 | xd fs=>obtain⟨mA,⟨od,es,ep,e,c⟩,r⟩:=x;exact⟨mA,⟨od,es,ep,k _ _ (.inl rfl) e,c⟩,r⟩
 | rng lo hi=>obtain⟨t,u,v,e⟩:=x;exact⟨t,u,v,k _ _ (.inl rfl) e⟩
 | frz ob u ih=>obtain⟨e,q⟩:=x;exact⟨k _ _ (.inl rfl) e,ih q⟩
 | tbl ps =>
  have e:h.get? a=some { cls := .none,data := .fields ps }:=x
  show h'.get? a=some { cls := .none,data := .fields ps }
  exact k a _ (.inl rfl) e
 | met f y =>
  have e:h.get? a=some (PySem.W.methodObj (.ref f) (.ref y)):=x
  show h'.get? a=some (PySem.W.methodObj (.ref f) (.ref y))
  exact k a _ (.inl rfl) e
 | ext φ => obtain⟨p,⟨o,e⟩,st⟩:=x;exact⟨st _ _ p fun o q=>k _ _ (.inl rfl) q,⟨o,k _ _ (.inl rfl) e⟩,st⟩
theorem HOk.lt (x:HOk P w H h)(e:H a=some o):a<h.objs.size:=(x a o e).lt
theorem HOk.fresh (x:HOk P w H h)(e:h.objs.size<=a):H a=none:=by
 cases q:H a with
 | none=>rfl
 | some u=>exact absurd (Nat.lt_of_lt_of_le (x.lt q) e) (Nat.lt_irrefl _)
theorem HOk.kept (x:HOk P w H h)(k:∀b u,h.get? b=some u->h'.get? b=some u):HOk P w H h':=fun a o e =>
 (x a o e).stay (fun b u _ q=>k b u q) (fun _ q=>q) fun _ _ q=>q
theorem HOk.laid (x:HOk P w H h)(k:∀b u,h.get? b=some u->h'.get? b=some u)(hp:h.objs.size<=a)(new:ObjOk P w (upd H a o) h' a o):HOk P w (upd H a o) h':=fun b u e=>by
 have hn:=x.fresh hp
 by_cases hb:b=a
 ·subst hb;rw[Z00] at e;cases e;exact new
 ·rw[Z08 hb] at e
  exact(x b u e).stay (fun c v _ q=>k c v q) (fun c q=>by rw[Z08 (Z0a q hn)];exact q) fun c xs q=>by rw[Z08 (Z0a q hn)];exact q
end
def Rd (H:Hp)(a:Addr)(u:HO):Prop:=H a=some u∨∃o,H a=some (.frz o u)
theorem Rd.ok {P:Program}{w:World}{H:Hp}{h:Heap}{a:Addr}{u:HO}(r:Rd H a u)(x:HOk P w H h):ObjOk P w H h a u:=by
 rcases r with r | ⟨o,r⟩
 ·exact x a u r
 ·obtain⟨_,q⟩:=x a _ r
  exact q
def Mut:Option HO->Prop
 | some (.lst _)=>True
 | some (.dK _)=>True
 | some (.dT _)=>True
 | some (.set _ _)=>True
 | some (.ins _ _ _)=>True
 | some (.ext _)=>True
 | _=>False
section
variable {P:Program}{w:World}{H:Hp}{h h':Heap}{x e:Addr}{o':HO}
theorem HOk.write (ok:HOk P w H h)(mu:Mut (H x))(he:e=x∨H e=some (.own x))(k:∀b u,b≠e->h.get? b=some u->h'.get? b=some u)(heo:∃u,h'.get? e=some u)
  (new:ObjOk P w (upd H x o') h' x o'):HOk P w (upd H x o') h':=fun b u q=>by
 have nown:∀c y,H c=some (.own y)->c≠x:=fun c y r z=>by subst z;rw[r] at mu;exact mu
 have ntup:∀c xs,H c=some (.tup xs)->c≠x:=fun c xs r z=>by subst z;rw[r] at mu;exact mu
 by_cases hb:b=x
 ·subst hb;rw[Z00] at q;cases q;exact new
 ·rw[Z08 hb] at q
  by_cases hbe:b=e
  ·have q':H b=some (.own x):=by
    rcases he with z | z
    ·exact absurd (hbe.trans z) hb
    ·rw[hbe];exact z
   rw[q] at q';cases q'
   obtain⟨v,hv⟩:=heo
   exact⟨v,by rw[hbe];exact hv⟩
  ·refine(ok b u q).stay (fun c v hc r=>k c v ?_ r) (fun c r=>by rw[Z08 (nown c b r)];exact r) fun c xs r=>by rw[Z08 (ntup c xs r)];exact r
   rcases hc with rfl | hc
   ·exact hbe
   ·rintro rfl
    rcases he with z | z
    ·exact nown c b hc z
    ·rw[hc] at z;cases z;exact hb rfl
end
structure Un (fs ex:List Addr)(H H':Hp)(h h':Heap):Prop where
 keep:∀b o,h.get? b=some o->H b=none->b∉fs->b∉ex->h'.get? b=some o
 slot:∀b o,h.get? b=some o->H b=none->b∈fs->b∉ex->∃sl,h'.get? b=some { o with slots:=sl }
 free:∀b o,h.get? b=some o->H b=none->b∉ex->H' b=none
 there:∀b o,h.get? b=some o->b∉ex->∃o',h'.get? b=some o'
 tups:∀b xs,H b=some (.tup xs)->H' b=some (.tup xs)
 frzs:∀b o u,H b=some (.frz o u)->H' b=some (.frz o u)
 tbls:∀b ps,H b=some (.tbl ps)->∃more,H' b=some (.tbl (ps++more))
section
variable {fs fs' ex ex':List Addr}{H H1 H2:Hp}{h h1 h2 h':Heap}{a x e:Addr}{o:HO}
theorem Un.any (u:Un fs ex H H1 h h1){b:Addr}{ob:Obj}(q:h.get? b=some ob)(n:H b=none)(hx:b∉ex):∃sl,h1.get? b=some { ob with slots:=sl }:=by
 by_cases hb:b∈fs
 ·exact u.slot b ob q n hb hx
 ·exact⟨ob.slots,u.keep b ob q n hb hx⟩
theorem Un.kept (k:∀b u,h.get? b=some u->h'.get? b=some u):Un fs ex H H h h' :=
 ⟨fun b ob q _ _ _=>k b ob q,fun b ob q _ _ _=>⟨ob.slots,k b ob q⟩,fun _ _ _ n _=>n,fun b ob q _=>⟨ob,k b ob q⟩,fun _ _ q=>q,fun _ _ _ q=>q,fun _ ps q=>⟨#[],by rw[q];simp⟩⟩
theorem Un.refl:Un fs ex H H h h:=Un.kept fun _ _ q=>q
theorem Un.laid (k:∀b u,h.get? b=some u->h'.get? b=some u)(hp:h.objs.size<=a)(hn:H a=none):Un fs ex H (upd H a o) h h' where
 keep:=fun b u q _ _ _=>k b u q
 slot:=fun b u q _ _ _=>⟨u.slots,k b u q⟩
 free:=fun b u q n _=>by rw[Z08 (Nat.ne_of_lt (Nat.lt_of_lt_of_le (Heap.lt_size q) hp))];exact n
 there:=fun b u q _=>⟨u,k b u q⟩
 tups:=fun b xs q=>by rw[Z08 (Z0a q hn)];exact q
 frzs:=fun b u xs q=>by rw[Z08 (Z0a q hn)];exact q
 tbls:=fun b ps q=>⟨#[],by rw[Z08 (Z0a q hn),q];simp⟩
theorem Un.write (mu:Mut (H x))(he:e=x∨H e=some (.own x))(k:∀b u,b≠e->h.get? b=some u->h'.get? b=some u)(heo:∃u,h'.get? e=some u):Un fs ex H (upd H x o) h h':=by
 have hx:∀b,H b=none->b≠x:=fun b n z=>by subst z;rw[n] at mu;exact mu
 have hb:∀b,H b=none->b≠e:=fun b n z=>by
  subst z
  rcases he with r | r
  ·exact hx b n r
  ·rw[n] at r;cases r
 have hm:∀b u,H b=some u->¬Mut (some u)->b≠x:=fun b u q nm z=>by subst z;rw[q] at mu;exact nm mu
 refine⟨fun b u q n _ _=>k b u (hb b n) q,fun b u q n _ _=>⟨u.slots,k b u (hb b n) q⟩,fun b u q n _=>by rw[Z08 (hx b n)];exact n,fun b u q _ => ?_,
  fun b xs q=>by rw[Z08 (hm b _ q fun z=>z)];exact q,fun b u xs q=>by rw[Z08 (hm b _ q fun z=>z)];exact q,fun b ps q=>⟨#[],by rw[Z08 (hm b _ q fun z=>z),q];simp⟩⟩
 by_cases hbe:b=e
 ·subst hbe;exact heo
 ·exact⟨u,k b u hbe q⟩
end
def trk (h:Heap)(H:Hp):List Addr:=(List.range h.objs.size).filter fun a=>(H a).isSome
def Zfk (h:Heap)(H:Hp):Heap:=PySem.W.hideAll h (trk h H)
theorem Zd1 (h:Heap)(H:Hp):(Zfk h H).objs.size=h.objs.size:=PySem.W.hideAll_size _ _
theorem Zfl {h:Heap}{H:Hp}{b:Addr}{o:Obj}(e:h.get? b=some o)(n:H b=none):(Zfk h H).get? b=some o :=
 PySem.W.hideAll_get _ e fun hm=>by
  have q:(H b).isSome=true:=(List.mem_filter.mp hm).2
  rw[n] at q;simp at q
theorem Zi8 {h:Heap}{H:Hp}{b:Addr}{o:Obj}(e:(Zfk h H).get? b=some o):h.get? b=some o/\H b=none:=by
 have e':h.get? b=some o:=PySem.W.of_hideAll (trk h H) e
 refine⟨e',?_⟩
 cases q:H b with
 | none=>rfl
 | some x =>
  have hm:b∈trk h H:=List.mem_filter.mpr ⟨List.mem_range.mpr (Heap.lt_size e'),by simp [q]⟩
  have z:(Zfk h H).get? b=none:=PySem.W.hideAll_none (trk h H) hm
  rw[z] at e;cases e
structure Mod (K:PySem.W.Frag)(mg:Str->Option Value)(base:Heap):Prop where
 kin:K.In base
 glob:base.Ns mainGlobals mg
 blt:∃mb,base.Ns builtinsNs mb/\∀x:Str,x≠"__name__"->mb x=bootBuiltins x
 nolimit:base.NoLimit
structure Cx where
 prog:Program
 w:World
 K:PySem.W.Frag
 mg:Str->Option Value
 base:Heap
 A:Around
 N:List Str
 s₀:Shared
 H₀:Hp
 env:Env
 outer:List Env
 stack:List Env
 ex:List Addr
 fn:Str->Bool
 calm:Bool
 pn:List (Addr × Obj)
 xe:Value->Shared->Prop
def frs (l:List Env):List Addr:=l.filterMap (·.frame)
abbrev Cx.fs (X:Cx):List Addr:=frs X.outer
def Vis (sc:Scope)(x:Str):Prop:=sc.names.lookup x=some .local∨sc.names.lookup x=some .cell∨sc.names.lookup x=some .free
def Loc (sc:Scope)(x:Str):Prop:=sc.names.lookup x=some .local∨sc.names.lookup x=some .cell
def Zns (env:Env)(h:Heap)(m:Str->Option Value)(x:Str)(u:Value):Prop :=
 (env.kindOf x=some .local/\m x=some u)∨((env.kindOf x=some .cell∨env.kindOf x=some .free)/\∃c,env.cells.lookup x=some c/\h.IsCell c (some u))
structure Cx.Ok (X:Cx):Prop where
 mod:Mod X.K X.mg X.base
 kind:X.env.scope.kind = .function
 glob:X.env.globals=mainGlobals
 blt:X.env.builtins=builtinsNs
 above:X.s₀.heap.objs.size<=X.env.locals
 inj:∀x y c,X.env.cells.lookup x=some c->X.env.cells.lookup y=some c->x=y
 has:∀x,(X.env.kindOf x=some .cell∨X.env.kindOf x=some .free)->∃c,X.env.cells.lookup x=some c
 cab:∀x c,X.fn x=true->X.env.cells.lookup x=some c->X.s₀.heap.objs.size<=c
 hd:X.calm=true->X.A.handled=none
 frames:X.A.frames=some X.stack
 stk:X.stack=X.outer∨(X.stack=X.env::X.outer/\X.env.frame=some X.env.locals)
 exf:∀b∈X.ex,b≠X.env.locals/\∀x c,X.env.cells.lookup x=some c->c≠b
 bs:∀b o,X.base.get? b=some o->X.s₀.heap.get? b=some o/\X.H₀ b=none
 bsz:X.base.objs.size<=X.s₀.heap.objs.size
 noex:∀b o,X.base.get? b=some o->b∉X.ex
 exfs:∀b∈X.ex,b∉X.fs
 funs:X.s₀.heap.FunFrames X.base X.outer
 frf:∀b∈X.fs,X.H₀ b=none
structure Inv (X:Cx)(pins:List (Addr × Obj))(σ:List (Option V))(H:Hp)(s:Shared):Prop where
 ok:X.Ok
 os:s.os=X.s₀.os
 bare:AllBare s.gens
 base:Un X.fs X.ex X.H₀ H X.s₀.heap s.heap
 loc:∃m,s.heap.Ns X.env.locals m/\∀(i:Nat) (x:Str) (v:V),X.N[i]? = some x->σ[i]? = some (some v)->Vis X.env.scope x->∃u,RelV v u/\Zns X.env s.heap m x u
 cell:∀x c,X.env.cells.lookup x=some c->∃v,s.heap.IsCell c v
 free:H X.env.locals=none
 freeC:∀x c,X.env.cells.lookup x=some c->H c=none
 pin:∀p∈X.pn++pins,s.heap.get? p.1=some p.2/\H p.1=none/\p.1≠X.env.locals/\p.1∉X.fs/\∀v,p.2.data ≠ .cell v
 hok:HOk X.prog X.w H s.heap
 len:σ.length=X.N.length
section
variable {X:Cx}{pins:List (Addr × Obj)}{σ:List (Option V)}{H H':Hp}{s:Shared}{h':Heap}
theorem Cx.Ok.nofr (ok:X.Ok){b:Addr}{o:Obj}(e:X.base.get? b=some o):b∉X.fs:=fun hb=>by
 have:=(ok.funs.mem hb).1
 rw[e] at this;cases this
theorem Inv.bs (I:Inv X pins σ H s):∀b o,X.base.get? b=some o->s.heap.get? b=some o/\H b=none:=fun b o e =>
 ⟨I.base.keep b o (I.ok.bs b o e).1 (I.ok.bs b o e).2 (I.ok.nofr e) (I.ok.noex b o e),I.base.free b o (I.ok.bs b o e).1 (I.ok.bs b o e).2 (I.ok.noex b o e)⟩
theorem Inv.bk (I:Inv X pins σ H s):∀b o,X.base.get? b=some o->s.heap.get? b=some o:=fun b o e=>(I.bs b o e).1
theorem Inv.mod (I:Inv X pins σ H s):Mod X.K X.mg X.base:=I.ok.mod
theorem Inv.kIn (I:Inv X pins σ H s):X.K.In s.heap:=I.ok.mod.kin.keeps I.bk
theorem Inv.lt (I:Inv X pins σ H s):X.env.locals<s.heap.objs.size:=let ⟨_,hn,_⟩:=I.loc;hn.lt
theorem Inv.sz (I:Inv X pins σ H s):X.s₀.heap.objs.size<=s.heap.objs.size:=Nat.le_trans I.ok.above (Nat.le_of_lt I.lt)
theorem Inv.nofs (I:Inv X pins σ H s){a:Addr}(h:s.heap.objs.size<=a):a∉X.fs:=fun hb=>by
 obtain⟨_,o,ho,_⟩:=I.ok.funs.mem hb
 exact absurd (Nat.lt_of_lt_of_le (Heap.lt_size ho) (Nat.le_trans I.sz h)) (Nat.lt_irrefl _)
theorem Inv.cne (I:Inv X pins σ H s):∀x c,X.env.cells.lookup x=some c->c≠X.env.locals:=fun x c e z=>by
 obtain⟨v,o,ho,hd⟩:=I.cell x c e
 obtain⟨m,⟨o',es,ep,ho',hd',_⟩,_⟩:=I.loc
 rw[z,ho'] at ho;cases ho;rw[hd'] at hd;cases hd
theorem Inv.funs (I:Inv X pins σ H s):s.heap.FunFrames X.base X.outer:=by
 have all:∀(l:List Env),(∀b∈frs l,b∈X.fs)->X.s₀.heap.FunFrames X.base l->s.heap.FunFrames X.base l:=by
  intro l
  induction l with
  | nil=>intro _ _;trivial
  | cons env r ih =>
   intro hs hl
   obtain⟨hk,⟨L,o,hf,hn,ho,hd⟩,hr⟩:=hl
   have hL:L∈X.fs:=hs L (by unfold frs;rw[List.filterMap_cons,hf];exact List.mem_cons_self)
   obtain⟨sl,e⟩:=I.base.slot L o ho (I.ok.frf L hL) hL fun z=>I.ok.exfs L z hL
   exact⟨hk,⟨L,_,hf,hn,e,hd⟩,ih (fun b hb=>hs b (by unfold frs;rw[List.filterMap_cons,hf];exact List.mem_cons_of_mem _ hb)) hr⟩
 exact all X.outer (fun _ hb=>hb) I.ok.funs
theorem Inv.stack (I:Inv X pins σ H s):s.heap.FunFrames X.base X.stack:=by
 rcases I.ok.stk with e | ⟨e,hf⟩
 ·rw[e];exact I.funs
 ·rw[e]
  obtain⟨m,hn,_⟩:=I.loc
  refine .cons (by rw[I.ok.kind];decide) hf hn ?_ I.funs
  exact Heap.get?_none_of_le (Nat.le_trans I.ok.bsz I.ok.above)
theorem Inv.stkSub (I:Inv X pins σ H s):∀b∈frs X.stack,b∈X.env.locals::X.fs:=fun b hb=>by
 rcases I.ok.stk with e | ⟨e,hf⟩
 ·rw[e] at hb;exact List.mem_cons_of_mem _ hb
 ·rw[e] at hb
  unfold frs at hb
  rw[List.filterMap_cons,hf] at hb
  exact hb
theorem Inv.stkFree (I:Inv X pins σ H s):∀b∈frs X.stack,H b=none:=fun b hb=>by
 rcases List.mem_cons.mp (I.stkSub b hb) with e | hb
 ·rw[e];exact I.free
 ·obtain⟨_,o,ho,_⟩:=I.ok.funs.mem hb
  exact I.base.free b o ho (I.ok.frf b hb) fun z=>I.ok.exfs b z hb
theorem Inv.step {g':Array GenState}{t':Nat}{d':Drawn}{ch:List Addr}(I:Inv X pins σ H s)
  (hch:∀b∈ch,(b∈X.ex∨X.s₀.heap.objs.size<=b)/\b≠X.env.locals/\(∀x c,X.env.cells.lookup x=some c->c≠b)/\∀p∈X.pn++pins,p.1≠b)
  (keep:∀b o,b≠X.env.locals->b∉X.fs->b∉ch->s.heap.get? b=some o->H b=none->h'.get? b=some o)
  (slot:∀b o,b≠X.env.locals->b∈X.fs->b∉ch->s.heap.get? b=some o->H b=none->∃sl,h'.get? b=some { o with slots:=sl }) (free:∀b o,b∉ch->s.heap.get? b=some o->H b=none->H' b=none)
  (there:∀b o,b∉ch->s.heap.get? b=some o->∃o',h'.get? b=some o')
  (tups:∀b xs,H b=some (.tup xs)->H' b=some (.tup xs)) (frzs:∀b o u,H b=some (.frz o u)->H' b=some (.frz o u)) (tbls:∀b ps,H b=some (.tbl ps)->∃more,H' b=some (.tbl (ps++more)))
  (ns:∀m,s.heap.Ns X.env.locals m->h'.Ns X.env.locals m) (hok:HOk X.prog X.w H' h') (hg:AllBare g') :
  Inv X pins σ H' { s with heap:=h',gens:=g',drawn:=d',toks:=t' }:=by
 have neL:∀b o,X.s₀.heap.get? b=some o->b≠X.env.locals:=fun b o e=>Nat.ne_of_lt (Nat.lt_of_lt_of_le (Heap.lt_size e) I.ok.above)
 have neC:∀b o,X.s₀.heap.get? b=some o->b∉X.ex->b∉ch:=fun b o e hx hb=>by
  rcases(hch b hb).1 with z | z
  ·exact hx z
  ·exact absurd (Nat.lt_of_lt_of_le (Heap.lt_size e) z) (Nat.lt_irrefl _)
 have cellK:∀x c,X.env.cells.lookup x=some c->∀v,s.heap.IsCell c v->h'.IsCell c v:=fun x c e v ⟨o,ho,hd⟩=>by
  have nch:c∉ch:=fun z=>(hch c z).2.2.1 x c e rfl
  by_cases hc:c∈X.fs
  ·obtain⟨sl,q⟩:=slot c o (I.cne x c e) hc nch ho (I.freeC x c e)
   exact⟨_,q,hd⟩
  ·exact⟨o,keep c o (I.cne x c e) hc nch ho (I.freeC x c e),hd⟩
 refine⟨I.ok,I.os,hg,⟨fun b o e n hb hx => ?_,fun b o e n hb hx => ?_,fun b o e n hx => ?_,fun b o e hx => ?_,fun b xs e=>tups b xs (I.base.tups b xs e),fun b o xs e=>frzs b o xs (I.base.frzs b o xs e),fun b ps e => ?_⟩,?_,fun x c e => ?_,?_,fun x c e => ?_,fun p hp => ?_,hok,I.len⟩
 ·exact keep b o (neL b o e) hb (neC b o e hx) (I.base.keep b o e n hb hx) (I.base.free b o e n hx)
 ·obtain⟨sl,e1⟩:=I.base.slot b o e n hb hx
  obtain⟨sl',e2⟩:=slot b _ (neL b o e) hb (neC b o e hx) e1 (I.base.free b o e n hx)
  exact⟨sl',e2⟩
 ·obtain⟨o',e1⟩:=I.base.there b o e hx
  exact free b o' (neC b o e hx) e1 (I.base.free b o e n hx)
 ·obtain⟨o',e1⟩:=I.base.there b o e hx
  exact there b o' (neC b o e hx) e1
 ·obtain⟨m1,e1⟩:=I.base.tbls b ps e
  obtain⟨m2,e2⟩:=tbls b _ e1
  exact⟨m1++m2,by rw[e2,Array.append_assoc]⟩
 ·obtain⟨m,hn,hl⟩:=I.loc
  refine⟨m,ns m hn,fun i x v e1 e2 e3 => ?_⟩
  obtain⟨u,r,l⟩:=hl i x v e1 e2 e3
  refine⟨u,r,?_⟩
  rcases l with l | ⟨k,c,e,z⟩
  ·exact .inl l
  ·exact .inr ⟨k,c,e,cellK x c e _ z⟩
 ·obtain⟨v,z⟩:=I.cell x c e
  exact⟨v,cellK x c e v z⟩
 ·obtain⟨m,⟨o,_,_,ho,_⟩,_⟩:=I.loc
  exact free _ o (fun z=>(hch _ z).2.1 rfl) ho I.free
 ·obtain⟨v,o,ho,hd⟩:=I.cell x c e
  exact free c o (fun z=>(hch c z).2.2.1 x c e rfl) ho (I.freeC x c e)
 ·obtain⟨e,n,ne,nf,d⟩:=I.pin p hp
  have nch:p.1∉ch:=fun z=>(hch p.1 z).2.2.2 p hp rfl
  exact⟨keep p.1 p.2 ne nf nch e n,free p.1 p.2 nch e n,ne,nf,d⟩
theorem Inv.un {t':Nat}(I:Inv X pins σ H s)(u:Un X.fs [] H H' s.heap h')(hok:HOk X.prog X.w H' h'):Inv X pins σ H' { s with heap:=h',toks:=t' }:=by
 obtain⟨m,⟨o,es,ep,ho,r⟩,_⟩:=id I.loc
 obtain⟨sl,hL⟩:=u.any ho I.free (by simp)
 exact I.step (g':=s.gens) (d':=s.drawn) (ch := []) (fun _ z=>nomatch z) (fun b o _ hb _ e n=>u.keep b o e n hb (by simp)) (fun b o _ hb _ e n=>u.slot b o e n hb (by simp)) (fun b o _ e n=>u.free b o e n (by simp)) (fun b o _ e=>u.there b o e (by simp)) u.tups u.frzs u.tbls (fun m' hm=>by
  obtain⟨o',es',ep',ho',r'⟩:=hm
  rw[ho] at ho';cases ho'
  exact⟨_,es',ep',hL,r'⟩) hok I.bare
theorem Inv.call {g':Array GenState}{t':Nat}{d':Drawn}{ch:List Addr}(I:Inv X pins σ H s)(u:Un (frs X.stack) ch H H' s.heap h')(hok:HOk X.prog X.w H' h')(hg:AllBare g')
  (hch:∀b∈ch,(b∈X.ex∨X.s₀.heap.objs.size<=b)/\b≠X.env.locals/\(∀x c,X.env.cells.lookup x=some c->c≠b)/\∀p∈X.pn++pins,p.1≠b) :
  Inv X pins σ H' { s with heap:=h',gens:=g',drawn:=d',toks:=t' }:=by
 obtain⟨m,⟨o,es,ep,ho,r⟩,_⟩:=id I.loc
 obtain⟨sl,hL⟩:=u.any ho I.free fun z=>(hch _ z).2.1 rfl
 exact I.step (ch:=ch) hch (fun b o hL hb hc e n=>u.keep b o e n (fun z=>(List.mem_cons.mp (I.stkSub b z)).elim hL hb) hc) (fun b o _ _ hc e n=>u.any e n hc) (fun b o hc e n=>u.free b o e n hc) (fun b o hc e=>u.there b o e hc) u.tups u.frzs u.tbls (fun m' hm=>by
  obtain⟨o',es',ep',ho',r'⟩:=hm
  rw[ho] at ho';cases ho'
  exact⟨_,es',ep',hL,r'⟩) hok hg
theorem Inv.turned {t':Nat}{it:Addr}(I:Inv X pins σ H s)(k:∀b o,b≠it->s.heap.get? b=some o->h'.get? b=some o)(hn:H it=none)(hL:it≠X.env.locals)
  (h1:it∈X.ex∨X.s₀.heap.objs.size<=it) (h2:∀x c,X.env.cells.lookup x=some c->c≠it) (h3:∀p∈X.pn++pins,p.1≠it):Inv X pins σ H { s with heap:=h',toks:=t' }:=by
 have nit:∀b u,H b=some u->b≠it:=fun b u e z=>by rw[z,hn] at e;cases e
 refine I.step (g':=s.gens) (d':=s.drawn) (ch := [it]) (fun b hb => ?_) (fun b o _ _ hc e _=>k b o (fun z=>hc (by simp [z])) e) (fun b o _ _ hc e _=>⟨o.slots,k b o (fun z=>hc (by simp [z])) e⟩) (fun _ _ _ _ n=>n)
  (fun b o hc e=>⟨o,k b o (fun z=>hc (by simp [z])) e⟩) (fun _ _ e=>e) (fun _ _ _ e=>e) (fun b ps e=>⟨#[],by rw[e];simp⟩) (fun m hm => ?_) (fun b u e => ?_) I.bare
 ·have e:b=it:=by simpa using hb
  subst e
  exact⟨h1,hL,h2,h3⟩
 ·obtain⟨o,es,ep,ho,r⟩:=hm
  exact⟨o,es,ep,k _ o (Ne.symm hL) ho,r⟩
 ·refine(I.hok b u e).stay (fun c v hc q=>k c v ?_ q) (fun _ q=>q) fun _ _ q=>q
  rcases hc with z | z
  ·rw[z];exact nit b u e
  ·exact nit c _ z
theorem Inv.tok (I:Inv X pins σ H s)(t:Nat):Inv X pins σ H { s with toks:=t }:=I.un (h':=s.heap) (t':=t) Un.refl I.hok
theorem Inv.kept {t':Nat}(I:Inv X pins σ H s)(k:∀b u,s.heap.get? b=some u->h'.get? b=some u):Inv X pins σ H { s with heap:=h',toks:=t' }:=I.un (Un.kept k) (I.hok.kept k)
theorem Inv.laid {a:Addr}{o:HO}{t':Nat}(I:Inv X pins σ H s)(k:∀b u,s.heap.get? b=some u->h'.get? b=some u)(hp:s.heap.objs.size<=a)(new:ObjOk X.prog X.w (upd H a o) h' a o) :
  Inv X pins σ (upd H a o) { s with heap:=h',toks:=t' }:=I.un (Un.laid k hp (I.hok.fresh hp)) (I.hok.laid k hp new)
theorem Inv.write {x e:Addr}{o:HO}{t':Nat}(I:Inv X pins σ H s)(mu:Mut (H x))(he:e=x∨H e=some (.own x))(k:∀b u,b≠e->s.heap.get? b=some u->h'.get? b=some u)(heo:∃u,h'.get? e=some u)
  (new:ObjOk X.prog X.w (upd H x o) h' x o):Inv X pins σ (upd H x o) { s with heap:=h',toks:=t' }:=I.un (Un.write mu he k heo) (I.hok.write mu he k heo new)
theorem Inv.pins_of {pins':List (Addr × Obj)}(I:Inv X pins σ H s)(h:∀p∈pins',s.heap.get? p.1=some p.2/\H p.1=none/\p.1≠X.env.locals/\p.1∉X.fs/\∀v,p.2.data ≠ .cell v):Inv X pins' σ H s :=
 ⟨I.ok,I.os,I.bare,I.base,I.loc,I.cell,I.free,I.freeC,fun p hp=>(List.mem_append.mp hp).elim (fun z=>I.pin p (List.mem_append_left _ z)) (h p),I.hok,I.len⟩
theorem Zap {N:List Str}(hN:N.Nodup){i j:Nat}{x:Str}(a:N[i]? = some x)(b:N[j]? = some x):i=j:=by
 obtain⟨h1,e1⟩:=List.getElem?_eq_some_iff.mp a
 obtain⟨h2,e2⟩:=List.getElem?_eq_some_iff.mp b
 exact(List.getElem_inj hN).mp (e1.trans e2.symm)
theorem Z64 {M:Model}{A:Around}{E:Value->Shared->Prop}{i:Nat}{x:Str}{v:V}{u:Value}{Q:Unit->Shared->Prop}(I:Inv X pins σ H s)(hN:X.N.Nodup)(hi:X.N[i]? = some x)(hx:Loc X.env.scope x)(r:RelV v u)
  (h:∀s',Inv X pins (σ.set i (some v)) H s'->(∃a,Heap.SameBut a s.heap s'.heap/\(a=X.env.locals∨X.env.cells.lookup x=some a))->Q () s') (hf:X.fn x=true∨X.env.scope.names.lookup x=some .local:=by first | exact .inl rfl | exact .inr rfl | assumption):wpAny M A (storeName X.env x u) Q E s:=by
 obtain⟨m,hn,hl⟩:=id I.loc
 have hcls:(X.env.scope.kind == .class||(X.env.scope.kind == .module&&X.env.locals != X.env.globals))=false:=by rw[I.ok.kind];rfl
 have hiσ:i<σ.length:=by rw[I.len];exact(List.getElem?_eq_some_iff.mp hi).1
 have cne:=I.cne
 have tracked:∀{a:Addr} {h':Heap},(∃o,s.heap.get? a=some o/\H a=none)->Heap.SameBut a s.heap h'->HOk X.prog X.w H h':=fun {a h'} ha hs b ob e=>by
  obtain⟨_,_,hfree⟩:=ha
  refine(I.hok b ob e).stay (fun c w' hc q=>(hs.2 c ?_).trans q) (fun _ q=>q) fun _ _ q=>q
  rintro rfl
  rcases hc with rfl | hc
  ·rw[hfree] at e;cases e
  ·rw[hfree] at hc;cases hc
 rcases hx with hk | hk
 ·refine wpAny_storeName_local hk hn (fun h' hn' hs => ?_) hcls
  obtain⟨oL,_,_,hoL,_⟩:=id hn
  refine h _ ⟨I.ok,I.os,I.bare,⟨fun b o e n hb hx => ?_,fun b o e n hb hx => ?_,I.base.free,fun b o e hx => ?_,I.base.tups,I.base.frzs,I.base.tbls⟩,⟨_,hn',fun j y v' e1 e2 e3 => ?_⟩,fun y c e => ?_,I.free,I.freeC,fun p hp => ?_,tracked ⟨oL,hoL,I.free⟩ hs,by simpa using I.len⟩ ⟨_,hs,.inl rfl⟩
  ·exact(hs.2 b (Nat.ne_of_lt (Nat.lt_of_lt_of_le (Heap.lt_size e) I.ok.above))).trans (I.base.keep b o e n hb hx)
  ·obtain⟨sl,e1⟩:=I.base.slot b o e n hb hx
   exact⟨sl,(hs.2 b (Nat.ne_of_lt (Nat.lt_of_lt_of_le (Heap.lt_size e) I.ok.above))).trans e1⟩
  ·obtain⟨o',e1⟩:=I.base.there b o e hx
   exact⟨o',(hs.2 b (Nat.ne_of_lt (Nat.lt_of_lt_of_le (Heap.lt_size e) I.ok.above))).trans e1⟩
  ·by_cases hj:j=i
   ·subst hj
    rw[hi] at e1;cases e1
    rw[List.getElem?_set_self hiσ] at e2
    cases e2
    exact⟨u,r,.inl ⟨hk,by simp⟩⟩
   ·rw[List.getElem?_set_ne (Ne.symm hj)] at e2
    obtain⟨u',r',q⟩:=hl j y v' e1 e2 e3
    refine⟨u',r',?_⟩
    rcases q with ⟨k,e⟩ | ⟨k,c,e,z⟩
    ·refine .inl ⟨k,?_⟩
     have:y≠x:=fun e=>hj (Zap hN e1 (e▸hi))
     simp [this,e]
    ·exact .inr ⟨k,c,e,z.sameBut hs (cne y c e)⟩
  ·obtain⟨w',z⟩:=I.cell y c e
   exact⟨w',z.sameBut hs (cne y c e)⟩
  ·obtain⟨e,n,ne,nf,d⟩:=I.pin p hp
   exact⟨(hs.2 p.1 ne).trans e,n,ne,nf,d⟩
 ·have hfn:X.fn x=true:=by
   rcases hf with z | z
   ·exact z
   ·rw[z] at hk;cases hk
  obtain⟨c,hc⟩:=I.ok.has x (.inl hk)
  obtain⟨w',z⟩:=I.cell x c hc
  refine wpAny_storeName_cell I.ok.kind hk hc z (fun h' hc' hs => ?_)
  obtain⟨oc,hoc,hocd⟩:=id z
  refine h { s with heap:=h' } ⟨I.ok,I.os,I.bare,⟨fun b o e n hb hx => ?_,fun b o e n hb hx => ?_,I.base.free,fun b o e hx => ?_,I.base.tups,I.base.frzs,I.base.tbls⟩,⟨m,hn.sameBut hs (Ne.symm (cne x c hc)),fun j y v' e1 e2 e3 => ?_⟩,fun y c' e => ?_,I.free,I.freeC,fun p hp => ?_,tracked ⟨oc,hoc,I.freeC x c hc⟩ hs,by simpa using I.len⟩ ⟨c,hs,.inr hc⟩
  ·exact(hs.2 b (Nat.ne_of_lt (Nat.lt_of_lt_of_le (Heap.lt_size e) (I.ok.cab x c hfn hc)))).trans (I.base.keep b o e n hb hx)
  ·obtain⟨sl,e1⟩:=I.base.slot b o e n hb hx
   exact⟨sl,(hs.2 b (Nat.ne_of_lt (Nat.lt_of_lt_of_le (Heap.lt_size e) (I.ok.cab x c hfn hc)))).trans e1⟩
  ·obtain⟨o',e1⟩:=I.base.there b o e hx
   exact⟨o',(hs.2 b (Nat.ne_of_lt (Nat.lt_of_lt_of_le (Heap.lt_size e) (I.ok.cab x c hfn hc)))).trans e1⟩
  ·by_cases hj:j=i
   ·subst hj
    rw[hi] at e1;cases e1
    rw[List.getElem?_set_self hiσ] at e2
    cases e2
    exact⟨u,r,.inr ⟨.inl hk,c,hc,hc'⟩⟩
   ·rw[List.getElem?_set_ne (Ne.symm hj)] at e2
    obtain⟨u',r',q⟩:=hl j y v' e1 e2 e3
    refine⟨u',r',?_⟩
    rcases q with q | ⟨k,c',e,z'⟩
    ·exact .inl q
    ·refine .inr ⟨k,c',e,z'.sameBut hs ?_⟩
     rintro rfl
     exact hj (Zap hN e1 (I.ok.inj _ _ _ e hc▸hi))
  ·by_cases hcc:c'=c
   ·subst hcc;exact⟨_,hc'⟩
   ·obtain⟨w2,z2⟩:=I.cell y c' e
    exact⟨w2,z2.sameBut hs hcc⟩
  ·obtain⟨e,n,ne,nf,d⟩:=I.pin p hp
   refine⟨(hs.2 p.1 ?_).trans e,n,ne,nf,d⟩
   intro q
   rw[q,hoc] at e
   have q':oc=p.2:=Option.some.inj e
   exact d w' (by rw[<- q'];exact hocd)
theorem Zaq {M:Model}{A:Around}{E:Value->Shared->Prop}{i:Nat}{x:Str}{v:V}{u:Value}{Q:Unit->Shared->Prop}(I:Inv X pins σ H s)(hN:X.N.Nodup)(hi:X.N[i]? = some x)(hx:Loc X.env.scope x)(r:RelV v u)
  (h:∀s',Inv X pins (σ.set i (some v)) H s'->Q () s') (hf:X.fn x=true∨X.env.scope.names.lookup x=some .local:=by first | exact .inl rfl | exact .inr rfl | assumption):wpAny M A (storeName X.env x u) Q E s :=
 Z64 I hN hi hx r (fun s' I' _=>h s' I') hf
theorem Inv.call' {s':Shared}{ch:List Addr}(I:Inv X pins σ H s)(ho:s'.os=s.os)(u:Un (frs X.stack) ch H H' s.heap s'.heap)(hok:HOk X.prog X.w H' s'.heap)(hg:AllBare s'.gens)
  (hch:∀b∈ch,(b∈X.ex∨X.s₀.heap.objs.size<=b)/\b≠X.env.locals/\(∀x c,X.env.cells.lookup x=some c->c≠b)/\∀p∈X.pn++pins,p.1≠b):Inv X pins σ H' s':=by
 obtain⟨h',g',d',t',o'⟩:=s'
 have e:o'=s.os:=ho
 subst e
 exact I.call (g':=g') (t':=t') (d':=d') u hok hg hch
end
abbrev XK:=Value->Option Addr->Hp->Prop
abbrev St:=List (Option V)
abbrev VK:=V->Hp->Prop
abbrev TE:=St->Hp->VK->Prop
abbrev TT:=St->Hp->(Bool->Hp->Prop)->Prop
abbrev TA:=St->Hp->(List V->Hp->Prop)->Prop
structure Ends where
 nx:St->Hp->Prop
 rt:VK
 bk:St->Hp->Prop:=fun _ _=>False
 ct:St->Hp->Prop:=fun _ _=>False
abbrev TS:=Ends->St->Hp->Prop
def EP (X:Cx)(pins:List (Addr × Obj))(σ:St)(Q:VK)(u:Value)(s':Shared):Prop:=∃v H',Inv X pins σ H' s'/\RelV v u/\Q v H'
def TP (X:Cx)(pins:List (Addr × Obj))(σ:St)(Q:Bool->Hp->Prop)(b:Bool)(s':Shared):Prop:=∃H',Inv X pins σ H' s'/\Q b H'
def AP (X:Cx)(pins:List (Addr × Obj))(σ:St)(Q:List V->Hp->Prop)(us:List Value)(s':Shared):Prop:=∃vs H',Inv X pins σ H' s'/\Vals vs us/\Q vs H'
def SP (X:Cx)(pins:List (Addr × Obj))(D:Ends)(f:Flow)(s':Shared):Prop :=
 match f with
 | .next=>∃ σ' H',Inv X pins σ' H' s'/\D.nx σ' H'
 | .brk=>∃ σ' H',Inv X pins σ' H' s'/\D.bk σ' H'
 | .cont=>∃ σ' H',Inv X pins σ' H' s'/\D.ct σ' H'
 | .ret u=>∃v σ' H',Inv X pins σ' H' s'/\RelV v u/\D.rt v H'
def PE (X:Cx)(e:Expr)(t:TE):Prop :=
 ∀(pins:List (Addr × Obj)) (s:Shared) (σ:St) (H:Hp) (Q:VK),Inv X pins σ H s->t σ H Q->wpAny (model X.prog X.w) X.A (eval e X.env) (EP X pins σ Q) X.xe s
def PT (X:Cx)(e:Expr)(t:TT):Prop :=
 ∀(pins:List (Addr × Obj)) (s:Shared) (σ:St) (H:Hp) (Q:Bool->Hp->Prop),Inv X pins σ H s->t σ H Q->wpAny (model X.prog X.w) X.A (isTrue e X.env (eval e X.env)) (TP X pins σ Q) X.xe s
def PW (X:Cx)(e:Expr)(t:TT):Prop :=
 ∀(whole:Sem Value) (pins:List (Addr × Obj)) (s:Shared) (σ:St) (H:Hp) (Q:Bool->Hp->Prop),Inv X pins σ H s->t σ H Q->wpAny (model X.prog X.w) X.A (isTrue e X.env whole) (TP X pins σ Q) X.xe s
theorem PW.pt {X:Cx}{e:Expr}{t:TT}(h:PW X e t):PT X e t:=h _
def PA (X:Cx)(es:List Expr)(t:TA):Prop :=
 ∀(pos:Pos) (pins:List (Addr × Obj)) (s:Shared) (σ:St) (H:Hp) (Q:List V->Hp->Prop),Inv X pins σ H s->t σ H Q->wpAny (model X.prog X.w) X.A (spliced (backTo pos (starEach es X.env))) (AP X pins σ Q) X.xe s
def PS (X:Cx)(st:Stmt)(t:TS):Prop :=
 ∀(pins:List (Addr × Obj)) (s:Shared) (σ:St) (H:Hp) (D:Ends),Inv X pins σ H s->t D σ H->wpAny (model X.prog X.w) X.A (exec st X.env) (SP X pins D) X.xe s
def PSs (X:Cx)(st:List Stmt)(t:TS):Prop :=
 ∀(pins:List (Addr × Obj)) (s:Shared) (σ:St) (H:Hp) (D:Ends),Inv X pins σ H s->t D σ H->wpAny (model X.prog X.w) X.A (execs st X.env) (SP X pins D) X.xe s
theorem thn {α : Type}{t:Sem α}{Q Q' : α -> Shared->Prop}{M:Model}{A:Around}{E:Value->Shared->Prop}{s:Shared}(h:wpAny M A t Q E s)(hQ:∀a s,Q a s->Q' a s):wpAny M A t Q' E s:=wpAny_mono h hQ fun _ _ x=>x
section
variable {X:Cx}
inductive tVar (i:Nat)(σ:St)(H:Hp)(Q:VK):Prop
 | mk (v:_) (_:σ[i]? = some (some v)) (_:Q v H):tVar i σ H Q
def tC (v:V):TE:=fun _ H Q=>Q v H
theorem Zka {i:Nat}{x:Str}{pos:Pos}(hN:X.N[i]? = some x)(hv:Vis X.env.scope x)(hd:(x==("__debug__":Str))=false:=by decide)(hcd:(x==("__classdict__":Str))=false:=by decide):PE X (.Name x pos) (tVar i):=by
 intro pins s σ H Q I h
 obtain⟨v,e,h⟩:=h
 obtain⟨m,hn,hl⟩:=I.loc
 obtain⟨u,r,l⟩:=hl i x v hN e hv
 have fin:EP X pins σ Q u s:=⟨v,H,I,r,h⟩
 rcases l with ⟨hk,hm⟩ | ⟨hk,c,hc,hcell⟩
 ·exact wpAny_Name (wpAny_loadName_local I.ok.kind hk hn hm fin) hd
 ·rcases hk with hk | hk
  ·exact wpAny_Name (wpAny_loadName_cell I.ok.kind hk hc hcell fin) hd
  ·exact wpAny_Name (wpAny_loadName_free I.ok.kind hk hc hcell fin hcd) hd
theorem Z04 {i j pos}:PE X (.Constant (.int i) j pos) (tC (.int i)):=fun _ _ _ H _ I h=>wpAny_Constant_int ⟨.int i,H,I.tok _,⟨_,rfl⟩,h⟩
theorem Z9w {b j pos}:PE X (.Constant (.bool b) j pos) (tC (.bl b)):=fun _ _ _ H _ I h=>Constant_bool ⟨.bl b,H,I,rfl,h⟩
theorem Zd2 {j pos}:PE X (.Constant .none j pos) (tC .non):=fun _ _ _ H _ I h=>Constant_none ⟨.non,H,I,rfl,h⟩
theorem Z0e {x j pos}:PE X (.Constant (.str x) j pos) (tC (.str x)):=fun _ _ _ H _ I h=>Calls.Constant_str ⟨.str x,H,I.tok _,⟨_,rfl⟩,h⟩
def Gl (X:Cx)(x:Str):Prop:=X.env.kindOf x=some .globalImplicit
theorem Zd3 {E:Value->Shared->Prop}{pins:List (Addr × Obj)}{s:Shared}{σ:St}{H:Hp}{x:Str}{u:Value}{pos:Pos}{Q:Value->Shared->Prop}(I:Inv X pins σ H s)(hg:Gl X x)(hm:X.mg x=some u)(h:Q u s)
  (hd:(x==("__debug__":Str))=false:=by decide):wpAny (model X.prog X.w) X.A (eval (.Name x pos) X.env) Q E s :=
 Calls.Name_function_global I.ok.kind hg (Calls.loadGlobal_global (by rw[I.ok.glob];exact I.mod.glob.keeps I.bk) hm h) hd
theorem Z65 {E:Value->Shared->Prop}{pins:List (Addr × Obj)}{s:Shared}{σ:St}{H:Hp}{x:Str}{u:Value}{pos:Pos}{Q:Value->Shared->Prop}(I:Inv X pins σ H s)(hg:Gl X x)(hm:X.mg x=none)(hv:bootBuiltins x=some u)(h:Q u s)
  (hn:x≠"__name__":=by decide) (hd:(x==("__debug__":Str))=false:=by decide):wpAny (model X.prog X.w) X.A (eval (.Name x pos) X.env) Q E s:=by
 obtain⟨mb,h1,h2⟩:=I.mod.blt
 exact Calls.Name_function_global I.ok.kind hg (Calls.loadGlobal_builtin (by rw[I.ok.glob];exact I.mod.glob.keeps I.bk) hm (by rw[I.ok.blt];exact h1.keeps I.bk) ((h2 x hn).trans hv) h) hd
theorem Z58 {x:Str}{v:V}{u:Value}{pos:Pos}(hg:Gl X x)(hm:X.mg x=some u)(r:RelV v u)(hd:(x==("__debug__":Str))=false:=by decide):PE X (.Name x pos) (tC v) :=
 fun _ _ _ H _ I h=>Zd3 I hg hm ⟨v,H,I,r,h⟩ hd
theorem Z2b {x:Str}{v:V}{u:Value}{pos:Pos}(hg:Gl X x)(hm:X.mg x=none)(hv:bootBuiltins x=some u)(r:RelV v u)(hn:x≠"__name__":=by decide)(hd:(x==("__debug__":Str))=false:=by decide):PE X (.Name x pos) (tC v) :=
 fun _ _ _ H _ I h=>Z65 I hg hm hv ⟨v,H,I,r,h⟩ hn hd
variable {a b:Expr}{ta tb:TE}{pos:Pos}
def tB (t:TE):TT:=fun σ H Q=>t σ H fun x H1=>∃c,x = .bl c/\Q c H1
theorem Z3p {e:Expr}{t:TE}(h:PE X e t)(he:∀whole,isTrue e X.env whole=(do let v ← whole;standAt e.pos;holding [v] (truthy v)):=by intro _;rfl):PT X e (tB t):=by
 intro pins s σ H Q I hw
 refine isTrue_plain (thn (h pins s σ H _ I hw) fun v s1 ⟨x,H1,I1,r1,q1⟩ => ?_) (he _)
 obtain⟨d,rfl,q⟩:=q1
 cases r1
 exact wpAny_truthy_bool ⟨H1,I1,q⟩
variable {tA tB':TT}{rest:List Expr}
def Znt (t u:TT):TT:=fun σ H Q=>t σ H fun c H1=>if c=true then u σ H1 Q else Q false H1
def tOr (t u:TT):TT:=fun σ H Q=>t σ H fun c H1=>if c=true then Q true H1 else u σ H1 Q
def Znu (t:TT):TT:=fun σ H Q=>t σ H fun c H1=>Q (!c) H1
theorem Z34 (ha:PT X a tA):PW X (.BoolOp .And [a] pos) tA:=by
 intro wh pins s σ H Q I h
 refine isTrue_and (thn (ha pins s σ H Q I h) fun c s1 e => ?_)
 cases c with
 | true=>exact isTrue_and_nil e
 | false=>exact e
theorem Z8n (ha:PT X a tA):PW X (.BoolOp .Or [a] pos) tA:=by
 intro wh pins s σ H Q I h
 refine isTrue_or (thn (ha pins s σ H Q I h) fun c s1 e => ?_)
 cases c with
 | false=>exact isTrue_or_nil e
 | true=>exact e
theorem Z3u (ha:PT X a tA)(hb:PW X (.BoolOp .And (b::rest) pos) tB'):PW X (.BoolOp .And (a::b::rest) pos) (Znt tA tB'):=by
 intro wh pins s σ H Q I h
 refine isTrue_and (thn (ha pins s σ H _ I h) fun c s1 ⟨H1,I1,q1⟩ => ?_)
 cases c with
 | true=>exact hb wh pins s1 σ H1 Q I1 q1
 | false=>exact⟨H1,I1,q1⟩
theorem Zc3 (ha:PT X a tA)(hb:PW X (.BoolOp .Or (b::rest) pos) tB'):PW X (.BoolOp .Or (a::b::rest) pos) (tOr tA tB'):=by
 intro wh pins s σ H Q I h
 refine isTrue_or (thn (ha pins s σ H _ I h) fun c s1 ⟨H1,I1,q1⟩ => ?_)
 cases c with
 | true=>exact⟨H1,I1,q1⟩
 | false=>exact hb wh pins s1 σ H1 Q I1 q1
theorem Z76 (ha:PT X a tA):PT X (.UnaryOp .Not a pos) (Znu tA):=by
 intro pins s σ H Q I h
 exact isTrue_not (ha pins s σ H (fun c H1=>Q (!c) H1) I h)
def Zm8 (ta tb:TE):TE:=fun σ H Q=>ta σ H fun x H1=>∃c,x = .bl c/\if c=true then tb σ H1 Q else Q (.bl false) H1
theorem Zar {op}{t:TE}(h:PE X a t):PE X (.BoolOp op [a] pos) t:=fun pins s σ H Q I hw=>BoolOp_one (h pins s σ H Q I hw)
theorem Z77 (ha:PE X a ta)(hb:PE X (.BoolOp .And (b::rest) pos) tb):PE X (.BoolOp .And (a::b::rest) pos) (Zm8 ta tb):=by
 intro pins s σ H Q I h
 refine BoolOp_and (thn (ha pins s σ H _ I h) fun v s1 ⟨x,H1,I1,r1,q1⟩ => ?_)
 obtain⟨c,rfl,q1⟩:=q1
 cases r1
 refine wpAny_truthy_bool ?_
 cases c with
 | true=>exact hb pins s1 σ H1 Q I1 q1
 | false=>exact⟨.bl false,H1,I1,rfl,q1⟩
end
def SqL (K:PySem.W.Frag)(H:Hp)(a:Addr)(xs:List V):Prop :=
 Rd H a (.lst xs) ∨
  ∃(o:Obj) (its:Array Value) (n:Nat),K.lookup a=some o/\o.cls = .type "list"/\o.dict=none/\o.data = .seq its n/\its.size<=sizeLine/\Vals xs its.toList
def SqT (K:PySem.W.Frag)(H:Hp)(a:Addr)(xs:List V):Prop :=
 Rd H a (.tup xs) ∨
  ∃(o:Obj) (its:Array Value) (n:Nat),K.lookup a=some o/\o.cls = .type "tuple"/\o.data = .seq its n/\its.size<=sizeLine/\Vals xs its.toList
def Znv:Value->Option V
 | .none=>some .non
 | .bool b=>some (.bl b)
 | .int i _=>some (.int i)
 | .str x _=>some (.str x)
 | .bytes b _=>some (.byt b)
 | .float b _=>some (.flt b)
 | .ref a=>some (.ref a)
 | .type n=>some (.ty n)
 | _=>none
theorem RelV.abs {x:V}{u:Value}(r:RelV x u):Znv u=some x:=by
 cases x with
 | non=>cases r;rfl
 | bl _=>cases r;rfl
 | int _=>obtain⟨t,rfl⟩:=r;rfl
 | str _=>obtain⟨t,rfl⟩:=r;rfl
 | byt _=>obtain⟨t,rfl⟩:=r;rfl
 | flt _=>obtain⟨t,rfl⟩:=r;rfl
 | ref _=>cases r;rfl
 | ty _=>cases r;rfl
theorem RelV.inj {x y:V}{u:Value}(r:RelV x u)(q:RelV y u):x=y:=Option.some.inj (r.abs.symm.trans q.abs)
theorem Vals.inj:∀{xs ys:List V} {us:List Value},Vals xs us->Vals ys us->xs=ys
 | _,_,_,.nil,.nil=>rfl
 | _,_,_,.cons r t,.cons r' t'=>by rw[r.inj r',Vals.inj t t']
section
variable {X:Cx}{pins:List (Addr × Obj)}{σ:St}{H:Hp}{s:Shared}{a:Addr}{xs ys:List V}
theorem SqL.of {K:PySem.W.Frag}(h:H a=some (.lst xs)):SqL K H a xs := .inl (.inl h)
theorem SqT.of {K:PySem.W.Frag}(h:H a=some (.tup xs)):SqT K H a xs := .inl (.inl h)
theorem Inv.list (I:Inv X pins σ H s)(h:SqL X.K H a xs):∃its:List Value,Vals xs its/\PlainL s.heap a its.toArray/\xs.length<=sizeLine:=by
 rcases h with h | ⟨o,its,n,hk,hc,hd,hs,hz,r⟩
 ·obtain⟨z,its,n,r,e⟩:=h.ok I.hok
  exact⟨its,r,⟨_,n,e,rfl,rfl,rfl⟩,z⟩
 ·refine⟨its.toList,r,⟨o,n,I.kIn a o hk,hc,hd,by simpa using hs⟩,?_⟩
  have e:=r.length
  simp only [Array.length_toList] at e
  omega
theorem Inv.tuple (I:Inv X pins σ H s)(h:SqT X.K H a xs):∃its:List Value,Vals xs its/\IsTup s.heap a its.toArray/\xs.length<=sizeLine:=by
 rcases h with h | ⟨o,its,n,hk,hc,hs,hz,r⟩
 ·obtain⟨z,its,r,p⟩:=h.ok I.hok
  exact⟨its,r,p,z⟩
 ·refine⟨its.toList,r,⟨o,I.kIn a o hk,hc,n,by simpa using hs⟩,?_⟩
  have e:=r.length
  simp only [Array.length_toList] at e
  omega
theorem Inv.list_inj (I:Inv X pins σ H s)(h:SqL X.K H a xs)(h':SqL X.K H a ys):xs=ys:=by
 obtain⟨its,r,⟨o,n,e,_,_,d⟩,_⟩:=I.list h
 obtain⟨its',r',⟨o',n',e',_,_,d'⟩,_⟩:=I.list h'
 rw[e] at e';cases e'
 rw[d] at d'
 injection d' with d1 _
 have:its=its':=by simpa using congrArg Array.toList d1
 subst this
 exact r.inj r'
theorem Inv.tuple_inj (I:Inv X pins σ H s)(h:SqT X.K H a xs)(h':SqT X.K H a ys):xs=ys:=by
 obtain⟨its,r,⟨o,e,_,n,d⟩,_⟩:=I.tuple h
 obtain⟨its',r',⟨o',e',_,n',d'⟩,_⟩:=I.tuple h'
 rw[e] at e';cases e'
 rw[d] at d'
 injection d' with d1 _
 have:its=its':=by simpa using congrArg Array.toList d1
 subst this
 exact r.inj r'
end
abbrev Cx.wish (X:Cx)(E:Value->Shared->Prop):Cx:={ X with xe:=E }
abbrev Cx.nox (X:Cx):Cx:=X.wish fun _ _=>False
theorem Cx.Ok.wish {X:Cx}(ok:X.Ok)(E:Value->Shared->Prop):(X.wish E).Ok :=
 ⟨ok.mod,ok.kind,ok.glob,ok.blt,ok.above,ok.inj,ok.has,ok.cab,ok.hd,ok.frames,ok.stk,ok.exf,ok.bs,ok.bsz,ok.noex,ok.exfs,ok.funs,ok.frf⟩
theorem Cx.Ok.unwish {X:Cx}{E:Value->Shared->Prop}(ok:(X.wish E).Ok):X.Ok :=
 ⟨ok.mod,ok.kind,ok.glob,ok.blt,ok.above,ok.inj,ok.has,ok.cab,ok.hd,ok.frames,ok.stk,ok.exf,ok.bs,ok.bsz,ok.noex,ok.exfs,ok.funs,ok.frf⟩
section
variable {X:Cx}{pins:List (Addr × Obj)}{σ:St}{H:Hp}{s:Shared}{E:Value->Shared->Prop}
theorem Inv.wish (I:Inv X pins σ H s)(E:Value->Shared->Prop):Inv (X.wish E) pins σ H s:=⟨I.ok.wish E,I.os,I.bare,I.base,I.loc,I.cell,I.free,I.freeC,I.pin,I.hok,I.len⟩
theorem Inv.unwish (I:Inv (X.wish E) pins σ H s):Inv X pins σ H s:=⟨I.ok.unwish,I.os,I.bare,I.base,I.loc,I.cell,I.free,I.freeC,I.pin,I.hok,I.len⟩
theorem SP.unwish {D:Ends}{f:Flow}{s':Shared}(h:SP (X.wish E) pins D f s'):SP X pins D f s':=by
 cases f with
 | next=>obtain⟨σ',H',I,q⟩:=h;exact⟨σ',H',I.unwish,q⟩
 | brk=>obtain⟨σ',H',I,q⟩:=h;exact⟨σ',H',I.unwish,q⟩
 | cont=>obtain⟨σ',H',I,q⟩:=h;exact⟨σ',H',I.unwish,q⟩
 | ret u=>obtain⟨v,σ',H',I,r,q⟩:=h;exact⟨v,σ',H',I.unwish,r,q⟩
theorem PSs.nox {st:List Stmt}{t:TS}(h:PSs X.nox st t):PSs X st t:=fun pins s σ H D I hw =>
 wpAny_mono (h pins s σ H D (I.wish _) hw) (fun _ _ q=>q.unwish) fun _ _ z=>False.elim z
end
section
variable {X:Cx}{st:Stmt}{rest:List Stmt}{t u:TS}{e:Expr}{te:TE}{pos:Pos}
def tNext:TS:=fun D σ H=>D.nx σ H
def Znw (t u:TS):TS:=fun D σ H=>t { D with nx:=u D } σ H
theorem Z0k:PSs X [] tNext:=fun _ _ σ H _ I h=>wpAny_execs_nil ⟨σ,H,I,h⟩
theorem Z03 (h1:PS X st t)(h2:PSs X rest u):PSs X (st::rest) (Znw t u):=by
 intro pins s σ H D I h
 refine wpAny_execs_cons (thn (h1 pins s σ H { D with nx:=u D } I h) fun f s1 q => ?_)
 cases f with
 | next =>
  obtain⟨σ',H',I',q⟩:=q
  exact h2 pins s1 σ' H' D I' q
 | ret v=>exact q
 | brk=>exact q
 | cont=>exact q
theorem Z07 (h1:PS X st t):PSs X [st] t:=by
 intro pins s σ H D I h
 refine wpAny_execs_cons (thn (h1 pins s σ H D I h) fun f s1 q => ?_)
 cases f with
 | next=>exact wpAny_execs_nil q
 | ret v=>exact q
 | brk=>exact q
 | cont=>exact q
theorem Inv.quiet {pins:List (Addr × Obj)}{σ:St}{H:Hp}{s:Shared}(I:Inv X pins σ H s):interactive X.env=false:=by simp [interactive,I.ok.kind]
def Zm9 (te:TE):TS:=fun D σ H=>te σ H fun _ H1=>D.nx σ H1
theorem Z2k (he:PE X e te)(hs:swapsWith e none pos.line X.env=pure false:=by rfl):PS X (.Expr e pos) (Zm9 te):=by
 intro pins s σ H D I h
 exact wpAny_Expr_any (thn (he pins s σ H _ I h) fun v s1 ⟨x,H1,I1,r1,q1⟩=>⟨σ,H1,I1,q1⟩) I.quiet hs
def Znx (te:TE):TS:=fun D σ H=>te σ H D.rt
theorem Z0l (he:PE X e te):PS X (.Return (some e) pos) (Znx te):=by
 intro pins s σ H D I h
 exact wpAny_Return_some (thn (he pins s σ H _ I h) fun v s1 ⟨x,H1,I1,r1,q1⟩=>⟨x,σ,H1,I1,r1,q1⟩)
def Zny (c:TT)(t u:TS):TS:=fun D σ H=>c σ H fun b H1=>if b=true then t D σ H1 else u D σ H1
theorem Z17 {c:Expr}{a b:List Stmt}{tc:TT}(hc:PT X c tc)(ha:PSs X a t)(hb:PSs X b u):PS X (.If c a b pos) (Zny tc t u):=by
 intro pins s σ H D I h
 refine wpAny_If (thn (hc pins s σ H _ I h) fun d s1 ⟨H1,I1,q1⟩ => ?_)
 cases d with
 | true=>exact ha pins s1 σ H1 D I1 q1
 | false=>exact hb pins s1 σ H1 D I1 q1
end
abbrev TG:=V->St->Hp->(St->Hp->Prop)->Prop
abbrev TGs:=List V->St->Hp->(St->Hp->Prop)->Prop
def PG (X:Cx)(target:Expr)(t:TG):Prop :=
 ∀(pins:List (Addr × Obj)) (s:Shared) (σ:St) (H:Hp) (v:V) (u:Value) (Q:St->Hp->Prop),Inv X pins σ H s->RelV v u->t v σ H Q →
  wpAny (model X.prog X.w) X.A (assign target X.env u) (fun _ s'=>∃ σ' H',Inv X pins σ' H' s'/\Q σ' H') X.xe s
def PGs (X:Cx)(ts:List Expr)(t:TGs):Prop :=
 ∀(pins:List (Addr × Obj)) (s:Shared) (σ:St) (H:Hp) (vs:List V) (us:List Value) (Q:St->Hp->Prop),Inv X pins σ H s->Vals vs us->t vs σ H Q →
  wpAny (model X.prog X.w) X.A (assignInOrder ((assignEach ts X.env).map (·.2)) us) (fun _ s'=>∃ σ' H',Inv X pins σ' H' s'/\Q σ' H') X.xe s
section
variable {X:Cx}{pos:Pos}
def Z8o (i:Nat):TG:=fun v σ H Q=>Q (σ.set i (some v)) H
theorem Z0m {i:Nat}{x:Str}(hN:X.N.Nodup)(hi:X.N[i]? = some x)(hx:Loc X.env.scope x)(hf:X.fn x=true∨X.env.scope.names.lookup x=some .local:=by first | exact .inl rfl | exact .inr rfl | assumption):PG X (.Name x pos) (Z8o i):=by
 intro pins s σ H v u Q I r h
 exact wpAny_assign_Name (Zaq I hN hi hx r (fun s' I'=>⟨_,H,I',h⟩) hf)
def gNil:TGs:=fun vs σ H Q=>vs = []/\Q σ H
def Zi9 (t:TG)(u:TGs):TGs:=fun vs σ H Q=>∃v r,vs=v::r/\t v σ H fun σ' H'=>u r σ' H' Q
theorem Z7s:PGs X [] gNil:=by
 intro pins s σ H vs us Q I r h
 obtain⟨e,h⟩:=h
 subst e
 cases r
 exact assignInOrder_nil ⟨σ,H,I,h⟩
theorem Z2z {e:Expr}{es:List Expr}{t:TG}{u:TGs}(h1:PG X e t)(h2:PGs X es u)
  (hs:(assignEach (e::es) X.env).map (·.2)=assign e X.env::(assignEach es X.env).map (·.2):=by rfl):PGs X (e::es) (Zi9 t u):=by
 intro pins s σ H vs us Q I r h
 obtain⟨v,vr,e1,h⟩:=h
 subst e1
 cases r with
 | cons r rr =>
  rw[hs]
  refine assignInOrder_cons (thn (h1 pins s σ H _ _ _ I r h) fun _ s1 ⟨σ1,H1,I1,q1⟩ => ?_)
  exact h2 pins s1 σ1 H1 _ _ Q I1 rr q1
inductive gTup (K:PySem.W.Frag)(n:Nat)(t:TGs)(v:V)(σ:St)(H:Hp)(Q:(St->Hp->Prop)):Prop
 | mk (a xs:_) (_:v = .ref a) (_:SqT K H a xs) (_:xs.length=n) (_:t xs σ H Q):gTup K n t v σ H Q
theorem Zas {es:List Expr}{k:Nat}{t:TGs}{n:Nat}(hc:X.calm=true)(h:PGs X es t)
  (hn:(assignEach es X.env).length=n:=by rfl) (hst:(assignEach es X.env).findIdx? (·.1)=none:=by rfl):PG X (.Tuple es k pos) (gTup X.K n t):=by
 intro pins s σ H v u Q I r hw
 obtain⟨a,xs,e1,hq,hl,hw⟩:=hw
 subst e1
 cases r
 obtain⟨its,rv,ht,hz⟩:=I.tuple hq
 refine assign_Tuple_tuple (I.ok.hd hc) ht (by simp [hn,<- hl,rv.length]) hst fun h' hx => ?_
 have I1:Inv X pins σ H { s with heap:=h' }:=I.kept (t':=s.toks) fun b o e=>hx b o (Nat.ne_of_lt (Heap.lt_size e)) e
 exact h pins _ σ H xs _ Q I1 (by simpa using rv) hw
def Zk2 (te:TE)(g:TG):TS:=fun D σ H=>te σ H fun x H1=>g x σ H1 D.nx
theorem Zhj {tg e:Expr}{te:TE}{g:TG}(he:PE X e te)(hg:PG X tg g)(hs:swapsWithSole [tg] e pos.line X.env=pure false:=by rfl)(hw:swappedStores [tg] e X.env=pure none:=by rfl)
  (h1:(assignEach [tg] X.env).map (·.2) = [assign tg X.env]:=by rfl):PS X (.Assign [tg] e pos) (Zk2 te g):=by
 intro pins s σ H D I h
 refine wpAny_Assign_stores (thn (he pins s σ H _ I h) fun v s1 ⟨x,H1,I1,r1,q1⟩ => ?_) hs hw
 rw[h1]
 exact thn (hg pins s1 σ H1 x v _ I1 r1 q1) fun _ s2 q=>q
theorem Z0c {i:Nat}{x:Str}{e:Expr}{te:TE}{pos':Pos}(hN:X.N.Nodup)(hi:X.N[i]? = some x)(hx:Loc X.env.scope x)(he:PE X e te)(hs:swapsWith e (some (.Name x pos')) pos.line X.env=pure false:=by rfl)(hf:X.fn x=true∨X.env.scope.names.lookup x=some .local:=by first | exact .inl rfl | exact .inr rfl | assumption) :
  PS X (.Assign [.Name x pos'] e pos) (Zk2 te (Z8o i)):=by
 intro pins s σ H D I h
 refine wpAny_Assign_Name (thn (he pins s σ H _ I h) fun v s1 ⟨y,H1,I1,r1,q1⟩ => ?_) hs
 exact Zaq I1 hN hi hx r1 (fun s2 I2=>⟨_,H1,I2,q1⟩) hf
end
section
variable {X:Cx}{pos:Pos}
inductive tWhile (c:TT)(tb:TS)(D:Ends)(σ:St)(H:Hp):Prop
 | mk (W:Nat->St->Hp->Prop) (_:(∃m,W m σ H)) (_:∀m σ H,W m σ H->c σ H fun b H1=>if b=true then ∃N:St->Hp->Prop,(∀ σ' H',N σ' H'->∃m',m'<m/\W m' σ' H')/\tb { D with nx:=N,ct:=N,bk:=D.nx } σ H1 else D.nx σ H1):tWhile c tb D σ H
theorem Z5u {c:Expr}{body:List Stmt}{tc:TT}{tb:TS}(hp:PassesOwn (model X.prog X.w) X.A X.env X.xe)(hc:PT X c tc)(hb:PSs X body tb):PS X (.While c body [] pos) (tWhile tc tb):=by
 intro pins s σ H D I h
 obtain⟨W,⟨m0,w0⟩,turn⟩:=h
 refine wpAny_While (codeAny_whileLoop (fun n s'=>∃ σ' H',Inv X pins σ' H' s'/\W n σ' H') ?_ m0 ⟨σ,H,I,w0⟩)
 rintro n s1 ⟨σ1,H1,I1,w1⟩
 refine wpAny_passesOwn hp (thn (hc pins s1 σ1 H1 _ I1 (turn n σ1 H1 w1)) fun b s2 ⟨H2,I2,q2⟩ => ?_)
 cases b with
 | true =>
  obtain⟨N,hN,q2⟩:=q2
  rw[if_pos rfl]
  refine wpAny_passesOwn hp (thn (hb pins s2 σ1 H2 _ I2 q2) fun f s3 q3 => ?_)
  cases f with
  | next =>
   obtain⟨σ3,H3,I3,n3⟩:=q3
   obtain⟨m',hm,w3⟩:=hN σ3 H3 n3
   exact⟨m',hm,σ3,H3,I3,w3⟩
  | cont =>
   obtain⟨σ3,H3,I3,n3⟩:=q3
   obtain⟨m',hm,w3⟩:=hN σ3 H3 n3
   exact⟨m',hm,σ3,H3,I3,w3⟩
  | brk=>exact q3
  | ret v=>exact q3
 | false =>
  rw[if_neg Bool.false_ne_true]
  exact wpAny_execs_nil ⟨σ1,H2,I2,q2⟩
end
structure It where
 go:Nat->Hp->Prop
 yld:Nat->Hp->V->Hp->Prop
 stop:Nat->Hp->Prop
def Z3s (X:Cx)(pins:List (Addr × Obj))(H:Hp)(b:Addr):Prop :=
 H b=none/\b≠X.env.locals/\b∉X.fs/\(b∈X.ex∨X.s₀.heap.objs.size<=b)/\(∀x c,X.env.cells.lookup x=some c->c≠b)/\∀p∈X.pn++pins,p.1≠b
theorem Inv.fpOk {X:Cx}{pins:List (Addr × Obj)}{σ:St}{H H':Hp}{s:Shared}{b:Addr}(I:Inv X pins σ H s)(hb:s.heap.objs.size<=b)(hn:H' b=none):Z3s X pins H' b:=by
 refine⟨hn,Nat.ne_of_gt (Nat.lt_of_lt_of_le I.lt hb),I.nofs hb,.inr (Nat.le_trans I.sz hb),fun x c e z => ?_,fun p hp z => ?_⟩
 ·obtain⟨v,q⟩:=I.cell x c e
  exact absurd (Nat.lt_of_lt_of_le q.lt (by rw[z];exact hb)) (Nat.lt_irrefl _)
 ·exact absurd (Nat.lt_of_lt_of_le (Heap.lt_size (I.pin p hp).1) (by rw[z];exact hb)) (Nat.lt_irrefl _)
structure Turn (P:Program)(w:World)(K:PySem.W.Frag)(tg:Expr)(J:It)(fp:List Addr)(it:Addr)(tn:Nat->Heap->Prop):Prop where
 mem:it∈fp
 obj:∀i h,tn i h->∀b∈fp,∃o,h.get? b=some o/\∀v,o.data ≠ .cell v
 keep:∀i h h',tn i h->(∀b∈fp,∀o,h.get? b=some o->h'.get? b=some o)->tn i h'
 item:∀(X:Cx),X.prog=P->X.w=w->X.K=K->X.calm=true->∀(i:Nat) (pins:List (Addr × Obj)) (s:Shared) (σ:St) (H:Hp) (E:Value->Shared->Prop),Inv X pins σ H s->(∀b∈fp,Z3s X pins H b)->tn i s.heap->J.go i H →
  wpAny (model P w) X.A (pyNext (.ref it)) (fun r s1=>∃u,r=some u ∧
   wpAny (model P w) X.A (letOwnedTupleGo tg (.ref it) u) (fun _ s2=>∃x H',Inv X pins σ H' s2/\RelV x u/\J.yld i H x H'/\tn (i+1) s2.heap/\∀b∈fp,H' b=none) E s1) E s
 done:∀(X:Cx),X.prog=P->X.w=w->X.K=K->X.calm=true->∀(i:Nat) (pins:List (Addr × Obj)) (s:Shared) (σ:St) (H:Hp) (E:Value->Shared->Prop),Inv X pins σ H s->(∀b∈fp,Z3s X pins H b)->tn i s.heap->J.stop i H →
  wpAny (model P w) X.A (pyNext (.ref it)) (fun r s1=>r=none/\Inv X pins σ H s1) E s
 self:∀(A:Around) (i:Nat) (s:Shared) (Q:Value->Shared->Prop) (E:Value->Shared->Prop),tn i s.heap->Q (.ref it) s->wpAny (model P w) A (pyIter (.ref it)) Q E s
abbrev TI:=St->Hp->(It->Hp->Prop)->Prop
def PIE (X:Cx)(pins:List (Addr × Obj))(σ:St)(tg:Expr)(R:It->Hp->Prop)(itv:Value)(s2:Shared):Prop :=
 ∃(it:Addr) (fp:List Addr) (tn:Nat->Heap->Prop) (J:It) (H':Hp),itv = .ref it/\Inv X pins σ H' s2/\Turn X.prog X.w X.K tg J fp it tn/\tn 0 s2.heap/\(∀b∈fp,Z3s X pins H' b)/\R J H'
def PI (X:Cx)(tg iter:Expr)(wi:TI):Prop :=
 ∀(pins:List (Addr × Obj)) (s:Shared) (σ:St) (H:Hp) (R:It->Hp->Prop),Inv X pins σ H s->wi σ H R →
  wpAny (model X.prog X.w) X.A (eval iter X.env) (fun v s1=>wpAny (model X.prog X.w) X.A (pyIter v) (PIE X pins σ tg R) X.xe s1) X.xe s
theorem Zfm {M:Model}{A:Around}{E:Value->Shared->Prop}{s:Shared}{tg:Expr}{it:Addr}{u:Value}{o:Obj}{n:String}{vs:Array Value}{Q:Unit->Shared->Prop}(ho:s.heap.get? it=some o)(hc:o.cls = .type n)(hd:o.data = .fields vs)
  (hn : ["enumerate","zip","dict_itemiterator","dict_reverseitemiterator","odict_iterator","itertools.zip_longest","itertools.pairwise"].contains n=false) (hQ:Q () s):wpAny M A (letOwnedTupleGo tg (.ref it) u) Q E s:=by
 unfold letOwnedTupleGo
 cases tg <;> first
  | exact wpAny_pure hQ
  | (cases u <;> first
    | exact wpAny_pure hQ
    | (refine wpAny_bind (wpAny_load ho ?_)
       rw[hc,hd]
       show wpAny M A (if (["enumerate","zip","dict_itemiterator","dict_reverseitemiterator","odict_iterator","itertools.zip_longest","itertools.pairwise"].contains n&&vs[0]? == some (rawInt _))=true then _ else _) Q E s
       rw[if_neg (by intro h;rw[hn,Bool.false_and] at h;cases h)]
       exact wpAny_pure hQ))
def Itl (K:PySem.W.Frag)(a:Addr):It :=
 ⟨fun i H=>∃xs x,SqL K H a xs/\xs[i]? = some x,fun i H x H'=>H'=H/\∀xs,SqL K H a xs->xs[i]? = some x,fun i H=>∃xs,SqL K H a xs/\xs.length<=i⟩
def Itt (K:PySem.W.Frag)(a:Addr):It :=
 ⟨fun i H=>∃xs x,SqT K H a xs/\xs[i]? = some x,fun i H x H'=>H'=H/\∀xs,SqT K H a xs->xs[i]? = some x,fun i H=>∃xs,SqT K H a xs/\xs.length<=i⟩
def Itr (lo:Int)(n:Nat):It:=⟨fun i _=>i<n,fun i H x H'=>H'=H/\x = .int (lo+i),fun i _=>n<=i⟩
theorem Zd4 {P:Program}{w:World}{K:PySem.W.Frag}{tg:Expr}(a it:Addr):Turn P w K tg (Itl K a) [it] it (fun i h=>h.IsListIter it a i) where
 mem:=by simp
 obj:=fun i h st b hb=>by
  have e:b=it:=by simpa using hb
  subst e
  obtain⟨o,e,c,d⟩:=st
  exact⟨o,e,fun v z=>by rw[d] at z;cases z⟩
 keep:=fun i h h' st k=>st.at fun o e=>k it (by simp) o e
 item:=by
  intro X hP hw hK hc i pins s σ H E I hf st hg
  subst hP hw hK
  obtain⟨xs,x,hq,hx⟩:=hg
  obtain⟨its,rv,p,hz⟩:=I.list hq
  obtain⟨u,hu,ru⟩:=rv.get hx
  obtain⟨f0,f1,f2,f3,f4,f5⟩:=hf it (by simp)
  refine wpAny_pyNext_list_item st p.isList (x:=u) (by simpa using hu) fun h' st' sb => ?_
  have I1:Inv X pins σ H { s with heap:=h' }:=I.turned (t':=s.toks) (fun b o hb e=>(sb.2 b hb).trans e) f0 f1 f3 f4 f5
  obtain⟨o,e,c,d⟩:=id st'
  exact⟨u,rfl,Zfm (s:={ s with heap:=h' }) e c d (by decide) ⟨x,H,I1,ru,⟨rfl,fun ys hy=>by rw[I.list_inj hy hq];exact hx⟩,st',fun b hb=>(hf b hb).1⟩⟩
 done:=by
  intro X hP hw hK hc i pins s σ H E I hf st hg
  subst hP hw hK
  obtain⟨xs,hq,hx⟩:=hg
  obtain⟨its,rv,p,hz⟩:=I.list hq
  obtain⟨f0,f1,f2,f3,f4,f5⟩:=hf it (by simp)
  have hl:=rv.length
  exact wpAny_pyNext_list_end (I.ok.hd hc) st p.isList (by simp;omega) fun h' eb=>⟨rfl,I.turned (t':=s.toks) (fun b o hb e=>eb b o hb e) f0 f1 f3 f4 f5⟩
 self:=fun _ _ _ _ _ st h=>wpAny_pyIter_listiter st h
theorem Zc4 {P:Program}{w:World}{K:PySem.W.Frag}{tg:Expr}(a it:Addr):Turn P w K tg (Itt K a) [it] it (fun i h=>h.IsTupleIter it a i) where
 mem:=by simp
 obj:=fun i h st b hb=>by
  have e:b=it:=by simpa using hb
  subst e
  obtain⟨o,e,c,d⟩:=st
  exact⟨o,e,fun v z=>by rw[d] at z;cases z⟩
 keep:=fun i h h' st k=>st.at fun o e=>k it (by simp) o e
 item:=by
  intro X hP hw hK hc i pins s σ H E I hf st hg
  subst hP hw hK
  obtain⟨xs,x,hq,hx⟩:=hg
  obtain⟨its,rv,p,hz⟩:=I.tuple hq
  obtain⟨u,hu,ru⟩:=rv.get hx
  obtain⟨f0,f1,f2,f3,f4,f5⟩:=hf it (by simp)
  refine wpAny_pyNext_tuple_item st (show s.heap.IsTuple a its.toArray from p) (x:=u) (by simpa using hu) fun h' st' sb => ?_
  have I1:Inv X pins σ H { s with heap:=h' }:=I.turned (t':=s.toks) (fun b o hb e=>(sb.2 b hb).trans e) f0 f1 f3 f4 f5
  obtain⟨o,e,c,d⟩:=id st'
  exact⟨u,rfl,Zfm (s:={ s with heap:=h' }) e c d (by decide) ⟨x,H,I1,ru,⟨rfl,fun ys hy=>by rw[I.tuple_inj hy hq];exact hx⟩,st',fun b hb=>(hf b hb).1⟩⟩
 done:=by
  intro X hP hw hK hc i pins s σ H E I hf st hg
  subst hP hw hK
  obtain⟨xs,hq,hx⟩:=hg
  obtain⟨its,rv,p,hz⟩:=I.tuple hq
  obtain⟨f0,f1,f2,f3,f4,f5⟩:=hf it (by simp)
  have hl:=rv.length
  exact wpAny_pyNext_tuple_end (I.ok.hd hc) st (show s.heap.IsTuple a its.toArray from p) (by simp;omega) fun h' eb=>⟨rfl,I.turned (t':=s.toks) (fun b o hb e=>eb b o hb e) f0 f1 f3 f4 f5⟩
 self:=fun _ _ _ _ _ st h=>wpAny_pyIter_tupleiter st h
theorem Zc5 {P:Program}{w:World}{K:PySem.W.Frag}{tg:Expr}(it:Addr)(lo:Int)(n:Nat):Turn P w K tg (Itr lo n) [it] it (fun i h=>IsRangeIter h it (lo+(i:Nat)*1) ((n:Int)-(i:Nat)) 1) where
 mem:=by simp
 obj:=fun i h st b hb=>by
  have e:b=it:=by simpa using hb
  subst e
  exact⟨_,st,fun v z=>by
   have z':Data.fields _=Data.cell v:=z
   cases z'⟩
 keep:=fun i h h' st k=>k it (by simp) _ st
 item:=by
  intro X hP hw hK hc i pins s σ H E I hf st hg
  subst hP hw hK
  obtain⟨f0,f1,f2,f3,f4,f5⟩:=hf it (by simp)
  have W:=Walks.range (prog:=X.prog) (w:=X.w) (I.ok.hd hc) it lo 1 n
  refine W.item i s _ _ hg st fun v h' tk hv st' kk => ?_
  obtain⟨t,rfl⟩:=hv
  have I1:Inv X pins σ H { s with heap:=h',toks:=tk }:=I.turned (fun b o hb e=>kk b o (by simpa using hb) e) f0 f1 f3 f4 f5
  refine⟨_,rfl,Zfm (s:={ s with heap:=h',toks:=tk }) (n:="range_iterator") st' rfl rfl (by decide) ⟨.int (lo+i),H,I1,⟨t,?_⟩,⟨rfl,rfl⟩,st',fun b hb=>(hf b hb).1⟩⟩
  rw[Int.mul_one]
 done:=by
  intro X hP hw hK hc i pins s σ H E I hf st hg
  subst hP hw hK
  obtain⟨f0,f1,f2,f3,f4,f5⟩:=hf it (by simp)
  exact wpAny_pyNext_range_end (I.ok.hd hc) st (by have:n<=i:=hg;omega) fun h' eb=>⟨rfl,I.turned (t':=s.toks) (fun b o hb e=>eb b o hb e) f0 f1 f3 f4 f5⟩
 self:=fun _ _ _ _ _ st h=>wpAny_pyIter_rangeiter st h
section
variable {X:Cx}{tg:Expr}
def Zkb (K:PySem.W.Frag)(tl:TE):TI:=fun σ H R=>tl σ H fun x H1=>∃a,x = .ref a/\(∃xs,SqL K H1 a xs)/\R (Itl K a) H1
def Znz (K:PySem.W.Frag)(tl:TE):TI:=fun σ H R=>tl σ H fun x H1=>∃a,x = .ref a/\(∃xs,SqT K H1 a xs)/\R (Itt K a) H1
theorem Z2l {l:Expr}{tl:TE}(hl:PE X l tl):PI X tg l (Zkb X.K tl):=by
 intro pins s σ H R I h
 refine thn (hl pins s σ H _ I h) fun v s1 ⟨x,H1,I1,r1,q1⟩ => ?_
 obtain⟨a,e,⟨xs,hq⟩,q⟩:=q1
 subst e
 cases r1
 obtain⟨its,rv,p,hz⟩:=I1.list hq
 refine wpAny_pyIter_list p.isList ?_
 refine⟨s1.heap.objs.size,[s1.heap.objs.size],_,_,H1,rfl,I1.kept (t':=s1.toks) fun b o e=>Heap.get?_push_of_some _ e,Zd4 a _,⟨_,Heap.get?_push_size _ rfl,rfl,rfl⟩,fun b hb => ?_,q⟩
 have e:b=s1.heap.objs.size:=by simpa using hb
 subst e
 exact I1.fpOk (Nat.le_refl _) (I1.hok.fresh (Nat.le_refl _))
theorem Z4j {l:Expr}{tl:TE}(hl:PE X l tl):PI X tg l (Znz X.K tl):=by
 intro pins s σ H R I h
 refine thn (hl pins s σ H _ I h) fun v s1 ⟨x,H1,I1,r1,q1⟩ => ?_
 obtain⟨a,e,⟨xs,hq⟩,q⟩:=q1
 subst e
 cases r1
 obtain⟨its,rv,p,hz⟩:=I1.tuple hq
 refine wpAny_pyIter_tuple (show s1.heap.IsTuple a its.toArray from p) ?_
 refine⟨s1.heap.objs.size,[s1.heap.objs.size],_,_,H1,rfl,I1.kept (t':=s1.toks) fun b o e=>Heap.get?_push_of_some _ e,Zc4 a _,⟨_,Heap.get?_push_size _ rfl,rfl,rfl⟩,fun b hb => ?_,q⟩
 have e:b=s1.heap.objs.size:=by simpa using hb
 subst e
 exact I1.fpOk (Nat.le_refl _) (I1.hok.fresh (Nat.le_refl _))
theorem Zfn {pins:List (Addr × Obj)}{σ:St}{H:Hp}{s:Shared}{R:It->Hp->Prop}{E:Value->Shared->Prop}{lo hi:Int}{t u v:Tok}{tk:Nat}(I:Inv X pins σ H s)(h1 : -(2 ^ 62)<=lo)(h2:lo<2 ^ 62)(h3 : -(2 ^ 62)<=hi)(h4:hi<2 ^ 62)
  (q:R (Itr lo (hi-lo).toNat) H):wpAny (model X.prog X.w) X.A (pyIter (.ref s.heap.objs.size)) (PIE X pins σ tg R) E { s with heap:=s.heap.push { cls := .type "range",data := .fields #[.int lo t,.int hi u,.int 1 v] },toks:=tk }:=by
 refine wpAny_pyIter_range (IsRange.new ..) (small_one h1 h2 h3 h4) ?_
 have I1:Inv X pins σ H { s with heap:=s.heap.push { cls := .type "range",data := .fields #[.int lo t,.int hi u,.int 1 v] },toks:=tk }:=I.kept fun b o e=>Heap.get?_push_of_some _ e
 refine⟨(s.heap.push { cls := .type "range",data := .fields #[.int lo t,.int hi u,.int 1 v] }).objs.size,[(s.heap.push { cls := .type "range",data := .fields #[.int lo t,.int hi u,.int 1 v] }).objs.size],_,_,H,rfl,
  I1.kept (t':=tk) fun b o e=>Heap.get?_push_of_some _ e,Zc5 _ lo (hi-lo).toNat,?_,fun b hb => ?_,q⟩
 ·have e1:lo+((0:Nat):Int)*1=lo:=by simp
  have e2:(((hi-lo).toNat:Nat):Int)-((0:Nat):Int)=Builtin.Range.rangeSize lo hi 1:=by rw[rangeSize_one];split <;> omega
  show IsRangeIter _ _ (lo+((0:Nat):Int)*1) ((((hi-lo).toNat:Nat):Int)-((0:Nat):Int)) 1
  rw[e1,e2]
  exact Heap.get?_push_size _ rfl
 ·have e:b=(s.heap.push { cls := .type "range",data := .fields #[.int lo t,.int hi u,.int 1 v] }).objs.size:=by simpa using hb
  subst e
  exact I1.fpOk (Nat.le_refl _) (I1.hok.fresh (Nat.le_refl _))
def Zma (ta:TA):TI:=fun σ H R=>ta σ H fun vs H1=>∃j:Int,vs = [.int j] /\ -(2 ^ 62)<=j/\j<2 ^ 62/\R (Itr 0 j.toNat) H1
theorem Z1o {a:Expr}{ta:TA}{p pos:Pos}(hg:Gl X "range")(hm:X.mg "range"=none)(ha:PA X [a] ta)(hs:starEach [a] X.env = [(false,eval a X.env)]:=by rfl):PI X tg (.Call (.Name "range" p) [a] [] pos) (Zma ta):=by
 intro pins s σ H R I h
 refine Call_ (Z65 I hg hm boot_range (PyProof.Rows.callWith_type1 (thn (ha pos pins s σ H _ I h) fun us s1 ⟨vs,H1,I1,r1,q1⟩ => ?_) hs rfl))
 obtain⟨j,e,q1,q2,q⟩:=q1
 subst e
 cases r1 with
 | cons r rr =>
  cases rr
  obtain⟨t,rfl⟩:=r
  exact call_range_1 (Zfn I1 (by omega) (by omega) q1 q2 (by simpa using q))
def Zo0 (wi:TI)(g:TG)(tb:TS):TS:=fun D σ H=>wi σ H fun J H1=>∃W:Nat->Nat->St->Hp->Prop,(∃m,W 0 m σ H1)/\∀i m σ H,W i m σ H →
 (J.stop i H/\D.nx σ H)∨(J.go i H/\∃N:St->Hp->Prop,(∀ σ' H',N σ' H'->∃m',m'<m/\W (i+1) m' σ' H')/\∀x H',J.yld i H x H'->g x σ H' fun σ2 H2=>tb { D with nx:=N,ct:=N,bk:=D.nx } σ2 H2)
def Z78 (fp:List Addr)(h:Heap):List (Addr × Obj):=fp.filterMap fun b=>(h.get? b).map fun o=>(b,o)
theorem Z2r {fp:List Addr}{h:Heap}{b:Addr}{o:Obj}(hb:b∈fp)(e:h.get? b=some o):(b,o)∈Z78 fp h:=List.mem_filterMap.mpr ⟨b,hb,by rw[e];rfl⟩
theorem Zd5 {fp:List Addr}{h:Heap}{p:Addr × Obj}(hp:p∈Z78 fp h):p.1∈fp/\h.get? p.1=some p.2:=by
 obtain⟨b,hb,e⟩:=List.mem_filterMap.mp hp
 cases q:h.get? b with
 | none=>rw[q] at e;cases e
 | some o =>
  rw[q] at e
  have e':(b,o)=p:=Option.some.inj e
  subst e'
  exact⟨hb,q⟩
theorem Inv.pinned {pins:List (Addr × Obj)}{σ:St}{H:Hp}{s:Shared}{fp:List Addr}(I:Inv X pins σ H s)(hf:∀b∈fp,Z3s X pins H b)(ho:∀b∈fp,∃o,s.heap.get? b=some o/\∀v,o.data ≠ .cell v):Inv X (pins++Z78 fp s.heap) σ H s :=
 I.pins_of fun p hp=>(List.mem_append.mp hp).elim (fun z=>I.pin p (List.mem_append_right _ z)) fun z=>by
  obtain⟨hb,e⟩:=Zd5 z
  obtain⟨f0,f1,f2,_⟩:=hf p.1 hb
  obtain⟨o,e',d⟩:=ho p.1 hb
  rw[e] at e';cases e'
  exact⟨e,f0,f1,f2,d⟩
theorem Inv.unpinned {pins pl:List (Addr × Obj)}{σ:St}{H:Hp}{s:Shared}(I:Inv X (pins++pl) σ H s):Inv X pins σ H s:=I.pins_of fun p hp=>I.pin p (List.mem_append_right _ (List.mem_append_left _ hp))
theorem Z4b {iter:Expr}{body:List Stmt}{wi:TI}{g:TG}{tb:TS}{pos:Pos}(hp:PassesOwn (model X.prog X.w) X.A X.env X.xe)(hc:X.calm=true)(hi:PI X tg iter wi)(hg:PG X tg g)(hb:PSs X body tb)
  (hs:∀x,foldedSetIterable iter X.env x=pure x:=by intro _;rfl):PS X (.For tg iter body [] pos) (Zo0 wi g tb):=by
 intro pins s σ H D I h
 refine wpAny_For (thn (hi pins s σ H _ I h) fun v s1 h1=>thn h1 fun itv s2 h2 => ?_) hs
 obtain⟨it,fp,tn,J,H2,e,I2,T,st2,f2,W,⟨m0,w0⟩,turn⟩:=h2
 subst e
 have stat:∀{H':Hp},(∀b∈fp,H' b=none)->∀b∈fp,Z3s X pins H' b:=fun hn b hb=>⟨hn b hb,(f2 b hb).2⟩
 refine codeAny_forLoop_any (fun n s'=>∃i σ' H',Inv X pins σ' H' s'/\tn i s'.heap/\(∀b∈fp,H' b=none)/\W i n σ' H') ?_ m0 ⟨0,σ,H2,I2,st2,fun b hb=>(f2 b hb).1,w0⟩
 rintro n s3 ⟨i,σ3,H3,I3,st3,fr3,w3⟩
 rcases turn i n σ3 H3 w3 with ⟨stop,qn⟩ | ⟨go,N,hN,step⟩
 ·refine wpAny_passesOwn hp (thn (T.done X rfl rfl rfl hc i pins s3 σ3 H3 X.xe I3 (stat fr3) st3 stop) fun r s4 ⟨hr,I4⟩ => ?_)
  subst hr
  exact wpAny_execs_nil ⟨σ3,H3,I4,qn⟩
 ·refine wpAny_passesOwn hp (thn (T.item X rfl rfl rfl hc i pins s3 σ3 H3 X.xe I3 (stat fr3) st3 go) fun r s4 ⟨u,hr,h4⟩ => ?_)
  subst hr
  refine wpAny_passesOwn hp (thn h4 fun _ s5 ⟨x,H5,I5,r5,y5,st5,fr5⟩ => ?_)
  have I5':=I5.pinned (stat fr5) (T.obj _ _ st5)
  refine wpAny_passesOwn hp (thn (hg _ s5 σ3 H5 x u _ I5' r5 (step x H5 y5)) fun _ s6 ⟨σ6,H6,I6,q6⟩ => ?_)
  refine wpAny_passesOwn hp (thn (hb _ s6 σ6 H6 _ I6 q6) fun f s7 q7 => ?_)
  have again:∀{σ7:St} {H7:Hp},Inv X (pins++Z78 fp s5.heap) σ7 H7 s7->N σ7 H7->∃m,m<n/\∃i σ' H',Inv X pins σ' H' s7/\tn i s7.heap/\(∀b∈fp,H' b=none)/\W i m σ' H':=fun {σ7 H7} I7 n7=>by
   obtain⟨m',hm,w7⟩:=hN σ7 H7 n7
   refine⟨m',hm,i+1,σ7,H7,I7.unpinned,T.keep _ _ _ st5 fun b hb o e=>(I7.pin (b,o) (List.mem_append_right _ (List.mem_append_right _ (Z2r hb e)))).1,fun b hb => ?_,w7⟩
   obtain⟨o,e,d⟩:=T.obj _ _ st5 b hb
   exact(I7.pin (b,o) (List.mem_append_right _ (List.mem_append_right _ (Z2r hb e)))).2.1
  cases f with
  | next=>obtain⟨σ7,H7,I7,n7⟩:=q7;exact again I7 n7
  | cont=>obtain⟨σ7,H7,I7,n7⟩:=q7;exact again I7 n7
  | brk=>obtain⟨σ7,H7,I7,q7⟩:=q7;exact⟨σ7,H7,I7.unpinned,q7⟩
  | ret v=>obtain⟨x7,σ7,H7,I7,r7,q7⟩:=q7;exact⟨x7,σ7,H7,I7.unpinned,r7,q7⟩
end
theorem Zat {K:PySem.W.Frag}{a:Addr}{xs:List V}{g:TG}{tb:TS}{D:Ends}{σ:St}{H:Hp}(Pv:Nat->St->Hp->Prop)(h0:Pv 0 σ H)(hl:∀i σ H,i<=xs.length->Pv i σ H->SqL K H a xs)
  (hs:∀i x σ H,xs[i]? = some x->Pv i σ H->g x σ H fun σ2 H2=>tb { D with nx:=Pv (i+1),ct:=Pv (i+1),bk:=D.nx } σ2 H2) (hd:∀ σ H,Pv xs.length σ H->D.nx σ H) :
  ∃W:Nat->Nat->St->Hp->Prop,(∃m,W 0 m σ H)/\∀i m σ H,W i m σ H →
   ((Itl K a).stop i H/\D.nx σ H)∨((Itl K a).go i H/\∃N:St->Hp->Prop,(∀ σ' H',N σ' H'->∃m',m'<m/\W (i+1) m' σ' H')/\∀x H',(Itl K a).yld i H x H'->g x σ H' fun σ2 H2=>tb { D with nx:=N,ct:=N,bk:=D.nx } σ2 H2):=by
 refine⟨fun i m σ H=>m=xs.length-i/\i<=xs.length/\Pv i σ H,⟨xs.length,by simp,Nat.zero_le _,h0⟩,?_⟩
 rintro i m σ H ⟨rfl,hi,p⟩
 have q:=hl i σ H hi p
 by_cases hlt:i<xs.length
 ·refine .inr ⟨⟨xs,xs[i],q,by simp [hlt]⟩,Pv (i+1),fun σ' H' p'=>⟨xs.length-(i+1),by omega,rfl,hlt,p'⟩,fun x H' y => ?_⟩
  obtain⟨e,y⟩:=y
  subst e
  exact hs i x σ _ (y xs q) p
 ·have e:i=xs.length:=by omega
  subst e
  exact .inl ⟨⟨xs,q,Nat.le_refl _⟩,hd σ H p⟩
theorem Z2t {lo:Int}{n:Nat}{g:TG}{tb:TS}{D:Ends}{σ:St}{H:Hp}(Pv:Nat->St->Hp->Prop)(h0:Pv 0 σ H)
  (hs:∀i σ H,i<n->Pv i σ H->g (.int (lo+i)) σ H fun σ2 H2=>tb { D with nx:=Pv (i+1),ct:=Pv (i+1),bk:=D.nx } σ2 H2) (hd:∀ σ H,Pv n σ H->D.nx σ H) :
  ∃W:Nat->Nat->St->Hp->Prop,(∃m,W 0 m σ H)/\∀i m σ H,W i m σ H →
   ((Itr lo n).stop i H/\D.nx σ H)∨((Itr lo n).go i H/\∃N:St->Hp->Prop,(∀ σ' H',N σ' H'->∃m',m'<m/\W (i+1) m' σ' H')/\∀x H',(Itr lo n).yld i H x H'->g x σ H' fun σ2 H2=>tb { D with nx:=N,ct:=N,bk:=D.nx } σ2 H2):=by
 refine⟨fun i m σ H=>m=n-i/\i<=n/\Pv i σ H,⟨n,by simp,Nat.zero_le _,h0⟩,?_⟩
 rintro i m σ H ⟨rfl,hi,p⟩
 by_cases hlt:i<n
 ·refine .inr ⟨hlt,Pv (i+1),fun σ' H' p'=>⟨n-(i+1),by omega,rfl,hlt,p'⟩,fun x H' y => ?_⟩
  obtain⟨e,y⟩:=y
  subst e y
  exact hs i σ _ hlt p
 ·have e:i=n:=by omega
  subst e
  exact .inl ⟨Nat.le_refl _,hd σ H p⟩
theorem Zfo {c:TT}{tb:TS}{D:Ends}{σ:St}{H:Hp}(Pv:St->Hp->Prop)(μ : St->Hp->Nat)(h0:Pv σ H)
  (hs:∀ σ H,Pv σ H->c σ H fun b H1=>if b=true then tb { D with nx:=fun σ' H'=>Pv σ' H' /\ μ σ' H' < μ σ H,ct:=fun σ' H'=>Pv σ' H' /\ μ σ' H' < μ σ H,bk:=D.nx } σ H1 else D.nx σ H1)
  (mono:∀ σ H Q Q',(∀b H1,Q b H1->Q' b H1)->c σ H Q->c σ H Q'):tWhile c tb D σ H:=by
 refine⟨fun m σ H=>m = μ σ H/\Pv σ H,⟨_,rfl,h0⟩,?_⟩
 rintro m σ H ⟨rfl,p⟩
 refine mono σ H _ _ (fun b H1 q => ?_) (hs σ H p)
 cases b with
 | true=>exact⟨_,fun σ' H' ⟨p',l⟩=>⟨_,l,rfl,p'⟩,q⟩
 | false=>exact q
abbrev R2:=V->V->Hp->VK->Prop
def OpR (X:Cx)(f:Value->Value->Sem Value)(r:R2):Prop :=
 ∀(pins:List (Addr × Obj)) (s:Shared) (σ:St) (H:Hp) (x y:V) (v u:Value) (Q:VK),Inv X pins σ H s->RelV x v->RelV y u->r x y H Q →
  wpAny (model X.prog X.w) X.A (f v u) (EP X pins σ Q) X.xe s
def UnR (X:Cx)(f:Value->Sem Value)(r:V->Hp->VK->Prop):Prop :=
 ∀(pins:List (Addr × Obj)) (s:Shared) (σ:St) (H:Hp) (x:V) (v:Value) (Q:VK),Inv X pins σ H s->RelV x v->r x H Q →
  wpAny (model X.prog X.w) X.A (f v) (EP X pins σ Q) X.xe s
def Z48 (X:Cx)(f:Value)(r:List V->Hp->VK->Prop):Prop :=
 ∀(pins:List (Addr × Obj)) (s:Shared) (σ:St) (H:Hp) (xs:List V) (us:List Value) (Q:VK),Inv X pins σ H s->Vals xs us->r xs H Q →
  wpAny (model X.prog X.w) X.A (call f us) (EP X pins σ Q) X.xe s
def Zo1 (X:Cx)(r:V->Hp->(Bool->Hp->Prop)->Prop):Prop :=
 ∀(pins:List (Addr × Obj)) (s:Shared) (σ:St) (H:Hp) (x:V) (v:Value) (Q:Bool->Hp->Prop),Inv X pins σ H s->RelV x v->r x H Q →
  wpAny (model X.prog X.w) X.A (truthy v) (TP X pins σ Q) X.xe s
def tOp (r:R2)(ta tb:TE):TE:=fun σ H Q=>ta σ H fun x H1=>tb σ H1 fun y H2=>r x y H2 Q
def tUn (r:V->Hp->VK->Prop)(ta:TE):TE:=fun σ H Q=>ta σ H fun x H1=>r x H1 Q
inductive rI (C:Int->Int->Prop)(g:Int->Int->V)(x:V)(y:V)(H:Hp)(Q:VK):Prop
 | mk (i j:_) (_:x = .int i) (_:y = .int j) (_:C i j) (_:Q (g i j) H):rI C g x y H Q
inductive rI0 (g:Int->Int->V)(x:V)(y:V)(H:Hp)(Q:VK):Prop
 | mk (i j:_) (_:x = .int i) (_:y = .int j) (_:Q (g i j) H):rI0 g x y H Q
inductive rU (g:Int->V)(x:V)(H:Hp)(Q:VK):Prop
 | mk (i:_) (_:x = .int i) (_:Q (g i) H):rU g x H Q
section
variable {X:Cx}{a b c:Expr}{ta tb tc:TE}{pos:Pos}
theorem Zmb (ha:PE X a ta)(hb:PE X b tb){pins:List (Addr × Obj)}{s:Shared}{σ:St}{H:Hp}{R:V->V->Hp->Prop}(I:Inv X pins σ H s)
  (h:ta σ H fun x H1=>tb σ H1 fun y H2=>R x y H2) {Q:Value->Shared->Prop} {f:Value->Value->Sem Value}
  (hf:∀v u s2 x y H2,Inv X pins σ H2 s2->RelV x v->RelV y u->R x y H2->wpAny (model X.prog X.w) X.A (f v u) Q X.xe s2) :
  wpAny (model X.prog X.w) X.A (eval a X.env) (fun v s₁=>wpAny (model X.prog X.w) X.A (eval b X.env) (fun u s₂=>wpAny (model X.prog X.w) X.A (f v u) Q X.xe s₂) X.xe s₁) X.xe s:=by
 refine thn (ha pins s σ H _ I h) fun v s1 ⟨x,H1,I1,r1,q1⟩ => ?_
 refine thn (hb pins s1 σ H1 _ I1 q1) fun u s2 ⟨y,H2,I2,r2,q2⟩ => ?_
 exact hf v u s2 x y H2 I2 r1 r2 q2
theorem Z0n {op:Operator}{r:R2}(ho:OpR X (binaryOp op) r)(ha:PE X a ta)(hb:PE X b tb):PE X (.BinOp a op b pos) (tOp r ta tb):=by
 intro pins s σ H Q I h
 exact wpAny_BinOp (Zmb ha hb I h fun v u s2 x y H2 I2 rx ry q=>ho pins s2 σ H2 x y v u Q I2 rx ry q)
theorem Zfp {op:UnaryOp}{r:V->Hp->VK->Prop}(ho:UnR X (unaryOp op) r)(ha:PE X a ta):PE X (.UnaryOp op a pos) (tUn r ta):=by
 intro pins s σ H Q I h
 exact UnaryOp_ (thn (ha pins s σ H _ I h) fun v s1 ⟨x,H1,I1,r1,q1⟩=>ho pins s1 σ H1 x v Q I1 r1 q1)
theorem opI {f:Value->Value->Sem Value}{C:Int->Int->Prop}{g:Int->Int->Int}
  (rule:∀(i j:Int) (t u:Tok) (s:Shared) (Q:Value->Shared->Prop) (E:Value->Shared->Prop),C i j->Q (.int (g i j) s.toks) { s with toks:=s.toks+1 }->wpAny (model X.prog X.w) X.A (f (.int i t) (.int j u)) Q E s) :
  OpR X f (rI C fun i j => .int (g i j)):=by
 intro pins s σ H x y v u Q I rx ry h
 obtain⟨i,j,rfl,rfl,hc,q⟩:=h
 obtain⟨t,rfl⟩:=rx
 obtain⟨t',rfl⟩:=ry
 exact rule i j t t' s _ _ hc ⟨.int (g i j),H,I.tok _,⟨_,rfl⟩,q⟩
theorem Zni {f:Value->Value->Sem Value}{g:Int->Int->Int}
  (rule:∀(i j:Int) (t u:Tok) (s:Shared) (Q:Value->Shared->Prop) (E:Value->Shared->Prop),Q (.int (g i j) s.toks) { s with toks:=s.toks+1 }->wpAny (model X.prog X.w) X.A (f (.int i t) (.int j u)) Q E s) :
  OpR X f (rI0 fun i j => .int (g i j)):=by
 intro pins s σ H x y v u Q I rx ry h
 obtain⟨i,j,rfl,rfl,q⟩:=h
 obtain⟨t,rfl⟩:=rx
 obtain⟨t',rfl⟩:=ry
 exact rule i j t t' s _ _ ⟨.int (g i j),H,I.tok _,⟨_,rfl⟩,q⟩
theorem Zm5 {f:Value->Value->Sem Value}{g:Int->Int->Bool}
  (rule:∀(i j:Int) (t u:Tok) (s:Shared) (Q:Value->Shared->Prop) (E:Value->Shared->Prop),Q (.bool (g i j)) s->wpAny (model X.prog X.w) X.A (f (.int i t) (.int j u)) Q E s) :
  OpR X f (rI0 fun i j => .bl (g i j)):=by
 intro pins s σ H x y v u Q I rx ry h
 obtain⟨i,j,rfl,rfl,q⟩:=h
 obtain⟨t,rfl⟩:=rx
 obtain⟨t',rfl⟩:=ry
 exact rule i j t t' s _ _ ⟨.bl (g i j),H,I,rfl,q⟩
def Zo2 (i j:Int):Prop:=0<=j/\j<=1000000/\i.natAbs<2 ^ 64
def CMul (i j:Int):Prop:=(-(2 ^ 64)<i/\i<2 ^ 64)∨(-(2 ^ 64)<j/\j<2 ^ 64)
theorem CMul.ok {i j:Int}(h:CMul i j):IntMulOk i j:=by
 rcases h with ⟨h1,h2⟩ | ⟨h1,h2⟩
 ·exact .of_left (intBits_le_64 h1 h2)
 ·exact .of_right (intBits_le_64 h1 h2)
theorem Z25:OpR X (binaryOp .Add) (rI0 fun i j => .int (i+j)):=Zni fun _ _ _ _ _ _ _ q=>add_int q
theorem Z2o:OpR X (binaryOp .Sub) (rI0 fun i j => .int (i-j)):=Zni fun _ _ _ _ _ _ _ q=>sub_int q
theorem Z4c:OpR X (binaryOp .Mult) (rI CMul fun i j => .int (i*j)):=opI fun _ _ _ _ _ _ _ hc q=>mul_int q hc.ok
theorem Z39:OpR X (binaryOp .Mod) (rI (fun _ j=>0<j) fun i j => .int (i % j)):=opI fun i j _ _ _ _ _ hc q=>by
 have h1:(0:Int)<j:=hc
 exact mod_int' (by omega) (by rw[Int.fmod_eq_emod_of_nonneg i (by omega)];exact q)
theorem Zkc:OpR X (binaryOp .Pow) (rI Zo2 fun i j => .int (i ^ j.toNat)):=opI fun _ _ _ _ _ _ _ hc q=>pow_int_small hc.1 hc.2.1 hc.2.2 q
theorem unI {f:Value->Sem Value}{g:Int->Int}
  (rule:∀(i:Int) (t:Tok) (s:Shared) (Q:Value->Shared->Prop) (E:Value->Shared->Prop),Q (.int (g i) s.toks) { s with toks:=s.toks+1 }->wpAny (model X.prog X.w) X.A (f (.int i t)) Q E s) :
  UnR X f (rU fun i => .int (g i)):=by
 intro pins s σ H x v Q I rx h
 obtain⟨i,rfl,q⟩:=h
 obtain⟨t,rfl⟩:=rx
 exact rule i t s _ _ ⟨.int (g i),H,I.tok _,⟨_,rfl⟩,q⟩
theorem Zau:UnR X (unaryOp .USub) (rU fun i => .int (-i)):=unI fun _ _ _ _ _ q=>neg_int q
end
def Znj:V->V->Bool
 | .non,.non=>true | .non,.int _=>true | .int _,.non=>true | .non,.bl _=>true | .bl _,.non=>true | .non,.str _=>true | .str _,.non=>true
 | .int _,.int _=>true | .bl _,.bl _=>true | .str _,.str _=>true | .byt _,.byt _=>true
 | .int _,.str _=>true | .str _,.int _=>true | .bl _,.str _=>true | .str _,.bl _=>true
 | _,_=>false
def rEq:R2:=fun x y H Q=>Znj x y=true/\Q (.bl (decide (x=y))) H
def rNe:R2:=fun x y H Q=>Znj x y=true/\Q (.bl (!decide (x=y))) H
theorem Zd6 {i j:Int}:decide (V.int i=V.int j)=(i==j):=by
 rw[Bool.eq_iff_iff]
 simp
theorem Zhk {i j:Bool}:decide (V.bl i=V.bl j)=(i==j):=by
 rw[Bool.eq_iff_iff]
 simp
theorem Zd7 {i j:Str}:decide (V.str i=V.str j)=(i==j):=by
 rw[Bool.eq_iff_iff]
 simp
theorem Zd8 {i j:Array UInt8}:decide (V.byt i=V.byt j)=(i.toList==j.toList):=by
 rw[Bool.eq_iff_iff]
 cases i
 cases j
 simp
section
variable {X:Cx}{a b c:Expr}{ta tb tc:TE}{pos:Pos}
theorem Z0w {pins:List (Addr × Obj)}{σ:St}{H:Hp}{s:Shared}{Q:VK}{k k':Bool}(I:Inv X pins σ H s)(q:Q (.bl k) H)(e:k=k'):EP X pins σ Q (.bool k') s:=by
 subst e
 exact⟨.bl k,H,I,rfl,q⟩
theorem Z1l:OpR X (compareOp .Eq) rEq:=by
 intro pins s σ H x y v u Q I rx ry h
 obtain⟨hs,q⟩:=h
 cases x with
 | non =>
  cases rx
  cases y with
  | non=>cases ry;exact PySem.EqNone.eq_none_none (Z0w I q (by simp))
  | bl j=>cases ry;exact PySem.EqNone.eq_none_bool (Z0w I q (by simp))
  | int j=>obtain⟨t',rfl⟩:=ry;exact PySem.EqNone.eq_none_int (Z0w I q (by simp))
  | str j=>obtain⟨t',rfl⟩:=ry;exact PySem.EqNone.eq_none_str (Z0w I q (by simp))
  | _=>exact absurd (show false=true from hs) Bool.false_ne_true
 | bl i =>
  cases rx
  cases y with
  | non=>cases ry;exact PySem.EqNone.eq_bool_none (Z0w I q (by simp))
  | bl j=>cases ry;exact eq_bool (Z0w I q Zhk)
  | str j=>obtain⟨t',rfl⟩:=ry;exact PySem.EqMixed.eq_bool_str (Z0w I q (by simp))
  | _=>exact absurd (show false=true from hs) Bool.false_ne_true
 | int i =>
  obtain⟨t,rfl⟩:=rx
  cases y with
  | non=>cases ry;exact PySem.EqNone.eq_int_none (Z0w I q (by simp))
  | int j=>obtain⟨t',rfl⟩:=ry;exact eq_int (Z0w I q Zd6)
  | str j=>obtain⟨t',rfl⟩:=ry;exact PySem.EqMixed.eq_int_str (Z0w I q (by simp))
  | _=>exact absurd (show false=true from hs) Bool.false_ne_true
 | str i =>
  obtain⟨t,rfl⟩:=rx
  cases y with
  | non=>cases ry;exact PySem.EqNone.eq_str_none (Z0w I q (by simp))
  | bl j=>cases ry;exact PySem.EqMixed.eq_str_bool (Z0w I q (by simp))
  | int j=>obtain⟨t',rfl⟩:=ry;exact PySem.EqMixed.eq_str_int (Z0w I q (by simp))
  | str j=>obtain⟨t',rfl⟩:=ry;exact eq_str (Z0w I q Zd7)
  | _=>exact absurd (show false=true from hs) Bool.false_ne_true
 | byt i =>
  obtain⟨t,rfl⟩:=rx
  cases y with
  | byt j=>obtain⟨t',rfl⟩:=ry;exact PySem.W.eq_bytes (Z0w I q Zd8)
  | _=>exact absurd (show false=true from hs) Bool.false_ne_true
 | _=>cases y <;> exact absurd (show false=true from hs) Bool.false_ne_true
theorem Zkd:OpR X (compareOp .NotEq) rNe:=by
 intro pins s σ H x y v u Q I rx ry h
 obtain⟨hs,q⟩:=h
 cases x with
 | non =>
  cases rx
  cases y with
  | non=>cases ry;exact PySem.EqNone.ne_none_none (Z0w I q (by simp))
  | bl j=>cases ry;exact PySem.EqNone.ne_none_bool (Z0w I q (by simp))
  | int j=>obtain⟨t',rfl⟩:=ry;exact PySem.EqNone.ne_none_int (Z0w I q (by simp))
  | str j=>obtain⟨t',rfl⟩:=ry;exact PySem.EqNone.ne_none_str (Z0w I q (by simp))
  | _=>exact absurd (show false=true from hs) Bool.false_ne_true
 | bl i =>
  cases rx
  cases y with
  | non=>cases ry;exact PySem.EqNone.ne_bool_none (Z0w I q (by simp))
  | bl j=>cases ry;exact ne_bool (Z0w I q (congrArg not Zhk))
  | str j=>obtain⟨t',rfl⟩:=ry;exact PySem.EqMixed.ne_bool_str (Z0w I q (by simp))
  | _=>exact absurd (show false=true from hs) Bool.false_ne_true
 | int i =>
  obtain⟨t,rfl⟩:=rx
  cases y with
  | non=>cases ry;exact PySem.EqNone.ne_int_none (Z0w I q (by simp))
  | int j=>obtain⟨t',rfl⟩:=ry;exact ne_int (Z0w I q (congrArg not Zd6))
  | str j=>obtain⟨t',rfl⟩:=ry;exact PySem.EqMixed.ne_int_str (Z0w I q (by simp))
  | _=>exact absurd (show false=true from hs) Bool.false_ne_true
 | str i =>
  obtain⟨t,rfl⟩:=rx
  cases y with
  | non=>cases ry;exact PySem.EqNone.ne_str_none (Z0w I q (by simp))
  | bl j=>cases ry;exact PySem.EqMixed.ne_str_bool (Z0w I q (by simp))
  | int j=>obtain⟨t',rfl⟩:=ry;exact PySem.EqMixed.ne_str_int (Z0w I q (by simp))
  | str j=>obtain⟨t',rfl⟩:=ry;exact ne_str (Z0w I q (congrArg not Zd7))
  | _=>exact absurd (show false=true from hs) Bool.false_ne_true
 | byt i =>
  obtain⟨t,rfl⟩:=rx
  cases y with
  | byt j=>obtain⟨t',rfl⟩:=ry;exact PySem.W.ne_bytes (Z0w I q (congrArg not Zd8))
  | _=>exact absurd (show false=true from hs) Bool.false_ne_true
 | _=>cases y <;> exact absurd (show false=true from hs) Bool.false_ne_true
theorem Zia:OpR X (compareOp .Lt) (rI0 fun i j => .bl (decide (i<j))):=Zm5 fun _ _ _ _ _ _ _ q=>lt_int q
theorem Zmc:OpR X (compareOp .LtE) (rI0 fun i j => .bl (decide (i<=j))):=Zm5 fun _ _ _ _ _ _ _ q=>le_int q
theorem Zd9:OpR X (compareOp .Gt) (rI0 fun i j => .bl (decide (j<i))):=Zm5 fun _ _ _ _ _ _ _ q=>gt_int q
theorem Zmd:OpR X (compareOp .GtE) (rI0 fun i j => .bl (decide (j<=i))):=Zm5 fun _ _ _ _ _ _ _ q=>ge_int q
theorem Z0j (b:Expr){op:CmpOp}(h:op ≠ .In:=by decide)(h2:op ≠ .NotIn:=by decide):behindInMarks op b=false:=by
 have e1:(op==CmpOp.In)=false:=by cases op <;> first | rfl | exact absurd rfl h
 have e2:(op==CmpOp.NotIn)=false:=by cases op <;> first | rfl | exact absurd rfl h2
 cases b <;> simp [behindInMarks,e1,e2]
theorem Z3i {op:CmpOp}{r:R2}(ho:OpR X (compareOp op) r)(ha:PE X a ta)(hb:PE X b tb)(hm:behindInMarks op b=false):PE X (.Compare a [op] [b] pos) (tOp r ta tb):=by
 intro pins s σ H Q I h
 exact wpAny_Compare1 (Zmb ha hb I h fun v u s2 x y H2 I2 rx ry q=>ho pins s2 σ H2 x y v u Q I2 rx ry q) hm
def Zme (t:TE):TT:=fun σ H Q=>t σ H fun x H'=>∃k,x = .bl k/\Q k H'
theorem Z0f {op:CmpOp}{r:R2}(ho:OpR X (compareOp op) r)(ha:PE X a ta)(hb:PE X b tb)(hm:behindInMarks op b=false):PT X (.Compare a [op] [b] pos) (Zme (tOp r ta tb)):=by
 intro pins s σ H Q I h
 refine wpAny_isTrue_Compare1 (thn (ha pins s σ H _ I h) fun v s1 ⟨x,H1,I1,r1,q1⟩=>thn (hb pins s1 σ H1 _ I1 q1) fun u s2 ⟨y,H2,I2,r2,q2⟩ =>
  thn (ho pins s2 σ H2 x y v u _ I2 r1 r2 q2) fun c s3 ⟨z,H3,I3,r3,k,e,q3⟩ => ?_) hm
 subst e
 cases r3
 exact wpAny_truthy_bool ⟨H3,I3,q3⟩
def Znk (K:PySem.W.Frag)(x:V)(H:Hp)(k:Bool):Prop :=
 match x with
 | .non=>k=false
 | .bl b=>k=b
 | .int i=>k=(i != 0)
 | .str y=>y.length<=sizeLine/\k=((y.length:Int) != 0)
 | .byt y=>y.size<=sizeLine/\k=((y.size:Int) != 0)
 | .ref p=>(∃xs,SqL K H p xs/\k = !xs.isEmpty)∨(∃xs,SqT K H p xs/\k = !xs.isEmpty)∨∃kvs,H p=some (.dK kvs)/\k = !kvs.isEmpty
 | _=>False
theorem Zc6 {κ : Type}{kvs:List (κ × V)}{vs:List (κ × Value)}(r:KV kvs vs):(!vs.isEmpty) = !kvs.isEmpty:=by
 cases r <;> rfl
theorem Z79 {xs:List V}{its:List Value}(r:Vals xs its):(!its.toArray.isEmpty) = !xs.isEmpty:=by
 cases r <;> simp
theorem Z7a:(sizeLine:Nat)<2 ^ 63:=by rw[sizeLine_eq];decide
theorem Zke:Zo1 X (fun x H Q=>∃k,Znk X.K x H k/\Q k H):=by
 intro pins s σ H x v Q I rx h
 obtain⟨k,e,q⟩:=h
 have hl:=Z7a
 have hs:sizeLine=16777216:=sizeLine_eq
 cases x with
 | non =>
  cases rx
  have e':k=false:=e
  subst e'
  exact truthy_none ⟨H,I,q⟩
 | bl b =>
  cases rx
  have e':k=b:=e
  subst e'
  exact wpAny_truthy_bool ⟨H,I,q⟩
 | int i =>
  obtain⟨t,rfl⟩:=rx
  have e':k=(i != 0):=e
  subst e'
  exact PySem.P.truthy_int ⟨H,I,q⟩
 | str y =>
  obtain⟨t,rfl⟩:=rx
  obtain⟨hy,e'⟩:y.length<=sizeLine/\k=((y.length:Int) != 0):=e
  subst e'
  exact PySem.P.truthy_str (by omega) ⟨H,I.tok _,q⟩
 | byt y =>
  obtain⟨t,rfl⟩:=rx
  obtain⟨hy,e'⟩:y.size<=sizeLine/\k=((y.size:Int) != 0):=e
  subst e'
  exact PySem.W.truthy_bytes (by omega) ⟨H,I.tok _,q⟩
 | ref p =>
  cases rx
  have e':(∃xs,SqL X.K H p xs/\k = !xs.isEmpty)∨(∃xs,SqT X.K H p xs/\k = !xs.isEmpty)∨∃kvs,H p=some (.dK kvs)/\k = !kvs.isEmpty:=e
  rcases e' with ⟨xs,hx,e'⟩ | ⟨xs,hx,e'⟩ | ⟨kvs,hx,e'⟩
  ·subst e'
   obtain⟨its,r,pl,hz⟩:=I.list hx
   have hlen:=r.length
   exact wpAny_truthy_list pl.isList (by simp only [List.size_toArray];omega) ⟨H,I.tok _,by rw[Z79 r];exact q⟩
  ·subst e'
   obtain⟨its,r,pl,hz⟩:=I.tuple hx
   have hlen:=r.length
   exact truthy_tuple pl (by simp only [List.size_toArray];omega) ⟨H,I.tok _,by rw[Z79 r];exact q⟩
  ·subst e'
   obtain⟨hz,hS,vs,r,m⟩:kvs.length<=sizeLine/\(p==sysModules)=false/\∃vs,KV kvs vs/\s.heap.DictOf (Z0v X.prog X.w) p vs:=I.hok p _ hx
   have hlen:kvs.length=vs.length:=Paired.length r
   exact wpAny_truthy_dict hS m (by omega) ⟨H,I.tok _,by rw[Zc6 r];exact q⟩
 | _=>exact(show False from e).elim
theorem Z7t (ha:PE X a ta)(he:∀whole,isTrue a X.env whole=(do let v ← whole;standAt a.pos;holding [v] (truthy v))) :
  PT X a (fun σ H Q=>ta σ H fun x H'=>∃k,Znk X.K x H' k/\Q k H'):=by
 intro pins s σ H Q I h
 exact isTrue_plain (thn (ha pins s σ H _ I h) fun v s1 ⟨x,H1,I1,r1,q1⟩=>Zke pins s1 σ H1 x v Q I1 r1 q1) (he _)
theorem Z3a:OpR X (binaryOp .Add) (fun x y H Q=>∃i j,x = .str i/\y = .str j/\i.length+j.length<=sizeLine/\Q (.str (i++j)) H):=by
 intro pins s σ H x y v u Q I rx ry h
 obtain⟨i,j,rfl,rfl,hz,q⟩:=h
 obtain⟨t,rfl⟩:=rx
 obtain⟨t',rfl⟩:=ry
 exact add_str (fun t' tk=>⟨.str (i++j),H,I.tok _,⟨_,rfl⟩,q⟩) hz
theorem Z7u {x:V}{us:List Value}(r:Vals [x] us):∃u,us = [u]/\RelV x u:=by
 cases r with
 | cons r1 r2=>cases r2;exact⟨_,rfl,r1⟩
theorem Zib {x y:V}{us:List Value}(r:Vals [x,y] us):∃u w',us = [u,w']/\RelV x u/\RelV y w':=by
 cases r with
 | cons r1 r2 =>
  cases r2 with
  | cons r3 r4=>cases r4;exact⟨_,_,rfl,r1,r3⟩
theorem Zda (hc:X.calm=true):Z48 X (.builtin "max") (fun xs H Q=>∃i j,xs = [.int i,.int j]/\Q (.int (if j>i then j else i)) H):=by
 intro pins s σ H xs us Q I r h
 obtain⟨i,j,rfl,q⟩:=h
 obtain⟨u,w',rfl,⟨t,rfl⟩,⟨t',rfl⟩⟩:=Zib r
 refine max_two_ints (I.ok.hd hc) fun h' tk k=>⟨_,H,I.kept k,?_,q⟩
 by_cases hj:j>i
 ·rw[if_pos hj,if_pos hj];exact⟨_,rfl⟩
 ·rw[if_neg hj,if_neg hj];exact⟨_,rfl⟩
theorem Z8p (hc:X.calm=true):Z48 X (.builtin "min") (fun xs H Q=>∃i j,xs = [.int i,.int j]/\Q (.int (if j<i then j else i)) H):=by
 intro pins s σ H xs us Q I r h
 obtain⟨i,j,rfl,q⟩:=h
 obtain⟨u,w',rfl,⟨t,rfl⟩,⟨t',rfl⟩⟩:=Zib r
 refine min_two_ints (I.ok.hd hc) fun h' tk k=>⟨_,H,I.kept k,?_,q⟩
 by_cases hj:j<i
 ·rw[if_pos hj,if_pos hj];exact⟨_,rfl⟩
 ·rw[if_neg hj,if_neg hj];exact⟨_,rfl⟩
theorem Z8q:Z48 X (.type "int") (fun xs H Q=>(∃i,xs = [.int i]/\Q (.int i) H)∨∃k,xs = [.bl k]/\Q (.int (if k then 1 else 0)) H):=by
 intro pins s σ H xs us Q I r h
 rcases h with ⟨i,rfl,q⟩ | ⟨k,rfl,q⟩
 ·obtain⟨u,rfl,t,rfl⟩:=Z7u r
  exact call_int_int ⟨.int i,H,I,⟨_,rfl⟩,q⟩
 ·obtain⟨u,rfl,r1⟩:=Z7u r
  cases r1
  exact call_int_bool ⟨.int (if k then 1 else 0),H,I.tok _,⟨_,rfl⟩,q⟩
end
structure ObjM (h:Heap)(x dx C:Addr)(mA:Str->Option Value):Prop where
 obj:h.get? x=some (PySem.W.instObj C dx)
 ns:h.Ns1 dx mA
 ne:dx≠x
theorem Zdb {h:Heap}{dx:Addr}{mA:Str->Option Value}(n:h.Ns1 dx mA):∃od,h.get? dx=some od/\∀name,PySem.W.lookIn name od=some (mA name):=by
 obtain⟨o,es,ep,ho,hd,hk,_,hm⟩:=n
 refine⟨o,ho,fun name => ?_⟩
 have e:=hm name
 unfold nsFind findBy at e
 rw[<- Array.find?_toList] at e
 unfold PySem.W.lookIn
 rw[hd]
 dsimp only
 split
 ·rename_i y q
  rw[q] at e
  exact congrArg some e
 ·rename_i q
  rw[q] at e
  have a:es.toList.any (·.refKey)=false:=by
   rw[List.any_eq_false]
   intro y hy
   obtain⟨z,t,hkey⟩:=hk y (Array.mem_toList_iff.mp hy)
   simp [DictEntry.refKey,hkey]
  have a':¬es.toList.any (·.refKey)=true:=by rw[a];exact Bool.false_ne_true
  rw[if_neg a']
  exact congrArg some e
theorem ObjM.look {h:Heap}{x dx C:Addr}{mA:Str->Option Value}(I:ObjM h x dx C mA):∃od,PySem.W.InstAt h x (PySem.W.instObj C dx) C (some od)/\∀name,PySem.W.lookIn name od=some (mA name) :=
 let ⟨od,ho,hl⟩:=Zdb I.ns
 ⟨od,⟨I.obj,rfl,rfl,ho⟩,hl⟩
theorem RelO.some_of {v:V}{o:Option Value}(r:RelO (some v) o):∃u,o=some u/\RelV v u:=by
 cases o with
 | none=>exact(show False from r).elim
 | some u=>exact⟨u,rfl,r⟩
theorem RelO.none_of {o:Option Value}(r:RelO none o):o=none:=by
 cases o with
 | none=>rfl
 | some u=>exact(show False from r).elim
section
variable {P:Program}{w:World}{H H':Hp}{h h':Heap}{a C dx:Addr}{fs fs':List (Str × V)}
theorem Zic (hok:HOk P w H h)(e:H a=some (.ins C dx fs)):∃mA,ObjM h a dx C mA/\(∀f,RelO (fs.lookup f) (mA f))/\PySem.Within mA (fs.map (·.1))/\fs.length<=1000/\H dx=some (.own a):=by
 obtain⟨d,z,ne,ob,mA,n,r,q⟩:=(show ObjOk P w H h a (.ins C dx fs) from hok a _ e)
 exact⟨mA,⟨ob,n,ne⟩,r,q,z,d⟩
end
structure Cls (K:PySem.W.Frag)(C:Addr):Prop where
 pg:PySem.W.plainGet K C Str.empty=true
 hd:PySem.W.hasDictIn K C=true
 po:PySem.W.plainOver K C=true
 sa:PySem.W.findIn K (.ref C) "__setattr__"=some (some (.builtin "object.__setattr__"))
theorem Cls.get {K:PySem.W.Frag}{C:Addr}(c:Cls K C)(f:Str):PySem.W.plainGet K C f=true:=c.pg
section
variable {X:Cx}{pins:List (Addr × Obj)}{σ:St}{H:Hp}{s:Shared}{A:Around}{E:Value->Shared->Prop}{Q:Value->Shared->Prop}{c:Value}{b:Bool}
inductive TyOf (K:PySem.W.Frag)(H:Hp):V->Value->Prop where
 | non:TyOf K H .non (.type "NoneType")
 | bl (x:Bool):TyOf K H (.bl x) (.type "bool")
 | int (i:Int):TyOf K H (.int i) (.type "int")
 | str (x:Str):TyOf K H (.str x) (.type "str")
 | flt (x:UInt64):TyOf K H (.flt x) (.type "float")
 | lst {a:Addr} {xs:List V} (e:H a=some (.lst xs)):TyOf K H (.ref a) (.type "list")
 | frz {a:Addr} {o:Obj} {xs:List V} (e:H a=some (.frz o (.lst xs))):TyOf K H (.ref a) (.type "list")
 | tup {a:Addr} {xs:List V} (e:H a=some (.tup xs)):TyOf K H (.ref a) (.type "tuple")
 | dK {a:Addr} {kvs:List (Key × V)} (e:H a=some (.dK kvs)):TyOf K H (.ref a) (.type "dict")
 | dT {a:Addr} {kvs:List (List Key × V)} (e:H a=some (.dT kvs)):TyOf K H (.ref a) (.type "dict")
 | ins {a C dx:Addr} {fs:List (Str × V)} (e:H a=some (.ins C dx fs)) (cl:Cls K C) (ha:PySem.W.findIn K (.ref C) "__class__"=some (some (.builtin "object.__class__")))
   (hn:PySem.W.specialIn K (.builtin "object.__class__") "__get__"=some (some (.builtin "getset_descriptor.__get__"))) (htk:PySem.W.takesIn K (.builtin "object.__class__")=some true)
   (hm:PySem.W.mroIn K C (.type "object")=some true):TyOf K H (.ref a) (.ref C)
theorem Zdc {x:V}{u t:Value}(I:Inv X pins σ H s)(rx:RelV x u)(ty:TyOf X.K H x t)(e:PySem.W.kitOne X.K t c=some b)(h:∀tk,Q (.bool b) { s with toks:=tk }) :
  wpAny (model X.prog X.w) A (call (.builtin "isinstance") [u,c]) Q E s:=by
 cases ty with
 | non=>cases (show u=Value.none from rx);exact PySem.W.kia_one PySem.W.kitx_none I.kIn True.intro e (fun z=>nomatch z) h
 | bl y=>cases (show u=Value.bool y from rx);exact PySem.W.kia_one PySem.W.kitx_bool I.kIn True.intro e (fun z=>nomatch z) h
 | int i=>obtain⟨t,q⟩:=(show ∃t,u=Value.int i t from rx);cases q;exact PySem.W.kia_one PySem.W.kitx_int I.kIn True.intro e (fun z=>nomatch z) h
 | str y=>obtain⟨t,q⟩:=(show ∃t,u=Value.str y t from rx);cases q;exact PySem.W.kia_one PySem.W.kitx_str I.kIn True.intro e (fun z=>nomatch z) h
 | flt y=>obtain⟨t,q⟩:=(show ∃t,u=Value.float y t from rx);cases q;exact PySem.W.kia_one PySem.W.kitx_float I.kIn True.intro e (fun z=>nomatch z) h
 | @lst a xs ea =>
  cases (show u=Value.ref a from rx)
  obtain⟨_,_,n,_,h1⟩:=(show ObjOk X.prog X.w H s.heap a (.lst xs) from I.hok a _ ea)
  exact PySem.W.kia_one PySem.W.kitx_list I.kIn ⟨_,h1,rfl⟩ e (fun z=>nomatch z) h
 | @frz a ob xs ea =>
  cases (show u=Value.ref a from rx)
  obtain⟨_,_,_,n,_,h1⟩:=(show ObjOk X.prog X.w H s.heap a (.frz ob (.lst xs)) from I.hok a _ ea)
  exact PySem.W.kia_one PySem.W.kitx_list I.kIn ⟨_,h1,rfl⟩ e (fun z=>nomatch z) h
 | @tup a xs ea =>
  cases (show u=Value.ref a from rx)
  obtain⟨_,_,_,p⟩:=(show ObjOk X.prog X.w H s.heap a (.tup xs) from I.hok a _ ea)
  obtain⟨o,h1,h2,_⟩:=p
  exact PySem.W.kia_one PySem.W.kitx_tuple I.kIn ⟨o,h1,h2⟩ e (fun z=>nomatch z) h
 | @dK a kvs ea =>
  cases (show u=Value.ref a from rx)
  obtain⟨_,_,vs,_,p⟩:=(show ObjOk X.prog X.w H s.heap a (.dK kvs) from I.hok a _ ea)
  obtain⟨o,es,ep,h1,h2,_⟩:=p
  exact PySem.W.kia_one PySem.W.kitx_dict I.kIn ⟨o,h1,h2.1⟩ e (fun z=>nomatch z) h
 | @dT a kvs ea =>
  cases (show u=Value.ref a from rx)
  obtain⟨_,_,xs,_,o,es,ep,h1,h2,_⟩:=(show ObjOk X.prog X.w H s.heap a (.dT kvs) from I.hok a _ ea)
  exact PySem.W.kia_one PySem.W.kitx_dict I.kIn ⟨o,h1,h2.1⟩ e (fun z=>nomatch z) h
 | @ins a C dx fs ea cl ha hn htk hm =>
  cases (show u=Value.ref a from rx)
  obtain⟨mA,O,_⟩:=Zic I.hok ea
  obtain⟨od,J,_⟩:=O.look
  exact PySem.W.kia_one (PySem.W.kitx_own (cl.get _) cl.hd ha hn htk hm) I.kIn J e (fun z=>nomatch z) h
end
structure Room (k:Nat)(A:Around):Prop where
 hd:A.handled=none
 gd:A.guards=some []
 dp:A.depth+3*k+5<recursionLimit
 un:A.units+16*k+200<cLine
theorem Room.mono {j k:Nat}{A:Around}(r:Room k A)(h:j<=k):Room j A:=⟨r.hd,r.gd,by have:=r.dp;omega,by have:=r.un;omega⟩
theorem Room.deeper {k:Nat}{A:Around}(r:Room (k+1) A)(env:Env):Room k (A.deeper env) :=
 ⟨r.hd,r.gd,by have:=r.dp;show A.depth+1+3*k+5<_;omega,by have:=r.un;show A.units+3+16*k+200<_;omega⟩
theorem Room.depth {k:Nat}{A:Around}(r:Room k A):A.depth<recursionLimit:=by have:=r.dp;omega
theorem Room.units {k:Nat}{A:Around}(r:Room k A):A.units+64<cLine:=by have:=r.un;omega
theorem Room.units0 {k:Nat}{A:Around}(r:Room k A):A.units<cLine:=by have:=r.un;omega
def tNil:TA:=fun _ H Q=>Q [] H
def Zdd (ta:TE)(tr:TA):TA:=fun σ H Q=>ta σ H fun x H1=>tr σ H1 fun xs H2=>Q (x::xs) H2
section
variable {X:Cx}{e:Expr}{es:List Expr}{te:TE}{t:TA}{pos:Pos}
theorem Z01:PA X [] tNil:=fun _ _ _ _ H Q I h=>Calls.spliced_nil ⟨[],H,I,.nil,h⟩
theorem Z09 (ha:PE X e te)(hr:PA X es t)(hs:starEach (e::es) X.env=(false,eval e X.env)::starEach es X.env:=by rfl):PA X (e::es) (Zdd te t):=by
 intro pos pins s σ H Q I h
 rw[hs]
 show wpAny _ _ (spliced ((false,eval e X.env)::backTo pos (starEach es X.env))) _ _ s
 refine Calls.spliced_cons (thn (ha pins s σ H _ I h) fun u s1 ⟨x,H1,I1,r1,q1⟩ => ?_)
 exact thn (hr pos pins s1 σ H1 _ I1 q1) fun us s2 ⟨xs,H2,I2,r2,q2⟩=>⟨x::xs,H2,I2,.cons r1 r2,q2⟩
def Zo3 (t:TA):TE:=fun σ H Q=>t σ H fun xs H1=>xs.length<=sizeLine/\∀p,H1 p=none->Q (.ref p) (upd H1 p (.tup xs))
def Zmf (t:TA):TE:=fun σ H Q=>t σ H fun xs H1=>xs.length<=sizeLine/\∀p,H1 p=none->Q (.ref p) (upd H1 p (.lst xs))
theorem Z1h {x1}(h:PA X es t):PE X (.Tuple es x1 pos) (Zo3 t):=by
 intro pins s σ H Q I hq
 refine wpAny_Tuple_spliced (thn (h pos pins s σ H _ I hq) fun us s1 ⟨xs,H1,I1,r,z,q⟩=>⟨by rw[<- r.length];exact z,?_⟩)
 have hf:H1 s1.heap.objs.size=none:=I1.hok.fresh (Nat.le_refl _)
 refine⟨.ref s1.heap.objs.size,upd H1 s1.heap.objs.size (.tup xs),I1.laid (t':=s1.toks) (fun b u e=>Heap.get?_push_of_some _ e) (Nat.le_refl _) ?_,rfl,q _ hf⟩
 exact⟨z,us,r,⟨_,Heap.get?_push_size _ rfl,rfl,_,rfl⟩⟩
theorem Z1p (h:PA X es t):PE X (.List es pos) (Zmf t):=by
 intro pins s σ H Q I hq
 refine wpAny_List_spliced (thn (h pos pins s σ H _ I hq) fun us s1 ⟨xs,H1,I1,r,z,q⟩=>⟨by rw[<- r.length];exact z,?_⟩)
 have hf:H1 s1.heap.objs.size=none:=I1.hok.fresh (Nat.le_refl _)
 refine⟨.ref s1.heap.objs.size,upd H1 s1.heap.objs.size (.lst xs),I1.laid (t':=s1.toks) (fun b u e=>Heap.get?_push_of_some _ e) (Nat.le_refl _) ?_,rfl,q _ hf⟩
 exact⟨z,us,0,r,Heap.get?_push_size _ rfl⟩
end
abbrev Sp:=List V->Hp->VK->XK->Prop
abbrev CXT:=List Env->Hp->Shared->XK->Value->Shared->Prop
structure Env0 (P:Program)(w:World)(K:PySem.W.Frag)(mg:Str->Option Value)(base:Heap)(A:Around)(outer:List Env)(s:Shared)(H:Hp):Prop where
 frames:A.frames=some outer
 mod:Mod K mg base
 bs:∀b o,base.get? b=some o->s.heap.get? b=some o/\H b=none
 bsz:base.objs.size<=s.heap.objs.size
 funs:s.heap.FunFrames base outer
 frf:∀b∈frs outer,H b=none
 hok:HOk P w H s.heap
 bare:AllBare s.gens
def CE (outer:List Env)(P:Program)(w:World)(H:Hp)(s:Shared)(Q:VK)(u:Value)(s':Shared):Prop :=
 ∃v H',s'.os=s.os/\AllBare s'.gens/\Un (frs outer) [] H H' s.heap s'.heap/\HOk P w H' s'.heap/\RelV v u/\Q v H'
def CR (CX:CXT)(outer:List Env)(P:Program)(w:World)(H:Hp)(s:Shared)(Q:VK)(E:XK)(r:Result)(s':Shared):Prop :=
 match r with
 | .ok (.ret u)=>CE outer P w H s Q u s'
 | .ok _=>False
 | .error e=>CX outer H s E e s'
structure FnOk (P:Program)(w:World)(K:PySem.W.Frag)(mg:Str->Option Value)(base:Heap)(CX:CXT)(k:Nat)(f:Addr)(fd:FuncData)(ps:List Str)(sp:Sp):Prop where
 len:∀vs H Q E,sp vs H Q E->vs.length=ps.length
 run:∀(A:Around) (outer:List Env) (s:Shared) (H:Hp) (args:Args) (us:List Value) (vs:List V) (Q:VK) (E:XK),Room k A->Env0 P w K mg base A outer s H->BindsTo s fd args (ps.zip us)->Vals vs us->sp vs H Q E →
  codeAny (model P w) A (.call (.ref f) args) (CR CX outer P w H s Q E) s
theorem FnOk.mono {P:Program}{w:World}{K:PySem.W.Frag}{mg:Str->Option Value}{base:Heap}{CX:CXT}{j k:Nat}{f:Addr}{fd:FuncData}{ps:List Str}{sp:Sp}(F:FnOk P w K mg base CX j f fd ps sp)(h:j<=k) :
  FnOk P w K mg base CX k f fd ps sp:=⟨F.len,fun A outer s H args us vs Q E hr=>F.run A outer s H args us vs Q E (hr.mono h)⟩
theorem FnOk.imp {P:Program}{w:World}{K:PySem.W.Frag}{mg:Str->Option Value}{base:Heap}{CX:CXT}{k:Nat}{f:Addr}{fd:FuncData}{ps:List Str}{sp sp':Sp}(F:FnOk P w K mg base CX k f fd ps sp)
  (h:∀vs H Q E,sp' vs H Q E->sp vs H Q E):FnOk P w K mg base CX k f fd ps sp' :=
 ⟨fun vs H Q E q=>F.len vs H Q E (h _ _ _ _ q),fun A outer s H args us vs Q E hr he hb hv hs=>F.run A outer s H args us vs Q E hr he hb hv (h _ _ _ _ hs)⟩
section
variable {X:Cx}{pins:List (Addr × Obj)}{σ:St}{H:Hp}{s s':Shared}
theorem Inv.env0 (I:Inv X pins σ H s):Env0 X.prog X.w X.K X.mg X.base X.A X.stack s H :=
 ⟨I.ok.frames,I.ok.mod,I.bs,Nat.le_trans I.ok.bsz I.sz,I.stack,I.stkFree,I.hok,I.bare⟩
theorem Inv.after {Q:VK}{u:Value}(I:Inv X pins σ H s)(h:CE X.stack X.prog X.w H s Q u s'):EP X pins σ Q u s':=by
 obtain⟨v,H',os,bare,un,hok,r,q⟩:=h
 obtain⟨hh,g,d,t,os'⟩:=s'
 obtain rfl:os'=s.os:=os
 exact⟨v,H',I.call (h':=hh) (g':=g) (d':=d) (t':=t) (ch := []) un hok bare (fun b z=>absurd z (by simp)),r,q⟩
end
def Zmg (sp:Sp)(dvs:List V)(E:XK)(t:TA):TE:=fun σ H Q=>t σ H fun vs H1=>sp (vs++dvs) H1 Q E
def Binds (K:PySem.W.Frag)(fd:FuncData)(ps:List Str)(ds:List Value):Prop :=
 ∀(s:Shared) (us:List Value),K.In s.heap->(us++ds).length=ps.length->BindsTo s fd ⟨us,[]⟩ (ps.zip (us++ds))
theorem Binds.all {K:PySem.W.Frag}{fd:FuncData}{ps:List Str}(h:∀us:List Value,us.length=ps.length->bindArgs fd ⟨us,[]⟩=pure (ps.zip us)):Binds K fd ps []:=fun s us _ hl=>by
 rw[List.append_nil] at hl ⊢
 exact .of_eq (h us hl)
def Zde (CX:CXT)(X:Cx)(E:XK):Prop:=∀(pins:List (Addr × Obj)) (σ:St) (H:Hp) (s:Shared) (e:Value) (s':Shared),Inv X pins σ H s->CX X.stack H s E e s'->X.xe e s'
section
variable {X:Cx}{CX:CXT}{k:Nat}{f C:Addr}{fd:FuncData}{ps:List Str}{sp:Sp}{dvs:List V}{ds:List Value}{E:XK}{x m:Str}{p pos apos:Pos}{e o:Expr}{es:List Expr}{ta:TE}{t:TA}
theorem Zkf {pins:List (Addr × Obj)}{σ:St}{H:Hp}{s:Shared}{Q:VK}{us:List Value}{vs:List V}(F:FnOk X.prog X.w X.K X.mg X.base CX k f fd ps sp)(hr:Room k X.A)(hb:Binds X.K fd ps ds)(hd:Vals dvs ds)(hx:Zde CX X E)
  (I:Inv X pins σ H s) (r:Vals vs us) (h:sp (vs++dvs) H Q E):wpAny (model X.prog X.w) X.A (call (.ref f) us) (EP X pins σ Q) X.xe s:=by
 have r2:Vals (vs++dvs) (us++ds):=r.append hd
 have hl:(us++ds).length=ps.length:=by rw[<- r2.length];exact F.len _ _ _ _ h
 refine wpAny_call (codeAny_mono (F.run X.A X.stack s H ⟨us,[]⟩ (us++ds) (vs++dvs) Q E hr I.env0 (hb s us I.kIn hl) r2 h) fun r s' hq => ?_)
 cases r with
 | error e=>exact hx pins σ H s e s' I hq
 | ok fl =>
  cases fl with
  | ret u=>exact I.after hq
  | next=>exact False.elim hq
  | brk=>exact False.elim hq
  | cont=>exact False.elim hq
theorem Z06 (F:FnOk X.prog X.w X.K X.mg X.base CX k f fd ps sp)(hr:Room k X.A)(hg:Gl X x)(hm:X.mg x=some (.ref f))(hk:PySem.W.keepIn X.K (.ref f)=true)(hb:Binds X.K fd ps ds)(hd:Vals dvs ds)(hx:Zde CX X E)
  (ha:PA X (e::es) t) (hdb:(x==("__debug__":Str))=false:=by decide) (he:starEach (e::es) X.env=(false,eval e X.env)::starEach es X.env:=by rfl) (hpl:(backTo pos (starEach es X.env)).any (·.1)=false:=by rfl) :
  PE X (.Call (.Name x p) (e::es) [] pos) (Zmg sp dvs E t):=by
 intro pins s σ H Q I h
 refine wpAny_Call_Name_kw (Zd3 I hg hm ?_ hdb)
 refine PySem.W.callWith_K (h₀:=X.base) I.ok.mod.kin hk (thn (ha pos pins s σ H _ I h) fun us s1 ⟨vs,H1,I1,r,q⟩=>⟨I1.kIn,?_⟩) he hpl
 exact Zkf F hr hb hd hx I1 r q
end
structure FnScope (N P:List Str)(sc:Scope):Prop where
 kind:sc.kind = .function
 co:sc.isCoroutine=false
 gen:sc.isGenerator=false
 nd:N.Nodup
 pre:N.take P.length=P
 par:∀x∈P,sc.names.lookup x=some .local∨sc.names.lookup x=some .cell
 nofree:∀y∈sc.names,y.2 ≠ .free
theorem Z8r {kindOf:Str->Option NameKind}{x:Str}:∀{binds:List (Str × Value)} {m:Str->Option Value},(∀v,(x,v)∉binds)->bindL kindOf binds m x=m x
 | [],_,_=>rfl
 | (n,v)::r,m,h=>by
  unfold bindL
  rw[Z8r fun w hw=>h w (List.mem_cons_of_mem _ hw)]
  split
  ·have:x≠n:=by rintro rfl;exact h v List.mem_cons_self
   simp [this]
  ·rfl
theorem Z8s {kindOf:Str->Option NameKind}{x:Str}:∀{binds:List (Str × Value)} {m:Str->Option Value},(∀v,(x,v)∉binds)->bindC kindOf binds m x=m x
 | [],_,_=>rfl
 | (n,v)::r,m,h=>by
  unfold bindC
  rw[Z8s fun w hw=>h w (List.mem_cons_of_mem _ hw)]
  split
  ·rfl
  ·have:x≠n:=by rintro rfl;exact h v List.mem_cons_self
   simp [this]
theorem Z8t {kindOf:Str->Option NameKind}{x:Str}{v:Value}:∀{P:List Str} {vs:List Value} {i:Nat} {m:Str->Option Value},P.Nodup->P[i]? = some x->vs[i]? = some v->kindOf x=some .local →
  bindL kindOf (P.zip vs) m x=some v
 | [],_,_,_,_,h,_,_=>by simp at h
 | _::_,[],_,_,_,_,h,_=>by simp at h
 | p::P,w::vs,0,m,nd,h1,h2,hk=>by
  simp at h1 h2;subst h1;subst h2
  show bindL kindOf ((p,w)::P.zip vs) m p=_
  unfold bindL
  rw[Z8r fun v hv=>(List.nodup_cons.mp nd).1 (List.of_mem_zip hv).1,if_pos hk]
  simp
 | p::P,w::vs,i+1,m,nd,h1,h2,hk=>by
  show bindL kindOf ((p,w)::P.zip vs) m x=_
  unfold bindL
  exact Z8t (i:=i) (List.nodup_cons.mp nd).2 (by simpa using h1) (by simpa using h2) hk
theorem Z8u {kindOf:Str->Option NameKind}{x:Str}{v:Value}:∀{P:List Str} {vs:List Value} {i:Nat} {m:Str->Option Value},P.Nodup->P[i]? = some x->vs[i]? = some v->kindOf x≠some .local →
  bindC kindOf (P.zip vs) m x=some v
 | [],_,_,_,_,h,_,_=>by simp at h
 | _::_,[],_,_,_,_,h,_=>by simp at h
 | p::P,w::vs,0,m,nd,h1,h2,hk=>by
  simp at h1 h2;subst h1;subst h2
  show bindC kindOf ((p,w)::P.zip vs) m p=_
  unfold bindC
  rw[Z8s fun v hv=>(List.nodup_cons.mp nd).1 (List.of_mem_zip hv).1,if_neg hk]
  simp
 | p::P,w::vs,i+1,m,nd,h1,h2,hk=>by
  show bindC kindOf ((p,w)::P.zip vs) m x=_
  unfold bindC
  exact Z8u (i:=i) (List.nodup_cons.mp nd).2 (by simpa using h1) (by simpa using h2) hk
def Z8v (N:List Str)(vs:List V):St:=vs.map some++List.replicate (N.length-vs.length) none
def Zhl (CX:CXT)(P:Program)(w:World)(K:PySem.W.Frag)(mg:Str->Option Value)(base:Heap)(N:List Str)(qual:Str)(scope:Scope)(f:Addr)(cd:Value)(A:Around)(outer:List Env)(s:Shared)(H:Hp)(E:XK):Cx where
 prog:=P
 w:=w
 K:=K
 mg:=mg
 base:=base
 A:=A.deeper (envOfC qual scope s.heap.objs.size f cd)
 N:=N
 s₀:=s
 H₀:=H
 env:=envOfC qual scope s.heap.objs.size f cd
 outer:=outer
 stack:=envOfC qual scope s.heap.objs.size f cd::outer
 ex := []
 calm:=true
 fn:=fun _=>true
 pn := []
 xe:=fun e s'=>wpAny (model P w) (A.deeper (envOfC qual scope s.heap.objs.size f cd)) (leaving (envOfC qual scope s.heap.objs.size f cd) e) (fun _ s''=>CX outer H s E e s'') (fun e' s''=>CX outer H s E e' s'') s'
theorem Zav {sc:Scope}{n:Nat}{x:Str}(h:sc.names.lookup x=some .cell):∃c,(cellsFrom n sc.names []).lookup x=some c:=by
 have q:=PySem.W.cellsFrom_some sc.names n [] (.inl h)
 exact Option.isSome_iff_exists.mp q
theorem Zdf {CX:CXT}{P:Program}{w:World}{K:PySem.W.Frag}{mg:Str->Option Value}{base:Heap}{N ps:List Str}{qual:Str}{scope:Scope}{f:Addr}{cd:Value}{A:Around}{outer:List Env}{s s1:Shared}{H:Hp}{E:XK}{us:List Value}{vs:List V}
  (S:FnScope N ps scope) (hd:A.handled=none) (e0:Env0 P w K mg base A outer s H) (hl:vs.length=ps.length) (r:Vals vs us)
  (x:InCallC s s.heap.objs.size (bindL (envOfC qual scope s.heap.objs.size f cd).kindOf (ps.zip us) fun _=>none) (cellsFrom (s.heap.objs.size+1) scope.names []) (bindC (envOfC qual scope s.heap.objs.size f cd).kindOf (ps.zip us) fun _=>none) s1) :
  Inv (Zhl CX P w K mg base N qual scope f cd A outer s H E) [] (Z8v N vs) H s1:=by
 have hpl:ps.length<=N.length:=by have:=congrArg List.length S.pre;rw[List.length_take] at this;omega
 obtain⟨h1,tk,rfl,hk⟩:=x.done
 have noA:∀b:Addr,b∉(Zhl CX P w K mg base N qual scope f cd A outer s H E).ex:=fun b z=>absurd (show b∈([]:List Addr) from z) (by simp)
 refine⟨⟨e0.mod,S.kind,rfl,rfl,Nat.le_refl _,fun y z c h1 h2 => ?_,fun y hy => ?_,fun y c _ h => ?_,fun _=>hd,Around.frames_deeper e0.frames,.inr ⟨rfl,rfl⟩,fun b z=>absurd z (noA b),e0.bs,e0.bsz,fun b _ _=>noA b,fun b z=>absurd z (noA b),e0.funs,e0.frf⟩,
  rfl,e0.bare,Un.kept hk,⟨_,x.toInCall.ns,fun i y v h1 h2 h3 => ?_⟩,fun y c h=>⟨_,x.cell y c h⟩,e0.hok.fresh (Nat.le_refl _),fun y c h => ?_,fun p hp=>absurd (show p∈([]:List (Addr × Obj)) from hp) (by simp),e0.hok.kept hk,?_⟩
 ·exact name_of_addr x.apart (PySem.mem_of_lookup h1) (PySem.mem_of_lookup h2)
 ·have hy:scope.names.lookup y=some .cell∨scope.names.lookup y=some .free:=hy
  rcases hy with hy | hy
  ·exact Zav hy
  ·exact absurd rfl (S.nofree _ (PySem.mem_of_lookup hy))
 ·exact Nat.le_of_lt (x.above y c (PySem.mem_of_lookup h))
 ·have hi:i<vs.length:=by
   unfold Z8v at h2
   by_cases hi:i<vs.length
   ·exact hi
   ·rw[List.getElem?_append_right (by simpa using hi)] at h2
    rw[List.getElem?_replicate] at h2
    split at h2 <;> cases h2
  have ha:vs[i]? = some v:=by
   unfold Z8v at h2
   rw[List.getElem?_append_left (by simpa using hi),List.getElem?_map] at h2
   cases e:vs[i]? with
   | none=>rw[e] at h2;cases h2
   | some a=>rw[e] at h2;cases h2;rfl
  obtain⟨u,hu,rv⟩:=r.get ha
  have hp:ps[i]? = some y:=by
   rw[<- S.pre,List.getElem?_take_of_lt (by omega)];exact h1
  have ndP:ps.Nodup:=by rw[<- S.pre];exact S.nd.sublist (List.take_sublist _ _)
  refine⟨u,rv,?_⟩
  rcases S.par y (List.mem_of_getElem? hp) with k | k
  ·exact .inl ⟨k,Z8t ndP hp hu k⟩
  ·obtain⟨c,e⟩:=Zav (n:=s.heap.objs.size+1) k
   refine .inr ⟨.inl k,c,e,?_⟩
   have q:=x.cell y c e
   rw[Z8u ndP hp hu (by show scope.names.lookup y≠_;rw[k];decide)] at q
   exact q
 ·exact e0.hok.fresh (Nat.le_of_lt (x.above y c (PySem.mem_of_lookup h)))
 ·unfold Z8v
  show _=N.length
  rw[List.length_append,List.length_map,List.length_replicate]
  omega
theorem Zmh {CX:CXT}{P:Program}{w:World}{K:PySem.W.Frag}{mg:Str->Option Value}{base:Heap}{k:Nat}{f:Addr}{name qual:Str}{params:Arguments}{body:List Stmt}{scope:Scope}{dV kV doc pm cdv ct oc:Value}{an od:Option Addr}
  {osl:Array (Option Value)} {N ps:List Str} {sp:Sp} (lk:K.lookup f=some ⟨oc,od,.func (PySem.W.fnOf name qual params body scope dV kV doc pm an cdv ct),osl⟩) (hcd:PySem.W.codeIn K cdv qual=true) (S:FnScope N ps scope)
  (len:∀vs H Q E,sp vs H Q E->vs.length=ps.length)
  (hbody:∀(A:Around) (outer:List Env) (s:Shared) (H:Hp) (vs:List V) (Q:VK) (E:XK),Room k (A.deeper (envOfC qual scope s.heap.objs.size f cdv))->sp vs H Q E →
   ∃t,PSs (Zhl CX P w K mg base N qual scope f cdv A outer s H E) body t/\t { nx:=fun _ H'=>Q .non H',rt:=Q } (Z8v N vs) H) :
  FnOk P w K mg base CX (k+1) f (PySem.W.fnOf name qual params body scope dV kV doc pm an cdv ct) ps sp:=by
 refine⟨len,fun A outer s H args us vs Q E hr e0 hb r hsp => ?_⟩
 have hl:=len _ _ _ _ hsp
 have KX:K.In s.heap:=e0.mod.kin.keeps fun b o e=>(e0.bs b o e).1
 have lim:s.heap.NoLimit:=e0.mod.nolimit.keeps fun b o e=>(e0.bs b o e).1
 have hkind:∀y∈ps.zip us,scope.names.lookup y.1=some .local∨(scope.names.lookup y.1=some .cell/\((cellsFrom (s.heap.objs.size+1) scope.names []).lookup y.1).isSome=true):=fun⟨n,v⟩ hy=>by
  rcases S.par n (List.of_mem_zip hy).1 with q | q
  ·exact .inl q
  ·exact .inr ⟨q,PySem.W.cellsFrom_some _ _ _ (.inl q)⟩
 refine codeAny_call_function hr.depth (KX _ _ lk) rfl S.co S.gen rfl (PySem.W.codeRec_of KX hcd) (hb _ _ _ _ ?_)
 refine wpAny_newFunctionEnv_cells S.kind hkind fun env he s1 x => ?_
 subst he
 refine⟨lim.keeps x.toInCall.keep,codeAny_func ?_⟩
 obtain⟨t,ht,hq⟩:=hbody A outer s H vs Q E (hr.deeper _) hsp
 have I:Inv (Zhl CX P w K mg base N qual scope f cdv A outer s H E) [] (Z8v N vs) H s1:=Zdf S hr.hd e0 hl r x
 refine wpAny_mono (ht [] s1 (Z8v N vs) H _ I hq) (fun fl s' hs => ?_) fun e s' hs=>hs
 have fin:∀{σ':St} {H':Hp} {v:V} {u:Value},Inv (Zhl CX P w K mg base N qual scope f cdv A outer s H E) [] σ' H' s'->RelV v u->Q v H'->CE outer P w H s Q u s' :=
  fun {σ' H' v u} J rv q=>⟨v,H',J.os,J.bare,J.base,J.hok,rv,q⟩
 cases fl with
 | ret u =>
  obtain⟨v,σ',H',J,rv,q⟩:=hs
  exact fin J rv q
 | next =>
  obtain⟨σ',H',J,q⟩:=hs
  exact fin (v:=V.non) (u:=Value.none) J rfl q
 | brk =>
  obtain⟨_,_,_,q⟩:=hs
  exact False.elim q
 | cont =>
  obtain⟨_,_,_,q⟩:=hs
  exact False.elim q
section
variable {X:Cx}{x:Str}{p pos:Pos}{e:Expr}{es:List Expr}{t:TA}{id T:String}{r:List V->Hp->VK->Prop}
def tCB (r:List V->Hp->VK->Prop)(t:TA):TE:=fun σ H Q=>t σ H fun vs H1=>r vs H1 Q
theorem Z0d (hc:Z48 X (.builtin id) r)(hg:Gl X x)(hm:X.mg x=none)(hv:bootBuiltins x=some (.builtin id))(ha:PA X (e::es) t)(hn:x≠"__name__":=by decide)(hdb:(x==("__debug__":Str))=false:=by decide)
  (he:starEach (e::es) X.env=(false,eval e X.env)::starEach es X.env:=by rfl) (hpl:(backTo pos (starEach es X.env)).any (·.1)=false:=by rfl):PE X (.Call (.Name x p) (e::es) [] pos) (tCB r t):=by
 intro pins s σ H Q I h
 refine wpAny_Call_Name_kw (Z65 I hg hm hv ?_ hn hdb)
 exact PyProof.Rows.callWith_builtin1 (thn (ha pos pins s σ H _ I h) fun us s1 ⟨vs,H1,I1,r1,q1⟩=>hc pins s1 σ H1 vs us Q I1 r1 q1) he hpl
theorem Z10 (hc:Z48 X (.type T) r)(hg:Gl X x)(hm:X.mg x=none)(hv:bootBuiltins x=some (.type T))(ha:PA X (e::es) t)(hn:x≠"__name__":=by decide)(hdb:(x==("__debug__":Str))=false:=by decide)
  (he:starEach (e::es) X.env=(false,eval e X.env)::starEach es X.env:=by rfl) (hpl:(backTo pos (starEach es X.env)).any (·.1)=false:=by rfl):PE X (.Call (.Name x p) (e::es) [] pos) (tCB r t):=by
 intro pins s σ H Q I h
 refine wpAny_Call_Name_kw (Z65 I hg hm hv ?_ hn hdb)
 exact PyProof.Rows.callWith_type1 (thn (ha pos pins s σ H _ I h) fun us s1 ⟨vs,H1,I1,r1,q1⟩=>hc pins s1 σ H1 vs us Q I1 r1 q1) he hpl
end
end L2
namespace HT
open PySem PyProof.Rows
section
variable {prog:Program}{w:World}{A:Around}{E:Value->Shared->Prop}{s:Shared}
theorem cat_tup {t b:Addr}{vs ws:List Value}{Q:Value->Shared->Prop}(ht:IsTup s.heap t vs.toArray)(hb:IsTup s.heap b ws.toArray)(hv:vs ≠ [])
  (h1:ws = []->Q (.ref t) s) (h2:ws ≠ []->Q (.ref s.heap.objs.size) { s with heap:=s.heap.push { cls := .type "tuple",data := .seq (vs++ws).toArray } })
  (hsz:vs.length+ws.length<=sizeLine):wpAny (model prog w) A (binaryOp .Add (.ref t) (.ref b)) Q E s:=by
 obtain⟨⟨cls,dd,data,sl⟩,ho,hc,n,hd⟩:=id ht
 obtain⟨⟨cls2,dd2,data2,sl2⟩,ho2,hc2,n2,hd2⟩:=id hb
 simp only at hc hd hc2 hd2
 subst hc hd hc2 hd2
 have e:vs.toArray++ws.toArray=(vs++ws).toArray:=by simp
 by_cases hw:ws = []
 ·exact concat_meets ⟨_,ho,rfl⟩ ⟨_,ho2,rfl⟩ noFill_tuple_add seq_tuple_add PySem.F.slot_tuple_add PySem.F.entry_tuple_add (PySem.F.args_tuple_add_2 _ _)
   (tuple_addW1 t b vs.toArray ws.toArray n n2 dd dd2 sl sl2 (by simpa using hv) (by simp [hw])) ⟨ho,ho2,h1 hw⟩
 ·refine concat_meets ⟨_,ho,rfl⟩ ⟨_,ho2,rfl⟩ noFill_tuple_add seq_tuple_add PySem.F.slot_tuple_add PySem.F.entry_tuple_add (PySem.F.args_tuple_add_2 _ _)
   (tuple_addW2 t b vs.toArray ws.toArray n n2 dd dd2 sl sl2 (by simpa using hv) (by simpa using hw) (by rw[List.size_toArray,List.size_toArray];exact hsz)) ⟨ho,ho2,?_⟩
  rw[e]
  exact h2 hw
def sIx (n d:Nat):Option Int->Nat
 | none=>d
 | some v=>if v<0 then (v+(n:Int)).toNat else min v.toNat n
theorem Zkg (n d:Nat)(hd:d<=n)(o:Option Int):sIx n d o<=n:=by
 cases o with
 | none=>exact hd
 | some v =>
  show(if v<0 then (v+(n:Int)).toNat else min v.toNat n)<=n
  by_cases hv:v<0
  ·rw[if_pos hv];omega
  ·rw[if_neg hv];exact Nat.min_le_right _ _
theorem Zdg (v:Int)(n d:Nat):(if v<0 then max (v+(n:Int)) 0 else min v (n:Int))=((sIx n d (some v):Nat):Int):=by
 show(if v<0 then max (v+(n:Int)) 0 else min v (n:Int))=(((if v<0 then (v+(n:Int)).toNat else min v.toNat n):Nat):Int)
 by_cases hv:v<0
 ·simp only [if_pos hv];omega
 ·simp only [if_neg hv];omega
theorem Zc7 (lo hi:Option Int)(n:Nat):Builtin.Slice.sliceAdjust lo hi 1 (n:Int)=(((sIx n 0 lo:Nat):Int),((sIx n n hi:Nat):Int)):=by
 have h1:¬ ((1:Int)<0):=by omega
 unfold Builtin.Slice.sliceAdjust
 simp only [h1,if_false]
 refine Prod.ext ?_ ?_
 ·cases lo with
  | none=>rfl
  | some v=>exact Zdg v n 0
 ·cases hi with
  | none=>rfl
  | some v=>exact Zdg v n n
theorem Zc8 (i j:Nat):Builtin.Slice.slicePlaces (i:Int) (j:Int) 1=j-i:=by
 unfold Builtin.Slice.slicePlaces
 have h1:(1:Int)>0:=by omega
 simp only [h1,if_true,Int.ediv_one]
 split <;> omega
theorem Z7b {v:Value}{o:Option Int}{Q:Option Int->Shared->Prop}(p:IsPart v o)(h:Q o s):wpAny (model prog w) A (Builtin.Slice.slicePartIndex v) Q E s:=by
 cases p with
 | none=>exact slicePart_none h
 | int i t=>exact slicePart_int h
theorem Z3q {sl:Addr}{vl vu:Value}{lo hi:Option Int}{n:Nat}{Q:Int × Int × Nat->Shared->Prop}(hs:s.heap.IsSliceOf sl vl vu .none)(pl:IsPart vl lo)(pu:IsPart vu hi)
  (h:Q (((sIx n 0 lo:Nat):Int),1,sIx n n hi-sIx n 0 lo) s):wpAny (model prog w) A (Builtin.Slice.sliceApplied (.ref sl) (pure (n:Int))) Q E s:=by
 obtain⟨os,hos,hcs,hds⟩:=id hs
 unfold Builtin.Slice.sliceApplied Builtin.Slice.sliceFields
 refine wpAny_bind (wpAny_bind (wpAny_field hos hds (x:=vl) rfl (wpAny_bind (wpAny_field hos hds (x:=vu) rfl (wpAny_bind (wpAny_field hos hds (x := .none) rfl (wpAny_pure ?_)))))))
 refine wpAny_bind (slicePart_none ?_)
 show wpAny _ _ (if ((1:Int)==0)=true then _ else _) _ _ s
 rw[if_neg (by decide)]
 refine wpAny_bind (Z7b pl (wpAny_bind (Z7b pu (wpAny_bind (wpAny_pure ?_)))))
 show wpAny _ _ (match Builtin.Slice.sliceAdjust lo hi 1 (n:Int) with | (lo,hi)=>pure (lo,(1:Int),Builtin.Slice.slicePlaces lo hi 1)) _ _ s
 rw[Zc7 lo hi n]
 show wpAny _ _ (pure (((sIx n 0 lo:Nat):Int),(1:Int),Builtin.Slice.slicePlaces ((sIx n 0 lo:Nat):Int) ((sIx n n hi:Nat):Int) 1)) _ _ s
 rw[Zc8]
 exact wpAny_pure h
theorem Zfq (xs:Array Value)(i k:Nat):((List.range k).filterMap fun(m:Nat)=>xs[((i:Int)+(m:Int)*1).toNat]?).toArray=((xs.toList.drop i).take k).toArray:=by
 have e:(fun(m:Nat)=>xs[((i:Int)+(m:Int)*1).toNat]?)=fun m=>xs[i+m]? := by
  funext m
  have:((i:Int)+(m:Int)*1).toNat=i+m:=by omega
  rw[this]
 rw[e]
 have:=pick_run xs i k
 rw[List.filterMap_map] at this
 have e2:((fun x=>xs[x]?)∘fun x=>i+x)=fun m=>xs[i+m]? := rfl
 rw[e2] at this
 rw[this]
theorem getItem_tuple_cut {t sl:Addr}{items:Array Value}{vl vu:Value}{lo hi:Option Int}{Q:Value->Shared->Prop}(ht:IsTup s.heap t items)(hs:s.heap.IsSliceOf sl vl vu .none)(pl:IsPart vl lo)(pu:IsPart vu hi)
  (hw:¬ (sIx items.size 0 lo=0/\sIx items.size items.size hi=items.size))
  (h:Q (.ref s.heap.objs.size) { s with heap:=s.heap.push { cls := .type "tuple",data := .seq ((items.toList.drop (sIx items.size 0 lo)).take (sIx items.size items.size hi-sIx items.size 0 lo)).toArray } })
  (hsz:items.size<=sizeLine):wpAny (model prog w) A (getItem (.ref t) (.ref sl)) Q E s:=by
 have htake:sizeOk (.seq ((items.toList.drop (sIx items.size 0 lo)).take (sIx items.size items.size hi-sIx items.size 0 lo)).toArray):=by
  show((items.toList.drop (sIx items.size 0 lo)).take (sIx items.size items.size hi-sIx items.size 0 lo)).toArray.size<=sizeLine
  rw[List.size_toArray,List.length_take,List.length_drop,Array.length_toList]
  omega
 have hj:sIx items.size items.size hi<=items.size:=Zkg _ _ (Nat.le_refl _) hi
 obtain⟨os,hos,hcs,hds⟩:=id hs
 have hTs:s.TypeIs (.ref sl) "slice":=⟨os,hos,hcs⟩
 unfold getItem
 try with_reducible refine wpAny_holding ?_
 first | refine wpAny_bind (wpAny_pure ?_) | skip
 refine wpAny_bind (wpAny_sequenceKey ht.typeIs (by decide) ?_)
 refine wpAny_bind (wpAny_callSpecial?_slot (name:=Str.ofString "__getitem__") ht.typeIs PyProof.Rows.slot_tuple_getitem
  (wpAny_call_entry PyProof.Rows.slot_tuple_getitem ht.typeIs entry_tuple_getitem ?_ (args_tuple_getitem _ _)))
 show wpAny _ _ (Builtin.Tuple.tupleItemsOf (.ref t) >>= _) _ _ s
 refine wpAny_bind (tupleItemsOf_ ht ?_)
 refine wpAny_bind (wpAny_typeOf hTs ?_)
 rw[if_pos (by decide)]
 refine wpAny_bind (Z3q hs pl pu ?_)
 have hno:¬ ((((sIx items.size 0 lo:Nat):Int)==0&&(1:Int)==1&&(sIx items.size items.size hi-sIx items.size 0 lo)==items.size)=true):=by
  intro q
  rw[Bool.and_eq_true,Bool.and_eq_true] at q
  have q1:((sIx items.size 0 lo:Nat):Int)=0:=eq_of_beq q.1.1
  have q2:sIx items.size items.size hi-sIx items.size 0 lo=items.size:=eq_of_beq q.2
  exact hw ⟨by omega,by omega⟩
 show wpAny _ _ (if (((sIx items.size 0 lo:Nat):Int)==0&&(1:Int)==1&&(sIx items.size items.size hi-sIx items.size 0 lo)==items.size)=true then _ else _) _ _ s
 rw[if_neg hno,Zfq]
 first
  | exact wpAny_bind (m:=Builtin.Tuple.tupleExact _) (wpAny_newObj_type (wpAny_pure ⟨_,rfl,wpAny_pure h⟩) htake)
  | exact wpAny_bind (m:=Builtin.Tuple.tupleExact _) (wpAny_newObj_type (wpAny_bind (wpAny_pure (wpAny_pure ⟨_,rfl,wpAny_pure h⟩))) htake)
  | exact wpAny_bind (wpAny_bind (m:=Builtin.Tuple.tupleExact _) (wpAny_newObj_type (wpAny_pure (wpAny_pure ⟨_,rfl,wpAny_pure h⟩)) htake))
  | exact wpAny_bind (wpAny_bind (m:=Builtin.Tuple.tupleExact _) (wpAny_newObj_type (wpAny_pure ⟨_,rfl,wpAny_pure h⟩) htake))
end
end HT
namespace L2
open PySem PySem.Spec PyProof.Rows
abbrev TO:=St->Hp->(Option Int->Hp->Prop)->Prop
def PO (X:Cx)(e:Option Expr)(t:TO):Prop :=
 ∀(pins:List (Addr × Obj)) (s:Shared) (σ:St) (H:Hp) (Q:Option Int->Hp->Prop),Inv X pins σ H s->t σ H Q →
  wpAny (model X.prog X.w) X.A (evalPart e X.env) (fun u s'=>∃o H',Inv X pins σ H' s'/\IsPart u o/\Q o H') X.xe s
def tNoPart:TO:=fun _ H Q=>Q none H
def Zmi (t:TE):TO:=fun σ H Q=>t σ H fun x H1=>∃i,x = .int i/\Q (some i) H1
theorem Zc9 {ns:List Int}:∀{us:List Value},Vals (ns.map V.int) us->IntsAre us ns:=by
 induction ns with
 | nil=>intro us r;rw[List.map_nil] at r;cases r;exact .nil
 | cons n ns ih =>
  intro us r
  rw[List.map_cons] at r
  cases r with
  | cons r1 r2 =>
   obtain⟨t,e⟩:=r1
   subst e
   exact .cons n t (ih r2)
section
variable {X:Cx}{e:Expr}{te:TE}{lo hi:Option Expr}{tl th:TO}{pos p2:Pos}
theorem Z35:PO X none tNoPart:=by
 intro pins s σ H Q I h
 rw[evalPart_none]
 exact wpAny_pure ⟨none,H,I,.none,h⟩
theorem Z2u (h:PE X e te):PO X (some e) (Zmi te):=by
 intro pins s σ H Q I hw
 rw[evalPart_some]
 refine thn (h pins s σ H _ I hw) fun u s1 ⟨x,H1,I1,r1,q1⟩ => ?_
 obtain⟨i,rfl,q⟩:=q1
 obtain⟨t,rfl⟩:=r1
 exact⟨some i,H1,I1,.int i t,q⟩
def SlR (X:Cx)(r:V->Option Int->Option Int->Hp->VK->Prop):Prop :=
 ∀(pins:List (Addr × Obj)) (s:Shared) (σ:St) (H:Hp) (x:V) (v vl vu:Value) (lo hi:Option Int) (sl:Addr) (Q:VK),Inv X pins σ H s->RelV x v->s.heap.IsSliceOf sl vl vu .none->IsPart vl lo->IsPart vu hi->r x lo hi H Q →
  ∃T id,typeLookup (.type T) "__getitem__"=pure (some (.builtin id))/\s.TypeIs v T/\wpAny (model X.prog X.w) X.A (getItem v (.ref sl)) (EP X pins σ Q) X.xe s
def tSl (r:V->Option Int->Option Int->Hp->VK->Prop)(te:TE)(tl th:TO):TE:=fun σ H Q=>te σ H fun x H1=>tl σ H1 fun l H2=>th σ H2 fun u H3=>r x l u H3 Q
theorem Z2f {r:V->Option Int->Option Int->Hp->VK->Prop}(hr:SlR X r)(he:PE X e te)(hl:PO X lo tl)(hu:PO X hi th):PE X (.Subscript e (.Slice lo hi none p2) pos) (tSl r te tl th):=by
 intro pins s σ H Q I h
 refine Subscript_ (thn (he pins s σ H _ I h) fun v s1 ⟨x,H1,I1,r1,q1⟩ => ?_)
 refine wpAny_Slice (thn (hl pins s1 σ H1 _ I1 q1) fun vl s2 ⟨l,H2,I2,pl,q2⟩=>thn (hu pins s2 σ H2 _ I2 q2) fun vu s3 ⟨u,H3,I3,pu,q3⟩ => ?_)
 rw[evalPart_none]
 refine wpAny_pure ?_
 have I4:Inv X pins σ H3 { s3 with heap:=s3.heap.push { cls := .type "slice",data := .fields #[vl,vu,.none] } }:=I3.kept (t':=s3.toks) fun b ob q=>Heap.get?_push_of_some _ q
 obtain⟨T,id,hT,ht,hg⟩:=hr pins { s3 with heap:=s3.heap.push { cls := .type "slice",data := .fields #[vl,vu,.none] } } σ H3 x v vl vu l u s3.heap.objs.size Q I4 r1 (Heap.IsSliceOf.new ..) pl pu q3
 show wpAny (model X.prog X.w) X.A (subscriptTail e (.Slice lo hi none p2) v (.ref s3.heap.objs.size)) (EP X pins σ Q) X.xe { s3 with heap:=s3.heap.push { cls := .type "slice",data := .fields #[vl,vu,.none] } }
 exact tail_any (ops := [.ref s3.heap.objs.size,v]) ht hT hg (by with_unfolding_all rfl)
def Z5v (xs:List V)(lo hi:Option Int):List V:=(xs.drop (HT.sIx xs.length 0 lo)).take (HT.sIx xs.length xs.length hi-HT.sIx xs.length 0 lo)
theorem Z66 (xs:List V)(lo hi:Option Int):(Z5v xs lo hi).length<=xs.length:=by
 unfold Z5v
 rw[List.length_take,List.length_drop]
 omega
inductive rSlT (K:PySem.W.Frag)(x:V)(lo:Option Int)(hi:Option Int)(H:Hp)(Q:VK):Prop
 | mk (a xs:_) (_:x = .ref a) (_:SqT K H a xs) (_:¬ (HT.sIx xs.length 0 lo=0/\HT.sIx xs.length xs.length hi=xs.length)) (_:∀p,H p=none->Q (.ref p) (upd H p (.tup (Z5v xs lo hi)))):rSlT K x lo hi H Q
theorem Zkh:SlR X (rSlT X.K):=by
 intro pins s σ H x v vl vu lo hi sl Q I rx hs pl pu h
 obtain⟨a,xs,rfl,hx,hw,q⟩:=h
 cases rx
 obtain⟨its,r,ht,hz⟩:=I.tuple hx
 have hlen:its.toArray.size=xs.length:=by rw[List.size_toArray];exact r.length.symm
 refine⟨"tuple",_,PyProof.Rows.slot_tuple_getitem.lookup,ht.typeIs,?_⟩
 refine HT.getItem_tuple_cut ht hs pl pu (by rw[hlen];exact hw) ?_ (by rw[hlen];exact hz)
 rw[hlen]
 refine⟨.ref s.heap.objs.size,_,I.laid (t':=s.toks) (o := .tup (Z5v xs lo hi)) (fun b ob q=>Heap.get?_push_of_some _ q) (Nat.le_refl _) ?_,rfl,q _ (I.hok.fresh (Nat.le_refl _))⟩
 exact⟨Nat.le_trans (Z66 xs lo hi) hz,_,(r.drop (HT.sIx xs.length 0 lo)).take (HT.sIx xs.length xs.length hi-HT.sIx xs.length 0 lo),IsTup.new _ _⟩
inductive rCatT (K:PySem.W.Frag)(x:V)(y:V)(H:Hp)(Q:VK):Prop
 | mk (a b xs ys:_) (_:x = .ref a) (_:y = .ref b) (_:SqT K H a xs) (_:SqT K H b ys) (_:xs ≠ []) (_:xs.length+ys.length<=sizeLine) (_:(ys = []->Q (.ref a) H)) (_:(ys ≠ []->∀p,H p=none->Q (.ref p) (upd H p (.tup (xs++ys))))):rCatT K x y H Q
theorem Vals.nil_iff {xs:List V}{us:List Value}(r:Vals xs us):us = []↔xs = []:=by
 cases r with
 | nil=>simp
 | cons _ _=>simp
theorem Zid:OpR X (binaryOp .Add) (rCatT X.K):=by
 intro pins s σ H x y v u Q I rx ry h
 obtain⟨a,b,xs,ys,rfl,rfl,ha,hb,hx,hz,q1,q2⟩:=h
 cases rx
 cases ry
 obtain⟨its,r1,p1,_⟩:=I.tuple ha
 obtain⟨its2,r2,p2,_⟩:=I.tuple hb
 refine HT.cat_tup p1 p2 (fun z=>hx (r1.nil_iff.mp z)) (fun z=>⟨.ref a,H,I,rfl,q1 (r2.nil_iff.mp z)⟩) (fun z => ?_) (by rw[<- r1.length,<- r2.length];exact hz)
 refine⟨.ref s.heap.objs.size,_,I.laid (t':=s.toks) (o := .tup (xs++ys)) (fun b ob q=>Heap.get?_push_of_some _ q) (Nat.le_refl _) ?_,rfl,q2 (fun w=>z (r2.nil_iff.mpr w)) _ (I.hok.fresh (Nat.le_refl _))⟩
 exact⟨by rw[List.length_append];exact hz,_,r1.append r2,IsTup.new _ _⟩
end
def ixN (n:Nat)(i:Int):Option Nat:=if 0<=i then (if i<n then some i.toNat else none) else if -(n:Int)<=i then some (i+n).toNat else none
def atI {α : Type}(xs:List α)(i:Int):Option α := (ixN xs.length i).bind fun j=>xs[j]?
theorem Zie {n:Nat}{i:Int}{j:Nat}(h:ixN n i=some j):seqIndex? i n=some j/\j<n /\ -(n:Int)<=i/\i<n:=by
 unfold ixN at h
 by_cases h0:0<=i
 ·rw[if_pos h0] at h
  by_cases h1:i<n
  ·rw[if_pos h1] at h
   have e:i.toNat=j:=Option.some.inj h
   exact⟨by rw[seqIndex_of h0 h1,e],by omega,by omega,h1⟩
  ·rw[if_neg h1] at h;cases h
 ·rw[if_neg h0] at h
  by_cases h1 : -(n:Int)<=i
  ·rw[if_pos h1] at h
   have e:(i+n).toNat=j:=Option.some.inj h
   exact⟨by rw[seqIndex_neg (by omega) h1,e],by omega,h1,by omega⟩
  ·rw[if_neg h1] at h;cases h
theorem Z7v {α : Type}{xs:List α}{i:Int}{v : α}(h:atI xs i=some v):∃j,seqIndex? i xs.length=some j/\xs[j]? = some v/\j<xs.length /\ -(xs.length:Int)<=i/\i<xs.length:=by
 unfold atI at h
 cases e:ixN xs.length i with
 | none=>rw[e] at h;cases h
 | some j =>
  rw[e] at h
  obtain⟨h1,h2,h3,h4⟩:=Zie e
  exact⟨j,h1,h,h2,h3,h4⟩
theorem Z2c {α : Type}{xs:List α}{j:Nat}{v : α}(h:xs[j]? = some v):atI xs (j:Int)=some v:=by
 have hj:j<xs.length:=(List.getElem?_eq_some_iff.mp h).1
 have e:ixN xs.length (j:Int)=some j:=by
  unfold ixN
  rw[if_pos (by omega),if_pos (by omega)];simp
 unfold atI;rw[e];exact h
def Zdh (b:Expr):Prop:=∀o i,subscripted b false o i=operate [o,i] (getItem o i)
def IxR (X:Cx)(r:R2):Prop :=
 ∀(value slice:Expr) (pins:List (Addr × Obj)) (s:Shared) (σ:St) (H:Hp) (x y:V) (v u:Value) (Q:VK),Inv X pins σ H s->RelV x v->RelV y u->r x y H Q →
  subscripted slice false v u=operate [v,u] (getItem v u)->wpAny (model X.prog X.w) X.A (subscriptTail value slice v u) (EP X pins σ Q) X.xe s
def MtR (X:Cx)(id:String)(r:V->List V->Hp->VK->Prop):Prop :=
 ∀(pins:List (Addr × Obj)) (s:Shared) (σ:St) (H:Hp) (x:V) (xs:List V) (v:Value) (us:List Value) (Q:VK),Inv X pins σ H s->RelV x v->Vals xs us->r x xs H Q →
  wpAny (model X.prog X.w) X.A (call (.builtin id) (v::us)) (EP X pins σ Q) X.xe s
section
variable {X:Cx}{a b:Expr}{ta tb:TE}{pos:Pos}
theorem IxR.or {r r':R2}(h:IxR X r)(h':IxR X r'):IxR X (fun x y H Q=>r x y H Q∨r' x y H Q):=by
 intro value slice pins s σ H x y v u Q I rx ry q hs
 rcases q with q | q
 ·exact h value slice pins s σ H x y v u Q I rx ry q hs
 ·exact h' value slice pins s σ H x y v u Q I rx ry q hs
theorem Z0y {r:R2}(hr:IxR X r)(ha:PE X a ta)(hb:PE X b tb)(hs:Zdh b):PE X (.Subscript a b pos) (tOp r ta tb):=by
 intro pins s σ H Q I h
 exact Subscript_ (Zmb ha hb I h fun v u s2 x y H2 I2 rx ry q=>hr a b pins s2 σ H2 x y v u Q I2 rx ry q (hs _ _))
inductive rIxL (K:PySem.W.Frag)(x:V)(y:V)(H:Hp)(Q:VK):Prop
 | mk (p xs i v:_) (_:x = .ref p) (_:y = .int i) (_:SqL K H p xs) (_:atI xs i=some v) (_:Q v H):rIxL K x y H Q
inductive rIxT (K:PySem.W.Frag)(x:V)(y:V)(H:Hp)(Q:VK):Prop
 | mk (p xs i v:_) (_:x = .ref p) (_:y = .int i) (_:SqT K H p xs) (_:atI xs i=some v) (_:Q v H):rIxT K x y H Q
inductive rIxS (x:V)(y:V)(H:Hp)(Q:VK):Prop
 | mk (z i c:_) (_:x = .str z) (_:y = .int i) (_:z.length<=sizeLine) (_:atI z.cps.toList i=some c) (_:Q (.str ⟨#[c]⟩) H):rIxS x y H Q
theorem Z11:IxR X (rIxL X.K):=by
 intro value slice pins s σ H x y v u Q I rx ry h hs
 obtain⟨p,xs,i,z,rfl,rfl,hq,he,q⟩:=h
 cases rx
 obtain⟨t,rfl⟩:=ry
 obtain⟨its,r,pl,hz⟩:=I.list hq
 obtain⟨j,h1,h2,h3,h4,h5⟩:=Z7v he
 obtain⟨w,ew,rw'⟩:=r.get h2
 have hl:=r.length
 have hn:=Z7a
 have fin:EP X pins σ Q w s:=⟨z,H,I,rw',q⟩
 by_cases h0:0<=i
 ·have hj:i.toNat=j:=by
   rw[seqIndex_of h0 h5] at h1
   exact Option.some.inj h1
  exact item_listR pl.isList h0 (by omega) (by rw[hj];simpa using ew) fin hs
 ·have hj:(i+(its.toArray.size:Int)).toNat=j:=by
   rw[seqIndex_neg (by omega) h4] at h1
   rw[List.size_toArray,<- hl]
   exact Option.some.inj h1
  exact subscriptTail_builtinR (x:=w) pl.isList.typeIs slot_list_getitem.lookup
   (wpAny_getItem_list_neg (Q:=fun r s'=>r=w/\EP X pins σ Q r s') pl.isList (by omega) (by rw[List.size_toArray] <;> omega) (by omega) (by rw[hj];simpa using ew) ⟨rfl,fin⟩) hs
theorem Z1z:IxR X (rIxT X.K):=by
 intro value slice pins s σ H x y v u Q I rx ry h hs
 obtain⟨p,xs,i,z,rfl,rfl,hq,he,q⟩:=h
 cases rx
 obtain⟨t,rfl⟩:=ry
 obtain⟨its,r,pl,hz⟩:=I.tuple hq
 obtain⟨j,h1,h2,h3,h4,h5⟩:=Z7v he
 obtain⟨w,ew,rw'⟩:=r.get h2
 have hl:=r.length
 have hn:=Z7a
 have fin:EP X pins σ Q w s:=⟨z,H,I,rw',q⟩
 exact subscriptTail_builtinR (x:=w) pl.typeIs slot_tuple_getitem.lookup
  (getItem_tuple (j:=j) (Q:=fun r s'=>r=w/\EP X pins σ Q r s') pl (by omega) (by omega) (by rw[List.size_toArray,<- hl];exact h1) (by simpa using ew) ⟨rfl,fin⟩) hs
theorem Z8w:IxR X rIxS:=by
 intro value slice pins s σ H x y v u Q I rx ry h hs
 obtain⟨z,i,c,rfl,rfl,hz,he,q⟩:=h
 obtain⟨t,rfl⟩:=rx
 obtain⟨t',rfl⟩:=ry
 obtain⟨j,h1,h2,h3,h4,h5⟩:=Z7v he
 have hl:z.cps.toList.length=z.length:=by simp [Str.length]
 rw[hl] at h1 h4 h5
 have hn:=Z7a
 exact tail_any (typeIs_str s z t) slot_str_getitem.lookup (getItem_str (c:=c) (by
  have e1:decide (i < -(2 ^ 63:Int))=false:=decide_eq_false (by omega)
  have e2:decide (i ≥ 2 ^ 63)=false:=decide_eq_false (by omega)
  rw[e1,e2,Bool.or_false]) (by rw[h1];simpa using h2) ⟨.str ⟨#[c]⟩,H,I.tok _,⟨_,rfl⟩,q⟩) hs
theorem Z8x (lo hi:Option Int)(n:Nat):(sliceBounds lo hi none n).1=((HT.sIx n 0 lo:Nat):Int)/\(sliceBounds lo hi none n).2.1=((HT.sIx n n hi:Nat):Int)/\(sliceBounds lo hi none n).2.2=1:=by
 refine⟨?_,?_,rfl⟩
 ·cases lo with
  | none=>simp [sliceBounds,HT.sIx]
  | some i =>
   simp only [sliceBounds,HT.sIx,Option.getD_none,show(1:Int)>0 by decide,if_true]
   by_cases h:i<0
   ·simp only [h,if_true] <;> omega
   ·simp only [h,if_false] <;> omega
 ·cases hi with
  | none=>simp [sliceBounds,HT.sIx]
  | some i =>
   simp only [sliceBounds,HT.sIx,Option.getD_none,show(1:Int)>0 by decide,if_true]
   by_cases h:i<0
   ·simp only [h,if_true] <;> omega
   ·simp only [h,if_false] <;> omega
theorem Z7w (its:List Value)(lo hi:Option Int):slicePick its.toArray lo hi none=((its.drop (HT.sIx its.length 0 lo)).take (HT.sIx its.length its.length hi-HT.sIx its.length 0 lo)).toArray:=by
 obtain⟨h1,h2,h3⟩:=Z8x lo hi its.toArray.size
 unfold slicePick
 rw[h1,h2,h3]
 simp only [sliceRange_one,pick_run,List.size_toArray] <;> rfl
inductive rSlL (K:PySem.W.Frag)(x:V)(lo:Option Int)(hi:Option Int)(H:Hp)(Q:VK):Prop
 | mk (a xs:_) (_:x = .ref a) (_:SqL K H a xs) (_:∀p,H p=none->Q (.ref p) (upd H p (.lst (Z5v xs lo hi)))):rSlL K x lo hi H Q
theorem Z7x:SlR X (rSlL X.K):=by
 intro pins s σ H x v vl vu lo hi sl Q I rx hs pl pu h
 obtain⟨a,xs,rfl,hx,q⟩:=h
 cases rx
 obtain⟨its,r,ht,hz⟩:=I.list hx
 have hlen:=r.length
 refine⟨"list",_,slot_list_getitem.lookup,ht.isList.typeIs,?_⟩
 refine wpAny_getItem_list_slice ht.isList hs pl pu .none (by simp) ?_ (by rw[List.size_toArray] <;> omega)
 rw[Z7w,<- hlen]
 refine⟨.ref s.heap.objs.size,_,I.laid (t':=s.toks) (o := .lst (Z5v xs lo hi)) (fun b ob q=>Heap.get?_push_of_some _ q) (Nat.le_refl _) ?_,rfl,q _ (I.hok.fresh (Nat.le_refl _))⟩
 exact⟨Nat.le_trans (Z66 xs lo hi) hz,_,0,(r.drop (HT.sIx xs.length 0 lo)).take (HT.sIx xs.length xs.length hi-HT.sIx xs.length 0 lo),Heap.get?_push_size _ rfl⟩
def Z49:V->Bool
 | .non=>true
 | .bl _=>true
 | .int _=>true
 | .str _=>true
 | _=>false
def eqV:V->V->Bool
 | .non,.non=>true
 | .bl a,.bl b=>a==b
 | .bl a,.int b=>(if a then 1 else 0)==b
 | .int a,.bl b=>a==(if b then 1 else 0)
 | .int a,.int b=>a==b
 | .str a,.str b=>a==b
 | _,_=>false
theorem Zaw {A:Around}{s:Shared}{y x:V}{u v:Value}(ry:RelV y u)(rx:RelV x v)(fy:Z49 y=true)(fx:Z49 x=true):SeqAt.EqAt A s u v (eqV y x):=by
 cases y with
 | non =>
  cases ry
  cases x with
  | non=>cases rx;exact SeqAt.EqAt.same _
  | bl b=>cases rx;exact SeqAt.EqAt.none_bool b
  | int b=>obtain⟨t,rfl⟩:=rx;exact SeqAt.EqAt.none_int b t
  | str b=>obtain⟨t,rfl⟩:=rx;exact SeqAt.EqAt.none_str b t
  | _=>exact absurd (show false=true from fx) Bool.false_ne_true
 | bl a =>
  cases ry
  cases x with
  | non=>cases rx;exact SeqAt.EqAt.bool_none a
  | bl b=>cases rx;exact SeqAt.EqAt.bool_bool a b
  | int b=>obtain⟨t,rfl⟩:=rx;exact SeqAt.EqAt.bool_int a b t
  | str b=>obtain⟨t,rfl⟩:=rx;exact SeqAt.EqAt.bool_str a b t
  | _=>exact absurd (show false=true from fx) Bool.false_ne_true
 | int a =>
  obtain⟨t',rfl⟩:=ry
  cases x with
  | non=>cases rx;exact SeqAt.EqAt.int_none a t'
  | bl b=>cases rx;exact SeqAt.EqAt.int_bool a t' b
  | int b=>obtain⟨t,rfl⟩:=rx;exact SeqAt.EqAt.int_int a t' b t
  | str b=>obtain⟨t,rfl⟩:=rx;exact SeqAt.EqAt.int_str a t' b t
  | _=>exact absurd (show false=true from fx) Bool.false_ne_true
 | str a =>
  obtain⟨t',rfl⟩:=ry
  cases x with
  | non=>cases rx;exact SeqAt.EqAt.str_none a t'
  | bl b=>cases rx;exact SeqAt.EqAt.str_bool a t' b
  | int b=>obtain⟨t,rfl⟩:=rx;exact SeqAt.EqAt.str_int a t' b t
  | str b=>obtain⟨t,rfl⟩:=rx;exact SeqAt.EqAt.str_str a t' b t
  | _=>exact absurd (show false=true from fx) Bool.false_ne_true
 | _=>exact absurd (show false=true from fy) Bool.false_ne_true
def eqU (x:V)(u:Value):Bool:=match u with
 | .none=>eqV .non x
 | .bool b=>eqV (.bl b) x
 | .int i _=>eqV (.int i) x
 | .str z _=>eqV (.str z) x
 | _=>false
theorem Zhm {x y:V}{u:Value}(r:RelV y u)(f:Z49 y=true):eqU x u=eqV y x:=by
 cases y with
 | non=>cases r;rfl
 | bl b=>cases r;rfl
 | int i=>obtain⟨t,rfl⟩:=r;rfl
 | str z=>obtain⟨t,rfl⟩:=r;rfl
 | _=>exact absurd (show false=true from f) Bool.false_ne_true
theorem Z9x {x:V}:∀{xs:List V} {us:List Value},Vals xs us->xs.all Z49=true->us.any (eqU x)=xs.any fun y=>eqV y x
 | _,_,.nil,_=>rfl
 | y::xs,u::us,.cons r t,f=>by
  rw[List.all_cons,Bool.and_eq_true] at f
  rw[List.any_cons,List.any_cons,Zhm r f.1,Z9x t f.2]
theorem Z7y {A:Around}{s:Shared}{x:V}{v:Value}(rx:RelV x v)(fx:Z49 x=true):∀{xs:List V} {us:List Value},Vals xs us->xs.all Z49=true->∀u∈us,SeqAt.EqAt A s u v (eqU x u)
 | _,_,.nil,_=>fun u hu=>by cases hu
 | y::xs,u::us,.cons r t,f=>fun u' hu=>by
  rw[List.all_cons,Bool.and_eq_true] at f
  rcases List.mem_cons.mp hu with rfl | hu
  ·rw[Zhm r f.1];exact Zaw r rx f.1 fx
  ·exact Z7y rx fx t f.2 u' hu
def inV (x:V)(xs:List V):Bool:=xs.any fun y=>eqV y x
inductive rIn (K:PySem.W.Frag)(neg:Bool)(x:V)(y:V)(H:Hp)(Q:VK):Prop
 | mk (p xs:_) (_:y = .ref p) (_:(SqL K H p xs∨SqT K H p xs)) (_:Z49 x=true) (_:xs.all Z49=true) (_:Q (.bl (if neg then !inV x xs else inV x xs)) H):rIn K neg x y H Q
theorem Z3b:OpR X (compareOp .In) (rIn X.K false):=by
 intro pins s σ H x y v u Q I rx ry h
 obtain⟨p,xs,rfl,hq,fx,fs,q⟩:=h
 cases ry
 rcases hq with hq | hq
 ·obtain⟨its,r,pl,hz⟩:=I.list hq
  refine SeqAt.in_listAt (eqU x) pl.isList (fun w hw=>Z7y rx fx r fs w (by simpa using hw)) ⟨.bl _,H,I,rfl,?_⟩
  rw[show its.toArray.any (eqU x)=its.any (eqU x) by simp,Z9x r fs]
  exact q
 ·obtain⟨its,r,pl,hz⟩:=I.tuple hq
  refine SeqAt.in_tupleAt (eqU x) pl (fun w hw=>Z7y rx fx r fs w (by simpa using hw)) ⟨.bl _,H,I,rfl,?_⟩
  rw[show its.toArray.any (eqU x)=its.any (eqU x) by simp,Z9x r fs]
  exact q
theorem Z0b:Z48 X (.builtin "len") (fun xs H Q=>∃p ys,xs = [.ref p]/\(SqL X.K H p ys∨SqT X.K H p ys)/\Q (.int ys.length) H):=by
 intro pins s σ H xs us Q I r h
 obtain⟨p,ys,rfl,hq,q⟩:=h
 obtain⟨u,rfl,rx⟩:=Z7u r
 cases rx
 have hn:=Z7a
 rcases hq with hq | hq
 ·obtain⟨its,r',pl,hz⟩:=I.list hq
  have hlen:=r'.length
  exact Calls.call_len_list pl.isList (by simp only [List.size_toArray] <;> omega) ⟨.int ys.length,H,I.tok _,⟨s.toks+1,by rw[List.size_toArray,hlen]⟩,q⟩
 ·obtain⟨its,r',pl,hz⟩:=I.tuple hq
  have hlen:=r'.length
  exact len_tuple pl (by simp only [List.size_toArray] <;> omega) ⟨.int ys.length,H,I.tok _,⟨s.toks+1,by rw[List.size_toArray,hlen]⟩,q⟩
theorem Z8y:Z48 X (.builtin "len") (fun xs H Q=>∃z,xs = [.str z]/\z.length<=sizeLine/\Q (.int z.length) H):=by
 intro pins s σ H xs us Q I r h
 obtain⟨z,rfl,hz,q⟩:=h
 obtain⟨u,rfl,t,rfl⟩:=Z7u r
 have hn:=Z7a
 exact len_str (by omega) ⟨.int z.length,H,I.tok _,⟨_,rfl⟩,q⟩
theorem Z8z:Z48 X (.type "list") (fun xs H Q=>∃p ys,xs = [.ref p]/\(SqL X.K H p ys∨SqT X.K H p ys)/\∀l,H l=none->Q (.ref l) (upd H l (.lst ys))):=by
 intro pins s σ H xs us Q I r h
 obtain⟨p,ys,rfl,hq,q⟩:=h
 obtain⟨u,rfl,rx⟩:=Z7u r
 cases rx
 have fin:∀(its:List Value),Vals ys its->ys.length<=sizeLine->∀(h':Heap) (c':Nat),(∀b o',s.heap.get? b=some o'->h'.get? b=some o') →
   h'.get? s.heap.objs.size=some { cls := .type "list",dict:=none,data := .seq its.toArray c',slots := #[] }->EP X pins σ Q (.ref s.heap.objs.size) { s with heap:=h' }:=fun its r' hz h' c' kp e =>
  ⟨.ref s.heap.objs.size,_,I.laid (t':=s.toks) kp (Nat.le_refl _) (show ObjOk X.prog X.w _ h' _ (.lst ys) from⟨hz,its,c',r',e⟩),rfl,q _ (I.hok.fresh (Nat.le_refl _))⟩
 rcases hq with hq | hq
 ·obtain⟨its,r',pl,hz⟩:=I.list hq
  have hlen:=r'.length
  obtain⟨o,ho,hc,n,hd⟩:=pl.isList
  exact call_list_seq p (.inl rfl) ho hc hd (fun h' c' kp e=>fin its r' hz h' c' kp e) (by simp only [List.size_toArray] <;> omega)
 ·obtain⟨its,r',pl,hz⟩:=I.tuple hq
  have hlen:=r'.length
  obtain⟨o,ho,hc,n,hd⟩:=pl
  exact call_list_seq p (.inr rfl) ho hc hd (fun h' c' kp e=>fin its r' hz h' c' kp e) (by simp only [List.size_toArray] <;> omega)
theorem Z0s:Z48 X (.type "tuple") (fun xs H Q=>∃p ys,xs = [.ref p]/\((SqL X.K H p ys/\∀l,H l=none->Q (.ref l) (upd H l (.tup ys)))∨(SqT X.K H p ys/\Q (.ref p) H))):=by
 intro pins s σ H xs us Q I r h
 obtain⟨p,ys,rfl,h⟩:=h
 obtain⟨u,rfl,rx⟩:=Z7u r
 cases rx
 rcases h with ⟨hq,q⟩ | ⟨hq,q⟩
 ·obtain⟨its,r',pl,hz⟩:=I.list hq
  have hlen:=r'.length
  refine call_tuple_list pl.isList (fun h' kp => ?_) (by simp only [List.size_toArray] <;> omega)
  have I1:Inv X pins σ H { s with heap:=h' }:=I.kept (t':=s.toks) kp
  have I2:Inv X pins σ (upd H h'.objs.size (.tup ys)) { s with heap:=h'.push { cls := .type "tuple",data := .seq its.toArray } } :=
   I1.laid (t':=s.toks) (fun b o e=>Heap.get?_push_of_some _ e) (Nat.le_refl _) (show ObjOk X.prog X.w _ _ _ (.tup ys) from⟨hz,its,r',IsTup.new _ _⟩)
  exact⟨.ref h'.objs.size,_,I2,rfl,q _ (I1.hok.fresh (Nat.le_refl _))⟩
 ·obtain⟨its,r',pl,hz⟩:=I.tuple hq
  exact call_tuple_same pl ⟨.ref p,H,I,rfl,q⟩
def tyV (K:PySem.W.Frag)(T:String)(x:V)(H:Hp):Prop:=match x with
 | .str _=>T="str"
 | .int _=>T="int"
 | .ref p=>(T="list"/\∃xs,SqL K H p xs)∨(T="tuple"/\∃o,K.lookup p=some o/\o.cls = .type "tuple"/\o.dict=none) ∨
   (T="dict"/\((∃kvs,H p=some (.dK kvs))∨∃kvs,H p=some (.dT kvs)))∨(T="set"/\∃S n,H p=some (.set S n))
 | _=>False
theorem Zhn {pins:List (Addr × Obj)}{σ:St}{H:Hp}{s:Shared}{T:String}{x:V}{v:Value}(I:Inv X pins σ H s)(r:RelV x v)(ty:tyV X.K T x H) :
  s.TypeIs v T/\∀a,v = .ref a->∃ob,s.heap.get? a=some ob/\ob.dict=none:=by
 cases x with
 | str z =>
  obtain⟨t,rfl⟩:=r
  cases (show T="str" from ty)
  exact⟨typeIs_str s z t,fun _ e=>nomatch e⟩
 | int i =>
  obtain⟨t,rfl⟩:=r
  cases (show T="int" from ty)
  exact⟨typeIs_int s i t,fun _ e=>nomatch e⟩
 | ref p =>
  cases r
  rcases ty with ⟨rfl,xs,hq⟩ | ⟨rfl,o,hk,hc,hd⟩ | ⟨rfl,hk⟩ | ⟨rfl,S,n,hk⟩
  ·obtain⟨its,_,pl,_⟩:=I.list hq
   refine⟨pl.isList.typeIs,fun a e => ?_⟩
   cases e
   obtain⟨o,n,e,c,hd,_⟩:=pl
   exact⟨o,e,hd⟩
  ·refine⟨⟨o,I.kIn p o hk,hc⟩,fun a e => ?_⟩
   cases e
   exact⟨o,I.kIn _ o hk,hd⟩
  ·have z:∃o,s.heap.get? p=some o/\o.ExactDict:=by
    rcases hk with ⟨kvs,hk⟩ | ⟨kvs,hk⟩
    ·obtain⟨_,_,_,_,o,_,_,e,ex,_⟩:=I.hok p _ hk
     exact⟨o,e,ex⟩
    ·obtain⟨_,_,_,_,o,_,_,e,ex,_⟩:=I.hok p _ hk
     exact⟨o,e,ex⟩
   obtain⟨o,e,ex⟩:=z
   refine⟨⟨o,e,ex.1⟩,fun a e2 => ?_⟩
   cases e2
   exact⟨o,e,ex.2.1⟩
  ·obtain⟨o,_,_,_,e,ex,_⟩:=I.hok p _ hk
   refine⟨⟨o,e,ex.1⟩,fun a e2 => ?_⟩
   cases e2
   exact⟨o,e,ex.2.1⟩
 | _=>exact False.elim ty
def Zo4 (K:PySem.W.Frag)(T:String)(r:V->List V->Hp->VK->Prop)(to:TE):TE:=fun σ H Q=>to σ H fun x H1=>tyV K T x H1/\r x [] H1 Q
def tBM (K:PySem.W.Frag)(T:String)(r:V->List V->Hp->VK->Prop)(to:TE)(t:TA):TE:=fun σ H Q=>to σ H fun x H1=>tyV K T x H1/\t σ H1 fun xs H2=>r x xs H2 Q
variable {o e:Expr}{es:List Expr}{to:TE}{t:TA}{name:Str}{apos cpos:Pos}{T id:String}{r:V->List V->Hp->VK->Prop}
theorem Zdi (pa:PlainAttrs T)(slot:Slot T name id)(hty:typeOf (.builtin id)=pure (.type "method_descriptor"))(hm:MtR X id r)(ho:PE X o to)
  (hbase:attributeBase o name X.env (eval o X.env)=eval o X.env:=by rfl) (hline:(apos.endLine==cpos.line)=true:=by rfl):PE X (.Call (.Attribute o name apos) [] [] cpos) (Zo4 X.K T r to):=by
 intro pins s σ H Q I h
 refine wpAny_Call_method0_late hbase hline (thn (ho pins s σ H _ I h) fun v s1 ⟨x,H1,I1,r1,ty,q1⟩ => ?_)
 obtain⟨h1,h2⟩:=Zhn I1 r1 ty
 exact⟨T,id,pa,slot,hty,h1,h2,Calls.callWith_builtin rfl (PySem.evalArgs_none (hm pins s1 σ H1 x [] v [] Q I1 r1 .nil q1))⟩
theorem Z59 (pa:PlainAttrs T)(slot:Slot T name id)(hty:typeOf (.builtin id)=pure (.type "method_descriptor"))(hm:MtR X id r)(ho:PE X o to)(ha:PA X (e::es) t)
  (hbase:attributeBase o name X.env (eval o X.env)=eval o X.env:=by rfl)
  (hfew:((backTo cpos (starEach (e::es) X.env)).all (fun x => !x.1)&&(backToKw cpos (keywordEach [] X.env)).all (fun x=>x.1.isSome)
   && decide ((e::es).length+([]:List Keyword).length+(if ([]:List Keyword).isEmpty then 0 else 1)<30))=true:=by rfl)
  (hline:(apos.endLine==cpos.line)=true:=by rfl) (hs:starEach (e::es) X.env=(false,eval e X.env)::starEach es X.env:=by rfl) (hplain:(backTo cpos (starEach es X.env)).any (·.1)=false:=by rfl) :
  PE X (.Call (.Attribute o name apos) (e::es) [] cpos) (tBM X.K T r to t):=by
 intro pins s σ H Q I h
 refine wpAny_Call_method_late hbase hfew hline rfl (thn (ho pins s σ H _ I h) fun v s1 ⟨x,H1,I1,r1,ty,q1⟩ => ?_)
 obtain⟨h1,h2⟩:=Zhn I1 r1 ty
 refine⟨T,id,pa,slot,hty,h1,h2,?_⟩
 have hA:=ha cpos pins s1 σ H1 _ I1 q1
 rw[hs] at hA ⊢
 refine Calls.callWith_builtin (by show(false||(backTo cpos (starEach es X.env)).any (·.1))=false;rw[hplain] <;> rfl) (Calls.evalArgs_plain ?_)
 exact thn hA fun us s2 ⟨vs,H2,I2,r2,q2⟩=>hm pins s2 σ H2 x vs v us Q I2 r1 r2 q2
end
def MtM (X:Cx)(id:String)(r:V->List V->Hp->VK->Prop):Prop :=
 ∀(pins:List (Addr × Obj)) (s:Shared) (σ:St) (H:Hp) (x:V) (xs:List V) (v:Value) (us:List Value) (Q:VK),Inv X pins σ H s->RelV x v->Vals xs us->r x xs H Q →
  wpAny (model X.prog X.w) X.A (call (.builtin id) (v::us)) (EP X pins σ Q) X.xe s
theorem Vals.one:∀{x:V} {us:List Value},Vals [x] us->∃u,us = [u]/\RelV x u
 | _,_,.cons r .nil=>⟨_,rfl,r⟩
theorem Vals.zero:∀{us:List Value},Vals [] us->us = []
 | _,.nil=>rfl
theorem Vals.dropLast {xs:List V}{us:List Value}(h:Vals xs us):Vals xs.dropLast us.dropLast:=by
 induction h with
 | nil=>exact .nil
 | cons r t ih =>
  cases t with
  | nil=>exact .nil
  | cons q t'=>exact .cons r ih
theorem Vals.reverse {xs:List V}{us:List Value}(h:Vals xs us):Vals xs.reverse us.reverse:=by
 induction h with
 | nil=>exact .nil
 | cons r t ih=>rw[List.reverse_cons,List.reverse_cons];exact Vals.append ih (.cons r .nil)
theorem Vals.rep {xs:List V}{us:List Value}(h:Vals xs us):∀k:Nat,Vals (List.replicate k xs).flatten (List.replicate k us).flatten
 | 0 => .nil
 | k+1=>by
  rw[List.replicate_succ,List.replicate_succ,List.flatten_cons,List.flatten_cons]
  exact Vals.append h (Vals.rep h k)
theorem Zca {α : Type}(l:List α):l.eraseIdx (l.length-1)=l.dropLast:=by
 induction l with
 | nil=>rfl
 | cons a r ih =>
  cases r with
  | nil=>rfl
  | cons b r =>
   have e:(a::b::r).length-1=((b::r).length-1)+1:=by
    have h1:(a::b::r).length=r.length+2:=rfl
    have h2:(b::r).length=r.length+1:=rfl
    omega
   rw[e,List.eraseIdx_cons_succ,ih]
   all_goals rfl
theorem Z90 (its:List Value):∀(k:Nat) (acc:List Value),
  List.foldl (fun x1 x2=>x1++x2) acc.toArray (List.replicate k its.toArray)=(acc++(List.replicate k its).flatten).toArray
 | 0,acc=>by simp
 | k+1,acc=>by
  have e:acc.toArray++its.toArray=(acc++its).toArray:=by simp
  have e2:(acc++its)++(List.replicate k its).flatten=acc++(List.replicate (k+1) its).flatten:=by
   rw[List.replicate_succ,List.flatten_cons,List.append_assoc]
  rw[<- e2,<- Z90 its k (acc++its),<- e,List.replicate_succ,List.foldl_cons]
section
variable {X:Cx}{pins:List (Addr × Obj)}{σ:St}{H:Hp}{s:Shared}{l b:Addr}{xs ys zs:List V}
theorem Inv.lset {its its':List Value}{n:Nat}{f:Array Value->Array Value}{t':Nat}(I:Inv X pins σ H s)(hH:H l=some (.lst xs))
  (e:s.heap.get? l=some { cls := .type "list",data := .seq its.toArray n }) (hf:f its.toArray=its'.toArray) (hv:Vals ys its') (hz:ys.length<=sizeLine) :
  Inv X pins σ (upd H l (.lst ys)) { s with heap:=s.heap.update l (Obj.mapSeq f),toks:=t' }:=by
 have q:=PySem.IsL.update e f
 rw[hf] at q
 refine I.write (x:=l) (e:=l) (by rw[hH];exact trivial) (.inl rfl) (fun b' u hb hu=>(Heap.get?_update_other s.heap (Obj.mapSeq f) (Ne.symm hb)).trans hu) ⟨_,q⟩ ?_
 exact⟨hz,its',_,hv,q⟩
theorem Inv.lnew {its:List Value}{t':Nat}(I:Inv X pins σ H s)(hv:Vals ys its)(hz:ys.length<=sizeLine) :
  Inv X pins σ (upd H s.heap.objs.size (.lst ys)) { s with heap:=s.heap.push { cls := .type "list",data := .seq its.toArray },toks:=t' } :=
 I.laid (fun _ _ q=>Heap.get?_push_of_some _ q) (Nat.le_refl _) ⟨hz,its,0,hv,Heap.get?_push_size _ rfl⟩
theorem Inv.fresh (I:Inv X pins σ H s):H s.heap.objs.size=none:=I.hok.fresh (Nat.le_refl _)
theorem Inv.lstM (I:Inv X pins σ H s)(hH:H l=some (.lst xs)):xs.length<=sizeLine/\∃(its:List Value) (n:Nat),Vals xs its/\xs.length=its.length/\s.heap.get? l=some { cls := .type "list",data := .seq its.toArray n }:=by
 obtain⟨z,its,n,r,e⟩:=I.hok l _ hH
 exact⟨z,its,n,r,r.length,e⟩
theorem Zax {n:Nat}(h:n<=sizeLine):Builtin.List.listTooLong n=false:=by
 unfold Builtin.List.listTooLong
 exact decide_eq_false (by omega)
end
section
variable {X:Cx}
inductive rAppend (x:V)(vs:List V)(H:Hp)(Q:VK):Prop
 | mk (l xs y:_) (_:x = .ref l) (_:vs = [y]) (_:H l=some (.lst xs)) (_:xs.length<sizeLine) (_:Q .non (upd H l (.lst (xs ++ [y])))):rAppend x vs H Q
theorem Z26:MtM X "list.append" rAppend:=by
 intro pins s σ H x vs v us Q I rx rv h
 obtain⟨l,xs,y,rfl,rfl,hH,hz,q⟩:=h
 cases rx
 obtain⟨u,rfl,ru⟩:=rv.one
 obtain⟨z,its,n,r,hl,e⟩:=I.lstM hH
 refine call_meets F.slot_list_append ⟨_,e,rfl⟩ F.entry_list_append (F.args_list_append_2 _ _) (PySem.list_append l its.toArray n u (by rw[List.size_toArray];omega)) ⟨e,?_⟩
 refine⟨.non,_,I.lset (its':=its ++ [u]) hH e (by simp) (r.append (.cons ru .nil)) ?_,rfl,q⟩
 rw[List.length_append,List.length_singleton]
 omega
inductive rExtend (x:V)(vs:List V)(H:Hp)(Q:VK):Prop
 | mk (l b xs zs:_) (_:x = .ref l) (_:vs = [.ref b]) (_:H l=some (.lst xs)) (_:H b=some (.lst zs)) (_:xs.length+zs.length<=sizeLine) (_:Q .non (upd H l (.lst (xs++zs)))):rExtend x vs H Q
theorem Z67:MtM X "list.extend" rExtend:=by
 intro pins s σ H x vs v us Q I rx rv h
 obtain⟨l,b,xs,zs,rfl,rfl,hH,hB,hz,q⟩:=h
 cases rx
 obtain⟨u,rfl,ru⟩:=rv.one
 cases ru
 obtain⟨z,its,n,r,hl,e⟩:=I.lstM hH
 obtain⟨z2,its2,n2,r2,hl2,e2⟩:=I.lstM hB
 have hsz:its.toArray.size+its2.toArray.size<=sizeLine:=by rw[List.size_toArray,List.size_toArray];omega
 have hlong:¬ (!its.toArray.isEmpty&&Builtin.List.listTooLong (its.toArray.size+its2.toArray.size))=true:=by
  rw[Zax hsz,Bool.and_false]
  exact Bool.false_ne_true
 refine call_meets F.slot_list_extend ⟨_,e,rfl⟩ F.entry_list_extend (F.args_list_extend_2 _ _)
  (AutoSeq1.list_extend_list_list_0 l its.toArray n b its2.toArray n2 hlong (by rw[List.size_toArray];omega) (by omega)) ⟨e,e2,?_⟩
 refine⟨.non,_,I.lset (its':=its++its2) hH e (by simp) (r.append r2) ?_,rfl,q⟩
 rw[List.length_append]
 omega
inductive rPop (x:V)(vs:List V)(H:Hp)(Q:VK):Prop
 | mk (l xs y:_) (_:x = .ref l) (_:vs = []) (_:H l=some (.lst xs)) (_:xs[xs.length-1]? = some y) (_:Q y (upd H l (.lst xs.dropLast))):rPop x vs H Q
theorem Zdj:MtM X "list.pop" rPop:=by
 intro pins s σ H x vs v us Q I rx rv h
 obtain⟨l,xs,y,rfl,rfl,hH,hy,q⟩:=h
 cases rx
 have hus:=rv.zero
 subst hus
 obtain⟨z,its,n,r,hl,e⟩:=I.lstM hH
 obtain⟨u,hu,ru⟩:=r.get hy
 have hy':its.toArray[its.toArray.size-1]? = some u:=by
  show its.toArray[its.length-1]? = some u
  rw[<- Array.getElem?_toList,<- hl]
  exact hu
 refine call_meets F.slot_list_pop ⟨_,e,rfl⟩ F.entry_list_pop (F.args_list_pop_1 _) (MeetsSeq.list_pop_last l its.toArray n u hy' (by rw[List.size_toArray];omega)) ⟨e,?_⟩
 refine⟨y,_,I.lset (its':=its.dropLast) hH e ?_ r.dropLast ?_,ru,q⟩
 ·show its.toArray.eraseIdxIfInBounds (its.toArray.size-1)=its.dropLast.toArray
  rw[List.size_toArray,List.eraseIdxIfInBounds_toArray,Zca]
 ·rw[List.length_dropLast]
  omega
inductive rCat (x:V)(y:V)(H:Hp)(Q:VK):Prop
 | mk (l b xs zs:_) (_:x = .ref l) (_:y = .ref b) (_:H l=some (.lst xs)) (_:H b=some (.lst zs)) (_:xs.length+zs.length<=sizeLine) (_:∀p,H p=none->Q (.ref p) (upd H p (.lst (xs++zs)))):rCat x y H Q
theorem Zay:OpR X (binaryOp .Add) rCat:=by
 intro pins s σ H x y v u Q I rx ry h
 obtain⟨l,b,xs,zs,rfl,rfl,hH,hB,hz,q⟩:=h
 cases rx
 cases ry
 obtain⟨z,its,n,r,hl,e⟩:=I.lstM hH
 obtain⟨z2,its2,n2,r2,hl2,e2⟩:=I.lstM hB
 refine PySem.P.add_list e e2 ?_ (by rw[List.size_toArray,List.size_toArray];omega)
 have ea:its.toArray++its2.toArray=(its++its2).toArray:=by simp
 rw[ea]
 exact⟨.ref _,_,I.lnew (t':=s.toks) (r.append r2) (by rw[List.length_append];omega),rfl,q _ I.fresh⟩
inductive rRep (x:V)(y:V)(H:Hp)(Q:VK):Prop
 | mk (l k xs:_) (_:x = .ref l) (_:y = .int k) (_:H l=some (.lst xs)) (_ : -(2 ^ 63)<=k) (_:k<2 ^ 63) (_:xs.length*k.toNat<=sizeLine) (_:∀p,H p=none->Q (.ref p) (upd H p (.lst (List.replicate k.toNat xs).flatten))):rRep x y H Q
theorem Zif {α : Type}(xs:List α)(k:Nat):(List.replicate k xs).flatten.length=k*xs.length:=by
 induction k with
 | zero=>simp
 | succ k ih=>rw[List.replicate_succ,List.flatten_cons,List.length_append,ih,Nat.succ_mul,Nat.add_comm]
theorem Zki:OpR X (binaryOp .Mult) rRep:=by
 intro pins s σ H x y v u Q I rx ry h
 obtain⟨l,k,xs,rfl,rfl,hH,h1,h2,hz,q⟩:=h
 cases rx
 obtain⟨t,rfl⟩:=ry
 obtain⟨z,its,n,r,hl,e⟩:=I.lstM hH
 have hlen:its.toArray.size*k.toNat<=sizeLine:=by rw[List.size_toArray,<- hl];exact hz
 have hcap:¬its.toArray.size*k.toNat>(2 ^ 63-1) / 8:=by
  have:(sizeLine:Nat)<=(2 ^ 63-1) / 8:=by decide
  omega
 have hfit:¬ (!Builtin.List.listFitsIndex k)=true:=by
  rw[fitsIndex_both h1 h2]
  exact Bool.false_ne_true
 have hlong:¬Builtin.List.listTooLong (its.toArray.size*k.toNat)=true:=by
  rw[Zax hlen]
  exact Bool.false_ne_true
 have hnew:List.foldl (fun x1 x2=>x1++x2) #[] (List.replicate (if its.toArray.isEmpty=true then 0 else k.toNat) its.toArray)=(List.replicate k.toNat its).flatten.toArray:=by
  have f0:∀m:Nat,List.foldl (fun x1 x2=>x1++x2) #[] (List.replicate m its.toArray)=(List.replicate m its).flatten.toArray:=fun m=>by
   have:=Z90 its m []
   rw[List.nil_append] at this
   exact this
  rw[f0]
  cases its with
  | nil=>simp
  | cons a r'=>rw[if_neg (by simp)]
 refine wpAny_binaryOp_repeat_ref (T:="list") (U:="int") (by decide) ⟨_,e,rfl⟩ (fun s'=>typeIs_int s' k t) noFill_list_mul F.fills_int_mul F.slot_int_rmul repeat_list F.slot_int_index.lookup
  (call_meets F.slot_int_rmul (typeIs_int s k t) F.entry_int_rmul (F.args_int_rmul_2 _ _) (int___rmul___int_list k t l its.toArray n)
   ⟨e,rfl,⟨_,e,rfl⟩,call_meets F.slot_list_mul ⟨_,e,rfl⟩ F.entry_list_mul (F.args_list_mul_2 _ _) (AutoListH.list___mul___list_int_3 l its.toArray n k t hfit hcap hlong) ⟨e,?_⟩⟩)
 rw[hnew]
 exact⟨.ref _,_,I.lnew (t':=s.toks) (r.rep k.toNat) (by rw[Zif,Nat.mul_comm];exact hz),rfl,q _ I.fresh⟩
end
section
variable {κ : Type}[DecidableEq κ]
def Z37 (kvs:List (κ × V))(k : κ):Option V:=(kvs.find? fun kv=>decide (kv.1=k)).map (·.2)
def Z43 (kvs:List (κ × V))(k : κ)(v:V):List (κ × V) :=
 if (kvs.any fun kv=>decide (kv.1=k))=true then kvs.map (fun kv=>if kv.1=k then (kv.1,v) else kv) else kvs ++ [(k,v)]
theorem Z27 {p : κ × V}{r:List (κ × V)}{k : κ}(e:p.1=k):Z37 (p::r) k=some p.2:=by simp [Z37,List.find?_cons,e]
theorem Z28 {p : κ × V}{r:List (κ × V)}{k : κ}(e:¬p.1=k):Z37 (p::r) k=Z37 r k:=by simp [Z37,List.find?_cons,e]
theorem Z3j (k : κ):∀kvs:List (κ × V),(kvs.any fun kv=>decide (kv.1=k))=(Z37 kvs k).isSome
 | []=>rfl
 | p::r=>by
  rw[List.any_cons]
  by_cases e:p.1=k
  ·simp only [Z27 e,decide_eq_true e,Bool.true_or,Option.isSome_some]
  ·rw[Z28 e,decide_eq_false e,Bool.false_or];exact Z3j k r
theorem Zaz (k j : κ)(y:V):∀kvs:List (κ × V),Z37 (kvs.map fun kv=>if kv.1=k then (kv.1,y) else kv) j=(Z37 kvs j).map fun x=>if j=k then y else x
 | []=>rfl
 | p::r=>by
  have ih:=Zaz k j y r
  rw[List.map_cons]
  by_cases h:p.1=k
  ·rw[if_pos h]
   by_cases e:p.1=j
   ·rw[Z27 (p:=(p.1,y)) e,Z27 e,Option.map_some,if_pos (e.symm.trans h)]
   ·rw[Z28 (p:=(p.1,y)) e,Z28 e,ih]
  ·rw[if_neg h]
   by_cases e:p.1=j
   ·rw[Z27 (p:=p) e,Z27 e,Option.map_some,if_neg (fun z=>h (e.trans z))]
   ·rw[Z28 (p:=p) e,Z28 e,ih]
theorem Z91 (k j : κ)(y:V):∀kvs:List (κ × V),Z37 kvs k=none->Z37 (kvs ++ [(k,y)]) j=if j=k then some y else Z37 kvs j
 | [],_=>by
  by_cases e:k=j
  ·rw[if_pos e.symm];exact Z27 (p:=(k,y)) e
  ·rw[if_neg (fun z=>e z.symm)];exact Z28 (p:=(k,y)) e
 | p::r,hn=>by
  rw[List.cons_append]
  have hk:¬p.1=k:=fun z=>by rw[Z27 z] at hn;cases hn
  rw[Z28 hk] at hn
  have ih:=Z91 k j y r hn
  by_cases e:p.1=j
  ·rw[Z27 e,Z27 e,if_neg (fun z=>hk (e.trans z))]
  ·rw[Z28 e,Z28 e,ih]
theorem Z7z (kvs:List (κ × V))(k j : κ)(y:V):Z37 (Z43 kvs k y) j=if j=k then some y else Z37 kvs j:=by
 unfold Z43
 by_cases a:(kvs.any fun kv=>decide (kv.1=k))=true
 ·rw[if_pos a,Zaz]
  rw[Z3j] at a
  by_cases e:j=k
  ·obtain⟨x,hx⟩:=Option.isSome_iff_exists.mp a
   rw[if_pos e,e,hx,Option.map_some,if_pos rfl]
  ·rw[if_neg e]
   cases Z37 kvs j with
   | none=>rfl
   | some x=>rw[Option.map_some,if_neg e]
 ·rw[if_neg a]
  refine Z91 k j y kvs ?_
  rw[Z3j] at a
  cases q:Z37 kvs k with
  | none=>rfl
  | some x=>rw[q] at a;exact(a rfl).elim
theorem Z3k (kvs:List (κ × V))(k : κ)(v:V):(Z43 kvs k v).length<=kvs.length+1:=by
 unfold Z43
 split
 ·rw[List.length_map];omega
 ·rw[List.length_append,List.length_cons,List.length_nil];omega
theorem Zb0 {kvs:List (κ × V)}{k : κ}(v:V)(h:Z37 kvs k=none):Z43 kvs k v=kvs ++ [(k,v)]:=by
 unfold Z43
 rw[Z3j,h]
 exact if_neg (by decide)
theorem RelO.isSome_eq {o:Option V}{u:Option Value}(r:RelO o u):o.isSome=u.isSome:=by
 cases o with
 | none=>cases u with
  | none=>rfl
  | some _=>exact(show False from r).elim
 | some _=>cases u with
  | none=>exact(show False from r).elim
  | some _=>rfl
theorem KV.val {kvs:List (κ × V)}{vs:List (κ × Value)}(r:KV kvs vs)(k : κ):RelO (Z37 kvs k) (valueAt vs k):=by
 unfold KV at r
 induction r with
 | nil=>exact True.intro
 | @cons p q ps qs h t ih =>
  obtain⟨h1,h2⟩:=h
  by_cases e:p.1=k
  ·have e':q.1=k:=h1.symm.trans e
   have b:valueAt (q::qs) k=some q.2:=by simp [valueAt,List.find?_cons,e']
   rw[Z27 e,b];exact h2
  ·have e':¬q.1=k:=fun z=>e (h1.trans z)
   have b:valueAt (q::qs) k=valueAt qs k:=by simp [valueAt,List.find?_cons,e']
   rw[Z28 e,b];exact ih
theorem KV.any {kvs:List (κ × V)}{vs:List (κ × Value)}(r:KV kvs vs)(k : κ):(kvs.any fun kv=>decide (kv.1=k))=vs.any fun kv=>decide (kv.1=k):=by
 unfold KV at r
 induction r with
 | nil=>rfl
 | cons h t ih=>rw[List.any_cons,List.any_cons,ih,h.1]
theorem KV.repl {kvs:List (κ × V)}{vs:List (κ × Value)}(r:KV kvs vs)(k : κ){y:V}{u:Value}(ry:RelV y u) :
  KV (kvs.map fun kv=>if kv.1=k then (kv.1,y) else kv) (vs.map fun kv=>if kv.1=k then (kv.1,u) else kv):=by
 unfold KV at r ⊢
 induction r with
 | nil=>exact .nil
 | @cons p q ps qs h t ih =>
  rw[List.map_cons,List.map_cons]
  refine .cons ?_ ih
  obtain⟨h1,h2⟩:=h
  by_cases e:p.1=k
  ·rw[if_pos e,if_pos (h1.symm.trans e)];exact⟨h1,ry⟩
  ·rw[if_neg e,if_neg (fun z=>e (h1.trans z))];exact⟨h1,h2⟩
theorem KV.put {kvs:List (κ × V)}{vs:List (κ × Value)}(r:KV kvs vs)(k : κ){y:V}{u:Value}(ry:RelV y u):KV (Z43 kvs k y) (stored vs k u):=by
 unfold Z43 stored
 rw[r.any k]
 by_cases e:(vs.any fun kv=>decide (kv.1=k))=true
 ·rw[if_pos e,if_pos e];exact r.repl k ry
 ·rw[if_neg e,if_neg e];exact Paired.snoc r ⟨rfl,ry⟩
theorem KV.keys {kvs:List (κ × V)}{vs:List (κ × Value)}(r:KV kvs vs):kvs.map (·.1)=vs.map (·.1):=by
 unfold KV at r
 induction r with
 | nil=>rfl
 | cons h t ih=>rw[List.map_cons,List.map_cons,ih,h.1]
theorem KV.length {kvs:List (κ × V)}{vs:List (κ × Value)}(r:KV kvs vs):kvs.length=vs.length:=Paired.length r
end
theorem Z9y {P:Program}{w:World}{k:Key}{u:Value}(r:RelV (kV k) u):(Z0v P w).is k u=true:=by
 cases k with
 | inl i=>obtain⟨t,e⟩:=(show ∃t,u=Value.int i t from r);subst e;exact Z9u P w i t
 | inr x=>obtain⟨t,e⟩:=(show ∃t,u=Value.str x t from r);subst e;exact Z9v P w x t
theorem Z92 {P:Program}{w:World}:∀{ks:List Key} {us:List Value},Vals (ks.map kV) us->ItemsAre (Z0v P w) ks us
 | [],_,r=>by rw[List.map_nil] at r;cases r;exact .nil
 | k::ks,_,r=>by
  rw[List.map_cons] at r
  cases r with
  | cons h t=>exact .cons (Z9y h) (Z92 t)
abbrev KT (H:Hp):List (List Key × V)->List (List Key × Addr × Value)->Prop:=Paired fun p q=>p.1=q.1/\H q.2.1=some (.tup (p.1.map kV))/\RelV p.2 q.2.2
theorem KT.val {H:Hp}{kvs:List (List Key × V)}{xs:List (List Key × Addr × Value)}(r:KT H kvs xs)(k:List Key):RelO (Z37 kvs k) ((atKey xs k).map (·.2)):=by
 induction r with
 | nil=>exact True.intro
 | @cons p q ps qs h t ih =>
  obtain⟨h1,_,h2⟩:=h
  by_cases e:p.1=k
  ·have e':q.1=k:=h1.symm.trans e
   have b:atKey (q::qs) k=some q.2:=by simp [atKey,List.find?_cons,e']
   rw[Z27 e,b];exact h2
  ·have e':¬q.1=k:=fun z=>e (h1.trans z)
   have b:atKey (q::qs) k=atKey qs k:=by simp [atKey,List.find?_cons,e']
   rw[Z28 e,b];exact ih
theorem KT.repl {H:Hp}{kvs:List (List Key × V)}{xs:List (List Key × Addr × Value)}(r:KT H kvs xs)(k:List Key){y:V}{u:Value}(ry:RelV y u) :
  KT H (kvs.map fun kv=>if kv.1=k then (kv.1,y) else kv) (xs.map (putAt k u)):=by
 induction r with
 | nil=>exact .nil
 | @cons p q ps qs h t ih =>
  rw[List.map_cons,List.map_cons]
  refine .cons ?_ ih
  obtain⟨h1,h2,h3⟩:=h
  unfold putAt
  by_cases e:p.1=k
  ·rw[if_pos e,if_pos (h1.symm.trans e)];exact⟨h1,h2,ry⟩
  ·rw[if_neg e,if_neg (fun z=>e (h1.trans z))];exact⟨h1,h2,h3⟩
theorem KT.put {H:Hp}{kvs:List (List Key × V)}{xs:List (List Key × Addr × Value)}(r:KT H kvs xs)(k:List Key){b:Addr}{y:V}{u:Value}(hb:H b=some (.tup (k.map kV)))(ry:RelV y u) :
  KT H (Z43 kvs k y) (storedH xs k b u):=by
 have e:(kvs.any fun kv=>decide (kv.1=k))=(atKey xs k).isSome:=by
  rw[Z3j,(r.val k).isSome_eq,Option.isSome_map]
 unfold Z43 storedH
 rw[e]
 by_cases q:(atKey xs k).isSome=true
 ·rw[if_pos q,if_pos q];exact r.repl k ry
 ·rw[if_neg q,if_neg q];exact Paired.snoc r ⟨rfl,hb,ry⟩
theorem KT.keeps {H H':Hp}{kvs:List (List Key × V)}{xs:List (List Key × Addr × Value)}(r:KT H kvs xs)(ht:∀b ys,H b=some (.tup ys)->H' b=some (.tup ys)):KT H' kvs xs :=
 Paired.mapP r fun _ _ z=>⟨z.1,ht _ _ z.2.1,z.2.2⟩
section
variable {P:Program}{w:World}{H:Hp}{h:Heap}{a:Addr}
theorem Zkj {u:HO}(ok:HOk P w H h)(e:Rd H a u):ObjOk P w H h a u:=e.ok ok
theorem Zfr {kvs:List (Key × V)}(ok:HOk P w H h)(e:Rd H a (.dK kvs)):kvs.length<=sizeLine/\(a==sysModules)=false/\∃vs,KV kvs vs/\h.DictOf (Z0v P w) a vs :=
 show ObjOk P w H h a (.dK kvs) from Zkj ok e
theorem Zfs {kvs:List (Key × V)}(ok:HOk P w H h)(e:H a=some (.dK kvs)):kvs.length<=sizeLine/\(a==sysModules)=false/\∃vs,KV kvs vs/\h.DictOf (Z0v P w) a vs:=Zfr ok (.inl e)
theorem Zdk {ks:List Key}(ok:HOk P w H h)(e:H a=some (.tup (ks.map kV))):(tupleKind (Z0v P w)).is h ks a:=by
 obtain⟨_,its,r,o,h1,h2,n,h3⟩:=(show ObjOk P w H h a (.tup (ks.map kV)) from ok a _ e)
 exact⟨o,its.toArray,n,h1,h2,h3,by simpa using Z92 r⟩
theorem Zft {kvs:List (List Key × V)}(ok:HOk P w H h)(e:Rd H a (.dT kvs)):kvs.length<=sizeLine/\(a==sysModules)=false ∧
  ∃xs,KT H kvs xs/\h.DictOfH (tupleKind (Z0v P w)) a xs:=by
 obtain⟨z,y,xs,r,o,es,ep,h1,h2,h3,h4,h5⟩:=(show ObjOk P w H h a (.dT kvs) from Zkj ok e)
 refine⟨z,y,xs,r,o,es,ep,h1,h2,h3,h4,fun x hx => ?_,h5⟩
 have all:∀{l:List (List Key × V)} {m:List (List Key × Addr × Value)},KT H l m->∀x∈m,(tupleKind (Z0v P w)).is h x.1 x.2.1:=by
  intro l m q
  induction q with
  | nil=>intro x hx;exact nomatch hx
  | @cons p q ps qs hq t ih =>
   intro x hx
   rcases List.mem_cons.mp hx with e | hx
   ·subst e
    exact Zdk ok (by rw[<- hq.1];exact hq.2.1)
   ·exact ih x hx
 exact all r x hx
theorem Zmj {kvs:List (List Key × V)}(ok:HOk P w H h)(e:H a=some (.dT kvs)):kvs.length<=sizeLine/\(a==sysModules)=false ∧
  ∃xs,KT H kvs xs/\h.DictOfH (tupleKind (Z0v P w)) a xs:=Zft ok (.inl e)
end
def DGet (H:Hp)(a:Addr)(y:V)(r:Option V):Prop :=
 (∃kvs k,Rd H a (.dK kvs)/\y=kV k/\r=Z37 kvs k)∨∃kvs k b,Rd H a (.dT kvs)/\y = .ref b/\H b=some (.tup (k.map kV))/\r=Z37 kvs k
def DPut (H:Hp)(a:Addr)(y v:V)(H':Hp):Prop :=
 (∃kvs k,H a=some (.dK kvs)/\y=kV k/\kvs.length<sizeLine/\H'=upd H a (.dK (Z43 kvs k v))) ∨
 ∃kvs k b,H a=some (.dT kvs)/\y = .ref b/\H b=some (.tup (k.map kV))/\kvs.length<sizeLine/\H'=upd H a (.dT (Z43 kvs k v))
theorem DGet.k {H:Hp}{a:Addr}{kvs:List (Key × V)}{k:Key}(e:H a=some (.dK kvs)):DGet H a (kV k) (Z37 kvs k) := .inl ⟨kvs,k,.inl e,rfl,rfl⟩
theorem DPut.k {H:Hp}{a:Addr}{kvs:List (Key × V)}{k:Key}{v:V}(e:H a=some (.dK kvs))(hl:kvs.length<sizeLine):DPut H a (kV k) v (upd H a (.dK (Z43 kvs k v))) := .inl ⟨kvs,k,e,rfl,hl,rfl⟩
section
variable {X:Cx}{pins:List (Addr × Obj)}{σ:St}{H:Hp}{s:Shared}{a:Addr}{y v:V}{u r:Value}{o:Option V}{A:Around}{E:Value->Shared->Prop}
theorem Inv.big (I:Inv X pins σ H s):sysModules<s.heap.objs.size:=by
 have h:mainGlobals<s.heap.objs.size:=(I.mod.glob.keeps I.bk).lt
 exact Nat.lt_trans (by decide) h
theorem Zdl {Q:Value->Shared->Prop}(hu:A.units+1<cLine)(I:Inv X pins σ H s)(g:DGet H a y (some v))(ry:RelV y u)(h:∀w' s',Inv X pins σ H s'->RelV v w'->Q w' s') :
  wpAny (model X.prog X.w) A (getItem (.ref a) u) Q E s:=by
 rcases g with ⟨kvs,k,e,ey,l⟩ | ⟨kvs,k,b,e,ey,eb,l⟩
 ·subst ey
  obtain⟨z,hd,vs,rel,dd⟩:=Zfr I.hok e
  obtain⟨w',hw,rw'⟩:=RelO.some_of (v:=v) (o:=valueAt vs k) (by rw[l];exact rel.val k)
  exact wpAny_getItem_of (Z9y ry) dd.mapOf hw (h w' _ (I.tok _) rw')
 ·subst ey
  cases (show u=Value.ref b from ry)
  obtain⟨z,hd,xs,rel,dd⟩:=Zft I.hok e
  obtain⟨w',hw,rw'⟩:=RelO.some_of (v:=v) (o:=(atKey xs k).map (·.2)) (by rw[l];exact rel.val k)
  obtain⟨p,hp,hp2⟩:=Option.map_eq_some_iff.mp hw
  refine wpAny_getItem_heap (tupleKind_room_in1 hu) (Zdk I.hok eb) dd hp ?_
  rw[hp2]
  exact h w' _ (I.tok _) rw'
theorem Z80 {h':Heap}{t':Nat}{ob:HO}(I:Inv X pins σ H s)(mu:Mut (H a))(hs:Heap.SameBut a s.heap h')(he:∃q,h'.get? a=some q)(new:ObjOk X.prog X.w (upd H a ob) h' a ob) :
  Inv X pins σ (upd H a ob) { s with heap:=h',toks:=t' } :=
 I.write (x:=a) (e:=a) mu (.inl rfl) (fun b q hb z=>(hs.2 b hb).trans z) he new
theorem Zdm {P:Program}{w:World}{H':Hp}{h':Heap}{kvs:List (Key × V)}{vs:List (Key × Value)}(z:kvs.length<=sizeLine)(hd:(a==sysModules)=false)(rel:KV kvs vs)(dd:h'.DictOf (Z0v P w) a vs) :
  ObjOk P w H' h' a (.dK kvs):=⟨z,hd,vs,rel,dd⟩
theorem Zdn {H':Hp}{Q:Unit->Shared->Prop}(hu:A.units+1<cLine)(I:Inv X pins σ H s)(g:DPut H a y v H')(ry:RelV y u)(rv:RelV v r)(h:∀s',Inv X pins σ H' s'->Q () s') :
  wpAny (model X.prog X.w) A (setItem (.ref a) u r) Q E s:=by
 rcases g with ⟨kvs,k,e,ey,l,eH⟩ | ⟨kvs,k,b,e,ey,eb,l,eH⟩
 ·subst ey eH
  obtain⟨z,hd,vs,rel,dd⟩:=Zfs I.hok e
  have hz:vs.length<=sizeLine:=by rw[<- rel.length];exact z
  have hl:(Z43 kvs k v).length<=sizeLine:=by have:=Z3k kvs k v;omega
  refine wpAny_setItem_pairs (hsz:=hz) (Z9y ry) dd fun h' dd' hs=>h _ ?_
  have he:∃q,h'.get? a=some q:=let ⟨q,_,_,hq,_⟩:=dd';⟨q,hq⟩
  exact Z80 I (by rw[e];exact True.intro) hs he (Zdm hl hd (rel.put k rv) dd')
 ·subst ey eH
  cases (show u=Value.ref b from ry)
  obtain⟨z,hd,xs,rel,dd⟩:=Zmj I.hok e
  have hz:xs.length<=sizeLine:=by rw[<- Paired.length rel];exact z
  have hl:(Z43 kvs k v).length<=sizeLine:=by have:=Z3k kvs k v;omega
  refine wpAny_setItem_heap (hsz:=hz) (tupleKind_room_in1 hu) (Zdk I.hok eb) dd fun h' dd' hs=>h _ ?_
  obtain⟨q,es,ep,hq,h2,h3,h4,_,h5⟩:=dd'
  refine Z80 I (by rw[e];exact True.intro) hs ⟨q,hq⟩ ⟨hl,hd,_,(rel.put k eb rv).keeps fun c ys ec => ?_,q,es,ep,hq,h2,h3,h4,h5⟩
  rw[Z08 (Z1b ec e (fun z=>nomatch z))]
  exact ec
end
def Znl (i:Expr):Prop:=∀ov iv,subscripted i false ov iv=operate [ov,iv] (getItem ov iv)
theorem Zig {prog:Program}{w:World}{A:Around}{E:Value->Shared->Prop}{s:Shared}{env:Env}{value slice:Expr}{pos:Pos}{T id:String}{Q:Value->Shared->Prop}
  (hl:typeLookup (.type T) "__getitem__"=pure (some (.builtin id))) (hs:Znl slice)
  (h:wpAny (model prog w) A (eval value env) (fun o s₁=>wpAny (model prog w) A (eval slice env) (fun i s₂=>s₂.TypeIs o T/\wpAny (model prog w) A (getItem o i) Q E s₂) E s₁) E s) :
  wpAny (model prog w) A (eval (.Subscript value slice pos) env) Q E s:=by
 refine Subscript_ (wpAny_mono h (fun o s₁ h₁=>wpAny_mono h₁ (fun i s₂ h₂ => ?_) fun _ _ x=>x) fun _ _ x=>x)
 obtain⟨hT,h₂⟩:=h₂
 unfold subscriptTail
 refine wpAny_bind ?_
 rw[getitemInPython_of_ne hT.not_modules]
 refine wpAny_bind (wpAny_specialOf hT hl ?_)
 have fin:wpAny (model prog w) A (subscripted slice false o i) (fun r s₃=>wpAny (model prog w) A (letTemporaryGo value o r >>= fun _=>pure r) Q E s₃) E s₂:=by
  rw[hs o i]
  exact wpAny_operating (wpAny_mono h₂ (fun r s₃ h₃=>wpAny_bind (wpAny_letTemporaryGo (wpAny_pure h₃))) fun _ _ x=>x)
 first
  | exact wpAny_pure (wpAny_bind fin)
  | exact wpAny_bind (wpAny_pure (wpAny_bind fin))
  | exact wpAny_bind fin
theorem Z9z {X:Cx}{pins:List (Addr × Obj)}{σ:St}{H:Hp}{s:Shared}{a:Addr}{y:V}{o:Option V}(I:Inv X pins σ H s)(g:DGet H a y o):s.TypeIs (.ref a) "dict":=by
 rcases g with ⟨kvs,k,e,_,_⟩ | ⟨kvs,k,b,e,_,_,_⟩
 ·obtain⟨_,_,vs,_,dd⟩:=Zfr I.hok e
  exact dd.typeIs
 ·obtain⟨_,_,xs,_,dd⟩:=Zft I.hok e
  exact dd.typeIs
def Zmk (td ty:TE):TE:=fun σ H Q=>td σ H fun x H1=>ty σ H1 fun y H2=>∃a v,x = .ref a/\DGet H2 a y (some v)/\Q v H2
def Zml (td ty tv:TE):TS:=fun D σ H=>tv σ H fun v H1=>td σ H1 fun x H2=>ty σ H2 fun y H3=>∃a H4,x = .ref a/\DPut H3 a y v H4/\D.nx σ H4
section
variable {X:Cx}{o i e value:Expr}{pos pos' tpos:Pos}{td ty tv:TE}
theorem Z12 (hu:X.A.units+1<cLine)(ho:PE X o td)(hi:PE X i ty)(hs:Znl i):PE X (.Subscript o i pos) (Zmk td ty):=by
 intro pins s σ H Q I h
 refine Zig PySem.F.slot_dict_getitem.lookup hs (thn (ho pins s σ H _ I h) fun u s1 ⟨x,H1,I1,rx,q1⟩=>thn (hi pins s1 σ H1 _ I1 q1) fun iv s2 ⟨y,H2,I2,ry,a,v,ex,g,q2⟩ => ?_)
 subst ex
 obtain rfl:u=Value.ref a:=rx
 exact⟨Z9z I2 g,Zdl hu I2 g ry fun w' s3 I3 rw'=>⟨v,H2,I3,rw',q2⟩⟩
theorem Z4f (hu:X.A.units+1<cLine)(ho:PE X o td)(hi:PE X i ty)(hv:PE X value tv)(hs:swapsWith value (some (.Subscript o i pos')) pos.line X.env=pure false) :
  PS X (.Assign [.Subscript o i pos'] value pos) (Zml td ty tv):=by
 intro pins s σ H D I h
 refine wpAny_Assign_Subscript (thn (hv pins s σ H _ I h) fun r s1 ⟨v,H1,I1,rv,q1⟩=>thn (ho pins s1 σ H1 _ I1 q1) fun u s2 ⟨x,H2,I2,rx,q2⟩=>thn (hi pins s2 σ H2 _ I2 q2) fun iv s3 ⟨y,H3,I3,ry,a,H4,ex,g,q3⟩ => ?_) hs
 subst ex
 obtain rfl:u=Value.ref a:=rx
 exact Zdn hu I3 g ry rv fun s4 I4=>⟨σ,H4,I4,q3⟩
end
theorem Zb1 {P:Program}{w:World}{H:Hp}(h:Heap)(hb:sysModules<h.objs.size):ObjOk P w H (h.push { cls := .type "dict",data := .dict #[] }) h.objs.size (.dK []) :=
 ⟨Nat.zero_le _,beq_eq_false_iff_ne.mpr (Ne.symm (Nat.ne_of_lt hb)),[],.nil,Heap.DictOf.new h⟩
def tDNewK:TE:=fun _ H Q=>∀p,H p=none->Q (.ref p) (upd H p (.dK []))
section
variable {X:Cx}{pos:Pos}
theorem Zb2:PE X (.Dict [] [] pos) tDNewK:=fun pins s σ H Q I h =>
 wpAny_Dict_empty ⟨.ref s.heap.objs.size,_,I.laid (a:=s.heap.objs.size) (o := .dK []) (t':=s.toks) (fun _ _ q=>Heap.get?_push_of_some _ q) (Nat.le_refl _) (Zb1 s.heap I.big),rfl,h _ (I.hok.fresh (Nat.le_refl _))⟩
end
def Zdo:List (TE × TE)->St->Hp->(List (V × V)->Hp->Prop)->Prop
 | [],_,H,Q=>Q [] H
 | (tk,tv)::r,σ,H,Q=>tk σ H fun x H1=>tv σ H1 fun y H2=>Zdo r σ H2 fun ps H3=>Q ((x,y)::ps) H3
abbrev VV:List (V × V)->List (Value × Value)->Prop:=Paired fun p q=>RelV p.1 q.1/\RelV p.2 q.2
def PPs (X:Cx)(pos:Pos)(keys:List (Option Expr))(values:List Expr)(trs:List (TE × TE)):Prop :=
 ∀(pins:List (Addr × Obj)) (s:Shared) (σ:St) (H:Hp) (Q:List (V × V)->Hp->Prop),Inv X pins σ H s->Zdo trs σ H Q →
  wpAny (model X.prog X.w) X.A (evalPairs (pairTrees keys values X.env pos)) (fun vs s'=>∃ps H',Inv X pins σ H' s'/\VV ps vs/\Q ps H') X.xe s
theorem Zdp {X:Cx}{pos:Pos}:PPs X pos [] [] []:=fun pins s σ H Q I h=>pairTrees_nil_walk ⟨[],H,I,.nil,h⟩
theorem Z30 {X:Cx}{pos:Pos}{k v:Expr}{ks:List (Option Expr)}{vs:List Expr}{tk tv:TE}{trs:List (TE × TE)}(hk:PE X k tk)(hv:PE X v tv)(hr:PPs X pos ks vs trs) :
  PPs X pos (some k::ks) (v::vs) ((tk,tv)::trs):=fun pins s σ H Q I h =>
 pairTrees_cons_walk (thn (hk pins s σ H _ I h) fun u s1 ⟨x,H1,I1,rx,q1⟩=>thn (hv pins s1 σ H1 _ I1 q1) fun w2 s2 ⟨y,H2,I2,ry,q2⟩ =>
  thn (hr pins s2 σ H2 _ I2 q2) fun ws s3 ⟨ps,H3,I3,rel,q3⟩=>⟨(x,y)::ps,H3,I3,.cons ⟨rx,ry⟩ rel,q3⟩)
def Z68 (kvs more:List (Key × V)):List (Key × V):=more.foldl (fun acc kv=>Z43 acc kv.1 kv.2) kvs
theorem KV.merge:∀{more:List (Key × V)} {rs:List (Key × Value)} {kvs:List (Key × V)} {vs:List (Key × Value)},KV more rs->KV kvs vs->KV (Z68 kvs more) (merged vs rs):=by
 intro more rs kvs vs r
 unfold KV at r
 induction r generalizing kvs vs with
 | nil=>intro q;exact q
 | @cons p q ps qs h t ih =>
  intro r0
  have e:KV (Z43 kvs p.1 p.2) (stored vs q.1 q.2):=by
   have:=r0.put p.1 h.2
   rw[<- h.1];exact this
  exact ih e
theorem Z4k:∀(more kvs:List (Key × V)),(Z68 kvs more).length<=kvs.length+more.length
 | [],kvs=>by show kvs.length<=kvs.length+0;omega
 | p::r,kvs=>by
  have h1:=Z4k r (Z43 kvs p.1 p.2)
  have h2:=Z3k kvs p.1 p.2
  show(Z68 (Z43 kvs p.1 p.2) r).length<=_
  rw[List.length_cons];omega
theorem Z7c {P:Program}{w:World}:∀{kvs:List (Key × V)} {ws:List (Value × Value)},VV (kvs.map fun kv=>(kV kv.1,kv.2)) ws->∃rs,Carries (Z0v P w) ws rs/\KV kvs rs
 | [],_,r=>by rw[List.map_nil] at r;cases r;exact⟨[],True.intro,.nil⟩
 | p::kvs,_,r=>by
  rw[List.map_cons] at r
  cases r with
  | @cons a b as bs h t =>
   obtain⟨rs,c,q⟩:=Z7c (P:=P) (w:=w) t
   obtain⟨b1,b2⟩:=b
   exact⟨(p.1,b2)::rs,⟨Z9y h.1,rfl,c⟩,.cons ⟨rfl,h.2⟩ q⟩
def Zmm (trs:List (TE × TE)):TE:=fun σ H Q=>∀p,H p=none->Zdo trs σ (upd H p (.dK [])) fun ps H2=>H2 p=some (.dK [])/\∃kvs:List (Key × V),ps=kvs.map (fun kv=>(kV kv.1,kv.2))/\kvs.length<=15/\Q (.ref p) (upd H2 p (.dK (Z68 [] kvs)))
theorem Zdq {X:Cx}{pos:Pos}{keys:List (Option Expr)}{values:List Expr}{trs:List (TE × TE)}(h:PPs X pos keys values trs)(hall:keys.all (·.isSome)=true)(hl:keys.length=values.length)(h0:keys ≠ [])
  (h15:keys.length<=15):PE X (.Dict keys values pos) (Zmm trs):=by
 intro pins s σ H Q I q
 have hn:=I.hok.fresh (Nat.le_refl s.heap.objs.size)
 have I1:=I.laid (a:=s.heap.objs.size) (o := .dK []) (h':=s.heap.push { cls := .type "dict",data := .dict #[] }) (t':=s.toks) (fun _ _ q=>Heap.get?_push_of_some _ q) (Nat.le_refl _) (Zb1 s.heap I.big)
 refine wpAny_Dict_walk (knd:=Z0v X.prog X.w) hall hl h0 h15 (thn (h pins _ σ _ _ I1 (q _ hn)) fun ws s2 ⟨ps,H2,I2,rel,e,kvs,ep,lk,q2⟩ => ?_)
 subst ep
 obtain⟨rs,c,rk⟩:=Z7c (P:=X.prog) (w:=X.w) rel
 obtain⟨z,hd,vs0,r0,dd⟩:=Zfs I2.hok e
 cases r0
 refine⟨rs,c,dd,fun h' dd' hs=>⟨.ref s.heap.objs.size,_,?_,rfl,q2⟩⟩
 have hz:(Z68 [] kvs).length<=sizeLine:=by
  have h1:=Z4k kvs []
  rw[List.length_nil] at h1
  rw[sizeLine_eq];omega
 have he:∃q,h'.get? s.heap.objs.size=some q:=let ⟨q,_,_,hq,_⟩:=dd';⟨q,hq⟩
 exact Z80 I2 (by rw[e];exact True.intro) hs he (Zdm hz hd (rk.merge .nil) dd')
structure M2 (X:Cx)(o:Expr)(m:Str)(apos:Pos)(e f:Expr)(cpos:Pos):Prop where
 base:attributeBase o m X.env (eval o X.env)=eval o X.env
 few:((backTo cpos (starEach [e,f] X.env)).all (fun x => !x.1)&&(backToKw cpos (keywordEach [] X.env)).all (fun x=>x.1.isSome)
  && decide (([e,f]:List Expr).length+([]:List Keyword).length+(if ([]:List Keyword).isEmpty then 0 else 1)<30))=true
 line:(apos.endLine==cpos.line)=true
 trees:backTo cpos (starEach [e,f] X.env) = [(false,eval e X.env),(false,eval f X.env)]
def IsD (H:Hp)(a:Addr):Prop:=(∃kvs,Rd H a (.dK kvs))∨∃kvs,Rd H a (.dT kvs)
theorem Zkk {X:Cx}{pins:List (Addr × Obj)}{σ:St}{H:Hp}{s:Shared}{a:Addr}(I:Inv X pins σ H s)(d:IsD H a) :
  s.TypeIs (.ref a) "dict"/\(∀b,Value.ref a = .ref b->∃ob,s.heap.get? b=some ob/\ob.dict=none)/\(a==sysModules)=false:=by
 rcases d with ⟨kvs,e⟩ | ⟨kvs,e⟩
 ·obtain⟨_,hd,vs,_,dd⟩:=Zfr I.hok e
  refine⟨dd.typeIs,fun b q => ?_,hd⟩
  cases q
  obtain⟨ob,_,_,h1,h2,_⟩:=dd
  exact⟨ob,h1,h2.2.1⟩
 ·obtain⟨_,hd,xs,_,dd⟩:=Zft I.hok e
  refine⟨dd.typeIs,fun b q => ?_,hd⟩
  cases q
  obtain⟨ob,_,_,h1,h2,_⟩:=dd
  exact⟨ob,h1,h2.2.1⟩
end L2
namespace Att
open PySem PySem.W PySem.Calls PyProof.Rows
theorem Z69 {P:Params}{h:Heap}:∀(ns:List Int) (vs:List Value),WellAll P h vs (ns.map WData.int)->IntsAre vs ns:=by
 intro ns
 induction ns with
 | nil =>
  intro vs w
  rw[List.map_nil] at w
  cases w
  exact .nil
 | cons n ns ih =>
  intro vs w
  rw[List.map_cons] at w
  cases w with
  | cons a b =>
   cases a
   exact .cons _ _ (ih _ b)
theorem Zdr {l:OpenLaw}{n:Nat}(hn:l.most=some n){P:Params}{h:Heap}{args:List WData}{vals:List Value}
  (hpre:l.row.toRowW.claim.pre args=true) (hwl:WellAll P h vals args) :
  ∃a vs ns,vals = [Value.ref a]/\args = [WData.list (ns.map WData.int)]/\h.get? a=some { cls := .type "list",data := .seq vs.toArray }/\IntsAre vs ns/\ns.length<=n:=by
 have hsh:WShape.hasAll [] args [.list .int]=true:=(pre_splitW hpre).1
 have hc:l.pre.holds [] { args:=args }=true:=(pre_splitW hpre).2
 obtain⟨d,r,rfl,h1,h2⟩:=hasAllW_cons hsh
 obtain rfl:=hasAllW_nil h2
 obtain⟨xs,rfl,h3⟩:=hasW_list h1
 obtain⟨ns,rfl⟩:=items_int h3
 have hlen:ns.length<=n:=by
  unfold OpenLaw.pre at hc
  have h4:(WTm.not (.lt (.lit (.int (n:Int))) (.len (.arg 0)))).holds [] { args := [.list (ns.map .int)] }=true:=by
   have h4:=(holds_andW hc).1
   rw[hn] at h4
   exact h4
  have h5:=condW_of h4 (w_not (w_lt w_lit (w_len_list (w_arg rfl))))
  rw[List.length_map] at h5
  refine Nat.le_of_not_lt fun q => ?_
  have q':(n:Int)<((ns.length:Nat):Int):=by omega
  first
   | (rw[decide_eq_true q'] at h5;exact absurd h5 (by decide))
   | (simp at h5;omega)
 cases hwl with
 | cons w1 w2 =>
  cases w2
  cases w1 with
  | list ho hall=>exact⟨_,_,ns,rfl,rfl,ho,Z69 ns _ hall,hlen⟩
theorem Zds (l:OpenLaw)(args:List WData):l.row.toRowW.claim.post args (.bool true) args=true :=
 postW_of (r:=l.row.toRowW) (X:=(true==true))
  (show WShape.has [] (.bool true) .bool=true by first | rfl | decide | simp [WShape.has,WShape.arms,WShape.armsAll])
  (show(WTm.eq .res (.lit (.bool true))).value [] { args:=args,res:=some (.bool true),after:=args }=some (.bool (true==true)) from w_eq_bool (w_res rfl) w_lit) rfl
theorem attach_call {l:OpenLaw}{n:Nat}{q:Program}{loose:List Str}{XP:(Str->Option Value)->Heap->Prop}{YP:World->Heap->Prop}{d:DefRec}
  (hn:l.most=some n) (hdf:d.params.defaults = [])
  (call:∀(w:World) (s₀ s₁:Shared) (mg mb:Str->Option Value) (fa:Addr) (o:Obj) (pm cd doc:Value) (a:Addr) (vs:List Value) (ns:List Int),
   Ground q loose [] XP w s₀ mg mb s₁.heap->YP w s₁.heap →
   s₁.heap.get? fa=some o->o.data = .func (docDef d.name d.params d.body d.scope pm cd doc)->s₁.heap.CodeRec cd d.name->mg d.name=some (.ref fa) →
   s₁.heap.get? a=some { cls := .type "list",data := .seq vs.toArray }->IntsAre vs ns->ns.length<=n->s₁.gens = #[] →
   codeAny (model l.prog w) callerA (.call (.ref fa) ⟨[.ref a],[]⟩) (fun r s'=>r = .ok (.ret (.bool true))/\OldK s₁.heap s'.heap/\s'.os=s₁.os/\AllBare s'.gens) s₁) :
  WalkO q loose XP YP l.row.toRowW d [] (fun f vs=>PySem.call f vs):=by
 intro w s₀ s₁ mg mb G Y fa o pm cd doc dV kV ho hd hcd hD hmg hg args vals as hpre hlay hrd hwl hlo
 obtain rfl:dV = .none:=Dflts.none hD hdf
 obtain rfl:kV = .none:=Dflts.noKw hD
 obtain⟨a,vs,ns,rfl,rfl,hobj,hints,hlen⟩:=Zdr hn hpre hwl
 refine enter_call (codeAny_mono (call w s₀ s₁ mg mb fa o pm cd doc a vs ns G Y ho (fd_plain hd) hcd hmg hobj hints hlen hg) fun r s' hq => ?_)
 obtain⟨rfl,h2,h3,h4⟩:=hq
 exact⟨.inl ⟨.bool true,.bool true,[],rfl,fun _=>rfl,.bool true,Zds l _,fun _=>⟨List.Pairwise.nil,fun _ hm=>(nomatch hm)⟩⟩,h2,h3,h4⟩
end Att
namespace L2
open PySem PySem.Spec PyProof.Rows
theorem Z93:∀{vs:List Value} {ns:List Int},IntsAre vs ns->Vals (ns.map V.int) vs
 | _,_,.nil => .nil
 | _,_,.cons n t h => .cons ⟨t,rfl⟩ (Z93 h)
def Zmn (H:Hp):Prop:=∀b,H b=none∨∃o xs,H b=some (.frz o (.lst xs))
theorem Zfu {P:Program}{w:World}{K:PySem.W.Frag}{mg mb:Str->Option Value}{CX:CXT}{k:Nat}{fa a:Addr}{fd:FuncData}{x:Str}{sp:Sp}{s₁:Shared}{vs:List Value}{ns:List Int}
  (KX:K.In s₁.heap) (hns:s₁.heap.Ns mainGlobals mg) (hb:s₁.heap.Ns builtinsNs mb) (hbb:∀x:Str,x≠"__name__"->mb x=bootBuiltins x) (hlim:s₁.heap.NoLimit) (hg:s₁.gens = #[])
  (ha:s₁.heap.get? a=some { cls := .type "list",data := .seq vs.toArray }) (hi:IntsAre vs ns) (hl:ns.length<=sizeLine) (hr:Room k callerA)
  (F:∀base:Heap,K.In base->base.Ns mainGlobals mg->FnOk P w K mg base CX k fa fd [x] sp) (hbind:∀(s:Shared) (u:Value),BindsTo s fd ⟨[u],[]⟩ [(x,u)])
  (hsp:∀H:Hp,Zmn H->SqL K H a (ns.map V.int)->sp [.ref a] H (fun v _=>v = .bl true) fun _ _ _=>False)
  (hCX:∀H e s',CX [] H s₁ (fun _ _ _=>False) e s'->False) :
  codeAny (model P w) callerA (.call (.ref fa) ⟨[.ref a],[]⟩) (fun r s'=>r = .ok (.ret (.bool true))/\OldK s₁.heap s'.heap/\s'.os=s₁.os/\AllBare s'.gens) s₁:=by
 have rv:=Z93 hi
 have lenV:=hi.length
 have core:∀H:Hp,Zmn H->SqL K H a (ns.map V.int)->HOk P w H s₁.heap->(∀b,H b≠none->b=a)->(H a≠none->K.lookup a=none) →
   codeAny (model P w) callerA (.call (.ref fa) ⟨[.ref a],[]⟩) (fun r s'=>r = .ok (.ret (.bool true))/\OldK s₁.heap s'.heap/\s'.os=s₁.os/\AllBare s'.gens) s₁:=by
  intro H hO hS hok hA hK
  have base_of:∀{b:Addr} {o:Obj},s₁.heap.get? b=some o->H b=none->(Zfk s₁.heap H).get? b=some o:=fun e n=>Zfl e n
  have noA:∀{b:Addr} {o:Obj} {es:Array DictEntry} {ep:Nat},s₁.heap.get? b=some o->o.data = .dict es ep->H b=none:=fun {b o es ep} e d=>by
   cases q:H b with
   | none=>rfl
   | some u =>
    have e':b=a:=hA b (by rw[q];simp)
    subst e'
    rw[ha] at e;cases e
    have d':Data.seq vs.toArray _=Data.dict es ep:=d
    cases d'
  have nsK:∀{b:Addr} {m:Str->Option Value},s₁.heap.Ns b m->(Zfk s₁.heap H).Ns b m:=fun {b m} ⟨o,es,ep,e,d,r⟩=>⟨o,es,ep,base_of e (noA e d),d,r⟩
  have hKb:K.In (Zfk s₁.heap H):=fun b o e=>base_of (KX b o e) (by
   cases q:H b with
   | none=>rfl
   | some u =>
    have e':b=a:=hA b (by rw[q];simp)
    subst e'
    rw[hK (by rw[q];simp)] at e;cases e)
  have hM:Mod K mg (Zfk s₁.heap H):=⟨hKb,nsK hns,⟨mb,nsK hb,hbb⟩,let ⟨mc,h1,h2⟩:=hlim;⟨mc,nsK h1,h2⟩⟩
  have e0:Env0 P w K mg (Zfk s₁.heap H) callerA [] s₁ H:=⟨rfl,hM,fun b o e=>Zi8 e,Nat.le_of_eq (Zd1 _ _),trivial,fun b hb=>absurd (show b∈([]:List Addr) from hb) (by simp),hok,.of_eq hg⟩
  refine codeAny_mono ((F _ hKb (nsK hns)).run callerA [] s₁ H ⟨[.ref a],[]⟩ [.ref a] [.ref a] _ _ hr e0 (hbind s₁ (.ref a)) (.cons rfl .nil) (hsp H hO hS)) fun r s' h => ?_
  cases r with
  | error e=>exact(hCX H e s' h).elim
  | ok fl =>
   cases fl with
   | next=>exact False.elim h
   | brk=>exact False.elim h
   | cont=>exact False.elim h
   | ret u =>
    obtain⟨v,H',os,bare,un,hok',r',q⟩:=h
    have q':v = .bl true:=q
    subst q'
    obtain rfl:u=Value.bool true:=r'
    refine⟨rfl,OldK.of_keep fun b o e => ?_,os,bare⟩
    cases q:H b with
    | none=>exact un.keep b o e q (by intro z;exact absurd (show b∈([]:List Addr) from z) (by simp)) (by simp)
    | some u =>
     rcases hO b with z | ⟨ob,xs,z⟩
     ·rw[q] at z;cases z
     ·have z2:=un.frzs b ob _ z
      obtain⟨e1,_⟩:=hok b _ z
      obtain⟨e2,_⟩:=hok' b _ z2
      rw[e] at e1;cases e1
      exact e2
 cases hk:K.lookup a with
 | some o =>
  have e:=KX a o hk
  rw[ha] at e
  cases e
  refine core (fun _=>none) (fun _ => .inl rfl) (.inr ⟨_,vs.toArray,_,hk,rfl,rfl,rfl,by rw[List.size_toArray,lenV];exact hl,by simpa using rv⟩) (fun b u z=>by have z':(none:Option HO)=some u:=z;cases z') (fun b z=>absurd rfl z) fun z=>absurd rfl z
 | none =>
  refine core (fun b=>if b=a then some (.frz { cls := .type "list",data := .seq vs.toArray } (.lst (ns.map V.int))) else none) (fun b => ?_) (.inl (.inr ⟨{ cls := .type "list",data := .seq vs.toArray },if_pos rfl⟩)) (fun b u z => ?_) (fun b z => ?_) fun _=>hk
  ·by_cases hb:b=a
   ·exact .inr ⟨_,_,if_pos hb⟩
   ·exact .inl (if_neg hb)
  ·by_cases hb:b=a
   ·have z':=(if_pos hb).symm.trans z
    cases z'
    subst hb
    exact⟨ha,by rw[List.length_map];exact hl,vs,_,rv,ha⟩
   ·have z':=(if_neg hb).symm.trans z
    cases z'
  ·by_cases hb:b=a
   ·exact hb
   ·exact absurd (if_neg hb) z
theorem walk_of {l:PySem.W.OpenLaw}{n k:Nat}{q:Program}{loose:List Str}{XP:(Str->Option Value)->Heap->Prop}{YP:World->Heap->Prop}{d:DefRec}{K:Params->PySem.W.Frag}{CX:World->CXT}{sp:World->Sp}{x:Str}
  (hn:l.most=some n) (hn2:n<=sizeLine) (hdf:d.params.defaults = []) (hr:Room k callerA)
  (hY:∀(w:World) (h:Heap),YP w h->(K w.params).In h)
  (F:∀(w:World) (mg:Str->Option Value) (fa:Addr) (h:Heap),(K w.params).In h->h.Ns mainGlobals mg->mg d.name=some (.ref fa) →
   ∃fd:FuncData,(∀(s:Shared) (u:Value),BindsTo s fd ⟨[u],[]⟩ [(x,u)]) ∧
    ∀base:Heap,(K w.params).In base->base.Ns mainGlobals mg->FnOk l.prog w (K w.params) mg base (CX w) k fa fd [x] (sp w))
  (hsp:∀(w:World) (H:Hp) (a:Addr) (ns:List Int),ns.length<=n->Zmn H->SqL (K w.params) H a (ns.map V.int)->sp w [.ref a] H (fun v _=>v = .bl true) fun _ _ _=>False)
  (hCX:∀(w:World) (H:Hp) (s:Shared) (e:Value) (s':Shared),CX w [] H s (fun _ _ _=>False) e s'->False) :
  PySem.W.WalkO q loose XP YP l.row.toRowW d [] (fun f vs=>PySem.call f vs):=by
 refine Att.attach_call hn hdf fun w s₀ s₁ mg mb fa o pm cd doc a vs ns G Y ho hd hcd hmg hobj hints hlen hg => ?_
 have KX:=hY w _ Y
 obtain⟨fd,hb,hF⟩:=F w mg fa _ KX G.T.g hmg
 exact Zfu KX G.T.g G.T.b G.T.builtins G.T.nolimit hg hobj hints (Nat.le_trans hlen hn2) hr hF hb (fun H hO hS=>hsp w H a ns hlen hO hS) fun H e s'=>hCX w H s₁ e s'
abbrev CX0:CXT:=fun _ _ _ _ _ _=>False
abbrev E0:XK:=fun _ _ _=>False
theorem Z0g {X:Cx}:Zde CX0 X E0:=fun _ _ _ _ _ _ _ h=>h.elim
structure Fun (K:PySem.W.Frag)(x qual:Str)(st:Stmt)(f:Addr)(fd:FuncData):Prop where
 ex:∃(oc:Value) (od:Option Addr) (kV doc pm:Value) (an:Option Addr) (cdv ct:Value) (osl:Array (Option Value)),
  fd=PySem.W.fnOf x qual (Z0t st) (Z0r st) (Z05 st) .none kV doc pm an cdv ct/\K.lookup f=some ⟨oc,od,.func fd,osl⟩/\PySem.W.codeIn K cdv qual=true
 kp:PySem.W.keepIn K (.ref f)=true
section
variable {P:Program}{w:World}{K:PySem.W.Frag}{mg:Str->Option Value}{base:Heap}
theorem Fun.ok {x qual:Str}{st:Stmt}{f:Addr}{fd:FuncData}{N ps:List Str}{k:Nat}{sp:Sp}(F:Fun K x qual st f fd)(S:FnScope N ps (Z05 st))(len:∀vs H Q E,sp vs H Q E->vs.length=ps.length)
  (hbody:∀(cdv:Value) (A:Around) (outer:List Env) (s:Shared) (H:Hp) (vs:List V) (Q:VK) (E:XK),Room k (A.deeper (envOfC qual (Z05 st) s.heap.objs.size f cdv))->sp vs H Q E →
   ∃t,PSs (Zhl CX0 P w K mg base N qual (Z05 st) f cdv A outer s H E).nox (Z0r st) t/\t { nx:=fun _ H'=>Q .non H',rt:=Q } (Z8v N vs) H):FnOk P w K mg base CX0 (k+1) f fd ps sp:=by
 obtain⟨oc,od,kV,doc,pm,an,cdv,ct,osl,rfl,lk,hcd⟩:=F.ex
 refine Zmh lk hcd S len fun A outer s H vs Q E hr hsp => ?_
 obtain⟨t,h,q⟩:=hbody cdv A outer s H vs Q E hr hsp
 exact⟨t,h.nox,q⟩
theorem Fun.binds {x qual:Str}{st:Stmt}{f:Addr}{fd:FuncData}{ps:List Str}(F:Fun K x qual st f fd)
  (h:∀(kV doc pm:Value) (an:Option Addr) (cdv ct:Value) (us:List Value),us.length=ps.length->bindArgs (PySem.W.fnOf x qual (Z0t st) (Z0r st) (Z05 st) .none kV doc pm an cdv ct) ⟨us,[]⟩=pure (ps.zip us)):Binds K fd ps []:=by
 obtain⟨oc,od,kV,doc,pm,an,cdv,ct,osl,rfl,lk,hcd⟩:=F.ex
 exact .all (h kV doc pm an cdv ct)
theorem Z18 {x qual:Str}{st:Stmt}{f:Addr}{oc:Value}{od an:Option Addr}{osl:Array (Option Value)}{kV doc pm cdv ct:Value}(l:K.lookup f=some ⟨oc,od,.func (PySem.W.fnOf x qual (Z0t st) (Z0r st) (Z05 st) .none kV doc pm an cdv ct),osl⟩)
  (c:PySem.W.codeIn K cdv qual=true) (k:PySem.W.keepIn K (.ref f)=true):Fun K x qual st f (PySem.W.fnOf x qual (Z0t st) (Z0r st) (Z05 st) .none kV doc pm an cdv ct):=⟨⟨oc,od,kV,doc,pm,an,cdv,ct,osl,rfl,l,c⟩,k⟩
end
theorem Zmo {A:Around}{k:Nat}(hr:Room k A):A.units+1<cLine:=Nat.lt_of_le_of_lt (Nat.add_le_add_left (by decide:1<=64) _) hr.units
section
variable {X:Cx}
theorem pv (i:Nat){x:Str}{pos:Pos}(hN:X.N[i]? = some x:=by rfl)(hv:Vis X.env.scope x:=by first | exact Or.inl rfl | exact Or.inr (Or.inl rfl) | exact Or.inr (Or.inr rfl))(hd:(x==("__debug__":Str))=false:=by decide)
  (hcd:(x==("__classdict__":Str))=false:=by decide):PE X (.Name x pos) (tVar i):=Zka hN hv hd hcd
end
theorem Z4l {A B:Prop}(h:B):if false=true then A else B:=by
 rw[if_neg Bool.false_ne_true]
 exact h
theorem Z71 {A B:Prop}(h:A):if true=true then A else B:=by
 rw[if_pos rfl]
 exact h
theorem Z22 {c A B:Prop}[Decidable c](h1:c->A)(h2:¬c->B):if c then A else B:=by
 by_cases h:c
 ·rw[if_pos h]
  exact h1 h
 ·rw[if_neg h]
  exact h2 h
def Same (H H':Hp):Prop:=∀b o,H b=some o->H' b=some o
theorem Same.refl (H:Hp):Same H H:=fun _ _ h=>h
theorem Same.trans {H H1 H2:Hp}(a:Same H H1)(b:Same H1 H2):Same H H2:=fun c o h=>b c o (a c o h)
theorem Same.seq {K:PySem.W.Frag}{H H':Hp}{a:Addr}{xs:List V}(e:Same H H')(h:SqL K H a xs):SqL K H' a xs:=by
 rcases h with (h | ⟨o,h⟩) | h
 ·exact .inl (.inl (e _ _ h))
 ·exact .inl (.inr ⟨o,e _ _ h⟩)
 ·exact .inr h
section
variable {κ : Type}[DecidableEq κ]
theorem Zdt {kvs:List (κ × V)}{k : κ}{v:V}(h:Z37 kvs k=some v):k∈kvs.map (·.1):=by
 have q:(kvs.any fun kv=>decide (kv.1=k))=true:=by
  rw[Z3j,h]
  all_goals rfl
 obtain⟨p,hp,e⟩:=List.any_eq_true.mp q
 exact List.mem_map.mpr ⟨p,hp,of_decide_eq_true e⟩
end
section
variable {prog:Program}{w:World}{A:Around}{E:Value->Shared->Prop}{R:Result->Shared->Prop}{s:Shared}
theorem Z5l {elt target iter:Expr}{ifs:List Expr}{scope:Scope}{pos:Pos}{it acc:Value}{env:Env}(I:Nat->Shared->Prop)
  (turn:∀n s,I n s->wpAny (model prog w) A (pyNext it) (fun r s1=>match r with
   | none=>R (.ok .next) s1
   | some v=>wpAny (model prog w) A (letOwnedTupleGo target it v) (fun _ s1'=>wpAny (model prog w) A (assign target env v) (fun _ s2 =>
     wpAny (model prog w) A (forIn ifs true fun c r=>if r=true then do let ok ← isTrue c env (eval c env);pure (ForInStep.yield ok) else pure (ForInStep.yield r)) (fun ok s3 =>
      if ok=true then wpAny (model prog w) A (eval elt env) (fun x s4 =>
       wpAny (model prog w) A (call (.builtin "list.append") [acc,x]) (fun _ s5=>∃m,m<n/\I m s5) (fun _ _=>False) s4) (fun _ _=>False) s3
      else ∃m,m<n/\I m s3) (fun _ _=>False) s2) (fun _ _=>False) s1') (fun _ _=>False) s1) (fun _ _=>False) s)
  (n:Nat) (h:I n s) :
  codeAny (model prog w) A (.compLoop (.ListComp elt [⟨target,iter,ifs,0⟩] scope pos) 0 it acc env) R s:=by
 refine codeAny_loop rfl I (fun n s hI => ?_) n h
 show wpAny _ A ((compTurn (.ListComp elt [⟨target,iter,ifs,0⟩] scope pos) 0 it acc env).onRaise (fun x=>do noteFrame x env;theTreesLotGoes x)) _ _ s
 refine wpAny_noted ?_
 rw[compTurn_list]
 refine wpAny_bind (wpAny_standAt (wpAny_bind (wpAny_mono (turn n s hI) (fun r s₁ h₁ => ?_) fun _ _ h'=>h'.elim)))
 cases r with
 | none=>exact wpAny_pure h₁
 | some v =>
  refine wpAny_bind (wpAny_mono h₁ (fun _ s1' h1' => ?_) fun _ _ h'=>h'.elim)
  refine wpAny_bind (wpAny_mono h1' (fun _ s₂ h₂=>wpAny_bind (wpAny_mono h₂ (fun ok s₃ h₃ => ?_) fun _ _ h'=>h'.elim)) fun _ _ h'=>h'.elim)
  cases ok with
  | false=>exact wpAny_pure ⟨rfl,h₃⟩
  | true =>
   exact wpAny_bind (wpAny_bind (wpAny_mono h₃ (fun x s₄ h₄=>wpAny_bind (wpAny_mono h₄ (fun _ s₅ h₅=>wpAny_pure (wpAny_pure ⟨rfl,h₅⟩)) fun _ _ h'=>h'.elim)) fun _ _ h'=>h'.elim))
end
theorem Z5a {env:Env}:∀(names:List (Str × NameKind)) (cs:List (Str × Addr)),(∀n,(n,NameKind.free)∈names->∃c,env.cells.lookup n=some c) →
  ∃cl,(forIn names cs fun(x:Str × NameKind) (r:List (Str × Addr))=>match x with
   | (name,kind)=>if (kind==NameKind.free)=true then do let c ← cellOf env name;pure (ForInStep.yield ((name,c)::r)) else pure (ForInStep.yield r):Sem (List (Str × Addr)))=pure cl ∧
   (∀p∈cl,p∈cs∨env.cells.lookup p.1=some p.2)/\(∀p∈cs,p∈cl)/\(∀n,(n,NameKind.free)∈names->∃c,(n,c)∈cl)
 | [],cs,_=>⟨cs,by simp,fun p hp => .inl hp,fun p hp=>hp,fun n hn=>by cases hn⟩
 | (n,k)::r,cs,h=>by
  by_cases hk:(k==NameKind.free)=true
  ·have hk':k=NameKind.free:=eq_of_beq hk
   subst hk'
   obtain⟨c,hc⟩:=h n (List.mem_cons_self)
   obtain⟨cl,e,h1,h2,h3⟩:=Z5a r ((n,c)::cs) fun m hm=>h m (List.mem_cons_of_mem _ hm)
   refine⟨cl,?_,fun p hp => ?_,fun p hp=>h2 p (List.mem_cons_of_mem _ hp),fun m hm => ?_⟩
   ·rw[List.forIn_cons]
    simp only [hk,if_true]
    unfold cellOf
    rw[hc]
    exact e
   ·rcases h1 p hp with q | q
    ·rcases List.mem_cons.mp q with q | q
     ·subst q;exact .inr hc
     ·exact .inl q
    ·exact .inr q
   ·rcases List.mem_cons.mp hm with q | q
    ·cases q;exact⟨c,h2 _ List.mem_cons_self⟩
    ·exact h3 m q
  ·obtain⟨cl,e,h1,h2,h3⟩:=Z5a r cs fun m hm=>h m (List.mem_cons_of_mem _ hm)
   refine⟨cl,?_,h1,h2,fun m hm => ?_⟩
   ·rw[List.forIn_cons]
    simp only [hk]
    exact e
   ·rcases List.mem_cons.mp hm with q | q
    ·cases q;exact absurd rfl hk
    ·exact h3 m q
theorem Z7d {κ : Type}[BEq κ][LawfulBEq κ]{β : Type}:∀{l:List (κ × β)} {x : κ} {c : β},l.lookup x=some c->(x,c)∈l
 | [],_,_,h=>by simp at h
 | (n,k)::r,x,c,h=>by
  cases hx:x==n with
  | true =>
   simp only [List.lookup_cons,hx] at h
   cases h
   have e:=eq_of_beq hx
   subst e
   exact List.mem_cons_self
  | false =>
   simp only [List.lookup_cons,hx] at h
   exact List.mem_cons_of_mem _ (Z7d h)
theorem Z7e {κ : Type}[BEq κ][LawfulBEq κ]{β : Type}:∀{l:List (κ × β)} {x : κ} {c : β},(x,c)∈l->∃c',l.lookup x=some c'
 | (n,k)::r,x,c,h=>by
  cases hx:x==n with
  | true=>exact⟨k,by simp only [List.lookup_cons,hx]⟩
  | false =>
   rcases List.mem_cons.mp h with q | q
   ·cases q;simp at hx
   ·obtain⟨c',e⟩:=Z7e q
    exact⟨c',by simp only [List.lookup_cons,hx];exact e⟩
theorem Z44 {scope:Scope}{env:Env}(h:∀n,(n,NameKind.free)∈scope.names->∃c,env.cells.lookup n=some c) :
  ∃cl,closureFor scope env=pure cl/\(∀x c,cl.lookup x=some c->env.cells.lookup x=some c)/\∀n,(n,NameKind.free)∈scope.names->∃c,cl.lookup n=some c:=by
 obtain⟨cl,e,h1,_,h3⟩:=Z5a scope.names [] h
 refine⟨cl,?_,fun x c hx => ?_,fun n hn => ?_⟩
 ·have e2:closureFor scope env=((forIn scope.names ([]:List (Str × Addr)) fun(x:Str × NameKind) (r:List (Str × Addr))=>match x with
     | (name,kind)=>if (kind==NameKind.free)=true then do let c ← cellOf env name;pure (ForInStep.yield ((name,c)::r)) else pure (ForInStep.yield r):Sem (List (Str × Addr))) >>= fun r=>pure r):=rfl
  rw[e2,e]
  rfl
 ·rcases h1 _ (Z7d hx) with q | q
  ·cases q
  ·exact q
 ·obtain⟨c,hc⟩:=h3 n hn
  exact Z7e hc
def Z2h (X:Cx)(N':List Str)(scope:Scope)(cl:List (Str × Addr))(C:Addr)(ex:List Addr)(s0:Shared)(H0:Hp):Cx :=
 { X with N:=N',s₀:=s0,H₀:=H0,env:=compEnvC scope cl C X.env,outer:=X.stack,stack:=X.stack,ex:=ex,fn:=fun _=>false,pn := [],xe:=fun _ _=>False }
section
variable {X:Cx}{pins:List (Addr × Obj)}{σ:St}{H:Hp}{s:Shared}
theorem Inv.track {a:Addr}{o:HO}(I:Inv X pins σ H s)(f:Z3s X pins H a)(new:ObjOk X.prog X.w (upd H a o) s.heap a o):Inv X pins σ (upd H a o) s:=by
 obtain⟨f0,f1,f2,f3,f4,f5⟩:=f
 have ne:∀b u,H b=some u->b≠a:=fun b u e=>Z0a e f0
 refine⟨I.ok,I.os,I.bare,⟨I.base.keep,I.base.slot,fun b ob e n hx => ?_,I.base.there,fun b xs e => ?_,fun b ob u e => ?_,fun b ps e => ?_⟩,I.loc,I.cell,?_,fun x c e => ?_,fun p hp => ?_,fun b u e => ?_,I.len⟩
 ·have hb:b≠a:=by
   rintro rfl
   rcases f3 with z | z
   ·exact hx z
   ·exact absurd (Nat.lt_of_lt_of_le (Heap.lt_size e) z) (Nat.lt_irrefl _)
  rw[Z08 hb]
  exact I.base.free b ob e n hx
 ·have q:=I.base.tups b xs e
  rw[Z08 (ne _ _ q)];exact q
 ·have q:=I.base.frzs b ob u e
  rw[Z08 (ne _ _ q)];exact q
 ·obtain⟨more,q⟩:=I.base.tbls b ps e
  exact⟨more,by rw[Z08 (ne _ _ q)];exact q⟩
 ·rw[Z08 (Ne.symm f1)];exact I.free
 ·rw[Z08 (f4 x c e)];exact I.freeC x c e
 ·obtain⟨e,n,ne',nf,d⟩:=I.pin p hp
  exact⟨e,by rw[Z08 (f5 p hp)];exact n,ne',nf,d⟩
 ·by_cases hb:b=a
  ·subst hb
   rw[Z00] at e;cases e
   exact new
  ·rw[Z08 hb] at e
   exact(I.hok b u e).stay (fun c v _ q=>q) (fun c q=>by rw[Z08 (ne _ _ q)];exact q) fun c xs q=>by rw[Z08 (ne _ _ q)];exact q
end
def PTs (X:Cx)(ifs:List Expr)(t:TT):Prop :=
 ∀(pins:List (Addr × Obj)) (s:Shared) (σ:St) (H:Hp) (Q:Bool->Hp->Prop),Inv X pins σ H s->t σ H Q →
  wpAny (model X.prog X.w) X.A (forIn ifs true fun c r=>if r=true then do let ok ← isTrue c X.env (eval c X.env);pure (ForInStep.yield ok) else pure (ForInStep.yield r)) (TP X pins σ Q) X.xe s
def tNoTest:TT:=fun _ H Q=>Q true H
theorem Z1d {X:Cx}:PTs X [] tNoTest:=fun _ _ _ H _ I h=>wpAny_tests_nil ⟨H,I,h⟩
theorem Z6a {X:Cx}{c:Expr}{t:TT}(h:PT X c t):PTs X [c] t:=fun pins s σ H Q I q=>wpAny_tests_one (h pins s σ H Q I q)
def Zdu (src:List (Option Nat))(σ:St):St:=src.map fun o=>match o with | some j=>(σ[j]?).getD none | none=>none
def Zfv (src:List (Option Nat))(wi:TI)(g:TG)(tt:TT)(te:TE):TE:=fun σ H Q=>wi σ H fun J H1=>∃W:Nat->Nat->List V->St->Hp->Prop,(∃m,W 0 m [] (Zdu src σ) H1)/\∀i m ys σc H,W i m ys σc H →
 (J.stop i H/\∀l,H l=none->Q (.ref l) (upd H l (.lst ys))) ∨
 (J.go i H/\ys.length<sizeLine/\∀x H',J.yld i H x H'->g x σc H' fun σ2 H2=>tt σ2 H2 fun b H3 =>
  if b=true then te σ2 H3 fun v H4=>∃m',m'<m/\W (i+1) m' (ys ++ [v]) σ2 H4 else ∃m',m'<m/\W (i+1) m' ys σ2 H3)
section
variable {X:Cx}{elt tg iter:Expr}{ifs:List Expr}{scope:Scope}{pos:Pos}{N':List Str}{src:List (Option Nat)}{wi:TI}{g:TG}{tt:TT}{te:TE}
theorem Z3v {env:Env}:∀{names:List (Str × NameKind)} {x:Str} {k:NameKind},(names.map fun(n,k)=>if (k==NameKind.free&&env.scope.kind == .function&&env.kindOf n==some .cell) then (n,NameKind.cell) else (n,k)).lookup x=some k →
  (k = .cell∨k = .free)->(∀y∈names,y.2 ≠ .cell)->(x,NameKind.free)∈names
 | [],_,_,h,_,_=>by simp at h
 | (n,k')::r,x,k,h,hk,hc=>by
  have ih := @Z3v env r x k
  have h':List.lookup x ((if (k'==NameKind.free&&env.scope.kind == .function&&env.kindOf n==some .cell)=true then (n,NameKind.cell) else (n,k'))::(r.map fun(n,k)=>if (k==NameKind.free&&env.scope.kind == .function&&env.kindOf n==some .cell) then (n,NameKind.cell) else (n,k)))=some k:=h
  by_cases hx:x=n
  ·subst hx
   by_cases hf:k' = .free
   ·subst hf;exact List.mem_cons_self
   ·have e:(k'==NameKind.free)=false:=by simpa using hf
    rw[e] at h'
    simp only [Bool.false_and,Bool.false_eq_true,if_false,List.lookup_cons,beq_self_eq_true] at h'
    have e':k'=k:=Option.some.inj h'
    rcases hk with q | q
    ·exact absurd (e'.trans q) (hc (x,k') List.mem_cons_self)
    ·exact absurd (e'.trans q) hf
  ·have e:(x==n)=false:=by simpa using hx
   have h2:(r.map fun(n,k)=>if (k==NameKind.free&&env.scope.kind == .function&&env.kindOf n==some .cell) then (n,NameKind.cell) else (n,k)).lookup x=some k:=by
    by_cases hc2:(k'==NameKind.free&&env.scope.kind == .function&&env.kindOf n==some .cell)=true
    ·rw[if_pos hc2] at h';simp only [List.lookup_cons,e] at h';exact h'
    ·rw[if_neg hc2] at h';simp only [List.lookup_cons,e] at h';exact h'
   exact List.mem_cons_of_mem _ (ih h2 hk fun y hy=>hc y (List.mem_cons_of_mem _ hy))
structure CompScope (X:Cx)(scope:Scope)(N':List Str)(src:List (Option Nat)):Prop where
 kind:scope.kind = .function
 cell:∀y∈scope.names,y.2 ≠ .cell
 names:∀x∈scope.names,x.2 = .local->scope.names.lookup x.1=some .local
 fr:∀n,(n,NameKind.free)∈scope.names->X.env.kindOf n=some .cell∨X.env.kindOf n=some .free
 excl:∀n,(n,NameKind.free)∈scope.names->¬scope.names.lookup n=some .local
 len:N'.length=src.length
 src:∀(i j:Nat),src[i]? = some (some j)->∃x:Str,N'[i]? = some x/\X.N[j]? = some x/\(x,NameKind.free)∈scope.names
theorem Z7f {cl:List (Str × Addr)}{C D:Addr}{fp:List Addr}{pins:List (Addr × Obj)}{σ:St}{H:Hp}{s3:Shared}{h1:Heap}{tk:Nat}(S:CompScope X scope N' src)(I3:Inv X pins σ H s3)
  (hcl1:∀x c,cl.lookup x=some c->X.env.cells.lookup x=some c) (hcl2:∀n,(n,NameKind.free)∈scope.names->∃c,cl.lookup n=some c) (hC:C=s3.heap.objs.size)
  (hf:∀b∈D::fp,Z3s X pins H b) (hlt:∀b∈D::fp,b<s3.heap.objs.size) (hns:h1.Ns C (fun _=>none)) (hk:∀b o,s3.heap.get? b=some o->h1.get? b=some o) :
  Inv (Z2h X N' scope cl C (D::fp) s3 H) [] (Zdu src σ) H { s3 with heap:=h1,toks:=tk }:=by
 have neC:∀b o,s3.heap.get? b=some o->b≠C:=fun b o e=>by rw[hC];exact Nat.ne_of_lt (Heap.lt_size e)
 have HC:H C=none:=I3.hok.fresh (Nat.le_of_eq hC.symm)
 have ok:(Z2h X N' scope cl C (D::fp) s3 H).Ok:=by
  refine⟨I3.ok.mod,S.kind,I3.ok.glob,I3.ok.blt,Nat.le_of_eq hC.symm,fun x y c e1 e2=>I3.ok.inj x y c (hcl1 x c e1) (hcl1 y c e2),fun x hx => ?_,fun x c z=>absurd z Bool.false_ne_true,I3.ok.hd,I3.ok.frames,.inl rfl,fun b hb=>⟨?_,fun x c e => ?_⟩,I3.bs,Nat.le_trans I3.ok.bsz I3.sz,fun b o e hb => ?_,fun b hb => ?_,I3.stack,I3.stkFree⟩
  ·refine hcl2 x ?_
   rcases hx with z | z
   ·exact Z3v (env:=X.env) (show((scope.names.map _).lookup x)=some .cell from z) (.inl rfl) S.cell
   ·exact Z3v (env:=X.env) (show((scope.names.map _).lookup x)=some .free from z) (.inr rfl) S.cell
  ·show b≠C
   rw[hC];exact Nat.ne_of_lt (hlt b hb)
  ·exact(hf b hb).2.2.2.2.1 x c (hcl1 x c e)
  ·rcases(hf b hb).2.2.2.1 with z | z
   ·exact I3.ok.noex b o e z
   ·exact absurd (Nat.lt_of_lt_of_le (Nat.lt_of_lt_of_le (Heap.lt_size e) I3.ok.bsz) z) (Nat.lt_irrefl _)
  ·intro z
   have z':b∈frs X.stack:=z
   rcases List.mem_cons.mp (I3.stkSub b z') with q | q
   ·exact(hf b hb).2.1 q
   ·exact(hf b hb).2.2.1 q
 refine⟨ok,rfl,I3.bare,Un.kept hk,⟨_,hns,fun i x v e1 e2 e3 => ?_⟩,fun x c e => ?_,HC,fun x c e=>I3.freeC x c (hcl1 x c e),fun p hp=>absurd (show p∈([]:List (Addr × Obj)) from hp) (by simp),I3.hok.kept hk,?_⟩
 ·have e2':(src.map fun o=>match o with | some j=>(σ[j]?).getD none | none=>none)[i]? = some (some v):=e2
  rw[List.getElem?_map] at e2'
  cases q:src[i]? with
  | none=>rw[q] at e2';cases e2'
  | some o =>
   rw[q] at e2'
   cases o with
   | none=>cases e2'
   | some j =>
    obtain⟨x',hx1,hx2,hx3⟩:=S.src i j q
    have ex:x'=x:=Option.some.inj (hx1.symm.trans e1)
    subst ex
    have ev:σ[j]? = some (some v):=by
     cases q2:σ[j]? with
     | none=>simp [q2] at e2'
     | some o=>simp [q2] at e2';rw[e2']
    obtain⟨m,hn,hl⟩:=I3.loc
    have hkind:=S.fr x' hx3
    obtain⟨u,r,l⟩:=hl j x' v hx2 ev (by
     rcases hkind with z | z
     ·exact .inr (.inl z)
     ·exact .inr (.inr z))
    refine⟨u,r,.inr ⟨?_,?_⟩⟩
    ·rcases e3 with z | z | z
     ·exfalso
      have z':(scope.names.map fun(n,k)=>if (k==NameKind.free&&X.env.scope.kind == .function&&X.env.kindOf n==some .cell) then (n,NameKind.cell) else (n,k)).lookup x'=some .local:=z
      rcases l with ⟨k,_⟩ | ⟨_,c,hc,hcell⟩
      ·rcases hkind with y | y <;> (rw[y] at k;cases k)
      ·exact(show False by
        have:=S.names
        have hm:=hx3
        clear e2 e2'
        have key:∀(names:List (Str × NameKind)),(names.map fun(n,k)=>if (k==NameKind.free&&X.env.scope.kind == .function&&X.env.kindOf n==some .cell) then (n,NameKind.cell) else (n,k)).lookup x'=some .local →
          names.lookup x'=some .local:=by
         intro names
         induction names with
         | nil=>intro h;simp at h
         | cons y r ih =>
          obtain⟨n,k⟩:=y
          intro h
          have h':List.lookup x' ((if (k==NameKind.free&&X.env.scope.kind == .function&&X.env.kindOf n==some .cell)=true then (n,NameKind.cell) else (n,k))::(r.map fun(n,k)=>if (k==NameKind.free&&X.env.scope.kind == .function&&X.env.kindOf n==some .cell) then (n,NameKind.cell) else (n,k)))=some .local:=h
          by_cases hx:(x'==n)=true
          ·by_cases hc2:(k==NameKind.free&&X.env.scope.kind == .function&&X.env.kindOf n==some .cell)=true
           ·rw[if_pos hc2] at h';simp only [List.lookup_cons,hx] at h';cases h'
           ·rw[if_neg hc2] at h';simp only [List.lookup_cons,hx] at h' ⊢;exact h'
          ·have hx':(x'==n)=false:=by simpa using hx
           by_cases hc2:(k==NameKind.free&&X.env.scope.kind == .function&&X.env.kindOf n==some .cell)=true
           ·rw[if_pos hc2] at h';simp only [List.lookup_cons,hx'] at h' ⊢;exact ih h'
           ·rw[if_neg hc2] at h';simp only [List.lookup_cons,hx'] at h' ⊢;exact ih h'
        have z2:=key _ z'
        obtain⟨c2,hc2⟩:=hcl2 x' hx3
        exact S.excl x' hx3 z2)
     ·exact .inl z
     ·exact .inr z
    ·rcases l with ⟨k,_⟩ | ⟨_,c,hc,hcell⟩
     ·rcases hkind with y | y <;> (rw[y] at k;cases k)
     ·obtain⟨c2,hc2⟩:=hcl2 x' hx3
      have e:=hcl1 x' c2 hc2
      rw[hc] at e;cases e
      obtain⟨oc,ho,hd⟩:=hcell
      exact⟨c,hc2,oc,hk c oc ho,hd⟩
 ·obtain⟨v,oc,ho,hd⟩:=I3.cell x c (hcl1 x c e)
  exact⟨v,oc,hk c oc ho,hd⟩
 ·show(src.map _).length=N'.length
  rw[List.length_map,S.len]
theorem Z7g {cl:List (Str × Addr)}{C D:Addr}{fp:List Addr}{pins pinsY:List (Addr × Obj)}{σ σc:St}{H H':Hp}{s3 s4:Shared}{h':Heap}{ys:List V}{us:List Value}(I3:Inv X pins σ H s3)(hC:C=s3.heap.objs.size)
  (hf:∀b∈D::fp,Z3s X pins H b) (hlt:∀b∈D::fp,b<s3.heap.objs.size) (IY:Inv (Z2h X N' scope cl C (D::fp) s3 H) pinsY σc H' s4) (hD:H' D=none) (pl:s4.heap.PlainList D us.toArray) (rv:Vals ys us) (hz:ys.length<=sizeLine)
  (hs:Heap.SameBut C s4.heap h'):Inv X pins σ (upd H' D (.lst ys)) { s4 with heap:=h' }:=by
 have J:Inv X pins σ H' s4:=I3.call' IY.os IY.base IY.hok IY.bare (ch:=D::fp) fun b hb=>⟨(hf b hb).2.2.2.1,(hf b hb).2.1,(hf b hb).2.2.2.2.1,(hf b hb).2.2.2.2.2⟩
 have fC:Z3s X pins H' C:=I3.fpOk (Nat.le_of_eq hC.symm) IY.free
 have J2:Inv X pins σ H' { s4 with heap:=h' }:=J.turned (t':=s4.toks) (fun b o hb e=>(hs.2 b hb).trans e) fC.1 fC.2.1 fC.2.2.2.1 fC.2.2.2.2.1 fC.2.2.2.2.2
 have hDC:D≠C:=by rw[hC];exact Nat.ne_of_lt (hlt D List.mem_cons_self)
 obtain⟨n,e⟩:=pl
 have fD:=hf D List.mem_cons_self
 exact J2.track ⟨hD,fD.2⟩ ⟨hz,us,n,rv,(hs.2 D hDC).trans e⟩
theorem Zb3 {cl:List (Str × Addr)}{C D it:Addr}{fp:List Addr}{tn:Nat->Heap->Prop}{J:It}{pins:List (Addr × Obj)}{σ σ0:St}{H:Hp}{s3 s4:Shared}{R:Result->Shared->Prop}{W:Nat->Nat->List V->St->Hp->Prop}{m0:Nat}{Q:List V->Hp->Prop}
  (hc:X.calm=true) (T:Turn X.prog X.w X.K tg J fp it tn) (I3:Inv X pins σ H s3) (hC:C=s3.heap.objs.size)
  (hf:∀b∈D::fp,Z3s X pins H b) (hlt:∀b∈D::fp,b<s3.heap.objs.size) (hDf:D∉fp) (IY:Inv (Z2h X N' scope cl C (D::fp) s3 H) [] σ0 H s4) (st:tn 0 s4.heap) (pl:s4.heap.PlainList D #[])
  (hg:PG (Z2h X N' scope cl C (D::fp) s3 H) tg g) (ht:PTs (Z2h X N' scope cl C (D::fp) s3 H) ifs tt) (he:PE (Z2h X N' scope cl C (D::fp) s3 H) elt te) (w0:W 0 m0 [] σ0 H)
  (turn:∀i m ys σc H,W i m ys σc H->(J.stop i H/\Q ys H)∨(J.go i H/\ys.length<sizeLine/\∀x H',J.yld i H x H'->g x σc H' fun σ2 H2=>tt σ2 H2 fun b H3 =>
   if b=true then te σ2 H3 fun v H4=>∃m',m'<m/\W (i+1) m' (ys ++ [v]) σ2 H4 else ∃m',m'<m/\W (i+1) m' ys σ2 H3))
  (fin:∀s5 σc H' ys us pinsY,Inv (Z2h X N' scope cl C (D::fp) s3 H) pinsY σc H' s5->H' D=none->s5.heap.PlainList D us.toArray->Vals ys us->ys.length<=sizeLine->Q ys H'->R (.ok .next) s5) :
  codeAny (model X.prog X.w) X.A (.compLoop (.ListComp elt [⟨tg,iter,ifs,0⟩] scope pos) 0 (.ref it) (.ref D) (compEnvC scope cl C X.env)) R s4:=by
 have eY:(Z2h X N' scope cl C (D::fp) s3 H).env=compEnvC scope cl C X.env:=rfl
 generalize hY:Z2h X N' scope cl C (D::fp) s3 H=Y at *
 have e1:Y.prog=X.prog:=by rw[<- hY];rfl
 have e2:Y.w=X.w:=by rw[<- hY];rfl
 have e3:Y.K=X.K:=by rw[<- hY];rfl
 have e4:Y.A=X.A:=by rw[<- hY];rfl
 have e5:Y.calm=true:=by rw[<- hY];exact hc
 have e6:Y.xe=fun _ _=>False:=by rw[<- hY];rfl
 have e7:Y.env.locals=C:=by rw[eY];rfl
 have e8:Y.ex=D::fp:=by rw[<- hY];rfl
 have e9:Y.pn = []:=by rw[<- hY];rfl
 have e10:Y.fs=frs X.stack:=by rw[<- hY];rfl
 have e11:∀x c,Y.env.cells.lookup x=some c->∀b∈D::fp,c≠b:=fun x c e b hb=>(IY.ok.exf b (by rw[e8];exact hb)).2 x c e
 have nst:∀b∈D::fp,b∉Y.fs:=fun b hb=>IY.ok.exfs b (by rw[e8];exact hb)
 have fpY:∀(pinsY:List (Addr × Obj)) (H':Hp),(∀p∈pinsY,p.1=D)->∀b∈fp,H' b=none->Z3s Y pinsY H' b:=fun pinsY H' hp b hb hn =>
  ⟨hn,by rw[e7,hC];exact Nat.ne_of_lt (hlt b (List.mem_cons_of_mem _ hb)),nst b (List.mem_cons_of_mem _ hb),.inl (by rw[e8];exact List.mem_cons_of_mem _ hb),fun x c e=>e11 x c e b (List.mem_cons_of_mem _ hb),fun p hp' z=>by
   rw[e9,List.nil_append] at hp'
   have q:=hp p hp'
   rw[z] at q
   rw[q] at hb
   exact hDf hb⟩
 have fpD:∀(pinsY:List (Addr × Obj)) (H':Hp),(∀p∈pinsY,p.1≠D)->H' D=none->Z3s Y pinsY H' D:=fun pinsY H' hp hn =>
  ⟨hn,by rw[e7,hC];exact Nat.ne_of_lt (hlt D List.mem_cons_self),nst D List.mem_cons_self,.inl (by rw[e8];exact List.mem_cons_self),fun x c e=>e11 x c e D List.mem_cons_self,fun p hp'=>by
   rw[e9,List.nil_append] at hp'
   exact hp p hp'⟩
 have T':Turn Y.prog Y.w Y.K tg J fp it tn:=by rw[e1,e2,e3];exact T
 rw[<- eY,<- e1,<- e2,<- e4]
 refine Z5l (fun n s'=>∃i ys us σc H',Inv Y [] σc H' s'/\tn i s'.heap/\(∀b∈fp,H' b=none)/\H' D=none/\s'.heap.PlainList D (us:List Value).toArray/\Vals ys us/\ys.length<=sizeLine/\W i n ys σc H') ?_ m0
  ⟨0,[],[],σ0,H,IY,st,fun b hb=>(hf b (List.mem_cons_of_mem _ hb)).1,(hf D List.mem_cons_self).1,pl,.nil,Nat.zero_le _,w0⟩
 rintro n s5 ⟨i,ys,us,σc,H5,I5,st5,fr5,hD5,pl5,rv5,hz5,w5⟩
 obtain⟨nn,hob⟩:=id pl5
 have I5':Inv Y [(D,{ cls := .type "list",data := .seq us.toArray nn })] σc H5 s5:=I5.pins_of fun p hp=>by
  rw[List.mem_singleton] at hp
  subst hp
  exact⟨hob,hD5,by rw[e7,hC];exact Nat.ne_of_lt (hlt D List.mem_cons_self),nst D List.mem_cons_self,fun v z=>by
   have z':Data.seq us.toArray nn=Data.cell v:=z
   cases z'⟩
 have f5:∀b∈fp,Z3s Y [(D,{ cls := .type "list",data := .seq us.toArray nn })] H5 b:=fun b hb=>fpY _ _ (fun p hp=>by rw[List.mem_singleton] at hp;rw[hp]) b hb (fr5 b hb)
 rcases turn i n ys σc H5 w5 with ⟨stop,q⟩ | ⟨go,hz,step⟩
 ·refine thn (T'.done Y rfl rfl rfl e5 i _ s5 σc H5 (fun _ _=>False) I5' f5 st5 stop) fun r s6 ⟨hr,I6⟩ => ?_
  subst hr
  exact fin s6 σc H5 ys us _ I6 hD5 ⟨nn,(I6.pin (D,_) (List.mem_append_right _ List.mem_cons_self)).1⟩ rv5 hz5 q
 ·refine thn (T'.item Y rfl rfl rfl e5 i _ s5 σc H5 (fun _ _=>False) I5' f5 st5 go) fun r s6 ⟨u,hr,h6⟩ => ?_
  subst hr
  refine thn h6 fun _ s7 ⟨x,H7,I7,r7,y7,st7,fr7⟩ => ?_
  have f7:∀b∈fp,Z3s Y [(D,{ cls := .type "list",data := .seq us.toArray nn })] H7 b:=fun b hb=>fpY _ _ (fun p hp=>by rw[List.mem_singleton] at hp;rw[hp]) b hb (fr7 b hb)
  have I7':=I7.pinned f7 (T.obj _ _ st7)
  have hx:=hg _ s7 σc H7 x u _ I7' r7 (step x H7 y7)
  rw[e6] at hx
  refine thn hx fun _ s8 ⟨σ8,H8,I8,q8⟩ => ?_
  have hx2:=ht _ s8 σ8 H8 _ I8 q8
  rw[e6] at hx2
  have keepT:∀{σ9:St} {H9:Hp} {s9:Shared},Inv Y ([(D,{ cls := .type "list",data := .seq us.toArray nn })]++Z78 fp s7.heap) σ9 H9 s9->tn (i+1) s9.heap/\(∀b∈fp,H9 b=none)/\H9 D=none/\s9.heap.get? D=some { cls := .type "list",data := .seq us.toArray nn }:=fun {σ9 H9 s9} I9=>by
   have pD:=I9.pin (D,_) (List.mem_append_right _ (List.mem_append_left _ List.mem_cons_self))
   refine⟨T.keep _ _ _ st7 fun b hb o e=>(I9.pin (b,o) (List.mem_append_right _ (List.mem_append_right _ (Z2r hb e)))).1,fun b hb => ?_,pD.2.1,pD.1⟩
   obtain⟨o,e,d⟩:=T.obj _ _ st7 b hb
   exact(I9.pin (b,o) (List.mem_append_right _ (List.mem_append_right _ (Z2r hb e)))).2.1
  refine thn hx2 fun ok s9 ⟨H9,I9,q9⟩ => ?_
  cases ok with
  | false =>
   rw[if_neg Bool.false_ne_true] at q9
   rw[if_neg Bool.false_ne_true]
   obtain⟨m',hm,w9⟩:=q9
   obtain⟨k1,k2,k3,k4⟩:=keepT I9
   exact⟨m',hm,i+1,ys,us,σ8,H9,I9.pins_of (fun p hp=>nomatch hp),k1,k2,k3,⟨nn,k4⟩,rv5,hz5,w9⟩
  | true =>
   rw[if_pos rfl] at q9
   rw[if_pos rfl]
   have hx3:=he _ s9 σ8 H9 _ I9 q9
   rw[e6] at hx3
   refine thn hx3 fun xv s10 ⟨v,H10,I10,r10,m',hm,w10⟩ => ?_
   obtain⟨k1,k2,k3,k4⟩:=keepT I10
   have hl:=rv5.length
   refine wpAny_list_append_plain ⟨nn,k4⟩ (fun h' pl' sb => ?_) (by rw[List.size_toArray];omega)
   have fD:=fpD [] H10 (fun p hp=>nomatch hp) k3
   have I11:Inv Y [] σ8 H10 { s10 with heap:=h' }:=(I10.pins_of (pins' := []) fun p hp=>nomatch hp).turned (t':=s10.toks) (fun b o hb e=>(sb.2 b hb).trans e) fD.1 fD.2.1 fD.2.2.2.1 fD.2.2.2.2.1 fD.2.2.2.2.2
   refine⟨m',hm,i+1,ys ++ [v],us ++ [xv],σ8,H10,I11,T.keep _ _ _ k1 (fun b hb o e=>(sb.2 b ?_).trans e),k2,k3,?_,rv5.append (.cons r10 .nil),?_,w10⟩
   ·intro z;rw[z] at hb;exact hDf hb
   ·rw[show(us ++ [xv]).toArray=us.toArray.push xv by simp];exact pl'
   ·rw[List.length_append,List.length_singleton];exact hz
theorem Z1a (hc:X.calm=true)(S:CompScope X scope N' src)(hi:PI X tg iter wi)
  (hb:∀cl C ex s0 H0,PG (Z2h X N' scope cl C ex s0 H0) tg g/\PTs (Z2h X N' scope cl C ex s0 H0) ifs tt/\PE (Z2h X N' scope cl C ex s0 H0) elt te)
  (hs:∀x,foldedSetIterable iter X.env x=pure x:=by intro _;rfl):PE X (.ListComp elt [⟨tg,iter,ifs,0⟩] scope pos) (Zfv src wi g tt te):=by
 intro pins s σ H Q I h
 obtain⟨cl,hclos,hcl1,hcl2⟩:=Z44 (scope:=scope) (env:=X.env) fun n hn=>I.ok.has n (S.fr n hn)
 rw[eval_ListComp]
 refine wpAny_comprehension_free (use:=none) rfl hs hclos S.kind S.names ?_
 refine thn (hi pins s σ H _ I h) fun v s1 h1=>thn h1 fun itv s2 h2 => ?_
 obtain⟨it,fp,tn,J,H2,e,I2,T,st2,f2,W,⟨m0,w0⟩,turn⟩:=h2
 subst e
 refine wpAny_newObj_type (wpAny_newFunctionEnv S.cell (by intro y hy;simp at hy) (fun h₁ hns₁ hsb₁ => ?_) S.kind)
 dsimp only at hns₁ hsb₁ ⊢
 generalize hH3:s2.heap.push { cls := .type "list",dict:=none,data := .seq ([]:List Value).toArray }=H3 at hns₁ hsb₁ ⊢
 have hsz:H3.objs.size=s2.heap.objs.size+1:=by rw[<- hH3,Heap.size_push]
 have I3:Inv X pins σ H2 { s2 with heap:=H3 }:=I2.kept (t':=s2.toks) fun b o e=>by rw[<- hH3];exact Heap.get?_push_of_some _ e
 have fD:Z3s X pins H2 s2.heap.objs.size:=I2.fpOk (Nat.le_refl _) (I2.hok.fresh (Nat.le_refl _))
 have hDf:s2.heap.objs.size∉fp:=fun hm=>by
  obtain⟨o,e,_⟩:=T.obj 0 _ st2 _ hm
  exact Nat.lt_irrefl _ (Heap.lt_size e)
 have hf:∀b∈s2.heap.objs.size::fp,Z3s X pins H2 b:=fun b hb=>by
  rcases List.mem_cons.mp hb with z | z
  ·rw[z];exact fD
  ·exact f2 b z
 have hlt:∀b∈s2.heap.objs.size::fp,b<H3.objs.size:=fun b hb=>by
  rcases List.mem_cons.mp hb with z | z
  ·rw[z,hsz];exact Nat.lt_succ_self _
  ·obtain⟨o,e,_⟩:=T.obj 0 _ st2 b z
   rw[hsz];exact Nat.lt_succ_of_lt (Heap.lt_size e)
 have kp:∀b o,H3.get? b=some o->h₁.get? b=some o:=fun b o e=>hsb₁.extBut b o (Nat.ne_of_lt (Heap.lt_size e)) (Heap.get?_push_of_some _ e)
 have kp0:∀b o,s2.heap.get? b=some o->h₁.get? b=some o:=fun b o e=>kp b o (by rw[<- hH3];exact Heap.get?_push_of_some _ e)
 have hacc:h₁.PlainList s2.heap.objs.size #[]:=⟨_,kp _ _ (by rw[<- hH3];exact Heap.get?_push_size _ rfl)⟩
 have st1:tn 0 h₁:=T.keep _ _ _ st2 fun b _ o e=>kp0 b o e
 have IY:=Z7f (N':=N') (src:=src) (scope:=scope) (cl:=cl) (C:=H3.objs.size) (D:=s2.heap.objs.size) (fp:=fp) (s3:={ s2 with heap:=H3 }) (h1:=h₁) (tk:=s2.toks) S I3 hcl1 hcl2 rfl hf hlt hns₁ kp
 obtain⟨hg,ht,he⟩:=hb cl H3.objs.size (s2.heap.objs.size::fp) { s2 with heap:=H3 } H2
 have loop:=Zb3 (R:=compPost (model X.prog X.w) X.A X.xe none (EP X pins σ Q) (.ref s2.heap.objs.size) H3.objs.size) (elt:=elt) (iter:=iter) (ifs:=ifs) (pos:=pos) (Q:=fun ys H=>∀l,H l=none->Q (.ref l) (upd H l (.lst ys)))
  hc T I3 rfl hf hlt hDf IY st1 hacc hg ht he w0 turn (fun s5 σc H' ys us pinsY IY5 hD pl rv hz q=>by
   obtain⟨m,hn,_⟩:=IY5.loc
   refine⟨m,hn,fun h' hs'=>⟨.ref s2.heap.objs.size,upd H' s2.heap.objs.size (.lst ys),?_,rfl,q _ hD⟩⟩
   exact Z7g I3 rfl hf hlt IY5 hD pl rv hz hs')
 exact codeAny_compStart_list loop (T.self _ 0 _ _ _ st1 loop)
end
section
variable {X:Cx}{tg:Expr}
inductive rSlS (x:V)(lo:Option Int)(hi:Option Int)(H:Hp)(Q:VK):Prop
 | mk (z:_) (_:x = .str z) (_:z.length<=sizeLine) (_:Q (.str (Txt.slice z lo hi)) H):rSlS x lo hi H Q
theorem Zdv:SlR X rSlS:=by
 intro pins s σ H x v vl vu lo hi sl Q I rx hs pl pu h
 obtain⟨z,rfl,hz,q⟩:=h
 obtain⟨t,rfl⟩:=rx
 refine⟨"str",_,F.slot_str_getitem.lookup,typeIs_str _ _ _,?_⟩
 obtain⟨os,hos,hcs,hds⟩:=id hs
 have fin:∀t' k,EP X pins σ Q (.str (Txt.slice z lo hi) t') { s with toks:=k }:=fun t' k=>⟨.str _,H,I.tok _,⟨_,rfl⟩,q⟩
 cases pl with
 | none =>
  cases pu with
  | none=>exact wpAny_getItem_str_slice (l:=none) (u:=none) (st:=none) ⟨os,hos,hcs,hds⟩ rfl (post_val_or_str ⟨Nat.le_trans (Txt.slice_le z _ _) hz,fin⟩)
  | int j uj=>exact wpAny_getItem_str_slice (l:=none) (u:=some (j,uj)) (st:=none) ⟨os,hos,hcs,hds⟩ rfl (post_val_or_str ⟨Nat.le_trans (Txt.slice_le z _ _) hz,fin⟩)
 | int i ui =>
  cases pu with
  | none=>exact wpAny_getItem_str_slice (l:=some (i,ui)) (u:=none) (st:=none) ⟨os,hos,hcs,hds⟩ rfl (post_val_or_str ⟨Nat.le_trans (Txt.slice_le z _ _) hz,fin⟩)
  | int j uj=>exact wpAny_getItem_str_slice (l:=some (i,ui)) (u:=some (j,uj)) (st:=none) ⟨os,hos,hcs,hds⟩ rfl (post_val_or_str ⟨Nat.le_trans (Txt.slice_le z _ _) hz,fin⟩)
theorem Z1e:Z48 X (.builtin "isinstance") (fun xs H Q=>∃x T ty b,xs = [x,.ty T]/\TyOf X.K H x ty/\PySem.W.kitOne X.K ty (.type T)=some b/\Q (.bl b) H):=by
 intro pins s σ H xs us Q I r h
 obtain⟨x,T,ty,b,rfl,h1,h2,q⟩:=h
 obtain⟨u,w',rfl,rx,rT⟩:=Zib r
 cases (show w'=Value.type T from rT)
 exact Zdc I rx h1 h2 fun tk=>⟨.bl b,H,I.tok _,rfl,q⟩
theorem Zb4:∀{bs:List Bool} {us:List Value},Vals (bs.map V.bl) us->us=bs.map Value.bool
 | [],us,r=>by cases r;rfl
 | b::bs,us,r=>by
  cases r with
  | cons r1 r2=>cases r1;rw[Zb4 r2];rfl
theorem Zcb (bs:List Bool):((List.range bs.length).all fun i=>(bs[i]?).getD true)=bs.all id:=by
 rw[Bool.eq_iff_iff,List.all_eq_true,List.all_eq_true]
 constructor
 ·intro h b hb
  obtain⟨i,hi,rfl⟩:=List.getElem_of_mem hb
  have:=h i (List.mem_range.mpr hi)
  simpa [List.getElem?_eq_getElem hi] using this
 ·intro h i hi
  have hi':=List.mem_range.mp hi
  rw[List.getElem?_eq_getElem hi']
  exact h _ (List.getElem_mem hi')
theorem Z6b (hc:X.calm=true):Z48 X (.builtin "all") (fun xs H Q=>∃(p:Addr) (bs:List Bool),xs = [.ref p]/\SqL X.K H p (bs.map V.bl)/\Q (.bl (bs.all id)) H):=by
 intro pins s σ H xs us Q I r h
 obtain⟨p,bs,rfl,hq,q⟩:=h
 obtain⟨u,rfl,rx⟩:=Z7u r
 cases rx
 obtain⟨its,r',pl,hz⟩:=I.list hq
 have e:=Zb4 r'
 subst e
 have hlt:p<s.heap.objs.size:=by obtain⟨_,e,_⟩:=pl.isList;exact Heap.lt_size e
 refine call_all_walk (wpAny_pyIter_list pl.isList ?_)
 refine⟨s.heap.objs.size,[s.heap.objs.size,p],[s.heap.objs.size],(bs.map Value.bool).toArray.size,_,_,fun i=>(bs[i]?).getD true,rfl,Walks.list (A:=X.A.in1) (I.ok.hd hc) _ p (Nat.ne_of_lt hlt) (bs.map Value.bool).toArray,
  ⟨⟨_,Heap.get?_push_size _ rfl,rfl,rfl⟩,pl.isList.push _⟩,fun i v s' Q' E' hP hQ => ?_,fun h' tk hk => ?_⟩
 ·have hP':(bs.map Value.bool)[i]? = some v:=by simpa using hP
  rw[List.getElem?_map] at hP'
  cases e:bs[i]? with
  | none=>rw[e] at hP';cases hP'
  | some b =>
   rw[e] at hP'
   cases hP'
   simp only [e,Option.getD_some] at hQ
   exact wpAny_truthy_bool hQ
 ·have e:((List.range (bs.map Value.bool).toArray.size).all fun i=>(bs[i]?).getD true)=bs.all id:=by
   rw[List.size_toArray,List.length_map];exact Zcb bs
  rw[e]
  refine⟨.bl _,H,I.kept fun b o eb=>hk b o ?_ (Heap.get?_push_of_some _ eb),rfl,q⟩
  intro z
  rw[List.mem_singleton.mp z] at eb
  exact Nat.lt_irrefl _ (Heap.lt_size eb)
def Zmp (xs ys:List V):Bool:=xs.length==ys.length&&(List.range xs.length).all fun j=>eqV (xs.getD j .non) (ys.getD j .non)
end
section
variable {X:Cx}{elt tg iter:Expr}{ifs:List Expr}{scope:Scope}{pos:Pos}{N':List Str}{src:List (Option Nat)}{wi:TI}{g:TG}{tt:TT}{te:TE}
theorem Zcc {i:Nat}{x:Str}{pos' spos:Pos}(hc:X.calm=true)(hN:X.N.Nodup)(hix:X.N[i]? = some x)(hx:Loc X.env.scope x)(S:CompScope X scope N' src)(hi:PI X tg iter wi)
  (hb:∀cl C ex s0 H0,PG (Z2h X N' scope cl C ex s0 H0) tg g/\PTs (Z2h X N' scope cl C ex s0 H0) ifs tt/\PE (Z2h X N' scope cl C ex s0 H0) elt te)
  (hsw:swapsWith (.ListComp elt [⟨tg,iter,ifs,0⟩] scope pos) (some (.Name x pos')) spos.line X.env=pure true:=by rfl)
  (hs:∀x,foldedSetIterable iter X.env x=pure x:=by intro _;rfl)
  (hfn:X.fn x=true∨X.env.scope.names.lookup x=some .local:=by first | exact .inl rfl | exact .inr rfl | assumption) :
  PS X (.Assign [.Name x pos'] (.ListComp elt [⟨tg,iter,ifs,0⟩] scope pos) spos) (Zk2 (Zfv src wi g tt te) (Z8o i)):=by
 intro pins s σ H D I h
 obtain⟨cl,hclos,hcl1,hcl2⟩:=Z44 (scope:=scope) (env:=X.env) fun n hn=>I.ok.has n (S.fr n hn)
 rw[exec_Assign_Name_used _ _ _ _ hsw]
 refine wpAny_bind (wpAny_standAt (wpAny_bind ?_))
 show wpAny _ _ (do let _ ← comprehension (.ListComp elt [⟨tg,iter,ifs,0⟩] scope pos) scope X.env _ (newList []) false (eval iter X.env) (some (assign (.Name x pos') X.env))) _ _ s
 refine wpAny_bind (wpAny_mono (wpAny_comprehension_free (use:=some (assign (.Name x pos') X.env)) (Q:=fun _ s'=>SP X pins D .next s') rfl hs hclos S.kind S.names ?_) (fun _ s' hq=>wpAny_pure (wpAny_pure hq)) fun _ _ e=>e)
 refine thn (hi pins s σ H _ I h) fun v s1 h1=>thn h1 fun itv s2 h2 => ?_
 obtain⟨it,fp,tn,J,H2,e,I2,T,st2,f2,W,⟨m0,w0⟩,turn⟩:=h2
 subst e
 refine wpAny_newObj_type (wpAny_newFunctionEnv S.cell (by intro y hy;simp at hy) (fun h₁ hns₁ hsb₁ => ?_) S.kind)
 dsimp only at hns₁ hsb₁ ⊢
 generalize hH3:s2.heap.push { cls := .type "list",dict:=none,data := .seq ([]:List Value).toArray }=H3 at hns₁ hsb₁ ⊢
 have hsz:H3.objs.size=s2.heap.objs.size+1:=by rw[<- hH3,Heap.size_push]
 have I3:Inv X pins σ H2 { s2 with heap:=H3 }:=I2.kept (t':=s2.toks) fun b o e=>by rw[<- hH3];exact Heap.get?_push_of_some _ e
 have fD:Z3s X pins H2 s2.heap.objs.size:=I2.fpOk (Nat.le_refl _) (I2.hok.fresh (Nat.le_refl _))
 have hDf:s2.heap.objs.size∉fp:=fun hm=>by
  obtain⟨o,e,_⟩:=T.obj 0 _ st2 _ hm
  exact Nat.lt_irrefl _ (Heap.lt_size e)
 have hf:∀b∈s2.heap.objs.size::fp,Z3s X pins H2 b:=fun b hb=>by
  rcases List.mem_cons.mp hb with z | z
  ·rw[z];exact fD
  ·exact f2 b z
 have hlt:∀b∈s2.heap.objs.size::fp,b<H3.objs.size:=fun b hb=>by
  rcases List.mem_cons.mp hb with z | z
  ·rw[z,hsz];exact Nat.lt_succ_self _
  ·obtain⟨o,e,_⟩:=T.obj 0 _ st2 b z
   rw[hsz];exact Nat.lt_succ_of_lt (Heap.lt_size e)
 have kp:∀b o,H3.get? b=some o->h₁.get? b=some o:=fun b o e=>hsb₁.extBut b o (Nat.ne_of_lt (Heap.lt_size e)) (Heap.get?_push_of_some _ e)
 have kp0:∀b o,s2.heap.get? b=some o->h₁.get? b=some o:=fun b o e=>kp b o (by rw[<- hH3];exact Heap.get?_push_of_some _ e)
 have hacc:h₁.PlainList s2.heap.objs.size #[]:=⟨_,kp _ _ (by rw[<- hH3];exact Heap.get?_push_size _ rfl)⟩
 have st1:tn 0 h₁:=T.keep _ _ _ st2 fun b _ o e=>kp0 b o e
 have IY:=Z7f (N':=N') (src:=src) (scope:=scope) (cl:=cl) (C:=H3.objs.size) (D:=s2.heap.objs.size) (fp:=fp) (s3:={ s2 with heap:=H3 }) (h1:=h₁) (tk:=s2.toks) S I3 hcl1 hcl2 rfl hf hlt hns₁ kp
 obtain⟨hg,ht,he⟩:=hb cl H3.objs.size (s2.heap.objs.size::fp) { s2 with heap:=H3 } H2
 have loop:=Zb3 (R:=compPost (model X.prog X.w) X.A X.xe (some (assign (.Name x pos') X.env)) (fun _ s'=>SP X pins D .next s') (.ref s2.heap.objs.size) H3.objs.size) (elt:=elt) (iter:=iter) (ifs:=ifs) (pos:=pos) (Q:=fun ys H=>∀l,H l=none->D.nx (σ.set i (some (.ref l))) (upd H l (.lst ys)))
  hc T I3 rfl hf hlt hDf IY st1 hacc hg ht he w0 turn (fun s5 σc H' ys us pinsY IY5 hD pl rv hz q=>by
   have IX:Inv X pins σ (upd H' s2.heap.objs.size (.lst ys)) s5:=Z7g (h':=s5.heap) I3 rfl hf hlt IY5 hD pl rv hz (.refl ..)
   show wpAny _ _ (assign (.Name x pos') X.env (.ref s2.heap.objs.size)) _ _ s5
   refine wpAny_assign_Name (Z64 (v := .ref s2.heap.objs.size) IX hN hix hx rfl (fun s6 I6 ⟨a,sb,ha⟩ => ?_) hfn)
   obtain⟨m,hn,_⟩:=IY5.loc
   have fC:Z3s X pins (upd H' s2.heap.objs.size (.lst ys)) H3.objs.size:=I3.fpOk (Nat.le_refl _) (by
    rw[Z08 (by rw[hsz];exact Nat.ne_of_gt (Nat.lt_succ_self _))]
    exact IY5.free)
   have hCa:H3.objs.size≠a:=by
    rcases ha with z | z
    ·rw[z];exact fC.2.1
    ·exact fun q=>fC.2.2.2.2.1 x a z q.symm
   refine⟨m,hn.sameBut sb hCa,fun h' hs'=>⟨_,_,I6.turned (t':=s6.toks) (fun b o hb e=>(hs'.2 b hb).trans e) fC.1 fC.2.1 fC.2.2.2.1 fC.2.2.2.2.1 fC.2.2.2.2.2,q _ hD⟩⟩)
 exact codeAny_compStart_list loop (T.self _ 0 _ _ _ st1 loop)
end
section
variable {X:Cx}
def Zmq (_ j:Int):Prop:=0<j/\j<18446744073709551616
theorem Z5w:OpR X (binaryOp .FloorDiv) (rI Zmq fun i j => .int (i / j)):=opI fun i j _ _ _ _ _ hc q=>by
 have h1:(0:Int)<j:=hc.1
 have h2:j<18446744073709551616:=hc.2
 refine floordiv_int (by omega) (by rw[Int.fdiv_eq_ediv_of_nonneg i (by omega)];exact q) (.inl (PyProof.noPylong_of_log2 ?_))
 have h64:j.natAbs.log2<64:=(Nat.log2_lt (by omega)).mpr (by omega)
 omega
theorem Z5b (hu:X.A.units<cLine):OpR X (compareOp .NotEq) (fun x y H Q=>∃a b xs ys,x = .ref a/\y = .ref b/\SqL X.K H a xs/\SqL X.K H b ys/\xs.all Z49=true/\ys.all Z49=true/\Q (.bl (!Zmp xs ys)) H):=by
 intro pins s σ H x y v u Q I rx ry h
 obtain⟨a,b,xs,ys,rfl,rfl,hx,hy,fx,fy,q⟩:=h
 cases rx
 cases ry
 obtain⟨its,r,pl,hz⟩:=I.list hx
 obtain⟨its2,r2,pl2,hz2⟩:=I.list hy
 have hl:=r.length
 have hl2:=r2.length
 by_cases hs:xs.length=ys.length
 ·refine SeqAt.RcNeAt.lists (e:=fun j=>eqV (xs.getD j .non) (ys.getD j .non)) pl.isList pl2.isList (by simp only [List.size_toArray];omega) hu (fun j h1 h2 => ?_) X.prog X.w _ _ ?_
  ·simp only [List.size_toArray] at h1 h2
   have g1:xs[j]? = some xs[j]:=List.getElem?_eq_getElem (by omega)
   have g2:ys[j]? = some ys[j]:=List.getElem?_eq_getElem (by omega)
   obtain⟨u1,e1,ru1⟩:=r.get g1
   obtain⟨u2,e2,ru2⟩:=r2.get g2
   have k1:its.toArray[j]=u1:=by
    have:its[j]? = some its[j]:=List.getElem?_eq_getElem h1
    rw[e1] at this
    simpa using (Option.some.inj this).symm
   have k2:its2.toArray[j]=u2:=by
    have:its2[j]? = some its2[j]:=List.getElem?_eq_getElem h2
    rw[e2] at this
    simpa using (Option.some.inj this).symm
   rw[k1,k2,show xs.getD j .non=xs[j] by simp [List.getD,g1],show ys.getD j .non=ys[j] by simp [List.getD,g2]]
   exact Zaw ru1 ru2 (List.all_eq_true.mp fx _ (List.getElem_mem _)) (List.all_eq_true.mp fy _ (List.getElem_mem _))
  ·refine Z0w I q ?_
   unfold Zmp
   rw[List.size_toArray,<- hl,hs]
   simp
 ·refine SeqAt.RcNeAt.lists_lengths pl.isList pl2.isList (by simp only [List.size_toArray,bne_iff_ne];omega) hu X.prog X.w _ _ ?_
  refine Z0w I q ?_
  unfold Zmp
  rw[beq_eq_false_iff_ne.mpr hs]
  rfl
end
inductive tCut (t u:TS)(D:Ends)(σ:St)(H:Hp):Prop
 | mk (Pv:St->Hp->Prop) (_:t { D with nx:=Pv } σ H) (_:∀ σ' H',Pv σ' H'->u D σ' H'):tCut t u D σ H
section
variable {X:Cx}{st:Stmt}{rest:List Stmt}{t u:TS}
theorem Z0u (h1:PS X st t)(h2:PSs X rest u):PSs X (st::rest) (tCut t u):=by
 intro pins s σ H D I h
 obtain⟨Pv,h,hr⟩:=h
 refine wpAny_execs_cons (thn (h1 pins s σ H { D with nx:=Pv } I h) fun f s1 q => ?_)
 cases f with
 | next =>
  obtain⟨σ',H',I',q⟩:=q
  exact h2 pins s1 σ' H' D I' (hr σ' H' q)
 | ret v=>exact q
 | brk=>exact q
 | cont=>exact q
end
def Zb5 (kindOf:Str->Option NameKind)(XN:List Str)(scope:Scope)(N':List Str)(src:List (Option Nat)):Bool :=
 (scope.kind == .function)&&(scope.names.all fun y=>(y.2 != .cell)&&(y.2 != .local||scope.names.lookup y.1==some .local)&&(y.2 != .free||((kindOf y.1==some .cell||kindOf y.1==some .free)&&scope.names.lookup y.1 != some .local))) &&
 (N'.length==src.length)&&((List.range src.length).all fun i=>match src[i]? with
  | some (some j)=>(match N'[i]?,XN[j]? with | some x,some y=>x==y&&scope.names.contains (x,NameKind.free) | _,_=>false)
  | _=>true)
theorem Z0i {X:Cx}{scope:Scope}{N':List Str}{src:List (Option Nat)}(sc:Scope)(hsc:X.env.scope=sc)(N:List Str)(hN:X.N=N)(h:Zb5 (fun x=>sc.names.lookup x) N scope N' src=true):CompScope X scope N' src:=by
 subst hsc hN
 unfold Zb5 at h
 simp only [Bool.and_eq_true,List.all_eq_true,beq_iff_eq,bne_iff_ne,ne_eq,Bool.or_eq_true] at h
 obtain⟨⟨⟨h1,h2⟩,h3⟩,h4⟩:=h
 refine⟨h1,fun y hy=>(h2 y hy).1.1,fun y hy hl => ?_,fun n hn => ?_,fun n hn => ?_,h3,fun i j e => ?_⟩
 ·rcases(h2 y hy).1.2 with z | z
  ·exact absurd hl z
  ·exact z
 ·rcases(h2 _ hn).2 with z | z
  ·exact absurd rfl z
  ·exact z.1
 ·rcases(h2 _ hn).2 with z | z
  ·exact absurd rfl z
  ·exact z.2
 ·have hi:i<src.length:=(List.getElem?_eq_some_iff.mp e).1
  have q:=h4 i (List.mem_range.mpr hi)
  rw[e] at q
  dsimp only at q
  cases e1:N'[i]? with
  | none=>rw[e1] at q;cases q
  | some x =>
   cases e2:X.N[j]? with
   | none=>rw[e1,e2] at q;cases q
   | some y =>
    rw[e1,e2] at q
    simp only [Bool.and_eq_true,beq_iff_eq] at q
    obtain⟨rfl,q⟩:=q
    exact⟨x,rfl,rfl,by simpa using q⟩
def Nx (N i:Nat)(P:Prop):Prop:=∃m',m'<N-i/\m'=N-(i+1)/\i+1<=N/\P
theorem nx {N i:Nat}{P:Prop}(h:i<N)(p:P):Nx N i P:=⟨_,by omega,rfl,h,p⟩
section
variable {x:Str}{σ0:St}{H:Hp}{g:TG}{tt:TT}{te:TE}{Q:List V->Hp->Prop}
theorem Z3c {lo:Int}{n:Nat}(Pv:Nat->List V->St->Hp->Prop)(h0:Pv 0 [] σ0 H)
  (hs:∀i ys σc H,i<n->Pv i ys σc H->ys.length<sizeLine/\g (.int (lo+i)) σc H fun σ2 H2=>tt σ2 H2 fun b H3 =>
   if b=true then te σ2 H3 fun v H4=>Nx n i (Pv (i+1) (ys ++ [v]) σ2 H4) else Nx n i (Pv (i+1) ys σ2 H3))
  (hd:∀ys σc H,Pv n ys σc H->Q ys H) :
  ∃W:Nat->Nat->List V->St->Hp->Prop,(∃m,W 0 m [] σ0 H)/\∀i m ys σc H,W i m ys σc H →
   ((Itr lo n).stop i H/\Q ys H)∨((Itr lo n).go i H/\ys.length<sizeLine/\∀v H',(Itr lo n).yld i H v H'->g v σc H' fun σ2 H2=>tt σ2 H2 fun b H3 =>
    if b=true then te σ2 H3 fun v H4=>∃m',m'<m/\W (i+1) m' (ys ++ [v]) σ2 H4 else ∃m',m'<m/\W (i+1) m' ys σ2 H3):=by
 refine⟨fun i m ys σc H=>m=n-i/\i<=n/\Pv i ys σc H,⟨_,rfl,Nat.zero_le _,h0⟩,?_⟩
 rintro i m ys σc H ⟨rfl,hi,p⟩
 by_cases hlt:i<n
 ·obtain⟨z,_⟩:=hs i ys σc H hlt p
  refine .inr ⟨hlt,z,fun v H' y => ?_⟩
  obtain⟨e,ev⟩:=y
  subst e ev
  exact(hs i ys σc _ hlt p).2
 ·have e:i=n:=by omega
  subst e
  exact .inl ⟨Nat.le_refl _,hd ys σc H p⟩
end
theorem Z02 {H:Hp}{a:Addr}{o:HO}(h:H a=none):Same H (upd H a o):=fun b u e=>by rw[Z08 (Z0a e h)];exact e
theorem Zkl {α : Type}{xs:List α}(h:0<xs.length)(i:Int):∃v,v∈xs/\atI xs (i % (xs.length:Int))=some v:=by
 have h0:0<=i % (xs.length:Int):=Int.emod_nonneg _ (by omega)
 have h1:i % (xs.length:Int)<xs.length:=Int.emod_lt_of_pos _ (by omega)
 obtain⟨j,hj⟩:=Int.eq_ofNat_of_zero_le h0
 have hl:j<xs.length:=by omega
 refine⟨xs[j],List.getElem_mem hl,?_⟩
 rw[hj]
 exact Z2c (List.getElem?_eq_getElem hl)
theorem Z3w {α : Type}{xs:List α}{i:Int}(h0:0<=i)(h1:i<xs.length):∃v,v∈xs/\atI xs i=some v:=by
 obtain⟨j,hj⟩:=Int.eq_ofNat_of_zero_le h0
 have hl:j<xs.length:=by omega
 refine⟨xs[j],List.getElem_mem hl,?_⟩
 rw[hj]
 exact Z2c (List.getElem?_eq_getElem hl)
section
variable {X:Cx}{es:List Expr}{te:TE}{t:TA}
theorem Z1r {c:Const}{j:Nat}{p:Pos}(h:PE X (.Constant c j p) te)(hr:PA X es t):PA X (.Constant c j p::es) (Zdd te t):=Z09 h hr rfl
theorem Z0h {x:Str}{p:Pos}(h:PE X (.Name x p) te)(hr:PA X es t):PA X (.Name x p::es) (Zdd te t):=Z09 h hr rfl
theorem Zfw {xs:List Expr}{j:Nat}{p:Pos}(h:PE X (.Tuple xs j p) te)(hr:PA X es t):PA X (.Tuple xs j p::es) (Zdd te t):=Z09 h hr rfl
theorem Z2s {f:Expr}{xs:List Expr}{ks:List Keyword}{p:Pos}(h:PE X (.Call f xs ks p) te)(hr:PA X es t):PA X (.Call f xs ks p::es) (Zdd te t):=Z09 h hr rfl
end
def Z6c:Expr->Option V
 | .Constant (.int i) _ _=>some (.int i)
 | .Constant (.str x) _ _=>some (.str x)
 | .Constant (.bool b) _ _=>some (.bl b)
 | .Constant .none _ _=>some .non
 | _=>none
theorem Z94 {X:Cx}:∀{es:List Expr} {vs:List V},es.map Z6c=vs.map some->PA X es (fun _ H Q=>Q vs H)
 | [],[],_=>Z01
 | [],v::vs,h=>by cases h
 | e::es,[],h=>by cases h
 | e::es,v::vs,h=>by
  rw[List.map_cons,List.map_cons] at h
  injection h with h1 h2
  have ih:=Z94 (X:=X) h2
  cases e with
  | Constant c j p =>
   cases c with
   | int i=>cases h1;exact Z1r Z04 ih
   | str x=>cases h1;exact Z1r Z0e ih
   | bool b=>cases h1;exact Z1r Z9w ih
   | none=>cases h1;exact Z1r Zd2 ih
   | _=>cases h1
  | _=>cases h1
theorem nd1 (x:Str) : [x].Nodup:=by simp
section
variable {K:PySem.W.Frag}{a:Addr}{xs:List V}{σ0:St}{H:Hp}{g:TG}{tt:TT}{te:TE}{Q:List V->Hp->Prop}
theorem Z2q (Pv:Nat->List V->St->Hp->Prop)(h0:Pv 0 [] σ0 H)(hl:∀i ys σc H,Pv i ys σc H->SqT K H a xs)
  (hs:∀i x ys σc H,xs[i]? = some x->i<xs.length->Pv i ys σc H->ys.length<sizeLine/\g x σc H fun σ2 H2=>tt σ2 H2 fun b H3 =>
   if b=true then te σ2 H3 fun v H4=>Nx xs.length i (Pv (i+1) (ys ++ [v]) σ2 H4) else Nx xs.length i (Pv (i+1) ys σ2 H3))
  (hd:∀ys σc H,Pv xs.length ys σc H->Q ys H) :
  ∃W:Nat->Nat->List V->St->Hp->Prop,(∃m,W 0 m [] σ0 H)/\∀i m ys σc H,W i m ys σc H →
   ((Itt K a).stop i H/\Q ys H)∨((Itt K a).go i H/\ys.length<sizeLine/\∀v H',(Itt K a).yld i H v H'->g v σc H' fun σ2 H2=>tt σ2 H2 fun b H3 =>
    if b=true then te σ2 H3 fun v H4=>∃m',m'<m/\W (i+1) m' (ys ++ [v]) σ2 H4 else ∃m',m'<m/\W (i+1) m' ys σ2 H3):=by
 refine⟨fun i m ys σc H=>m=xs.length-i/\i<=xs.length/\Pv i ys σc H,⟨_,rfl,Nat.zero_le _,h0⟩,?_⟩
 rintro i m ys σc H ⟨rfl,hi,p⟩
 have q:=hl i ys σc H p
 by_cases hlt:i<xs.length
 ·have hx:xs[i]? = some xs[i]:=List.getElem?_eq_getElem hlt
  obtain⟨z,_⟩:=hs i _ ys σc H hx hlt p
  refine .inr ⟨⟨xs,xs[i],q,hx⟩,z,fun v H' y => ?_⟩
  obtain⟨e,y⟩:=y
  subst e
  exact(hs i v ys σc _ (y xs q) hlt p).2
 ·have e:i=xs.length:=by omega
  subst e
  exact .inl ⟨⟨xs,q,Nat.le_refl _⟩,hd ys σc H p⟩
theorem Z1q (Pv:Nat->List V->St->Hp->Prop)(h0:Pv 0 [] σ0 H)(hl:∀i ys σc H,Pv i ys σc H->SqL K H a xs)
  (hs:∀i x ys σc H,xs[i]? = some x->i<xs.length->Pv i ys σc H->ys.length<sizeLine/\g x σc H fun σ2 H2=>tt σ2 H2 fun b H3 =>
   if b=true then te σ2 H3 fun v H4=>Nx xs.length i (Pv (i+1) (ys ++ [v]) σ2 H4) else Nx xs.length i (Pv (i+1) ys σ2 H3))
  (hd:∀ys σc H,Pv xs.length ys σc H->Q ys H) :
  ∃W:Nat->Nat->List V->St->Hp->Prop,(∃m,W 0 m [] σ0 H)/\∀i m ys σc H,W i m ys σc H →
   ((Itl K a).stop i H/\Q ys H)∨((Itl K a).go i H/\ys.length<sizeLine/\∀v H',(Itl K a).yld i H v H'->g v σc H' fun σ2 H2=>tt σ2 H2 fun b H3 =>
    if b=true then te σ2 H3 fun v H4=>∃m',m'<m/\W (i+1) m' (ys ++ [v]) σ2 H4 else ∃m',m'<m/\W (i+1) m' ys σ2 H3):=by
 refine⟨fun i m ys σc H=>m=xs.length-i/\i<=xs.length/\Pv i ys σc H,⟨_,rfl,Nat.zero_le _,h0⟩,?_⟩
 rintro i m ys σc H ⟨rfl,hi,p⟩
 have q:=hl i ys σc H p
 by_cases hlt:i<xs.length
 ·have hx:xs[i]? = some xs[i]:=List.getElem?_eq_getElem hlt
  obtain⟨z,_⟩:=hs i _ ys σc H hx hlt p
  refine .inr ⟨⟨xs,xs[i],q,hx⟩,z,fun v H' y => ?_⟩
  obtain⟨e,y⟩:=y
  subst e
  exact(hs i v ys σc _ (y xs q) hlt p).2
 ·have e:i=xs.length:=by omega
  subst e
  exact .inl ⟨⟨xs,q,Nat.le_refl _⟩,hd ys σc H p⟩
end
theorem Z31 {X:Cx}{K:PySem.W.Frag}(hK:X.K=K):Z48 X (.builtin "isinstance") (fun xs H Q=>∃x T ty b,xs = [x,.ty T]/\TyOf K H x ty/\PySem.W.kitOne K ty (.type T)=some b/\Q (.bl b) H):=by
 subst hK
 exact Z1e
theorem Zb6 {X:Cx}{e st:Expr}{te ts:TE}{pos p2:Pos}(he:PE X e te)(hst:PE X st ts):PE X (.Subscript e (.Slice none none (some st) p2) pos)
  (fun σ H Q=>te σ H fun x H1=>ts σ H1 fun y H2=>y = .int (-1)/\∃a xs,x = .ref a/\SqL X.K H2 a xs/\∀p,H2 p=none->Q (.ref p) (upd H2 p (.lst xs.reverse))):=by
 intro pins s σ H Q I h
 refine Subscript_ (thn (he pins s σ H _ I h) fun v s1 ⟨x,H1,I1,r1,q1⟩ => ?_)
 refine wpAny_Slice ?_
 rw[evalPart_none]
 refine wpAny_pure (wpAny_pure ?_)
 rw[evalPart_some]
 refine thn (hst pins s1 σ H1 _ I1 q1) fun vs s3 ⟨y,H3,I3,ry,ey,a,xs,ex,hx,q⟩ => ?_
 subst ey ex
 cases r1
 obtain⟨t,rfl⟩:=ry
 have I4:Inv X pins σ H3 { s3 with heap:=s3.heap.push { cls := .type "slice",data := .fields #[.none,.none,.int (-1) t] } }:=I3.kept (t':=s3.toks) fun b ob q=>Heap.get?_push_of_some _ q
 obtain⟨its,r,ht,hz⟩:=I4.list hx
 have hlen:=r.length
 refine tail_any (ops := [.ref a,.ref s3.heap.objs.size]) ht.isList.typeIs slot_list_getitem.lookup (wpAny_getItem_list_slice ht.isList (Heap.IsSliceOf.new ..) .none .none (.int (-1) t) (by simp) ?_ (by rw[List.size_toArray] <;> omega)) (by with_unfolding_all rfl)
 rw[PySem.W.krv_pick]
 refine⟨.ref _,_,I4.laid (t':=s3.toks) (o := .lst xs.reverse) (fun b ob q=>Heap.get?_push_of_some _ q) (Nat.le_refl _) ?_,rfl,q _ (I4.hok.fresh (Nat.le_refl _))⟩
 exact⟨by rw[List.length_reverse];exact hz,its.reverse,0,r.reverse,by
  rw[show(its.toArray.toList.reverse).toArray=its.reverse.toArray by simp]
  exact Heap.get?_push_size _ rfl⟩
theorem Z45 {α : Type}{l:List α}{i:Nat}{c : α}(p : α -> Bool)(h:l[i]? = some c):(l.take (i+1)).filter p=(l.take i).filter p++(if p c=true then [c] else []):=by
 rw[List.take_add_one,h,List.filter_append]
 cases hp:p c <;> simp [hp]
section
variable {X:Cx}{K:PySem.W.Frag}
theorem Z5c (hK:X.K=K):IxR X (rIxT K):=by subst hK;exact Z1z
theorem Zb7 (hK:X.K=K):IxR X (rIxL K):=by subst hK;exact Z11
end
inductive PV where
 | at (v:V)
 | tup (xs:List PV)
mutual
def Z6d:PV->PV->Bool
 | .at v,.at w=>eqV v w
 | .tup xs,.tup ys=>Z1u xs ys
 | .at _,.tup _=>false
 | .tup _,.at _=>false
def Z1u:List PV->List PV->Bool
 | [],[]=>true
 | x::xs,y::ys=>Z6d x y&&Z1u xs ys
 | [],_::_=>false
 | _::_,[]=>false
end
mutual
inductive IsPV (K:PySem.W.Frag)(H:Hp):Nat->V->PV->Prop where
 | at {n:Nat} {v:V} (f:Z49 v=true):IsPV K H n v (.at v)
 | tup {n:Nat} {a:Addr} {vs:List V} {ts:List PV} (h:SqT K H a vs) (r:IsPVs K H n vs ts):IsPV K H (n+1) (.ref a) (.tup ts)
inductive IsPVs (K:PySem.W.Frag)(H:Hp):Nat->List V->List PV->Prop where
 | nil {n:Nat}:IsPVs K H n [] []
 | cons {n:Nat} {v:V} {vs:List V} {t:PV} {ts:List PV} (h:IsPV K H n v t) (r:IsPVs K H n vs ts):IsPVs K H n (v::vs) (t::ts)
end
theorem IsPVs.length {K:PySem.W.Frag}{H:Hp}{n:Nat}:∀{vs:List V} {ts:List PV},IsPVs K H n vs ts->vs.length=ts.length
 | _,_,.nil=>rfl
 | _,_,.cons _ r=>congrArg (· + 1) r.length
theorem IsPVs.get {K:PySem.W.Frag}{H:Hp}{n:Nat}:∀{vs:List V} {ts:List PV} {j:Nat} {v:V},IsPVs K H n vs ts->vs[j]? = some v->∃t,ts[j]? = some t/\IsPV K H n v t
 | _,_,_,_,.nil,e=>by simp at e
 | _,_,0,_,.cons h _,e=>by simp at e;subst e;exact⟨_,rfl,h⟩
 | _,_,j+1,_,.cons _ r,e=>by
  rw[List.getElem?_cons_succ] at e
  obtain⟨t,e2,h⟩:=r.get e
  exact⟨t,by rw[List.getElem?_cons_succ];exact e2,h⟩
theorem Zb8:∀{v:V},Z49 v=true->eqV v v=true:=by
 intro v h
 cases v with
 | non=>rfl
 | bl b=>exact beq_self_eq_true b
 | int i=>exact beq_self_eq_true i
 | str x=>exact beq_self_eq_true x
 | _=>cases h
theorem Z95:∀(ts us:List PV),((List.range (min ts.length us.length)).all (fun j=>Z6d (ts.getD j (.at .non)) (us.getD j (.at .non)))&&ts.length==us.length)=Z1u ts us
 | [],[]=>by unfold Z1u;rfl
 | [],_::_=>by unfold Z1u;simp
 | _::_,[]=>by unfold Z1u;simp
 | t::ts,u::us=>by
  have ih:=Z95 ts us
  unfold Z1u
  rw[<- ih]
  simp only [List.length_cons,Nat.add_min_add_right,List.range_succ_eq_map,List.all_cons,List.all_map,Bool.and_assoc]
  simp [Function.comp_def]
section
variable {X:Cx}{pins:List (Addr × Obj)}{σ:St}{H:Hp}{s:Shared}
theorem Z6e {n:Nat}(ih:∀{v:V} {t u:PV},IsPV X.K H n v t->IsPV X.K H n v u->Z6d t u=true):∀(vs:List V) {ts us:List PV},IsPVs X.K H n vs ts->IsPVs X.K H n vs us->Z1u ts us=true:=by
 intro vs
 induction vs with
 | nil =>
  intro ts us h h'
  cases h
  cases h'
  unfold Z1u
  rfl
 | cons v vs ihv =>
  intro ts us h h'
  cases h with
  | cons a b =>
   cases h' with
   | cons a' b' =>
    unfold Z1u
    rw[ih a a',ihv b b']
    rfl
theorem Zih (I:Inv X pins σ H s):∀(n:Nat) {v:V} {t u:PV},IsPV X.K H n v t->IsPV X.K H n v u->Z6d t u=true:=by
 intro n
 induction n with
 | zero =>
  intro v t u h h'
  cases h with
  | «at» f =>
   cases h' with
   | «at» g => unfold Z6d; exact Zb8 f
 | succ n ih =>
  intro v t u h h'
  cases h with
  | «at» f =>
   cases h' with
   | «at» g => unfold Z6d; exact Zb8 f
   | tup a b=>exact absurd (show false=true from f) Bool.false_ne_true
  | tup a r =>
   cases h' with
   | «at» g => exact absurd (show false = true from g) Bool.false_ne_true
   | tup a' r' =>
    have e:=I.tuple_inj a a'
    subst e
    unfold Z6d
    exact Z6e ih _ r r'
theorem Z5x (I:Inv X pins σ H s){n:Nat}{vs:List V}{ts us:List PV}(h:IsPVs X.K H n vs ts)(h':IsPVs X.K H n vs us):Z1u ts us=true:=Z6e (Zih I n) _ h h'
theorem Zdw (I:Inv X pins σ H s){n:Nat}{A:Around}{vs ws:List V}{ts us:List PV}{its its2:List Value}(r:IsPVs X.K H n vs ts)(r':IsPVs X.K H n ws us)(v1:Vals vs its)(v2:Vals ws its2)
  (ih:∀{x y:V} {t u:PV} {v w:Value},IsPV X.K H n x t->IsPV X.K H n y u->RelV x v->RelV y w->SeqAt.EqAt A s v w (Z6d t u)) :
  (∀j (h1:j<its.toArray.size) (h2:j<its2.toArray.size),SeqAt.EqAt A s its.toArray[j] its2.toArray[j] ((fun j=>Z6d (ts.getD j (.at .non)) (us.getD j (.at .non))) j)) ∧
  ((List.range (min its.toArray.size its2.toArray.size)).all (fun j=>Z6d (ts.getD j (.at .non)) (us.getD j (.at .non)))&&its.toArray.size==its2.toArray.size)=Z1u ts us:=by
 have l1:=v1.length
 have l2:=v2.length
 have l3:=r.length
 have l4:=r'.length
 constructor
 ·intro j h1 h2
  simp only [List.size_toArray] at h1 h2
  have g1:vs[j]? = some vs[j]:=List.getElem?_eq_getElem (by omega)
  have g2:ws[j]? = some ws[j]:=List.getElem?_eq_getElem (by omega)
  obtain⟨u1,e1,ru1⟩:=v1.get g1
  obtain⟨u2,e2,ru2⟩:=v2.get g2
  obtain⟨t1,f1,p1⟩:=r.get g1
  obtain⟨t2,f2,p2⟩:=r'.get g2
  have k1:its.toArray[j]=u1:=by
   have:its[j]? = some its[j]:=List.getElem?_eq_getElem h1
   rw[e1] at this
   simpa using (Option.some.inj this).symm
  have k2:its2.toArray[j]=u2:=by
   have:its2[j]? = some its2[j]:=List.getElem?_eq_getElem h2
   rw[e2] at this
   simpa using (Option.some.inj this).symm
  rw[k1,k2]
  show SeqAt.EqAt A s u1 u2 (Z6d (ts.getD j (.at .non)) (us.getD j (.at .non)))
  rw[show ts.getD j (.at .non)=t1 by simp [List.getD,f1],show us.getD j (.at .non)=t2 by simp [List.getD,f2]]
  exact ih p1 p2 ru1 ru2
 ·rw[List.size_toArray,List.size_toArray,<- l1,<- l2,l3,l4]
  exact Z95 ts us
theorem Zfx (I:Inv X pins σ H s){n:Nat}{A:Around}(hu:A.units+(n+1)<cLine)
  (ih:∀(A:Around),A.units+n<cLine->∀{x y:V} {t u:PV} {v w:Value},IsPV X.K H n x t->IsPV X.K H n y u->RelV x v->RelV y w->SeqAt.EqAt A s v w (Z6d t u))
  {a b:Addr} {vs ws:List V} {ts us:List PV} {its its2:List Value} (h:SqT X.K H a vs) (r:IsPVs X.K H n vs ts) (h':SqT X.K H b ws) (r':IsPVs X.K H n ws us)
  (v1:Vals vs its) (pl:IsTup s.heap a its.toArray) (v2:Vals ws its2) (pl2:IsTup s.heap b its2.toArray):SeqAt.EqAt A s (.ref a) (.ref b) (Z1u ts us):=by
 by_cases hab:a=b
 ·subst hab
  have e:=I.tuple_inj h h'
  subst e
  rw[Z5x I r r']
  exact SeqAt.EqAt.same _
 ·obtain⟨e1,e2⟩:=Zdw (A:=A.in1) I r r' v1 v2 (fun hx hy rx ry=>ih A.in1 (by show A.units+1+n<cLine;omega) hx hy rx ry)
  rw[<- e2]
  exact SeqAt.EqAt.of_refs hab (SeqAt.RcAt.tuples pl pl2 (by omega) e1)
theorem Z81 (I:Inv X pins σ H s):∀(n:Nat) (A:Around),A.units+n<cLine->∀{x y:V} {t u:PV} {v w:Value},IsPV X.K H n x t->IsPV X.K H n y u->RelV x v->RelV y w->SeqAt.EqAt A s v w (Z6d t u):=by
 intro n
 induction n with
 | zero =>
  intro A hu x y t u v w hx hy rx ry
  cases hx with
  | «at» f =>
   cases hy with
   | «at» g => unfold Z6d; exact Zaw rx ry f g
 | succ n ih =>
  intro A hu x y t u v w hx hy rx ry
  have hu0:A.units<cLine:=by omega
  cases hx with
  | «at» f =>
   cases hy with
   | «at» g => unfold Z6d; exact Zaw rx ry f g
   | tup h r =>
    cases ry
    obtain⟨its,_,pl,_⟩:=I.tuple h
    unfold Z6d
    cases x with
    | non=>cases rx;exact SeqAt.EqAt.none_tuple pl hu0
    | bl b=>cases rx;exact SeqAt.EqAt.bool_tuple b pl hu0
    | int i=>obtain⟨k,rfl⟩:=rx;exact SeqAt.EqAt.int_tuple i k pl hu0
    | str z=>obtain⟨k,rfl⟩:=rx;exact SeqAt.EqAt.str_tuple z k pl hu0
    | _=>cases f
  | tup h r =>
   cases rx
   obtain⟨its,v1,pl,_⟩:=I.tuple h
   cases hy with
   | «at» g =>
    unfold Z6d
    cases y with
    | non=>cases ry;exact SeqAt.EqAt.tuple_none pl hu0
    | bl b=>cases ry;exact SeqAt.EqAt.tuple_bool b pl hu0
    | int i=>obtain⟨k,rfl⟩:=ry;exact SeqAt.EqAt.tuple_int i k pl hu0
    | str z=>obtain⟨k,rfl⟩:=ry;exact SeqAt.EqAt.tuple_str z k pl hu0
    | _=>cases g
   | tup h' r' =>
    cases ry
    obtain⟨its2,v2,pl2,_⟩:=I.tuple h'
    unfold Z6d
    exact Zfx I hu ih h r h' r' v1 pl v2 pl2
end
section
variable {X:Cx}
inductive rEqT (K:PySem.W.Frag)(n:Nat)(neg:Bool)(x:V)(y:V)(H:Hp)(Q:VK):Prop
 | mk (a b vs ws ts us:_) (_:x = .ref a) (_:y = .ref b) (_:SqT K H a vs) (_:IsPVs K H n vs ts) (_:SqT K H b ws) (_:IsPVs K H n ws us) (_:Q (.bl (if neg then !Z1u ts us else Z1u ts us)) H):rEqT K n neg x y H Q
theorem Zdx (n:Nat)(hu:X.A.units+(n+1)<cLine):OpR X (compareOp .Eq) (rEqT X.K n false):=by
 intro pins s σ H x y v u Q I rx ry h
 obtain⟨a,b,vs,ws,ts,us,rfl,rfl,ha,r,hb,r',q⟩:=h
 cases rx
 cases ry
 obtain⟨its,v1,pl,_⟩:=I.tuple ha
 obtain⟨its2,v2,pl2,_⟩:=I.tuple hb
 obtain⟨e1,e2⟩:=Zdw (A:=X.A.in1) I r r' v1 v2 (fun hx hy rx ry=>Z81 I n X.A.in1 (by show X.A.units+1+n<cLine;omega) hx hy rx ry)
 refine SeqAt.eq_tupleAt pl pl2 (by omega) e1 (Z0w I q ?_)
 exact e2.symm
theorem Zdy (n:Nat)(hu:X.A.units+(n+1)<cLine):OpR X (compareOp .NotEq) (rEqT X.K n true):=by
 intro pins s σ H x y v u Q I rx ry h
 obtain⟨a,b,vs,ws,ts,us,rfl,rfl,ha,r,hb,r',q⟩:=h
 cases rx
 cases ry
 obtain⟨its,v1,pl,_⟩:=I.tuple ha
 obtain⟨its2,v2,pl2,_⟩:=I.tuple hb
 obtain⟨e1,e2⟩:=Zdw (A:=X.A.in1) I r r' v1 v2 (fun hx hy rx ry=>Z81 I n X.A.in1 (by show X.A.units+1+n<cLine;omega) hx hy rx ry)
 refine SeqAt.RcNeAt.tuples pl pl2 (by omega) e1 X.prog X.w _ _ (Z0w I q ?_)
 show(!Z1u ts us)=_
 rw[e2]
end
end L2
namespace L2
open PySem PySem.Spec PyProof.Rows PySem.Builtin PySem.Builtin.Str
theorem Zii {n:Nat}{j:Int}(h:(n:Int)<=j):(strSliceIndices none (some j) 1 n).length=n:=by
 unfold strSliceIndices sliceRange
 simp only [show(1:Int)>0 by decide,if_true,List.length_map,List.length_range]
 split <;> (try split) <;> (try split) <;> (try simp only [Int.ediv_one]) <;> omega
theorem Zij {x:Str}{j:Int}(hx:0<x.length)(hj:1<=j):0<(Txt.slice x none (some j)).length:=by
 have hl:x.cps.toList.length=x.length:=by simp [Str.length]
 by_cases h:j<=x.length
 ·have e:=beq_iff_eq.mp (slice_closes_to (x:=x) (j:=j) ⟨by omega,by rw[hl];exact h⟩)
  rw[e]
  show 0<(List.toArray _).size
  rw[List.size_toArray,List.length_take,List.length_drop,hl]
  omega
 ·have e:Txt.slice x none (some j)=x:=by
   unfold Txt.slice
   rw[Zii (show((x.length:Nat):Int)<=j by omega)]
   simp
  rw[e];exact hx
theorem Zho {x:Str}{j:Int}(hj:0<=j):((Txt.slice x none (some j)).length:Int)<=j:=by
 have hl:x.cps.toList.length=x.length:=by simp [Str.length]
 by_cases h:j<=x.length
 ·have e:=beq_iff_eq.mp (slice_closes_to (x:=x) (j:=j) ⟨hj,by rw[hl];exact h⟩)
  rw[e]
  show(((List.toArray _).size:Nat):Int)<=j
  rw[List.size_toArray,List.length_take,List.length_drop,hl]
  omega
 ·have:=Txt.slice_le x none (some j)
  omega
theorem Zfy {x:Str}{i:Int}(h0:0<=i)(h:i<=x.length):((Txt.slice x (some i) none).length:Int)=x.length-i:=by
 have hl:x.cps.toList.length=x.length:=by simp [Str.length]
 rw[slice_from_eq h0 h rfl]
 show(((List.toArray _).size:Nat):Int)=_
 rw[List.size_toArray,List.length_take,List.length_drop,hl]
 omega
end L2
namespace L2
open PySem PySem.Spec PyProof.Rows
def Zfz:Expr->Option (List V)
 | .List es _=>es.mapM Z6c
 | _=>none
theorem Zg0:∀{es:List Expr} {vs:List V},es.mapM Z6c=some vs->es.map Z6c=vs.map some:=by
 intro es
 induction es with
 | nil =>
  intro vs h
  rw[List.mapM_nil] at h
  have:vs = []:=(Option.some.inj h).symm
  subst this
  rfl
 | cons e es ih =>
  intro vs h
  rw[List.mapM_cons] at h
  cases he:Z6c e with
  | none=>rw[he] at h;cases h
  | some v =>
   cases hr:es.mapM Z6c with
   | none=>rw[he,hr] at h;cases h
   | some r =>
    rw[he,hr] at h
    have:vs=v::r:=(Option.some.inj h).symm
    subst this
    rw[List.map_cons,List.map_cons,he,ih hr]
theorem Z3x {X:Cx}{e:Expr}{vs:List V}(h:Zfz e=some vs):PE X e (Zmf (fun _ H Q=>Q vs H)):=by
 cases e with
 | List es p=>exact Z1p (Z94 (Zg0 h))
 | _=>cases h
theorem Z96 {X:Cx}{st:Stmt}{i:Nat}{x:Str}{vs:List V}{idx:Expr}{tb:TE}(hN:X.N.Nodup)(hi:X.N[i]? = some x)(hx:Loc X.env.scope x)
  (hst:∃p' es p1 p2 p3,st = .Assign [.Name x p'] (.Subscript (.List es p1) idx p2) p3/\es.mapM Z6c=some vs) (hb:PE X idx tb) (hs:Zdh idx)
  (hf:X.fn x=true∨X.env.scope.names.lookup x=some .local):PS X st (Zk2 (tOp (rIxL X.K) (Zmf (fun _ H Q=>Q vs H)) tb) (Z8o i)):=by
 obtain⟨p',es,p1,p2,p3,e,h⟩:=hst
 subst e
 exact Z0c hN hi hx (Z0y Z11 (Z3x (e := .List es p1) h) hb hs) rfl hf
inductive Th where
 | at (v:V)
 | tup (xs:List Th)
 | lst (xs:List Th)
def smallV:V->Bool
 | .str x=>decide (x.length<=1000)
 | v=>Z49 v
theorem smallV.flat {v:V}(h:smallV v=true):Z49 v=true:=by
 cases v with
 | str x=>rfl
 | _=>exact h
mutual
inductive IsTh (H:Hp):V->Th->Prop where
 | at {v:V} (f:smallV v=true):IsTh H v (.at v)
 | tup {a:Addr} {vs:List V} {ts:List Th} (h:H a=some (.tup vs)) (r:IsThs H vs ts):IsTh H (.ref a) (.tup ts)
 | lst {a:Addr} {vs:List V} {ts:List Th} (h:H a=some (.lst vs)) (r:IsThs H vs ts):IsTh H (.ref a) (.lst ts)
inductive IsThs (H:Hp):List V->List Th->Prop where
 | nil:IsThs H [] []
 | cons {v:V} {vs:List V} {t:Th} {ts:List Th} (h:IsTh H v t) (r:IsThs H vs ts):IsThs H (v::vs) (t::ts)
end
def Kp (H H':Hp):Prop:=∀a o,H a=some o->(∀kvs,o ≠ .dK kvs)->H' a=some o
theorem Kp.refl (H:Hp):Kp H H:=fun _ _ e _=>e
theorem Kp.trans {H H1 H2:Hp}(a:Kp H H1)(b:Kp H1 H2):Kp H H2:=fun c o e n=>b c o (a c o e n) n
theorem Kp.of {H H1:Hp}(a:Same H H1):Kp H H1:=fun c o e _=>a c o e
mutual
theorem IsTh.kp {H H':Hp}(k:Kp H H'):∀{v:V} {t:Th},IsTh H v t->IsTh H' v t
 | _,_,.at f => .at f
 | _,_,.tup h r => .tup (k _ _ h (fun _ z=>by cases z)) (IsThs.kp k r)
 | _,_,.lst h r => .lst (k _ _ h (fun _ z=>by cases z)) (IsThs.kp k r)
theorem IsThs.kp {H H':Hp}(k:Kp H H'):∀{vs:List V} {ts:List Th},IsThs H vs ts->IsThs H' vs ts
 | _,_,.nil => .nil
 | _,_,.cons h r => .cons (IsTh.kp k h) (IsThs.kp k r)
end
theorem IsThs.len {H:Hp}:∀(vs:List V) {ts:List Th},IsThs H vs ts->vs.length=ts.length:=by
 intro vs
 induction vs with
 | nil=>intro ts h;cases h;rfl
 | cons v vs ih =>
  intro ts h
  cases h with
  | cons a b=>rw[List.length_cons,List.length_cons,ih b]
theorem IsThs.app {H:Hp}:∀(vs:List V) {ws:List V} {ts us:List Th},IsThs H vs ts->IsThs H ws us->IsThs H (vs++ws) (ts++us):=by
 intro vs
 induction vs with
 | nil=>intro ws ts us h g;cases h;exact g
 | cons v vs ih =>
  intro ws ts us h g
  cases h with
  | cons a b=>exact .cons a (ih b g)
section
variable {X:Cx}
theorem Za0 {c:TT}{tb:TS}{D:Ends}{σ:St}{H:Hp}(Pv:Nat->St->Hp->Prop)(m0:Nat)(h0:Pv m0 σ H)
  (hs:∀m σ H,Pv m σ H->c σ H fun b H1=>if b=true then tb { D with nx:=fun σ' H'=>∃m',m'<m/\Pv m' σ' H',ct:=fun σ' H'=>∃m',m'<m/\Pv m' σ' H',bk:=D.nx } σ H1 else D.nx σ H1)
  (mono:∀ σ H Q Q',(∀b H1,Q b H1->Q' b H1)->c σ H Q->c σ H Q'):tWhile c tb D σ H:=by
 refine⟨Pv,⟨m0,h0⟩,?_⟩
 intro m σ H p
 refine mono σ H _ _ (fun b H1 q => ?_) (hs m σ H p)
 cases b with
 | true=>exact⟨_,fun σ' H' z=>z,q⟩
 | false=>exact q
end
end L2
namespace L2
open PySem PySem.Spec PyProof.Rows PySem.Builtin PySem.Builtin.Str
end L2
namespace L2
open PySem PySem.Spec PyProof.Rows
section
variable {X:Cx}
theorem Zdz (hu:X.A.units<cLine):OpR X (compareOp .Eq) (fun x y H Q=>∃a b xs,x = .ref a/\y = .ref b/\SqL X.K H a xs/\SqL X.K H b []/\Q (.bl xs.isEmpty) H):=by
 intro pins s σ H x y v u Q I rx ry h
 obtain⟨a,b,xs,rfl,rfl,hx,hy,q⟩:=h
 cases rx
 cases ry
 obtain⟨its,r,pl,hz⟩:=I.list hx
 obtain⟨its2,r2,pl2,hz2⟩:=I.list hy
 cases r2
 cases r with
 | nil =>
  refine SeqAt.eq_listAt (e:=fun _=>true) pl.isList pl2.isList rfl hu (fun j h1 h2=>absurd h2 (by simp)) ?_
  exact Z0w I q (by simp)
 | cons r1 r' =>
  refine SeqAt.eq_list_lengthsAt pl.isList pl2.isList (by simp) hu ?_
  exact Z0w I q rfl
end
end L2
namespace HT
open PySem PySem.Spec PyProof.Rows
section
variable {prog:Program}{w:World}{A:Around}{E:Value->Shared->Prop}{s:Shared}
theorem getItem_tuple_all {t sl:Addr}{items:Array Value}{vl vu:Value}{lo hi:Option Int}{Q:Value->Shared->Prop}(ht:IsTup s.heap t items)(hs:s.heap.IsSliceOf sl vl vu .none)(pl:IsPart vl lo)(pu:IsPart vu hi)
  (hw:sIx items.size 0 lo=0/\sIx items.size items.size hi=items.size) (h:Q (.ref t) s):wpAny (model prog w) A (getItem (.ref t) (.ref sl)) Q E s:=by
 obtain⟨os,hos,hcs,hds⟩:=id hs
 have hTs:s.TypeIs (.ref sl) "slice":=⟨os,hos,hcs⟩
 unfold getItem
 try with_reducible refine wpAny_holding ?_
 first | refine wpAny_bind (wpAny_pure ?_) | skip
 refine wpAny_bind (wpAny_sequenceKey ht.typeIs (by decide) ?_)
 refine wpAny_bind (wpAny_callSpecial?_slot (name:=Str.ofString "__getitem__") ht.typeIs PyProof.Rows.slot_tuple_getitem
  (wpAny_call_entry PyProof.Rows.slot_tuple_getitem ht.typeIs entry_tuple_getitem ?_ (args_tuple_getitem _ _)))
 show wpAny _ _ (Builtin.Tuple.tupleItemsOf (.ref t) >>= _) _ _ s
 refine wpAny_bind (tupleItemsOf_ ht ?_)
 refine wpAny_bind (wpAny_typeOf hTs ?_)
 rw[if_pos (by decide)]
 refine wpAny_bind (Z3q hs pl pu ?_)
 have hno:((((sIx items.size 0 lo:Nat):Int)==0&&(1:Int)==1&&(sIx items.size items.size hi-sIx items.size 0 lo)==items.size)=true):=by
  rw[hw.1,hw.2];simp
 show wpAny _ _ (if (((sIx items.size 0 lo:Nat):Int)==0&&(1:Int)==1&&(sIx items.size items.size hi-sIx items.size 0 lo)==items.size)=true then _ else _) _ _ s
 rw[if_pos hno]
 refine wpAny_bind (m:=Builtin.Tuple.tupleIsExact _) (wpAny_bind (wpAny_typeOf ht.typeIs (wpAny_pure ?_)))
 rw[if_pos (by decide)]
 refine wpAny_bind (wpAny_rule ?_)
 exact wpAny_pure ⟨_,rfl,wpAny_pure h⟩
end
end HT
namespace L2
open PySem PySem.Spec PyProof.Rows
section
variable {X:Cx}
theorem Zg1 {xs:List V}{lo hi:Option Int}(h:HT.sIx xs.length 0 lo=0/\HT.sIx xs.length xs.length hi=xs.length):Z5v xs lo hi=xs:=by
 unfold Z5v
 rw[h.1,h.2,List.drop_zero,Nat.sub_zero,List.take_of_length_le (Nat.le_refl _)]
theorem Zg2 (hc:X.calm=true):Z48 X (.builtin "sum") (fun xs H Q=>∃(a:Addr) (ns:List Int),xs = [.ref a]/\SqL X.K H a (ns.map V.int)/\Q (.int ns.sum) H):=by
 intro pins s σ H xs us Q I r h
 obtain⟨a,ns,rfl,ha,q⟩:=h
 obtain⟨u,rfl,ru⟩:=Z7u r
 cases ru
 obtain⟨its,r1,pl,hz⟩:=I.list ha
 have hi:=Zc9 r1
 obtain⟨ys,hys⟩:=hi.allInts.items
 have e1:(intItems ys).toList=its:=by rw[<- hys]
 have e2:preSum (numAt ys) ys.size=ns.sum:=by
  rw[preSum_eq,List.take_of_length_le (by simp),<- nums_intItems,e1,hi.numsOf]
 refine sum_intListG (I.ok.hd hc) (hys▸pl.isList) fun h' tk t' hk => ?_
 rw[e2]
 exact⟨.int ns.sum,H,I.kept hk,⟨_,rfl⟩,q⟩
end
section
variable {X:Cx}
inductive rSlP (x:V)(lo:Option Int)(hi:Option Int)(H:Hp)(Q:VK):Prop
 | mk (a xs:_) (_:x = .ref a) (_:H a=some (.tup xs)) (_:∀p H',Same H H'->H' p=some (.tup (Z5v xs lo hi))->Q (.ref p) H'):rSlP x lo hi H Q
theorem Za1:SlR X rSlP:=by
 intro pins s σ H x v vl vu lo hi sl Q I rx hs pl pu h
 obtain⟨a,xs,rfl,hx,q⟩:=h
 by_cases hw:HT.sIx xs.length 0 lo=0/\HT.sIx xs.length xs.length hi=xs.length
 ·cases rx
  obtain⟨its,r,ht,hz⟩:=I.tuple (SqT.of hx)
  have hlen:its.toArray.size=xs.length:=by rw[List.size_toArray];exact r.length.symm
  refine⟨"tuple",_,PyProof.Rows.slot_tuple_getitem.lookup,ht.typeIs,?_⟩
  refine HT.getItem_tuple_all ht hs pl pu (by rw[hlen];exact hw) ?_
  exact⟨.ref a,H,I,rfl,q a H (Same.refl H) (by rw[Zg1 hw];exact hx)⟩
 ·exact Zkh pins s σ H (.ref a) v vl vu lo hi sl Q I rx hs pl pu ⟨a,xs,rfl,SqT.of hx,hw,fun p hp=>q p _ (Z02 hp) Z00⟩
inductive rCatP (x:V)(y:V)(H:Hp)(Q:VK):Prop
 | mk (a b xs ys:_) (_:x = .ref a) (_:y = .ref b) (_:H a=some (.tup xs)) (_:H b=some (.tup ys)) (_:xs.length+ys.length<=sizeLine) (_:∀p H',Same H H'->H' p=some (.tup (xs++ys))->Q (.ref p) H'):rCatP x y H Q
theorem Za2:OpR X (binaryOp .Add) rCatP:=by
 intro pins s σ H x y v u Q I rx ry h
 obtain⟨a,b,xs,ys,rfl,rfl,ha,hb,hz,q⟩:=h
 by_cases hx:xs = []
 ·subst hx
  cases rx
  cases ry
  obtain⟨its,r1,p1,_⟩:=I.tuple (SqT.of ha)
  obtain⟨its2,r2,p2,_⟩:=I.tuple (SqT.of hb)
  cases r1
  obtain⟨⟨cls,dd,data,sl⟩,ho,hc,n,hd⟩:=id p1
  obtain⟨⟨cls2,dd2,data2,sl2⟩,ho2,hc2,n2,hd2⟩:=id p2
  simp only at hc hd hc2 hd2
  subst hc hd hc2 hd2
  exact concat_meets ⟨_,ho,rfl⟩ ⟨_,ho2,rfl⟩ noFill_tuple_add seq_tuple_add PySem.F.slot_tuple_add PySem.F.entry_tuple_add (PySem.F.args_tuple_add_2 _ _)
   (tuple_addW0 a b _ _ n n2 dd dd2 sl sl2 (by simp)) ⟨ho,ho2,⟨.ref b,H,I,rfl,q b H (Same.refl H) hb⟩⟩
 ·refine Zid pins s σ H (.ref a) (.ref b) v u Q I rx ry ⟨a,b,xs,ys,rfl,rfl,SqT.of ha,SqT.of hb,hx,hz,fun hy => ?_,fun hy p hp => ?_⟩
  ·subst hy
   exact q a H (Same.refl H) (by rw[List.append_nil];exact ha)
  ·exact q p _ (Z02 hp) Z00
end
section
variable {X:Cx}{pins:List (Addr × Obj)}{σ:St}{H:Hp}{s:Shared}{h':Heap}
theorem Inv.turnedL {t':Nat}{ch:List Addr}(I:Inv X pins σ H s)(k:∀b o,b∉ch->s.heap.get? b=some o->h'.get? b=some o)(hf:∀b∈ch,Z3s X pins H b):Inv X pins σ H { s with heap:=h',toks:=t' }:=by
 have nit:∀b u,H b=some u->b∉ch:=fun b u e z=>by rw[(hf b z).1] at e;cases e
 refine I.step (g':=s.gens) (d':=s.drawn) (ch:=ch) (fun b hb => ?_) (fun b o _ _ hc e _=>k b o hc e) (fun b o _ _ hc e _=>⟨o.slots,k b o hc e⟩) (fun _ _ _ _ n=>n)
  (fun b o hc e=>⟨o,k b o hc e⟩) (fun _ _ e=>e) (fun _ _ _ e=>e) (fun b ps e=>⟨#[],by rw[e];simp⟩) (fun m hm => ?_) (fun b u e => ?_) I.bare
 ·obtain⟨f0,f1,f2,f3,f4,f5⟩:=hf b hb
  exact⟨f3,f1,f4,f5⟩
 ·obtain⟨o,es,ep,ho,r⟩:=hm
  exact⟨o,es,ep,k _ o (fun z=>(hf _ z).2.1 rfl) ho,r⟩
 ·refine(I.hok b u e).stay (fun c v hc q=>k c v ?_ q) (fun _ q=>q) fun _ _ q=>q
  rcases hc with z | z
  ·rw[z];exact nit b u e
  ·exact nit c _ z
theorem Inv.turnedLaid {t':Nat}{ch:List Addr}{a:Addr}{o:HO}(I:Inv X pins σ H s)(k:∀b o,b∉ch->s.heap.get? b=some o->h'.get? b=some o)(hf:∀b∈ch,Z3s X pins H b)(hp:s.heap.objs.size<=a)(new:ObjOk X.prog X.w (upd H a o) h' a o) :
  Inv X pins σ (upd H a o) { s with heap:=h',toks:=t' }:=by
 have nit:∀b u,H b=some u->b∉ch:=fun b u e z=>by rw[(hf b z).1] at e;cases e
 have hn:H a=none:=I.hok.fresh hp
 have old:∀b u,H b=some u->upd H a o b=some u:=fun b u e=>by rw[Z08 (Z0a e hn)];exact e
 refine I.step (g':=s.gens) (d':=s.drawn) (ch:=ch) (fun b hb => ?_) (fun b o _ _ hc e _=>k b o hc e) (fun b o _ _ hc e _=>⟨o.slots,k b o hc e⟩) (fun b u _ e n => ?_)
  (fun b o hc e=>⟨o,k b o hc e⟩) (fun _ _ e=>old _ _ e) (fun _ _ _ e=>old _ _ e) (fun b ps e=>⟨#[],by rw[old _ _ e];simp⟩) (fun m hm => ?_) (fun b u e => ?_) I.bare
 ·obtain⟨f0,f1,f2,f3,f4,f5⟩:=hf b hb
  exact⟨f3,f1,f4,f5⟩
 ·rw[Z08 (fun z=>by subst z;exact absurd (Nat.lt_of_lt_of_le (Heap.lt_size e) hp) (Nat.lt_irrefl _))]
  exact n
 ·obtain⟨o,es,ep,ho,r⟩:=hm
  exact⟨o,es,ep,k _ o (fun z=>(hf _ z).2.1 rfl) ho,r⟩
 ·by_cases hb:b=a
  ·subst hb;rw[Z00] at e;cases e;exact new
  ·rw[Z08 hb] at e
   refine(I.hok b u e).stay (fun c v hc q=>k c v ?_ q) (fun c q=>old _ _ q) fun c xs q=>old _ _ q
   rcases hc with z | z
   ·rw[z];exact nit b u e
   ·exact nit c _ z
end
end L2
namespace L2
open PySem PySem.Spec PyProof.Rows PySem.Builtin PySem.AutoSeq1
section
variable {P:Program}{w:World}{B:Around}{G:Value->Shared->Prop}{z:Shared}
theorem Z46 {gi tp:Addr}{n:Nat}{ys:Array Value}{y:Value}{R:Value->Shared->Prop}(g:z.heap.IsTupleIter gi tp n)(t:z.heap.IsTuple tp ys)(hy:ys[n]? = some y)
  (q:∀k,k.IsTupleIter gi tp (n+1)->Heap.SameBut gi z.heap k->R y { z with heap:=k }):wpAny (model P w) B (SmallTypes.nextOf (.ref gi)) R G z:=by
 obtain⟨og,g1,g2,g3⟩:=id g
 obtain⟨ot,t1,t2,m,t3⟩:=t
 unfold SmallTypes.nextOf
 refine wpAny_bind (wpAny_callSpecial?_slot (name:=Str.ofString "__next__") g.typeIs F.slot_tuple_iterator_next (wpAny_call_entry F.slot_tuple_iterator_next g.typeIs F.entry_tuple_iterator_next ?_ (F.args_tuple_iterator_next_1 _)))
 show wpAny _ _ (field (.ref gi) 0 >>= _) _ _ z
 refine wpAny_bind (wpAny_field g1 g3 (x := .ref tp) rfl ?_)
 show wpAny _ _ (if (Value.ref tp==Value.none)=true then _ else _) _ _ z
 rw[if_neg (show ¬ ((Value.ref tp==Value.none)=true) from Bool.false_ne_true)]
 show wpAny _ _ (field (.ref gi) 1 >>= _) _ _ z
 refine wpAny_bind (wpAny_field g1 g3 (x := .int n 0) rfl ?_)
 show wpAny _ _ (seqItems? (.ref tp) >>= _) _ _ z
 refine wpAny_bind (wpAny_seqItems t1 t3 ?_)
 simp only [Int.toNat_natCast,hy]
 refine wpAny_bind (wpAny_setField g1 g3 (by simp) (wpAny_pure ⟨y,rfl,wpAny_pure (q _ ?_ (Heap.SameBut.update ..))⟩))
 exact⟨_,Heap.get?_update_self _ g1 (Obj.isFreed_of_fields (Obj.data_mapFields g3 _)),(Obj.cls_mapFields ..).trans g2,by rw[Obj.data_mapFields g3];simp [rawInt]⟩
theorem Z97 {gi tp:Addr}{n:Nat}{ys:Array Value}{R:Value->Shared->Prop}(hb:B.handled=none)(g:z.heap.IsTupleIter gi tp n)(t:z.heap.IsTuple tp ys)(hy:ys[n]? = none)
  (q:∀k e,Heap.ExtBut gi z.heap k->(∃o,k.get? e=some o/\o.cls = .type "StopIteration")->G (.ref e) { z with heap:=k }):wpAny (model P w) B (SmallTypes.nextOf (.ref gi)) R G z:=by
 obtain⟨og,g1,g2,g3⟩:=id g
 obtain⟨ot,t1,t2,m,t3⟩:=t
 unfold SmallTypes.nextOf
 refine wpAny_bind (wpAny_callSpecial?_slot (name:=Str.ofString "__next__") g.typeIs F.slot_tuple_iterator_next (wpAny_call_entry F.slot_tuple_iterator_next g.typeIs F.entry_tuple_iterator_next ?_ (F.args_tuple_iterator_next_1 _)))
 show wpAny _ _ (field (.ref gi) 0 >>= _) _ _ z
 refine wpAny_bind (wpAny_field g1 g3 (x := .ref tp) rfl ?_)
 show wpAny _ _ (if (Value.ref tp==Value.none)=true then _ else _) _ _ z
 rw[if_neg (show ¬ ((Value.ref tp==Value.none)=true) from Bool.false_ne_true)]
 show wpAny _ _ (field (.ref gi) 1 >>= _) _ _ z
 refine wpAny_bind (wpAny_field g1 g3 (x := .int n 0) rfl ?_)
 show wpAny _ _ (seqItems? (.ref tp) >>= _) _ _ z
 refine wpAny_bind (wpAny_seqItems t1 t3 ?_)
 simp only [Int.toNat_natCast,hy]
 refine wpAny_bind (wpAny_rule (wpAny_bind (wpAny_setField g1 g3 (by simp) ?_)))
 refine wpAny_bind (m:=newExc (.type "StopIteration") []) ?_
 simp only [newExc,newTuple];refine wpAny_bind (wpAny_newObj_type ?_ (by size_fits))
 refine wpAny_bind (m:=firstArgMember _ _) (wpAny_of_eq (a:=Value.none) (by first | rfl | (simp only [firstArgMember];rfl)) ?_);refine wpAny_newObj_type ?_ (by size_fits)
 simp only [raiseNew];refine wpAny_bind (wpAny_handled ?_)
 first | rw[show B.in1.handled=none from hb] | rw[hb]
 refine wpAny_bind (wpAny_pure (wpAny_throw ?_));exact q _ _ (((Heap.SameBut.update ..).extBut.push _).push _) ⟨_,Heap.get?_push_size _ rfl,rfl⟩
end
end L2
namespace L2
open PySem PySem.Spec PyProof.Rows
def isTup:Th->Bool
 | .tup _=>true
 | _=>false
def Zm6:Th->String
 | .at .non=>"NoneType"
 | .at (.bl _)=>"bool"
 | .at (.int _)=>"int"
 | .at (.str _)=>"str"
 | .tup _=>"tuple"
 | .lst _=>"list"
 | _=>""
def Zmr:Th->Bool
 | .at (.bl _)=>true
 | _=>false
def Zkm:Th->Bool
 | .at (.int _)=>true
 | .at (.bl _)=>true
 | _=>false
theorem Z4m {K:PySem.W.Frag}{H:Hp}{v:V}{t:Th}(h:IsTh H v t):TyOf K H v (.type (Zm6 t)):=by
 cases h with
 | «at» f =>
  cases v with
  | non=>exact .non
  | bl b=>exact .bl b
  | int i=>exact .int i
  | str x=>exact .str x
  | _=>exact absurd (show false=true from f) Bool.false_ne_true
 | tup e r=>exact .tup e
 | lst e r=>exact .lst e
structure Kits (K:PySem.W.Frag):Prop where
 int:∀{H:Hp} {v:V} {t:Th},IsTh H v t->PySem.W.kitOne K (.type (Zm6 t)) (.type "int")=some (Zkm t)
 bl:∀{H:Hp} {v:V} {t:Th},IsTh H v t->PySem.W.kitOne K (.type (Zm6 t)) (.type "bool")=some (Zmr t)
 tup:∀{H:Hp} {v:V} {t:Th},IsTh H v t->PySem.W.kitOne K (.type (Zm6 t)) (.type "tuple")=some (isTup t)
theorem Z0q {H:Hp}:∀(vs:List V) {ts:List Th} {i:Nat} {v:V},IsThs H vs ts->vs[i]? = some v->∃t,ts[i]? = some t/\IsTh H v t:=by
 intro vs
 induction vs with
 | nil=>intro ts i v h e;cases e
 | cons u vs ih =>
  intro ts i v h e
  cases h with
  | cons a b =>
   cases i with
   | zero =>
    have e':u=v:=by simpa using e
    subst e'
    exact⟨_,rfl,a⟩
   | succ i =>
    rw[List.getElem?_cons_succ] at e
    obtain⟨t,e1,e2⟩:=ih b e
    exact⟨t,by rw[List.getElem?_cons_succ];exact e1,e2⟩
theorem Ze0 {H:Hp}:∀(vs:List V) {ts:List Th} {i:Nat} {t:Th},IsThs H vs ts->ts[i]? = some t->∃v,vs[i]? = some v/\IsTh H v t:=by
 intro vs
 induction vs with
 | nil=>intro ts i t h e;cases h;simp at e
 | cons v vs ih =>
  intro ts i t h e
  cases h with
  | cons a b =>
   cases i with
   | zero=>simp at e;subst e;exact⟨v,rfl,a⟩
   | succ i=>simp at e;obtain⟨w,e1,e2⟩:=ih b e;exact⟨w,by simpa using e1,e2⟩
theorem Z1i {H:Hp}{v:V}{ts:List Th}(h:IsTh H v (.tup ts)):∃a vs,v = .ref a/\H a=some (.tup vs)/\IsThs H vs ts:=by
 cases h with
 | tup e r=>exact⟨_,_,rfl,e,r⟩
theorem Z3d {H:Hp}{v:V}{ts:List Th}(h:IsTh H v (.lst ts)):∃a vs,v = .ref a/\H a=some (.lst vs)/\IsThs H vs ts:=by
 cases h with
 | lst e r=>exact⟨_,_,rfl,e,r⟩
theorem Z4a {H:Hp}{v w:V}(h:IsTh H v (.at w)):v=w/\smallV w=true:=by
 cases h with
 | «at» f => exact ⟨rfl, f⟩
theorem ths_last {H:Hp}:∀(ws:List V) {us:List Th},IsThs H ws us->ws ≠ []->∃ws' y us' u,ws=ws' ++ [y]/\us=us' ++ [u]/\IsThs H ws' us'/\IsTh H y u:=by
 intro ws
 induction ws with
 | nil=>intro us h n;exact absurd rfl n
 | cons v vs ih =>
  intro us h _
  cases h with
  | @cons _ _ t ts a b =>
   cases vs with
   | nil=>cases b;exact⟨[],v,[],t,rfl,rfl,.nil,a⟩
   | cons v2 vs2 =>
    obtain⟨ws',y,us',u,e1,e2,h1,h2⟩:=ih b (by intro z;cases z)
    exact⟨v::ws',y,t::us',u,by rw[e1];rfl,by rw[e2];rfl,.cons a h1,h2⟩
theorem Za3 {H:Hp}:∀(vs:List V) {ts:List Th},IsThs H vs ts->IsThs H vs.reverse ts.reverse:=by
 intro vs
 induction vs with
 | nil=>intro ts h;cases h;exact .nil
 | cons v vs ih =>
  intro ts h
  cases h with
  | cons a b =>
   rw[List.reverse_cons,List.reverse_cons]
   exact IsThs.app _ (ih b) (.cons a .nil)
mutual
def Th.sz:Th->Nat
 | .at _=>1
 | .tup xs=>1+szs xs
 | .lst xs=>1+szs xs
def szs:List Th->Nat
 | []=>0
 | x::xs=>Th.sz x+szs xs
end
theorem Zkn (t:Th):1<=Th.sz t:=by
 cases t with
 | «at» v => simp [Th.sz]
 | tup xs=>simp [Th.sz]
 | lst xs=>simp [Th.sz]
theorem Zik:∀us ws:List Th,szs (us++ws)=szs us+szs ws:=by
 intro us
 induction us with
 | nil=>intro ws;simp [szs]
 | cons u us ih=>intro ws;rw[List.cons_append,szs,szs,ih];omega
theorem Za4:∀ts:List Th,ts.length<=szs ts:=by
 intro ts
 induction ts with
 | nil=>simp [szs]
 | cons t ts ih=>have:=Zkn t;rw[List.length_cons,szs];omega
theorem Zb9:∀(ts:List Th) (t:Th),t∈ts->Th.sz t<=szs ts:=by
 intro ts
 induction ts with
 | nil=>intro t h;cases h
 | cons u ts ih =>
  intro t h
  rw[szs]
  rcases List.mem_cons.mp h with z | z
  ·subst z;omega
  ·have:=ih t z;omega
def Z1f (ts:List Th):List Th:=ts.filter isTup
def OkT:Nat->Th->Prop
 | 0,_=>False
 | n+1,t=>∃(w:Str) (ts:List Th),t = .tup (.at (.str w)::ts)/\(w="let"->(Z1f ts).length=2)/\∀x∈ts,isTup x=true->OkT n x
theorem OkT.up:∀(n:Nat) {t:Th},OkT n t->OkT (n+1) t:=by
 intro n
 induction n with
 | zero=>intro t h;exact h.elim
 | succ n ih =>
  intro t h
  obtain⟨w,ts,e,h1,h2⟩:=h
  exact⟨w,ts,e,h1,fun x hx hx2=>ih (h2 x hx hx2)⟩
theorem Z1v {H H':Hp}{p:Addr}(s:Same H H')(h:H' p=none):H p=none:=by
 cases e:H p with
 | none=>rfl
 | some o=>rw[s p o e] at h;cases h
theorem Zms (x:V)(xs:List V):Z5v (x::xs) (some 1) none=xs:=by
 have e1:HT.sIx (x::xs).length 0 (some 1)=min 1 (x::xs).length:=rfl
 have e2:HT.sIx (x::xs).length (x::xs).length none=(x::xs).length:=rfl
 unfold Z5v
 rw[e1,e2,List.length_cons]
 have e3:min 1 (xs.length+1)=1:=by omega
 rw[e3]
 show List.take (xs.length+1-1) xs=xs
 exact List.take_of_length_le (by omega)
end L2
namespace L2
open PySem
def Z4n (xs:List Th):Bool:=match xs with
 | .at (.str w)::_=>decide (w="let")
 | _=>false
def Z4o (l:Bool)(me:Th):Nat->List (Str × Th)
 | 0=>if l=true then [(("opened":Str),me)] else []
 | 1=>if l=true then [(("closed":Str),me)] else []
 | _ => []
mutual
def Z13:Th->List (Str × Th)
 | .tup xs=>(("node":Str),Th.tup xs)::Z2v (Z4n xs) (.tup xs) 0 xs
 | .at _ => []
 | .lst _ => []
def Z2v (l:Bool)(me:Th):Nat->List Th->List (Str × Th)
 | _,[] => []
 | i,x::xs=>if isTup x=true then Z13 x++(Z4o l me i++Z2v l me (i+1) xs) else Z2v l me i xs
end
def Z6f (l:Bool)(me:Th):Nat->List Th->List (Str × Th)
 | _,[] => []
 | i,k::ks=>Z13 k++(Z4o l me i++Z6f l me (i+1) ks)
theorem Z7h (l:Bool)(me:Th):∀(xs:List Th) (i:Nat),Z2v l me i xs=Z6f l me i (Z1f xs):=by
 intro xs
 induction xs with
 | nil=>intro i;simp [Z2v,Z6f,Z1f]
 | cons x xs ih =>
  intro i
  rw[Z2v]
  unfold Z1f
  rw[List.filter_cons]
  split
  ·rw[Z6f,ih];rfl
  ·rw[ih];rfl
theorem Z98 (me:Th):∀(ks:List Th) (i:Nat),Z6f false me i ks=(ks.map Z13).flatten:=by
 intro ks
 induction ks with
 | nil=>intro i;rfl
 | cons k ks ih =>
  intro i
  have e:Z4o false me i = []:=by
   match i with
   | 0=>rfl
   | 1=>rfl
   | _+2=>rfl
  rw[Z6f,ih,e,List.map_cons,List.flatten_cons,List.nil_append]
theorem Za5 {xs:List Th}(h:Z4n xs=false):Z13 (.tup xs)=(("node":Str),Th.tup xs)::((Z1f xs).map Z13).flatten:=by
 rw[Z13,Z7h,h,Z98]
theorem Ze1 {xs:List Th}{k1 k2:Th}(h:Z4n xs=true)(hk:Z1f xs = [k1,k2]):Z13 (.tup xs)=(("node":Str),Th.tup xs)::(Z13 k1++((("opened":Str),Th.tup xs)::(Z13 k2 ++ [(("closed":Str),Th.tup xs)]))):=by
 rw[Z13,Z7h,h,hk]
 simp [Z6f,Z4o]
def Z5d (p:Str × Th):List (Str × Th):=if p.1="node" then Z13 p.2 else [p]
def Z2m (st:List (Str × Th)):List (Str × Th):=(st.reverse.map Z5d).flatten
theorem Z4p (st:List (Str × Th))(x:Str × Th):Z2m (st ++ [x])=Z5d x++Z2m st:=by
 unfold Z2m;simp
theorem Zba (st r:List (Str × Th)):Z2m (st++r.reverse)=(r.map Z5d).flatten++Z2m st:=by
 unfold Z2m;simp
theorem Z47 (t:Th):Z5d (("node":Str),t)=Z13 t:=by unfold Z5d;simp
theorem Zcd (t:Th):Z5d (("opened":Str),t) = [(("opened":Str),t)]:=by
 unfold Z5d;rw[if_neg (by show ¬ (("opened":Str)="node");decide +kernel)]
theorem Za6 (t:Th):Z5d (("closed":Str),t) = [(("closed":Str),t)]:=by
 unfold Z5d;rw[if_neg (by show ¬ (("closed":Str)="node");decide +kernel)]
theorem Zce {st:List (Str × Th)}{xs:List Th}(h:Z4n xs=false):Z2m (st ++ [(("node":Str),Th.tup xs)])=(("node":Str),Th.tup xs)::Z2m (st++((Z1f xs).map fun k=>(("node":Str),k)).reverse):=by
 rw[Z4p,Zba,Z47,Za5 h,List.map_map]
 show _::(_++_)=_::(_++_)
 congr 2
theorem Zg3 {st:List (Str × Th)}{xs:List Th}{k1 k2:Th}(h:Z4n xs=true)(hk:Z1f xs = [k1,k2]) :
  Z2m (st ++ [(("node":Str),Th.tup xs)])=(("node":Str),Th.tup xs)::Z2m (st++([(("node":Str),k1),(("opened":Str),Th.tup xs),(("node":Str),k2),(("closed":Str),Th.tup xs)]:List (Str × Th)).reverse):=by
 rw[Z4p,Zba,Z47,Ze1 h hk]
 simp [Z47,Zcd,Za6]
def pr (p:Str × Th):Th := .tup [.at (.str p.1),p.2]
mutual
def cnt:Th->Nat
 | .tup xs=>1+Z14 xs
 | .at _=>0
 | .lst _=>0
def Z14:List Th->Nat
 | []=>0
 | x::xs=>cnt x+Z14 xs
end
mutual
def dp:Th->Nat
 | .tup xs=>1+dps xs
 | .at _=>0
 | .lst _=>0
def dps:List Th->Nat
 | []=>0
 | x::xs=>max (dp x) (dps xs)
end
theorem Zil (t:Th)(h:isTup t=false):cnt t=0:=by
 cases t with
 | «at» v => simp [cnt]
 | lst xs=>simp [cnt]
 | tup xs=>cases h
theorem Z99:∀xs:List Th,Z14 xs=Z14 (Z1f xs):=by
 intro xs
 induction xs with
 | nil=>rfl
 | cons x xs ih =>
  unfold Z1f
  rw[Z14,List.filter_cons]
  split
  ·rw[Z14,ih];rfl
  ·rw[Zil x (by simp_all),Nat.zero_add,ih];rfl
def Z1j (l:List (Str × Th)):List (Str × Th):=l.filter fun p=>decide (p.1="node")
theorem Zcf (l:Bool)(me:Th)(i:Nat):Z1j (Z4o l me i) = []:=by
 have e1:decide (("opened":Str)="node")=false:=by decide +kernel
 have e2:decide (("closed":Str)="node")=false:=by decide +kernel
 match i with
 | 0=>cases l <;> simp [Z1j,Z4o,e1]
 | 1=>cases l <;> simp [Z1j,Z4o,e2]
 | _+2=>rfl
end L2
namespace L2
open PySem PySem.Spec PyProof.Rows
end L2
namespace Srt
open PySem PyProof.Rows
end Srt
namespace Srt
open PySem PyProof.Rows PySem.Spec
end Srt
namespace L2
open PySem PySem.Spec PyProof.Rows Srt
section
variable {X:Cx}{pins:List (Addr × Obj)}{σ:St}{H:Hp}{s:Shared}
theorem Zbb:∀{ns:List Int} {us:List Value},IntsAre us ns->Vals (ns.map V.int) us
 | _,_,.nil => .nil
 | _,_,.cons n t h => .cons ⟨t,rfl⟩ (Zbb h)
end
end L2
namespace L2
open PySem PySem.Spec PyProof.Rows
mutual
def plT:Th->Bool
 | .at (.int _)=>true
 | .at (.str _)=>true
 | .at _=>false
 | .tup xs=>Z24 xs
 | .lst _=>false
def Z24:List Th->Bool
 | []=>true
 | x::xs=>plT x&&Z24 xs
end
mutual
def pvT:Th->PV
 | .at v => .at v
 | .tup xs => .tup (Z38 xs)
 | .lst _ => .at .non
def Z38:List Th->List PV
 | [] => []
 | x::xs=>pvT x::Z38 xs
end
mutual
theorem Zmt {K:PySem.W.Frag}{H:Hp}:∀{v:V} {t:Th},IsTh H v t->∀n,plT t=true->dp t<=n->IsPV K H n v (pvT t)
 | _,_,.at f,n,hp,hd=>by rw[pvT];exact .at (smallV.flat f)
 | _,_,.tup h r,n,hp,hd=>by
  rw[dp] at hd
  rw[plT] at hp
  rw[pvT]
  cases n with
  | zero=>exact absurd hd (by omega)
  | succ n=>exact .tup (SqT.of h) (Z32 r n hp (by omega))
 | _,_,.lst h r,n,hp,hd=>by rw[plT] at hp;cases hp
theorem Z32 {K:PySem.W.Frag}{H:Hp}:∀{vs:List V} {ts:List Th},IsThs H vs ts->∀n,Z24 ts=true->dps ts<=n->IsPVs K H n vs (Z38 ts)
 | _,_,.nil,n,hp,hd=>by rw[Z38];exact .nil
 | _,_,.cons h r,n,hp,hd=>by
  rw[Z24,Bool.and_eq_true] at hp
  rw[dps] at hd
  rw[Z38]
  exact .cons (Zmt h n hp.1 (by omega)) (Z32 r n hp.2 (by omega))
end
theorem Ze2 {v w:V}(hv:plT (.at v)=true)(hw:plT (.at w)=true):eqV v w=true↔v=w:=by
 cases v with
 | int i =>
  cases w with
  | int j=>simp [eqV]
  | str y=>simp [eqV]
  | _=>simp [plT] at hw
 | str x =>
  cases w with
  | int j=>simp [eqV]
  | str y=>simp [eqV]
  | _=>simp [plT] at hw
 | _=>simp [plT] at hv
mutual
theorem Zg4:∀(t u:Th),plT t=true->plT u=true->(Z6d (pvT t) (pvT u)=true↔t=u)
 | .at v,.at w,ht,hu=>by rw[pvT,pvT,Z6d,Ze2 ht hu];simp
 | .at v,.tup ys,ht,hu=>by rw[pvT,pvT,Z6d];simp
 | .tup xs,.at w,ht,hu=>by rw[pvT,pvT,Z6d];simp
 | .tup xs,.tup ys,ht,hu=>by rw[plT] at ht hu;rw[pvT,pvT,Z6d,Z20 xs ys ht hu];simp
 | .lst _,_,ht,hu=>by rw[plT] at ht;cases ht
 | _,.lst _,ht,hu=>by rw[plT] at hu;cases hu
theorem Z20:∀(ts us:List Th),Z24 ts=true->Z24 us=true->(Z1u (Z38 ts) (Z38 us)=true↔ts=us)
 | [],[],_,_=>by rw[Z38,Z1u];simp
 | [],y::ys,_,_=>by rw[Z38,Z38,Z1u];simp
 | x::xs,[],_,_=>by rw[Z38,Z38,Z1u];simp
 | x::xs,y::ys,ht,hu=>by
  rw[Z24,Bool.and_eq_true] at ht hu
  rw[Z38,Z38,Z1u,Bool.and_eq_true,Zg4 x y ht.1 hu.1,Z20 xs ys ht.2 hu.2]
  simp
end
section
variable {X:Cx}
inductive rSame (neg:Bool)(n:Nat)(mk:List Th->Th)(x:V)(y:V)(H:Hp)(Q:VK):Prop
 | mk (ts us:_) (_:IsTh H x (mk ts)) (_:IsTh H y (mk us)) (_:Z24 ts=true) (_:Z24 us=true) (_:dps ts<=n) (_:dps us<=n) (_:(ts=us->Q (.bl (!neg)) H)) (_:(ts≠us->Q (.bl neg) H)):rSame neg n mk x y H Q
theorem Z82 {n:Nat}{ts us:List Th}{Q:V->Hp->Prop}{H:Hp}{b neg:Bool}(p1:Z24 ts=true)(p2:Z24 us=true)(q1:ts=us->Q (.bl (!neg)) H)(q2:ts≠us->Q (.bl neg) H)(e:b=if neg then !Z1u (Z38 ts) (Z38 us) else Z1u (Z38 ts) (Z38 us)):Q (.bl b) H:=by
 have hi:=Z20 ts us p1 p2
 by_cases z:ts=us
 ·rw[hi.mpr z] at e
  have:b = !neg:=by rw[e];cases neg <;> rfl
  rw[this]
  exact q1 z
 ·have hf:Z1u (Z38 ts) (Z38 us)=false:=by
   cases h:Z1u (Z38 ts) (Z38 us) with
   | false=>rfl
   | true=>exact absurd (hi.mp h) z
  rw[hf] at e
  have:b=neg:=by rw[e];cases neg <;> rfl
  rw[this]
  exact q2 z
theorem Ze3 {K:PySem.W.Frag}(hK:X.K=K)(n:Nat)(hu:X.A.units+(n+1)<cLine):OpR X (compareOp .Eq) (rSame false n .tup):=by
 subst hK
 intro pins s σ H x y v u Q I rx ry h
 obtain⟨ts,us,hx,hy,p1,p2,d1,d2,q1,q2⟩:=h
 obtain⟨a,vs,rfl,ha,hvs⟩:=Z1i hx
 obtain⟨b,ws,rfl,hb,hws⟩:=Z1i hy
 exact Zdx n hu pins s σ H _ _ v u Q I rx ry ⟨a,b,vs,ws,_,_,rfl,rfl,SqT.of ha,Z32 hvs n p1 d1,SqT.of hb,Z32 hws n p2 d2,Z82 (n:=n) (neg:=false) p1 p2 q1 q2 rfl⟩
theorem Zim {K:PySem.W.Frag}(hK:X.K=K)(n:Nat)(hu:X.A.units+(n+1)<cLine):OpR X (compareOp .NotEq) (rSame true n .tup):=by
 subst hK
 intro pins s σ H x y v u Q I rx ry h
 obtain⟨ts,us,hx,hy,p1,p2,d1,d2,q1,q2⟩:=h
 obtain⟨a,vs,rfl,ha,hvs⟩:=Z1i hx
 obtain⟨b,ws,rfl,hb,hws⟩:=Z1i hy
 exact Zdy n hu pins s σ H _ _ v u Q I rx ry ⟨a,b,vs,ws,_,_,rfl,rfl,SqT.of ha,Z32 hvs n p1 d1,SqT.of hb,Z32 hws n p2 d2,Z82 (n:=n) (neg:=true) p1 p2 q1 q2 rfl⟩
theorem Zin {K:PySem.W.Frag}(hK:X.K=K)(n:Nat)(hu:X.A.units+(n+1)<cLine):OpR X (compareOp .NotEq) (rSame true n .lst):=by
 subst hK
 intro pins s σ H x y v u Q I rx ry h
 obtain⟨ts,us,hx,hy,p1,p2,d1,d2,q1,q2⟩:=h
 obtain⟨a,vs,rfl,ha,hvs⟩:=Z3d hx
 obtain⟨b,ws,rfl,hb,hws⟩:=Z3d hy
 cases rx
 cases ry
 obtain⟨its,v1,pl,_⟩:=I.list (SqL.of ha)
 obtain⟨its2,v2,pl2,_⟩:=I.list (SqL.of hb)
 have r:=Z32 (K:=X.K) hvs n p1 d1
 have r':=Z32 (K:=X.K) hws n p2 d2
 obtain⟨e1,e2⟩:=Zdw (A:=X.A.in1) I r r' v1 v2 (fun hx hy rx ry=>Z81 I n X.A.in1 (by show X.A.units+1+n<cLine;omega) hx hy rx ry)
 have hl1:=v1.length
 have hl2:=v2.length
 by_cases hs:its.length=its2.length
 ·refine SeqAt.RcNeAt.lists pl.isList pl2.isList (by simp only [List.size_toArray];exact hs) (by omega) e1 X.prog X.w _ _ ?_
  refine Z0w I (Z82 (n:=n) (neg:=true) p1 p2 q1 q2 rfl) ?_
  show(!Z1u (Z38 ts) (Z38 us))=_
  rw[<- e2]
  simp [hs]
 ·refine SeqAt.RcNeAt.lists_lengths pl.isList pl2.isList (by simp only [List.size_toArray,bne_iff_ne];exact hs) (by omega) X.prog X.w _ _ ?_
  refine Z0w I (Z82 (n:=n) (neg:=true) p1 p2 q1 q2 rfl) ?_
  show(!Z1u (Z38 ts) (Z38 us))=_
  rw[<- e2]
  simp [hs]
end
def Zko (td ty tx:TE):TE:=fun σ H Q=>td σ H fun x H1=>∃a,x = .ref a/\IsD H1 a/\ty σ H1 fun y H2=>tx σ H2 fun z H3=>∃kvs k,H3 a=some (.dK kvs)/\y=kV k/\kvs.length<sizeLine ∧
 (∀v,Z37 kvs k=some v->Q v H3)/\(Z37 kvs k=none->Q z (upd H3 a (.dK (Z43 kvs k z))))
section
variable {X:Cx}{o e f:Expr}{apos cpos:Pos}{td ty tx:TE}
theorem Zg5 (ho:PE X o td)(he:PE X e ty)(hf:PE X f tx)(m:M2 X o "setdefault" apos e f cpos):PE X (.Call (.Attribute o "setdefault" apos) [e,f] [] cpos) (Zko td ty tx):=by
 intro pins s σ H Q I h
 refine wpAny_Call_method m.base m.few m.line PySem.F.plainAttrs_dict PySem.F.slot_dict_setdefault PySem.F.type_dict_setdefault (thn (ho pins s σ H _ I h) fun u s1 ⟨x,H1,I1,rx,a,ex,d,q1⟩ => ?_)
 subst ex
 obtain rfl:u=Value.ref a:=rx
 obtain⟨t1,t2,_⟩:=Zkk I1 d
 refine⟨t1,t2,?_⟩
 rw[m.trees]
 refine Calls.callWith_builtin rfl (Calls.evalArgs_plain (Calls.spliced_cons (thn (he pins s1 σ H1 _ I1 q1) fun iv s2 ⟨y,H2,I2,ry,q2⟩ =>
  Calls.spliced_cons (thn (hf pins s2 σ H2 _ I2 q2) fun fv s3 ⟨z,H3,I3,rz,kvs,k,ea,ey,hl,q3,q4⟩=>Calls.spliced_nil ?_))))
 subst ey
 obtain⟨hz,hd,vs,rel,dd⟩:=Zfs I3.hok ea
 refine call_meetsIn PySem.F.slot_dict_setdefault dd.typeIs PySem.F.entry_dict_setdefault (PySem.F.args_dict_setdefault_3 _ _ _) (kt_meets_setdefault (Z0v X.prog X.w) a (Z9y ry) hd fv) ⟨vs,dd,by rw[<- rel.length];exact hz,fun v' hv => ?_,fun hn h' dd' hs => ?_⟩
 ·cases l:Z37 kvs k with
  | none =>
   have hn:valueAt vs k=none:=RelO.none_of (by rw[<- l];exact rel.val k)
   rw[hn] at hv
   cases hv
  | some v =>
   obtain⟨w',hw,rw'⟩:=RelO.some_of (v:=v) (o:=valueAt vs k) (by rw[<- l];exact rel.val k)
   rw[hw] at hv
   cases hv
   exact⟨v,H3,I3.tok _,rw',q3 v l⟩
 ·have l:Z37 kvs k=none:=by
   cases l:Z37 kvs k with
   | none=>rfl
   | some v =>
    obtain⟨w',hw,rw'⟩:=RelO.some_of (v:=v) (o:=valueAt vs k) (by rw[<- l];exact rel.val k)
    rw[hw] at hn
    cases hn
  have he:∃q,h'.get? a=some q:=let ⟨q,_,_,hq,_⟩:=dd';⟨q,hq⟩
  have hl':(Z43 kvs k z).length<=sizeLine:=by have:=Z3k kvs k z;omega
  exact⟨z,_,Z80 I3 (by rw[ea];exact True.intro) hs he (Zdm hl' hd (rel.put k rz) dd'),rz,q4 l⟩
end
theorem Zio {P:Program}{w:World}{i:Int}{v:Value}(h:(Z0v P w).is (.inl i) v=true):∃t,v = .int i t:=by
 exact Value.isInt_shape (k:=i) (v:=v) h
theorem Zip:∀(ns:List Int) (vs:List Value),vs.length=ns.length->(∀(j:Nat) (v:Value) (n:Int),vs[j]? = some v->ns[j]? = some n->∃t,v = .int n t)->IntsAre vs ns:=by
 intro ns
 induction ns with
 | nil =>
  intro vs hl _
  rw[List.eq_nil_of_length_eq_zero hl]
  exact .nil
 | cons n ns ih =>
  intro vs hl h
  match vs,hl with
  | v::vs,hl =>
   obtain⟨t,rfl⟩:=h 0 v n rfl rfl
   exact .cons n t (ih vs (by simpa using hl) fun j u m hu hm=>h (j+1) u m (by simpa using hu) (by simpa using hm))
section
variable {P:Program}{w:World}{A:Around}{E:Value->Shared->Prop}{s:Shared}
theorem Za7 {d:Addr}{kvs:List (Key × Value)}{ns:List Int}{Q:Value->Shared->Prop}(hh:A.handled=none)(lo:(d==sysModules)=false)(dd:s.heap.DictOf (Z0v P w) d kvs)(hk:kvs.map (·.1)=ns.map .inl)(h64:ns.length<64)
  (h:∀(h0 h':Heap) (tk:Nat) (out:List Value) (ns':List Int) (e:Nat),IntsAre out ns'->ns'.Perm ns->ns'.Pairwise (· <= ·)->h'.get? h0.objs.size=some (seqObj "list" out.toArray e) →
   (∀b o,s.heap.get? b=some o->h0.get? b=some o)->(∀b o,h0.get? b=some o->h'.get? b=some o)->Q (.ref h0.objs.size) { s with heap:=h',toks:=tk }):wpAny (model P w) A (call (.builtin "sorted") [.ref d]) Q E s:=by
 obtain⟨ep,hat⟩:=dd.dictAt
 have hlen:kvs.length=ns.length:=by
  have:=congrArg List.length hk
  simpa using this
 refine Calls.call_function_entry kind_sorted plain_sorted entry_sorted (args_sorted1 _) ?_
 unfold Builtin.«sorted»
 refine wpAny_bind (m:=checkCount "sorted" 1 1 _) (wpAny_pure ?_)
 have lz:kvs.length<=sizeLine:=by
  rw[sizeLine_eq]
  omega
 refine wpAny_bind (W.kdu_collect (A:=A.in1) (W.kdl_dict (knd:=Z0v P w) (kvs:=kvs) (ep:=ep) lo) hh hat lz fun h0 tk acc hk0 hacc => ?_)
 have hl:acc.toList.length=kvs.length:=by rw[Array.length_toList];exact hacc.1
 have hi:IntsAre acc.toList ns:=by
  refine Zip ns acc.toList (by omega) fun j v n hv hn => ?_
  obtain⟨k,x,hx,hq⟩:=hacc.2 j v (by rw[<- Array.getElem?_toList];exact hv)
  have e:(kvs.map (·.1))[j]? = some k:=by rw[List.getElem?_map,hx];rfl
  rw[hk,List.getElem?_map,hn] at e
  cases e
  exact Zio hq
 refine wpAny_bind (wpAny_newList ?_ (by rw[hl];exact lz))
 have g0:(h0.push (seqObj "list" acc.toList.toArray 0)).get? h0.objs.size=some (seqObj "list" acc.toList.toArray 0):=Heap.get?_push_size _ rfl
 show wpAny _ _ _ _ _ { s with heap:=h0.push (seqObj "list" acc.toList.toArray 0),toks:=tk }
 refine wpAny_bind (wpAny_holding (wpAny_call_entry slot_list_sort ⟨_,g0,rfl⟩ entry_list_sort (list_sort_tree (s:={ s with heap:=h0.push (seqObj "list" acc.toList.toArray 0),toks:=tk }) g0 hi (by omega) fun out ns' a1 a2 a3=>⟨_,rfl,?_⟩) (args_list_sort _)))
 obtain⟨e,he⟩:=sortedHeap_at (out:=out) g0
 refine wpAny_pure ⟨_,rfl,h h0 _ tk out.toList ns' e a1 a2 a3 he hk0 fun b o z => ?_⟩
 have z1:(h0.push (seqObj "list" acc.toList.toArray 0)).get? b=some o:=Heap.get?_push_of_some _ z
 rw[sortedHeap_old (Nat.ne_of_lt (Heap.lt_size z)) (Heap.lt_size z1)]
 exact z1
end
section
variable {X:Cx}
theorem Z5q (hc:X.calm=true):Z48 X (.builtin "sorted") (fun xs H Q=>∃(p:Addr) (kvs:List (Key × V)) (ks:List Int),xs = [.ref p]/\H p=some (.dK kvs)/\kvs.map (·.1)=ks.map .inl/\ks.length<64 ∧
  ∀(ns:List Int) a,ns.Perm ks->ns.Pairwise (· <= ·)->H a=none->Q (.ref a) (upd H a (.lst (ns.map V.int)))):=by
 intro pins s σ H xs us Q I r h
 obtain⟨p,kvs,ks,rfl,hp,hks,hz,q⟩:=h
 obtain⟨u,rfl,rx⟩:=Z7u r
 cases rx
 obtain⟨z,hd,vs,rel,dd⟩:=Zfs I.hok hp
 refine Za7 (I.ok.hd hc) hd dd (by rw[<- hks];exact(KV.keys rel).symm) hz fun h0 h' tk out ns e hi pm srt g k1 k2 => ?_
 have ln:(ns.map V.int).length<=sizeLine:=by
  rw[List.length_map,pm.length_eq,sizeLine_eq]
  omega
 have I1:Inv X pins σ H { s with heap:=h0,toks:=tk }:=I.kept (t':=tk) k1
 exact⟨.ref h0.objs.size,_,I1.laid (t':=tk) k2 (Nat.le_refl _) (show ObjOk X.prog X.w _ h' _ (.lst (ns.map V.int)) from⟨ln,out,e,Zbb hi,g⟩),rfl,q ns _ pm srt (I1.hok.fresh (Nat.le_refl _))⟩
end
end L2
namespace L2
open PySem PySem.Spec PyProof.Rows PySem.Builtin PySem.AutoSeq1
abbrev Zfh (h:Heap)(z TI TO:Addr)(f0 f1:Value):Prop:=h.get? z=some { cls := .type "zip",dict:=none,data := .fields #[f0,f1,.bool false,.ref TI,.ref TO],slots := #[] }
structure ZAt (h:Heap)(z TI TO i1 i2 t1 t2:Addr)(xs ys:Array Value)(i:Nat):Prop where
 z:∃f0 f1,(f0 = .none∨∃a t,f0 = .int a t)/\Zfh h z TI TO f0 f1
 ti:IsPair h TI (.ref i1) (.ref i2)
 to:∃a b,IsPair h TO a b
 g1:h.IsTupleIter i1 t1 i
 g2:h.IsTupleIter i2 t2 i
 u1:h.IsTuple t1 xs
 u2:h.IsTuple t2 ys
theorem Z4q {h h':Heap}{b t:Addr}{xs:Array Value}(x:h.IsTuple t xs)(hs:Heap.ExtBut b h h')(hb:t≠b):h'.IsTuple t xs:=by
 obtain⟨o,q1,q2⟩:=x
 exact⟨o,hs _ _ hb q1,q2⟩
section
variable {prog:Program}{w:World}{A:Around}{E:Value->Shared->Prop}{s:Shared}
theorem Zg6 {M:Model}{a:Addr}{Q:Option Obj->Shared->Prop}(h:Q (s.heap.get? a) s):wpAny M A (loadIfAlive a) Q E s:=fun _ _ _=>h
theorem Zbc {z TI TO:Addr}{f0 f1:Value}{Q:Bool->Shared->Prop}(h0:f0 = .none∨∃a t,f0 = .int a t)(hz:Zfh s.heap z TI TO f0 f1)
  (q1:Q true s) (q2:∀h' f1',Zfh h' z TI TO f0 f1'->h'.objs.size=s.heap.objs.size->Heap.ExtBut z s.heap h'->Q false { s with heap:=h' }):wpAny (model prog w) A (SmallTypes.ownedTupleIsFree (.ref z)) Q E s:=by
 unfold SmallTypes.ownedTupleIsFree
 rcases h0 with rfl | ⟨a,t,rfl⟩
 ·exact wpAny_bind (wpAny_field hz rfl (x := .none) rfl (wpAny_pure q1))
 ·refine wpAny_bind (wpAny_field hz rfl (x := .int a t) rfl ?_)
  refine wpAny_bind (Zg6 ?_)
  refine wpAny_ite_split (fun _=>wpAny_pure q1) (fun _ => ?_)
  refine wpAny_bind (wpAny_field hz rfl (x:=f1) rfl ?_)
  refine wpAny_ite_split (fun _ => ?_) (fun _ => ?_)
  ·refine wpAny_bind (wpAny_setField_rec hz (by simp) fun h' hz' hs=>wpAny_pure ?_)
   exact q2 h' (.bool true) hz' hs.1 hs.extBut
  ·exact wpAny_pure (q2 s.heap f1 hz rfl fun _ _ _ e=>e)
theorem Zg7 {z TI TO i1 i2 t1 t2:Addr}{i:Nat}{xs ys:Array Value}{x y:Value}{Q:Value->Shared->Prop}(D:ZipApart z TI TO i1 i2 t1 t2)(Z:ZAt s.heap z TI TO i1 i2 t1 t2 xs ys i)(hx:xs[i]? = some x)(hy:ys[i]? = some y)
  (hQ:∀h' T,s.heap.objs.size<=T->ZAt h' z TI TO i1 i2 t1 t2 xs ys (i+1)->IsPair h' T x y->(∀c o,c≠z->c≠TO->c≠i1->c≠i2->s.heap.get? c=some o->h'.get? c=some o)->Q (.ref T) { s with heap:=h' }) :
  wpAny (model prog w) A (Builtin.«zip.__next__» ⟨[.ref z], []⟩) (fun fin s' => ∃ v, fin = .done (.ret v) /\ Q v s') E s := by
 obtain⟨⟨f0,f1,h0,hz⟩,hTI,⟨a,b,hTO⟩,h1,h2,hl1,hl2⟩:=Z
 show wpAny _ _ (field (.ref z) 2 >>= _) _ _ _
 refine wpAny_bind (wpAny_field hz rfl (x := .bool false) rfl ?_)
 show wpAny _ _ (field (.ref z) 3 >>= _) _ _ _
 refine wpAny_bind (wpAny_field hz rfl (x := .ref TI) rfl ?_)
 refine wpAny_bind (wpAny_seqItems hTI rfl ?_)
 show wpAny _ _ (Builtin.SmallTypes.ownedTupleIsFree (.ref z) >>= _) _ _ _
 refine wpAny_bind (Zbc h0 hz ?_ fun h₁ f1' hz₁ sz₁ hs₁ => ?_)
 ·simp only [if_true]
  refine wpAny_bind (wpAny_rule ?_)
  refine wpAny_bind (wpAny_field hz rfl (x := .ref TO) rfl ?_)
  refine wpAny_bind (wpAny_setField_rec hz (by simp) fun h₁ hz₁ hs₁ => ?_)
  replace hz₁:Zfh h₁ z TI TO .ellipsis f1:=hz₁
  refine wpAny_bind ?_
  simp only [List.zipIdx_cons,List.zipIdx_nil,List.forIn_cons,List.forIn_nil]
  refine wpAny_bind (wpAny_bind (wpAny_onRaise ?_))
  show wpAny _ _ (Builtin.SmallTypes.nextOf (.ref i1) >>= _) _ _ _
  refine wpAny_bind (Z46 (h1.extBut hs₁.extBut D.i1z) (Z4q hl1 hs₁.extBut D.l1z) hx fun h₂ h1₂ hs₂=>wpAny_pure ?_)
  have hTO₂:IsPair h₂ TO a b:=hs₂.extBut _ _ D.TOi1 (hs₁.extBut _ _ D.TOz hTO)
  refine wpAny_bind (wpAny_seqItems hTO₂ rfl ?_)
  refine wpAny_bind (wpAny_updateSeq_pair hTO₂ fun h₃ hTO₃ hs₃ => ?_)
  replace hTO₃:IsPair h₃ TO x b:=hTO₃
  refine wpAny_bind (wpAny_letGo (wpAny_pure ?_))
  refine wpAny_bind (wpAny_bind (wpAny_onRaise ?_))
  show wpAny _ _ (Builtin.SmallTypes.nextOf (.ref i2) >>= _) _ _ _
  refine wpAny_bind (Z46 (((h2.extBut hs₁.extBut D.i2z).extBut hs₂.extBut D.i12.symm).extBut hs₃.extBut D.TOi2.symm)
   (Z4q (Z4q (Z4q hl2 hs₁.extBut D.l2z) hs₂.extBut D.l2i1) hs₃.extBut D.l2TO) hy fun h₄ h2₄ hs₄=>wpAny_pure ?_)
  have hTO₄:IsPair h₄ TO x b:=hs₄.extBut _ _ D.TOi2 hTO₃
  refine wpAny_bind (wpAny_seqItems hTO₄ rfl ?_)
  refine wpAny_bind (wpAny_updateSeq_pair hTO₄ fun h₅ hTO₅ hs₅ => ?_)
  replace hTO₅:IsPair h₅ TO x y:=hTO₅
  refine wpAny_bind (wpAny_letGo (wpAny_pure (wpAny_pure ?_)))
  refine wpAny_bind (wpAny_seqItems hTO₅ rfl ?_)
  refine wpAny_bind (wpAny_newTuple ?_)
  have hsz:h₅.objs.size=s.heap.objs.size:=by rw[hs₅.1,hs₄.1,hs₃.1,hs₂.1,hs₁.1]
  have hz₅:Zfh h₅ z TI TO .ellipsis f1:=hs₅.extBut _ _ D.TOz.symm (hs₄.extBut _ _ D.i2z.symm (hs₃.extBut _ _ D.TOz.symm (hs₂.extBut _ _ D.i1z.symm hz₁)))
  have hk₅:∀c o,c≠z->c≠TO->c≠i1->c≠i2->s.heap.get? c=some o->h₅.get? c=some o:=fun c o c1 c2 c3 c4 e =>
   hs₅.extBut _ _ c2 (hs₄.extBut _ _ c4 (hs₃.extBut _ _ c2 (hs₂.extBut _ _ c3 (hs₁.extBut _ _ c1 e))))
  have h1₅:h₅.IsTupleIter i1 t1 (i+1):=((h1₂.extBut hs₃.extBut D.TOi1.symm).extBut hs₄.extBut D.i12).extBut hs₅.extBut D.TOi1.symm
  have h2₅:h₅.IsTupleIter i2 t2 (i+1):=h2₄.extBut hs₅.extBut D.TOi2.symm
  have hzlt:z<h₅.objs.size:=Heap.lt_size hz₅
  show wpAny _ _ (Builtin.SmallTypes.ownedTupleHandOut (.ref z) (.ref h₅.objs.size) >>= _) _ _ _
  refine wpAny_bind ?_
  unfold Builtin.SmallTypes.ownedTupleHandOut
  have hz₆:Zfh (h₅.push { cls := .type "tuple",data := .seq #[x,y] }) z TI TO .ellipsis f1:=Heap.get?_push_of_some _ hz₅
  refine wpAny_bind (wpAny_setField_rec hz₆ (by simp) fun h₇ hz₇ hs₇ => ?_)
  replace hz₇:Zfh h₇ z TI TO (rawInt h₅.objs.size) f1:=hz₇
  refine wpAny_setField_rec hz₇ (by simp) fun h₈ hz₈ hs₈ => ?_
  replace hz₈:Zfh h₈ z TI TO (rawInt h₅.objs.size) (.bool false):=hz₈
  have up:∀c o,c≠z->h₅.get? c=some o->h₈.get? c=some o:=fun c o c1 e=>hs₈.extBut _ _ c1 (hs₇.extBut _ _ c1 (Heap.get?_push_of_some _ e))
  have hT₈:IsPair h₈ h₅.objs.size x y:=hs₈.extBut _ _ (Nat.ne_of_gt hzlt) (hs₇.extBut _ _ (Nat.ne_of_gt hzlt) (Heap.get?_push_size _ rfl))
  have al:∀c o,c≠z->c≠TO->c≠i1->c≠i2->s.heap.get? c=some o->h₈.get? c=some o:=fun c o c1 c2 c3 c4 e=>up c o c1 (hk₅ c o c1 c2 c3 c4 e)
  refine wpAny_pure ⟨_,rfl,hQ h₈ h₅.objs.size (Nat.le_of_eq hsz.symm) ⟨⟨_,_,.inr ⟨_,_,rfl⟩,hz₈⟩,al _ _ D.TIz D.TITO D.TIi1 D.TIi2 hTI,⟨_,_,up _ _ D.TOz hTO₅⟩,h1₅.at fun o e=>up _ o D.i1z e,h2₅.at fun o e=>up _ o D.i2z e,?_,?_⟩ hT₈ al⟩
  ·obtain⟨o,e1,e2⟩:=hl1
   exact⟨o,al _ _ D.l1z D.l1TO D.l1i1 D.l1i2 e1,e2⟩
  ·obtain⟨o,e1,e2⟩:=hl2
   exact⟨o,al _ _ D.l2z D.l2TO D.l2i1 D.l2i2 e1,e2⟩
 ·simp only [Bool.false_eq_true,if_false]
  refine wpAny_bind ?_
  simp only [List.forIn_toArray,List.forIn_cons,List.forIn_nil]
  refine wpAny_bind (wpAny_bind (wpAny_holding ?_))
  show wpAny _ _ (Builtin.SmallTypes.nextOf (.ref i1) >>= _) _ _ _
  refine wpAny_bind (Z46 (z:={ s with heap:=h₁ }) (h1.extBut hs₁ D.i1z) (Z4q hl1 hs₁ D.l1z) hx fun h₂ h1₂ hs₂=>wpAny_pure ?_)
  refine wpAny_pure ?_
  refine wpAny_bind (wpAny_bind (wpAny_holding ?_))
  show wpAny _ _ (Builtin.SmallTypes.nextOf (.ref i2) >>= _) _ _ _
  refine wpAny_bind (Z46 (z:={ s with heap:=h₂ }) ((h2.extBut hs₁ D.i2z).extBut hs₂.extBut D.i12.symm) (Z4q (Z4q hl2 hs₁ D.l2z) hs₂.extBut D.l2i1) hy fun h₃ h2₃ hs₃=>wpAny_pure ?_)
  refine wpAny_pure (wpAny_pure ?_)
  refine wpAny_bind (wpAny_newTuple ?_ (by show 2<=sizeLine;decide))
  have hsz:h₃.objs.size=s.heap.objs.size:=by rw[hs₃.1,hs₂.1];exact sz₁
  have al:∀c o,c≠z->c≠i1->c≠i2->s.heap.get? c=some o->(h₃.push { cls := .type "tuple",data := .seq #[x,y] }).get? c=some o:=fun c o c1 c3 c4 e =>
   Heap.get?_push_of_some _ (hs₃.extBut _ _ c4 (hs₂.extBut _ _ c3 (hs₁ _ _ c1 e)))
  have u3:∀c o,h₃.get? c=some o->(h₃.push { cls := .type "tuple",data := .seq #[x,y] }).get? c=some o:=fun c o e=>Heap.get?_push_of_some _ e
  refine wpAny_pure ⟨_,rfl,hQ _ h₃.objs.size (Nat.le_of_eq hsz.symm) ⟨⟨_,_,h0,u3 _ _ (hs₃.extBut _ _ D.i2z.symm (hs₂.extBut _ _ D.i1z.symm hz₁))⟩,al _ _ D.TIz D.TIi1 D.TIi2 hTI,⟨_,_,al _ _ D.TOz D.TOi1 D.TOi2 hTO⟩,(h1₂.extBut hs₃.extBut D.i12).at fun o e=>u3 _ o e,h2₃.at fun o e=>u3 _ o e,?_,?_⟩ (Heap.get?_push_size _ rfl) fun c o c1 _ c3 c4 e=>al c o c1 c3 c4 e⟩
  ·obtain⟨o,e1,e2⟩:=hl1
   exact⟨o,al _ _ D.l1z D.l1i1 D.l1i2 e1,e2⟩
  ·obtain⟨o,e1,e2⟩:=hl2
   exact⟨o,al _ _ D.l2z D.l2i1 D.l2i2 e1,e2⟩
theorem Zg8 {z TI TO i1 i2 t1 t2:Addr}{i:Nat}{xs ys:Array Value}{Q:Fin->Shared->Prop}(hh:A.handled=none)(D:ZipApart z TI TO i1 i2 t1 t2)(Z:ZAt s.heap z TI TO i1 i2 t1 t2 xs ys i)(hx:xs[i]? = none)
  (hE:∀h' e,(∀c o,c≠z->c≠TO->c≠i1->c≠i2->s.heap.get? c=some o->h'.get? c=some o)->(∃o,h'.get? e=some o/\o.cls = .type "StopIteration")->E (.ref e) { s with heap:=h' }) :
  wpAny (model prog w) A (Builtin.«zip.__next__» ⟨[.ref z], []⟩) Q E s := by
 obtain⟨⟨f0,f1,h0,hz⟩,hTI,⟨a,b,hTO⟩,h1,h2,hl1,hl2⟩:=Z
 show wpAny _ _ (field (.ref z) 2 >>= _) _ _ _
 refine wpAny_bind (wpAny_field hz rfl (x := .bool false) rfl ?_)
 show wpAny _ _ (field (.ref z) 3 >>= _) _ _ _
 refine wpAny_bind (wpAny_field hz rfl (x := .ref TI) rfl ?_)
 refine wpAny_bind (wpAny_seqItems hTI rfl ?_)
 show wpAny _ _ (Builtin.SmallTypes.ownedTupleIsFree (.ref z) >>= _) _ _ _
 refine wpAny_bind (Zbc h0 hz ?_ fun h₁ f1' hz₁ sz₁ hs₁ => ?_)
 ·simp only [if_true]
  refine wpAny_bind (wpAny_rule ?_)
  refine wpAny_bind (wpAny_field hz rfl (x := .ref TO) rfl ?_)
  refine wpAny_bind (wpAny_setField_rec hz (by simp) fun h₁ hz₁ hs₁ => ?_)
  replace hz₁:Zfh h₁ z TI TO .ellipsis f1:=hz₁
  refine wpAny_bind ?_
  simp only [List.zipIdx_cons,List.zipIdx_nil,List.forIn_cons,List.forIn_nil]
  refine wpAny_bind (wpAny_bind (wpAny_onRaise ?_))
  show wpAny _ _ (Builtin.SmallTypes.nextOf (.ref i1) >>= _) _ _ _
  refine wpAny_bind (Z97 hh (h1.extBut hs₁.extBut D.i1z) (Z4q hl1 hs₁.extBut D.l1z) hx fun h₂ e hs₂ he => ?_)
  obtain⟨oe,hoe,hce⟩:=he
  have hz₂:Zfh h₂ z TI TO .ellipsis f1:=hs₂ _ _ D.i1z.symm hz₁
  have hez:e≠z:=fun x=>by subst x;rw[hz₂] at hoe;cases hoe;simp at hce
  refine wpAny_setField_rec hz₂ (by simp) fun h₃ _ hs₃=>hE h₃ e (fun c o c1 _ c3 _ x=>hs₃.extBut _ _ c1 (hs₂ _ _ c3 (hs₁.extBut _ _ c1 x))) ⟨oe,hs₃.extBut _ _ hez hoe,hce⟩
 ·simp only [Bool.false_eq_true,if_false]
  refine wpAny_bind ?_
  simp only [List.forIn_toArray,List.forIn_cons,List.forIn_nil]
  refine wpAny_bind (wpAny_bind (wpAny_holding ?_))
  show wpAny _ _ (Builtin.SmallTypes.nextOf (.ref i1) >>= _) _ _ _
  refine wpAny_bind (Z97 (z:={ s with heap:=h₁ }) hh (h1.extBut hs₁ D.i1z) (Z4q hl1 hs₁ D.l1z) hx fun h₂ e hs₂ he => ?_)
  exact hE h₂ e (fun c o c1 _ c3 _ x=>hs₂ _ _ c3 (hs₁ _ _ c1 x)) he
theorem Zg9 {z TI TO i1 i2 t1 t2:Addr}{i:Nat}{xs ys:Array Value}{x y:Value}{Q:Option Value->Shared->Prop}(D:ZipApart z TI TO i1 i2 t1 t2)(Z:ZAt s.heap z TI TO i1 i2 t1 t2 xs ys i)(hx:xs[i]? = some x)(hy:ys[i]? = some y)
  (hQ:∀h' T,s.heap.objs.size<=T->ZAt h' z TI TO i1 i2 t1 t2 xs ys (i+1)->IsPair h' T x y->(∀c o,c≠z->c≠TO->c≠i1->c≠i2->s.heap.get? c=some o->h'.get? c=some o)->Q (some (.ref T)) { s with heap:=h' }) :
  wpAny (model prog w) A (pyNext (.ref z)) Q E s:=by
 have hT:s.TypeIs (.ref z) "zip":=by obtain⟨f0,f1,_,hz⟩:=Z.z;exact⟨_,hz,rfl⟩
 unfold pyNext
 exact wpAny_bind (wpAny_attempt (wpAny_callSpecial?_slot (name:=Str.ofString "__next__") hT F.slot_zip_next
  (wpAny_call_entry F.slot_zip_next hT F.entry_zip_next
   (Zg7 D Z hx hy fun h' T a1 a2 a3 a4=>wpAny_pure (hQ h' T a1 a2 a3 a4)) (F.args_zip_next_1 _))))
theorem Ze4 {z TI TO i1 i2 t1 t2:Addr}{i:Nat}{xs ys:Array Value}{Q:Option Value->Shared->Prop}(hh:A.handled=none)(D:ZipApart z TI TO i1 i2 t1 t2)(Z:ZAt s.heap z TI TO i1 i2 t1 t2 xs ys i)(hx:xs[i]? = none)
  (hQ:∀h',(∀c o,c≠z->c≠TO->c≠i1->c≠i2->s.heap.get? c=some o->h'.get? c=some o)->Q none { s with heap:=h' }):wpAny (model prog w) A (pyNext (.ref z)) Q E s:=by
 have hT:s.TypeIs (.ref z) "zip":=by obtain⟨f0,f1,_,hz⟩:=Z.z;exact⟨_,hz,rfl⟩
 unfold pyNext
 refine wpAny_bind (wpAny_attempt (wpAny_callSpecial?_slot (name:=Str.ofString "__next__") hT F.slot_zip_next
  (wpAny_call_entry F.slot_zip_next hT F.entry_zip_next (Zg8 hh D Z hx fun h' e hk he => ?_) (F.args_zip_next_1 _))))
 obtain⟨o,ho,hc⟩:=he
 refine wpAny_bind (wpAny_isInstance (T:="StopIteration") (b:=true) ⟨o,ho,hc⟩ isSubtype_stop ?_)
 exact wpAny_pure (hQ _ hk)
end
abbrev zH1 (h:Heap)(l1:Addr):Heap:=h.push { cls := .type "tuple_iterator",data := .fields #[.ref l1,.int 0 0] }
abbrev zH2 (h:Heap)(l1 l2:Addr):Heap:=(zH1 h l1).push { cls := .type "tuple_iterator",data := .fields #[.ref l2,.int 0 0] }
abbrev zH3 (h:Heap)(l1 l2:Addr):Heap:=(zH2 h l1 l2).push { cls := .type "tuple",data := .seq #[.ref h.objs.size,.ref (zH1 h l1).objs.size] }
abbrev zH4 (h:Heap)(l1 l2:Addr):Heap:=(zH3 h l1 l2).push { cls := .type "tuple",data := .seq #[.none,.none] }
abbrev zH5 (h:Heap)(l1 l2:Addr):Heap:=(zH4 h l1 l2).push { cls := .type "zip",data := .fields #[.none,.bool false,.bool false,.ref (zH2 h l1 l2).objs.size,.ref (zH3 h l1 l2).objs.size] }
theorem Ziq {h:Heap}{t:Addr}{xs:Array Value}(x:h.IsTuple t xs)(o:Obj):(h.push o).IsTuple t xs:=by
 obtain⟨q,q1,q2⟩:=x
 exact⟨q,Heap.get?_push_of_some _ q1,q2⟩
theorem Zga (l1 l2:Addr)(xs ys:Array Value) :
  Meets (Builtin.«zip.__new__» ⟨[.type "zip", .ref l1, .ref l2], []⟩) (fun _ R s => s.heap.IsTuple l1 xs /\ s.heap.IsTuple l2 ys ∧
   R (.ok (.ret (.ref (zH4 s.heap l1 l2).objs.size))) { s with heap:=zH5 s.heap l1 l2 }) :=
 .of_wp fun prog w A R s h=>by
  obtain⟨hp,g,d,tk,os⟩:=s;obtain⟨hl1,hl2,h⟩:=h
  have hsub:=sub_zip
  have hL1:Heap.IsTuple (Shared.heap ⟨hp,g,d,tk,os⟩) l1 xs:=hl1
  have hL2:Heap.IsTuple (Shared.heap ⟨hp.push { cls := .type "tuple_iterator",data := .fields #[.ref l1,.int 0 0] },g,d,tk,os⟩) l2 ys:=Ziq hl2 _
  wp_walk using wpAny_pyIter_tuple hL1,wpAny_pyIter_tuple hL2
  exact⟨_,rfl,h⟩
section
variable {prog:Program}{w:World}{A:Around}{E:Value->Shared->Prop}{s:Shared}
theorem Ze5 {l1 l2:Addr}{xs ys:Array Value}{Q:Value->Shared->Prop}(hl1:s.heap.IsTuple l1 xs)(hl2:s.heap.IsTuple l2 ys)
  (h:∀h',ZAt h' (s.heap.objs.size+4) (s.heap.objs.size+2) (s.heap.objs.size+3) s.heap.objs.size (s.heap.objs.size+1) l1 l2 xs ys 0->ZipApart (s.heap.objs.size+4) (s.heap.objs.size+2) (s.heap.objs.size+3) s.heap.objs.size (s.heap.objs.size+1) l1 l2 →
   (∀c o,s.heap.get? c=some o->h'.get? c=some o)->Q (.ref (s.heap.objs.size+4)) { s with heap:=h' }) :
  wpAny (model prog w) A (call (.type "zip") [.ref l1,.ref l2]) Q E s:=by
 refine callType_new F.called_zip (by decide) (F.typeCall_zip_2 _ _) (F.newCall_zip_2 _ _) (fun obj=>F.args_object_init_3 obj _ _) F.entry_zip_new
  (Zga l1 l2 xs ys) ⟨hl1,hl2,?_⟩
 have z1:(zH1 s.heap l1).objs.size=s.heap.objs.size+1:=Heap.size_push ..
 have z2:(zH2 s.heap l1 l2).objs.size=s.heap.objs.size+2:=by rw[Heap.size_push,z1]
 have z3:(zH3 s.heap l1 l2).objs.size=s.heap.objs.size+3:=by rw[Heap.size_push,z2]
 have z4:(zH4 s.heap l1 l2).objs.size=s.heap.objs.size+4:=by rw[Heap.size_push,z3]
 have g5:(zH5 s.heap l1 l2).get? (zH4 s.heap l1 l2).objs.size=some _:=Heap.get?_push_size _ rfl
 have g4:(zH5 s.heap l1 l2).get? (zH3 s.heap l1 l2).objs.size=some _:=Heap.get?_push_of_some _ (Heap.get?_push_size _ rfl)
 have g3:(zH5 s.heap l1 l2).get? (zH2 s.heap l1 l2).objs.size=some _:=Heap.get?_push_of_some _ (Heap.get?_push_of_some _ (Heap.get?_push_size _ rfl))
 have g2:(zH5 s.heap l1 l2).get? (zH1 s.heap l1).objs.size=some _:=Heap.get?_push_of_some _ (Heap.get?_push_of_some _ (Heap.get?_push_of_some _ (Heap.get?_push_size _ rfl)))
 have g1:(zH5 s.heap l1 l2).get? s.heap.objs.size=some _:=Heap.get?_push_of_some _ (Heap.get?_push_of_some _ (Heap.get?_push_of_some _ (Heap.get?_push_of_some _ (Heap.get?_push_size _ rfl))))
 show _/\_
 rw[z2,z3,z4] at g5
 rw[z1,z2] at g3
 rw[z3] at g4
 rw[z1] at g2
 rw[z4]
 have kp:∀c o,s.heap.get? c=some o->(zH5 s.heap l1 l2).get? c=some o:=fun c o x =>
  Heap.get?_push_of_some _ (Heap.get?_push_of_some _ (Heap.get?_push_of_some _ (Heap.get?_push_of_some _ (Heap.get?_push_of_some _ x))))
 have lt:∀{t xs},s.heap.IsTuple t xs->t<s.heap.objs.size:=fun⟨_,e,_⟩=>Heap.lt_size e
 refine⟨⟨_,g5,rfl⟩,h _ ⟨⟨_,_,.inl rfl,g5⟩,g3,⟨_,_,g4⟩,⟨_,g1,rfl,rfl⟩,⟨_,g2,rfl,rfl⟩,?_,?_⟩ (zipApart_new (lt hl1) (lt hl2)) kp⟩
 ·obtain⟨o,e1,e2⟩:=hl1;exact⟨o,kp _ _ e1,e2⟩
 ·obtain⟨o,e1,e2⟩:=hl2;exact⟨o,kp _ _ e1,e2⟩
theorem Zcg:typeLookup (.type "zip") "__len__"=pure none:=by rw[typeLookup_type,builtinLookup_eq_fast];kernel_rfl
theorem Za8:typeLookup (.type "zip") "__length_hint__"=pure none:=by rw[typeLookup_type,builtinLookup_eq_fast];kernel_rfl
theorem Zgb {z:Addr}{Q:Bool->Shared->Prop}(hT:s.TypeIs (.ref z) "zip")(h:Q true s):wpAny (model prog w) A (List.listLengthHint (.ref z)) Q E s:=by
 unfold List.listLengthHint
 refine wpAny_bind (wpAny_specialOf hT Zcg ?_)
 dsimp only
 rw[if_neg (by decide +kernel)]
 rw[if_neg (by decide +kernel)]
 refine wpAny_bind (wpAny_specialOf hT Za8 ?_)
 exact wpAny_pure h
end
structure Zipd (H:Hp)(l:Addr)(xs ys:List V)(i:Nat)(H':Hp):Prop where
 same:∀b o,b≠l->H b=some o->H' b=some o
 ps:∃ps:List Addr,ps.length=i/\H' l=some (.lst (ps.map V.ref))/\∀(j:Nat) (p:Addr),ps[j]? = some p->p≠l/\∃x y,xs[j]? = some x/\ys[j]? = some y/\H' p=some (.tup [x,y])
section
variable {X:Cx}{pins:List (Addr × Obj)}{σ:St}
theorem Zgc {H0:Hp}{S z TI TO i1 i2 t1 t2:Addr}{xs ys:List V}{us ws:List Value}(hc:X.calm=true){A:Around}(hA:A.handled=none)(D:ZipApart z TI TO i1 i2 t1 t2)(v1:Vals xs us)(v2:Vals ys ws)(hl:xs.length=ys.length)(hz:xs.length<=sizeLine)
  (nS:S≠z/\S≠TO/\S≠i1/\S≠i2/\S≠TI/\S≠t1/\S≠t2) {R:Result->Shared->Prop} (hR:∀s' H',Inv X pins σ H' s'->Zipd H0 S xs ys xs.length H'->R (.ok (.ret .none)) s') :
  ∀(k i:Nat) (s:Shared) (H:Hp),xs.length-i=k->i<=xs.length->Inv X pins σ H s->(∀b ∈ [z,TO,i1,i2],Z3s X pins H b)->ZAt s.heap z TI TO i1 i2 t1 t2 us.toArray ws.toArray i->Zipd H0 S xs ys i H →
   codeAny (model X.prog X.w) A (.builtin "list.extend.loop" ⟨[.ref S,.ref z,.none],[]⟩) R s:=by
 have l1:=v1.length
 have l2:=v2.length
 intro k
 induction k with
 | zero =>
  intro i s H hk hi I hf Z zp
  have hin:i=xs.length:=by omega
  subst hin
  refine codeAny_builtin F.entry_extend_loop ?_
  rw[Around.under_plainId F.plain_extend_loop _]
  show wpAny _ A.in1 (pyNext (.ref z) >>= _) _ _ s
  refine wpAny_bind (Ze4 (A:=A.in1) hA D Z (by simp;omega) fun h' kk => ?_)
  refine wpAny_pure (hR _ H (I.turnedL (t':=s.toks) (ch := [z,TO,i1,i2]) (fun b o hb e => ?_) hf) zp)
  simp only [List.mem_cons,List.not_mem_nil,or_false,not_or] at hb
  exact kk b o hb.1 hb.2.1 hb.2.2.1 hb.2.2.2 e
 | succ k ih =>
  intro i s H hk hi I hf Z zp
  have hlt:i<xs.length:=by omega
  have e1:xs[i]? = some xs[i]:=List.getElem?_eq_getElem hlt
  have e2:ys[i]? = some (ys[i]'(by omega)):=List.getElem?_eq_getElem (by omega)
  obtain⟨u1,f1,r1⟩:=v1.get e1
  obtain⟨u2,f2,r2⟩:=v2.get e2
  refine codeAny_builtin F.entry_extend_loop ?_
  rw[Around.under_plainId F.plain_extend_loop _]
  show wpAny _ A.in1 (pyNext (.ref z) >>= _) _ _ s
  refine wpAny_bind (Zg9 (A:=A.in1) D Z (x:=u1) (y:=u2) (by simp [f1]) (by simp [f2]) fun h' T hT Z' hp kk => ?_)
  have nT:H T=none:=I.hok.fresh hT
  have I1:Inv X pins σ (upd H T (.tup [xs[i],ys[i]'(by omega)])) { s with heap:=h',toks:=s.toks }:=by
   refine I.turnedLaid (a:=T) (ch := [z,TO,i1,i2]) (fun b o hb e => ?_) hf hT ⟨by show 2<=sizeLine;decide,[u1,u2],.cons r1 (.cons r2 .nil),?_⟩
   ·simp only [List.mem_cons,List.not_mem_nil,or_false,not_or] at hb
    exact kk b o hb.1 hb.2.1 hb.2.2.1 hb.2.2.2 e
   ·exact⟨_,hp,rfl,_,rfl⟩
  obtain⟨sm,ps,pl,hS,pj⟩:=zp
  have hTS:S≠T:=fun q=>by rw[q,nT] at hS;cases hS
  have hS1:upd H T (.tup [xs[i],ys[i]'(by omega)]) S=some (.lst (ps.map V.ref)):=by rw[Z08 hTS];exact hS
  obtain⟨zz,its,n,rv,hll,hget⟩:=I1.lstM hS1
  have hl3:its.length=i:=by rw[<- hll,List.length_map,pl]
  show wpAny _ A.in1 (updateSeq S (·.push (.ref T)) >>= _) _ _ _
  refine wpAny_bind ?_
  refine wpAny_updateSeq hget rfl (wpAny_pure ⟨plainId_quiet F.plain_extend_loop _,?_⟩) (by rw[List.size_toArray];omega) (by show(its.toArray.push (.ref T)).size<=sizeLine+1;rw[Array.size_push,List.size_toArray];omega)
  have I2:=I1.lset (ys:=ps.map V.ref ++ [.ref T]) (t':=s.toks) (f:=fun x=>x.push (.ref T)) (its':=its ++ [.ref T]) hS1 hget (by simp) (rv.append (.cons (show RelV (.ref T) (Value.ref T) from rfl) .nil)) (by rw[List.length_append,List.length_map,pl];show i+1<=sizeLine;omega)
  have kz:∀b o,b≠S->h'.get? b=some o->(h'.update S (Obj.mapSeq fun x=>x.push (.ref T))).get? b=some o:=fun b o hb e=>(Heap.get?_update_other _ _ (Ne.symm hb)).trans e
  refine ih (i+1) _ _ (by omega) hlt I2 (fun b hb => ?_) ?_ ?_
  ·have q:=hf b hb
   refine⟨?_,q.2⟩
   have hbS:b≠S:=fun z=>by rw[z] at q;rw[q.1] at hS;cases hS
   have hbT:b≠T:=fun y=>by
    have lt:b<s.heap.objs.size:=by
     simp only [List.mem_cons,List.not_mem_nil,or_false] at hb
     rcases hb with rfl | rfl | rfl | rfl
     ·obtain⟨_,_,_,e⟩:=Z.z;exact Heap.lt_size e
     ·obtain⟨_,_,e⟩:=Z.to;exact Heap.lt_size e
     ·obtain⟨_,e,_⟩:=Z.g1;exact Heap.lt_size e
     ·obtain⟨_,e,_⟩:=Z.g2;exact Heap.lt_size e
    exact absurd (Nat.lt_of_lt_of_le lt hT) (by rw[y];exact Nat.lt_irrefl _)
   rw[Z08 hbS,Z08 hbT]
   exact q.1
  ·obtain⟨⟨f0,f1,h0,hz'⟩,hTI,⟨a,b,hTO⟩,g1,g2,ul1,ul2⟩:=Z'
   refine⟨⟨f0,f1,h0,kz _ _ nS.1.symm hz'⟩,kz _ _ nS.2.2.2.2.1.symm hTI,⟨a,b,kz _ _ nS.2.1.symm hTO⟩,g1.at fun o e=>kz _ o nS.2.2.1.symm e,g2.at fun o e=>kz _ o nS.2.2.2.1.symm e,?_,?_⟩
   ·obtain⟨o,q1,q2⟩:=ul1;exact⟨o,kz _ _ nS.2.2.2.2.2.1.symm q1,q2⟩
   ·obtain⟨o,q1,q2⟩:=ul2;exact⟨o,kz _ _ nS.2.2.2.2.2.2.symm q1,q2⟩
  ·refine⟨fun b o hb e => ?_,ps ++ [T],by rw[List.length_append,pl];rfl,by rw[Z00,List.map_append];rfl,fun j p hj => ?_⟩
   ·have:=sm b o hb e
    rw[Z08 hb,Z08 (Z0a this nT)]
    exact this
   ·by_cases hji:j<ps.length
    ·rw[List.getElem?_append_left hji] at hj
     obtain⟨np,x,y,a1,a2,a3⟩:=pj j p hj
     refine⟨np,x,y,a1,a2,?_⟩
     rw[Z08 np,Z08 (Z0a a3 nT)]
     exact a3
    ·rw[List.getElem?_append_right (by omega)] at hj
     have hj0:j-ps.length=0:=by
      cases q:j-ps.length with
      | zero=>rfl
      | succ m=>rw[q] at hj;simp at hj
     rw[hj0] at hj
     have hp':T=p:=by simpa using hj
     subst hp'
     have hji':j=i:=by omega
     subst hji'
     exact⟨hTS.symm,_,_,e1,e2,by rw[Z08 hTS.symm,Z00]⟩
theorem Zgd {H:Hp}{s:Shared}{z TI TO i1 i2 t1 t2:Addr}{xs ys:List V}{us ws:List Value}{Q:VK}{E:Value->Shared->Prop}(hc:X.calm=true)(D:ZipApart z TI TO i1 i2 t1 t2)(v1:Vals xs us)(v2:Vals ys ws)(hl:xs.length=ys.length)(hz:xs.length<=sizeLine)
  (I:Inv X pins σ H s) (hf:∀b ∈ [z,TO,i1,i2],Z3s X pins H b) (Z:ZAt s.heap z TI TO i1 i2 t1 t2 us.toArray ws.toArray 0) (q:∀l H',H l=none->Zipd H l xs ys xs.length H'->Q (.ref l) H') :
  wpAny (model X.prog X.w) X.A (call (.type "list") [.ref z]) (EP X pins σ Q) E s:=by
 refine callType_codes (Q₁:=fun obj s₁=>obj = .ref s.heap.objs.size/\s₁={ s with heap:=s.heap.push { cls := .type "list",data := .seq #[] } }) F.called_list (F.typeCall_list_1 _) F.entry_list_init
  (code_list_new _ ⟨rfl,rfl⟩) fun obj s₁ h₁ => ?_
 obtain⟨rfl,rfl⟩:=h₁
 have hS:(s.heap.push { cls := .type "list",data := .seq #[] }).get? s.heap.objs.size=some { cls := .type "list",data := .seq #[] }:=Heap.get?_push_size _ rfl
 have nH:H s.heap.objs.size=none:=I.fresh
 obtain⟨⟨f0,f1,h0,hz'⟩,hTI,⟨a,b,hTO⟩,g1,g2,ul1,ul2⟩:=Z
 have ne:∀{c o},s.heap.get? c=some o->s.heap.objs.size≠c:=fun e=>Nat.ne_of_gt (Heap.lt_size e)
 have nS:s.heap.objs.size≠z/\s.heap.objs.size≠TO/\s.heap.objs.size≠i1/\s.heap.objs.size≠i2/\s.heap.objs.size≠TI/\s.heap.objs.size≠t1/\s.heap.objs.size≠t2:=by
  obtain⟨o1,e1,_⟩:=g1
  obtain⟨o2,e2,_⟩:=g2
  obtain⟨o3,e3,_⟩:=ul1
  obtain⟨o4,e4,_⟩:=ul2
  exact⟨ne hz',ne hTO,ne e1,ne e2,ne hTI,ne e3,ne e4⟩
 have key:∀(h:Heap) (c:Nat),(∀b o,b≠s.heap.objs.size->s.heap.get? b=some o->h.get? b=some o)->h.get? s.heap.objs.size=some { cls := .type "list",data := .seq #[] c } →
   codeAny (model X.prog X.w) X.A.in1 (.builtin "list.extend.loop" ⟨[.ref s.heap.objs.size,.ref z,.none],[]⟩) (wants (fun r s₂=>r = .none/\EP X pins σ Q (.ref s.heap.objs.size) s₂) E) { s with heap:=h }:=by
  intro h c kp hg
  have kq:∀b o,s.heap.get? b=some o->h.get? b=some o:=fun b o e=>kp b o (ne e).symm e
  have I1:Inv X pins σ (upd H s.heap.objs.size (.lst [])) { s with heap:=h,toks:=s.toks }:=I.laid kq (Nat.le_refl _) ⟨Nat.zero_le _,[],c,.nil,hg⟩
  refine Zgc (H0:=H) hc (A:=X.A.in1) (I.ok.hd hc) D v1 v2 hl hz nS (fun s' H' I' zp=>⟨rfl,.ref s.heap.objs.size,H',I',rfl,q _ _ nH zp⟩) _ 0 { s with heap:=h } _ rfl (Nat.zero_le _) I1 (fun b hb => ?_) ?_ ?_
  ·have y:=hf b hb
   refine⟨?_,y.2⟩
   rw[Z08 (fun e => ?_)]
   ·exact y.1
   ·simp only [List.mem_cons,List.not_mem_nil,or_false] at hb
    rcases hb with rfl | rfl | rfl | rfl
    ·exact nS.1 e.symm
    ·exact nS.2.1 e.symm
    ·exact nS.2.2.1 e.symm
    ·exact nS.2.2.2.1 e.symm
  ·refine⟨⟨f0,f1,h0,kq _ _ hz'⟩,kq _ _ hTI,⟨a,b,kq _ _ hTO⟩,g1.at fun o e=>kq _ o e,g2.at fun o e=>kq _ o e,?_,?_⟩
   ·obtain⟨o,q1,q2⟩:=ul1;exact⟨o,kq _ _ q1,q2⟩
   ·obtain⟨o,q1,q2⟩:=ul2;exact⟨o,kq _ _ q1,q2⟩
  ·refine⟨fun b o hb e=>by rw[Z08 hb];exact e,[],rfl,by rw[Z00];rfl,fun j p hj=>by simp at hj⟩
 have oth:∀(f:Array Value->Array Value) (h:Heap) b o,b≠s.heap.objs.size->h.get? b=some o->(h.update s.heap.objs.size (Obj.mapSeq f)).get? b=some o :=
  fun f h b o hb e=>(Heap.get?_update_other _ _ (Ne.symm hb)).trans e
 refine⟨⟨_,hS,rfl⟩,F.args_list_init_2 _ _,?_⟩
 show wpAny _ X.A.in1.in1 (do let old ← Builtin.List.listItems (.ref s.heap.objs.size);Builtin.List.listUpdate (.ref s.heap.objs.size) (fun _ => #[]);letGo old.toList.reverse;Builtin.List.listExtendWith (.ref s.heap.objs.size) (.ref z) .none) _ _ _
 refine wpAny_bind ?_
 unfold Builtin.List.listItems
 refine wpAny_bind (wpAny_seqItems hS rfl (wpAny_pure ?_))
 show wpAny _ X.A.in1.in1 (updateSeq s.heap.objs.size (fun _ => #[]) >>= fun _=>letGo (#[]:Array Value).toList.reverse >>= fun _=>Builtin.List.listExtendWith (.ref s.heap.objs.size) (.ref z) .none) _ _ _
 refine wpAny_bind (wpAny_updateSeq hS rfl ?_)
 have hS₂:=Heap.get?_update_self (Obj.mapSeq (fun _=>(#[]:Array Value))) hS rfl
 refine wpAny_bind (wpAny_letGo ?_)
 have hzip:((s.heap.push { cls := .type "list",data := .seq #[] }).update s.heap.objs.size (Obj.mapSeq (fun _=>(#[]:Array Value)))).get? z=some _:=oth _ _ _ _ nS.1.symm (Heap.get?_push_of_some _ hz')
 unfold Builtin.List.listExtendWith
 refine wpAny_bind (wpAny_typeOf (T:="zip") ⟨_,hzip,rfl⟩ ?_)
 have h1:Builtin.List.listSameRef (.ref s.heap.objs.size) (.ref z)=false:=by simp [Builtin.List.listSameRef,nS.1]
 rw[if_neg (by rw[h1];decide)]
 refine wpAny_bind (PySem.wpAny_pyIter_slot (T:="zip") ⟨_,hzip,rfl⟩ F.slot_zip_iter (wpAny_call_entry F.slot_zip_iter ⟨_,hzip,rfl⟩ F.entry_zip_iter (wpAny_pure ⟨_,rfl,"zip",_,⟨_,hzip,rfl⟩,F.slot_zip_next.lookup,?_⟩) (F.args_zip_iter_1 _)))
 refine wpAny_bind (wpAny_holding (Zgb ⟨_,hzip,rfl⟩ ?_))
 refine wpAny_ite_split (fun _ => ?_) (fun z=>absurd rfl z)
 refine wpAny_bind (wpAny_rule ?_)
 refine wpAny_bind ?_
 show wpAny _ _ (updateSeq s.heap.objs.size (·.push .none) >>= fun _=>updateSeq s.heap.objs.size (·.pop)) _ _ _
 refine wpAny_bind (wpAny_updateSeq hS₂ rfl ?_)
 have hS₃:=Heap.get?_update_self (Obj.mapSeq (·.push Value.none)) hS₂ rfl
 refine wpAny_updateSeq (hz:=by seq_fits) hS₃ rfl ?_
 have hS₄:=Heap.get?_update_self (Obj.mapSeq (·.pop)) hS₃ rfl
 exact wpAny_pure ⟨plainId_quiet PySem.F.plain_extend_loop _,key _ _ (fun b o hb e=>oth _ _ _ _ hb (oth _ _ _ _ hb (oth _ _ _ _ hb (Heap.get?_push_of_some _ e)))) hS₄⟩
end
def Zmu (K:PySem.W.Frag)(ta:TA):TE:=fun σ H Q=>ta σ H fun vs H1=>∃a b xs ys,vs = [.ref a,.ref b]/\SqT K H1 a xs/\SqT K H1 b ys/\xs.length=ys.length/\∀l H',H1 l=none->Zipd H1 l xs ys xs.length H'->Q (.ref l) H'
section
variable {X:Cx}
theorem Zir {a b:Expr}{ta:TA}{p q pos pos2:Pos}(hc:X.calm=true)(hg1:Gl X "list")(hm1:X.mg "list"=none)(hg2:Gl X "zip")(hm2:X.mg "zip"=none)(ha:PA X [a,b] ta)(he:starEach [a,b] X.env=(false,eval a X.env)::starEach [b] X.env:=by rfl)
  (hpl:(backTo pos2 (starEach [b] X.env)).any (·.1)=false:=by rfl) (hs:starEach [.Call (.Name "zip" q) [a,b] [] pos2] X.env = [(false,eval (.Call (.Name "zip" q) [a,b] [] pos2) X.env)]:=by rfl) :
  PE X (.Call (.Name "list" p) [.Call (.Name "zip" q) [a,b] [] pos2] [] pos) (Zmu X.K ta):=by
 intro pins s σ H Q I h
 refine wpAny_Call_Name_kw (Z65 I hg1 hm1 (by decide +kernel:bootBuiltins "list"=some (.type "list")) ?_)
 refine PyProof.Rows.callWith_type1 ?_ (by rw[hs];rfl) rfl
 rw[hs]
 show wpAny _ _ (spliced [(false,eval (.Call (.Name "zip" q) [a,b] [] pos2) X.env)]) _ _ s
 refine Calls.spliced_cons ?_
 refine wpAny_Call_Name_kw (Z65 I hg2 hm2 (by decide +kernel:bootBuiltins "zip"=some (.type "zip")) ?_)
 refine PyProof.Rows.callWith_type1 (thn (ha pos2 pins s σ H _ I h) fun us s1 ⟨vs,H1,I1,r1,q1⟩ => ?_) he hpl
 obtain⟨x,y,xs,ys,rfl,hx,hy,hl,q1⟩:=q1
 cases r1 with
 | cons r rr =>
  cases rr with
  | cons r' rr =>
   cases rr
   cases r
   cases r'
   obtain⟨its,v1,pl,hz⟩:=I1.tuple hx
   obtain⟨its2,v2,pl2,hz2⟩:=I1.tuple hy
   refine Ze5 (show s1.heap.IsTuple x its.toArray from pl) (show s1.heap.IsTuple y its2.toArray from pl2) fun h' Z D kk => ?_
   refine Calls.spliced_nil ?_
   have I2:Inv X pins σ H1 { s1 with heap:=h',toks:=s1.toks }:=I1.kept (t':=s1.toks) kk
   refine Zgd hc D v1 v2 hl hz I2 (fun b hb => ?_) Z q1
   have fr:s1.heap.objs.size<=b:=by
    simp only [List.mem_cons,List.not_mem_nil,or_false] at hb
    rcases hb with rfl | rfl | rfl | rfl
    ·exact Nat.le_add_right _ _
    ·exact Nat.le_add_right _ _
    ·exact Nat.le_refl _
    ·exact Nat.le_add_right _ _
   exact I1.fpOk fr (I1.hok.fresh fr)
end
end L2
namespace K20
open PySem L2
abbrev Zch:Stmt:=top 4
abbrev Z6g:Stmt:=top 5
abbrev Z7i:Stmt:=top 6
abbrev Za9:Stmt:=top 7
abbrev Z9a:Stmt:=top 8
abbrev Z5m:Stmt:=top 10
abbrev Zk3:Stmt:=top 11
abbrev Z2w:Stmt:=top 12
abbrev Zaa:Stmt:=top 13
abbrev Ze6:Stmt:=top 15
abbrev Ze7:Stmt:=top 16
abbrev Z3y:Stmt:=top 17
abbrev Z4r:Stmt:=top 18
abbrev Ze8:Stmt:=top 19
abbrev Z9b:Stmt:=top 20
abbrev Z2i:Stmt:=top 21
abbrev Zci:Stmt:=top 22
abbrev Z6h:Stmt:=top 23
abbrev Zcj:Stmt:=top 24
abbrev Z9c:Stmt:=top 25
abbrev Zck:Stmt:=top 26
abbrev Z9d:Stmt:=top 27
abbrev Z5e:Stmt:=top 28
abbrev Zcl:Stmt:=top 29
abbrev Zk4:Stmt:=top 30
abbrev Z6i:Stmt:=top 31
abbrev Z5f:Stmt:=top 32
abbrev Z4s:Stmt:=top 33
abbrev Z6j:Stmt:=top 34
abbrev Zab:Stmt:=top 35
abbrev Zfi:Stmt:=top 36
structure TxtT (mg:Str->Option Value):Prop where
 isi:mg "isinstance"=none
 int:mg "int"=none
 bl:mg "bool"=none
 tup:mg "tuple"=none
 len:mg "len"=none
inductive spParts (vs:List V)(H:Hp)(Q:VK)(E_3:XK):Prop
 | mk (H0:Hp) (v:V) (ts:List Th) (_:vs = [v]) (_:Same H0 H) (_:IsTh H0 v (.tup ts)) (_:ts.length<=1000000) (_:∀(p:Addr) (ws:List V) H',Same H H'->H' p=some (.tup ws)->IsThs H0 ws (Z1f ts)->Q (.ref p) H'):spParts vs H Q E_3
def Z2p (t:Th):Bool := !isTup t
def Z2x (ts:List Th):List Th:=ts.filter Z2p
inductive spHead (vs:List V)(H:Hp)(Q:VK)(E_3:XK):Prop
 | mk (H0:Hp) (v:V) (ts:List Th) (_:vs = [v]) (_:Same H0 H) (_:IsTh H0 v (.tup ts)) (_:ts.length<=1000000) (_:∀(p:Addr) (ws:List V) H',Same H H'->H' p=some (.tup ws)->IsThs H0 ws (Z2x ts)->Q (.ref p) H'):spHead vs H Q E_3
section
variable {P:Program}{w:World}{K:PySem.W.Frag}{mg:Str->Option Value}{base:Heap}
theorem Zis:FnScope ["e"] ["e"] (Z05 Z6g):=⟨rfl,rfl,rfl,by decide +kernel,rfl,by decide +kernel,by decide +kernel⟩
theorem Z4t {f:Addr}{fd:FuncData}(F:Fun K "parts" "parts" Z6g f fd)(T:TxtT mg)(KI:Kits K):FnOk P w K mg base CX0 1 f fd ["e"] spParts:=by
 refine F.ok Zis (fun vs H Q E h => ?_) (fun cdv A outer s H vs Q E hr h => ?_)
 ·obtain⟨H0,v,ts,rfl,_⟩:=h
  rfl
 ·obtain⟨H0,v,ts,rfl,s0,hv,hz,k⟩:=h
  refine⟨_,Z07 (Z0l (Z10 Z0s (by rfl) T.tup (by decide +kernel) (Z09 (Z1a (N' := ["part"]) (src := [none]) rfl (Z0i (Z05 Z6g) rfl ["e"] rfl (by decide +kernel)) (Z4j (pv 0))
   (fun cl C ex s0' H0'=>⟨Z0m (i:=0) (nd1 _) rfl (Or.inl rfl),Z6a (Z3p (Z0d (id:="isinstance") (Z31 (K:=K) rfl) (by rfl) T.isi (by decide +kernel) (Z0h (pv 0) (Z0h (Z2b (v := .ty "tuple") (by rfl) T.tup (by decide +kernel) rfl) Z01)))),pv 0⟩)) Z01))),?_⟩
  obtain⟨a,xs,rfl,ha0,hts⟩:=Z1i hv
  have ha:=s0 _ _ ha0
  have hl:=IsThs.len _ hts
  refine⟨_,rfl,a,rfl,⟨_,SqT.of ha⟩,Z2q (K:=K) (a:=a) (xs:=xs) (fun i ys σc H'=>∃o,σc = [o]/\IsThs H0 ys ((ts.take i).filter isTup)/\ys.length<=i/\H'=H) ⟨none,rfl,by rw[List.take_zero];exact .nil,Nat.le_refl _,rfl⟩ (fun i ys σc H' ⟨_,_,_,_,e⟩=>by rw[e];exact SqT.of ha) ?_ ?_⟩
  ·rintro i x ys σc H' hx hi ⟨o,rfl,hys,hyl,rfl⟩
   obtain⟨t,ht,h1⟩:=Z0q _ hts hx
   have hnext:(ts.take (i+1)).filter isTup=(ts.take i).filter isTup++(if isTup t=true then [t] else []):=Z45 _ ht
   refine⟨by have:sizeLine=16777216:=sizeLine_eq;omega,?_⟩
   refine⟨_,rfl,_,_,_,_,rfl,Z4m (IsTh.kp (Kp.of s0) h1),KI.tup h1,_,rfl,Z22 (fun g => ?_) (fun g => ?_)⟩
   ·refine⟨_,rfl,nx hi ⟨_,rfl,?_,by rw[List.length_append];show ys.length+1<=i+1;omega,rfl⟩⟩
    rw[hnext,if_pos g]
    exact IsThs.app _ hys (.cons h1 .nil)
   ·refine nx hi ⟨_,rfl,?_,by omega,rfl⟩
    rw[hnext,if_neg g,List.append_nil]
    exact hys
  ·rintro ys σc H' ⟨o,rfl,hys,hyl,rfl⟩ l hl'
   refine⟨l,_,rfl,.inl ⟨SqL.of Z00,fun p hp => ?_⟩⟩
   rw[List.take_of_length_le (by omega)] at hys
   have s2:=(Z02 (o := .lst ys) hl').trans (Z02 (o := .tup ys) hp)
   exact k p ys _ s2 Z00 hys
theorem Zkp:FnScope ["node"] ["node"] (Z05 Zch):=⟨rfl,rfl,rfl,by decide +kernel,rfl,by decide +kernel,by decide +kernel⟩
theorem Zac {f:Addr}{fd:FuncData}(F:Fun K "head" "head" Zch f fd)(T:TxtT mg)(KI:Kits K):FnOk P w K mg base CX0 1 f fd ["node"] spHead:=by
 refine F.ok Zkp (fun vs H Q E h => ?_) (fun cdv A outer s H vs Q E hr h => ?_)
 ·obtain⟨H0,v,ts,rfl,_⟩:=h
  rfl
 ·obtain⟨H0,v,ts,rfl,s0,hv,hz,k⟩:=h
  refine⟨_,Z07 (Z0l (Z10 Z0s (by rfl) T.tup (by decide +kernel) (Z09 (Z1a (N' := ["field"]) (src := [none]) rfl (Z0i (Z05 Zch) rfl ["node"] rfl (by decide +kernel)) (Z4j (pv 0))
   (fun cl C ex s0 H0=>⟨Z0m (i:=0) (nd1 _) rfl (Or.inl rfl),Z6a (Z76 (Z3p (Z0d (id:="isinstance") (Z31 (K:=K) rfl) (by rfl) T.isi (by decide +kernel) (Z0h (pv 0) (Z0h (Z2b (v := .ty "tuple") (by rfl) T.tup (by decide +kernel) rfl) Z01))))),pv 0⟩)) Z01))),?_⟩
  obtain⟨a,xs,rfl,ha0,hts⟩:=Z1i hv
  have ha:=s0 _ _ ha0
  have hl:=IsThs.len _ hts
  refine⟨_,rfl,a,rfl,⟨_,SqT.of ha⟩,Z2q (K:=K) (a:=a) (xs:=xs) (fun i ys σc H'=>∃o,σc = [o]/\IsThs H0 ys ((ts.take i).filter Z2p)/\ys.length<=i/\H'=H) ⟨none,rfl,by rw[List.take_zero];exact .nil,Nat.le_refl _,rfl⟩ (fun i ys σc H' ⟨_,_,_,_,e⟩=>by rw[e];exact SqT.of ha) ?_ ?_⟩
  ·rintro i x ys σc H' hx hi ⟨o,rfl,hys,hyl,rfl⟩
   obtain⟨t,ht,h1⟩:=Z0q _ hts hx
   have hnext:(ts.take (i+1)).filter Z2p=(ts.take i).filter Z2p++(if Z2p t=true then [t] else []):=Z45 _ ht
   refine⟨by have:sizeLine=16777216:=sizeLine_eq;omega,?_⟩
   refine⟨_,rfl,_,_,_,_,rfl,Z4m (IsTh.kp (Kp.of s0) h1),KI.tup h1,_,rfl,Z22 (fun g => ?_) (fun g => ?_)⟩
   ·refine⟨_,rfl,nx hi ⟨_,rfl,?_,by rw[List.length_append];show ys.length+1<=i+1;omega,rfl⟩⟩
    rw[hnext,if_pos (show Z2p t=true from g)]
    exact IsThs.app _ hys (.cons h1 .nil)
   ·refine nx hi ⟨_,rfl,?_,by omega,rfl⟩
    rw[hnext,if_neg (show ¬Z2p t=true from g),List.append_nil]
    exact hys
  ·rintro ys σc H' ⟨o,rfl,hys,hyl,rfl⟩ l hl'
   refine⟨l,_,rfl,.inl ⟨SqL.of Z00,fun p hp => ?_⟩⟩
   rw[List.take_of_length_le (by omega)] at hys
   have s2:=(Z02 (o := .lst ys) hl').trans (Z02 (o := .tup ys) hp)
   exact k p ys _ s2 Z00 hys
end
def off (a b:Addr)(H:Hp):Hp:=fun c=>if c=a∨c=b then none else H c
theorem off_sub {a b:Addr}{H:Hp}:Same (off a b H) H:=fun c o e=>by
 unfold off at e
 split at e
 ·cases e
 ·exact e
theorem Z21 {a b c:Addr}{H:Hp}{o:HO}(h:H c=some o)(h1:c≠a)(h2:c≠b):off a b H c=some o:=by
 unfold off
 rw[if_neg (fun z=>z.elim h1 h2)]
 exact h
theorem Zge {a b:Addr}{H:Hp}{o:HO}:off a b (upd H a o)=off a b H:=by
 funext c
 unfold off
 split
 ·rfl
 ·next h=>rw[Z08 (fun z=>h (.inl z))]
theorem Z5y {a b:Addr}{H:Hp}{o:HO}:off a b (upd H b o)=off a b H:=by
 funext c
 unfold off
 split
 ·rfl
 ·next h=>rw[Z08 (fun z=>h (.inr z))]
theorem Z0x {a b:Addr}{H H':Hp}(s:Same H H'):Same (off a b H) (off a b H'):=fun c o e=>by
 unfold off at e ⊢
 split at e
 ·cases e
 ·next h=>rw[if_neg h];exact s c o e
theorem Ze9 {a b:Addr}{H0 H:Hp}(s:Same H0 H)(h1:H0 a=none)(h2:H0 b=none):Same H0 (off a b H):=fun c o e=>Z21 (s c o e) (fun z=>by rw[z,h1] at e;cases e) (fun z=>by rw[z,h2] at e;cases e)
structure TxtD (mg:Str->Option Value):Prop where
 node:∃tk,mg "NODE"=some (.str "node" tk)
 opened:∃tk,mg "OPENED"=some (.str "opened" tk)
 closed:∃tk,mg "CLOSED"=some (.str "closed" tk)
inductive spSteps (N:Nat)(vs:List V)(H:Hp)(Q:VK)(E_3:XK):Prop
 | mk (v:V) (t:Th) (_:vs = [v]) (_:IsTh H v t) (_:OkT N t) (_:Th.sz t<=100000) (_:∀(p:Addr) (ws:List V) H',Same H H'->H p=none->H' p=some (.lst ws)->IsThs H' ws ((Z13 t).map pr)->Q (.ref p) H'):spSteps N vs H Q E_3
mutual
theorem Z6k:∀t:Th,(Z13 t).length<=3*Th.sz t
 | .tup xs=>by
  rw[Z13,Th.sz,List.length_cons]
  have:=Z6l (Z4n xs) (.tup xs) xs 0
  omega
 | .at _=>by simp [Z13]
 | .lst _=>by simp [Z13]
theorem Z6l (l:Bool)(me:Th):∀(xs:List Th) (i:Nat),(Z2v l me i xs).length<=3*szs xs+(2-i)
 | [],i=>by simp [Z2v,szs]
 | x::xs,i=>by
  rw[Z2v,szs]
  have h1:=Z6k x
  have hm:(Z4o l me i).length<=(2-i)-(2-(i+1)):=by
   match i with
   | 0=>cases l <;> simp [Z4o]
   | 1=>cases l <;> simp [Z4o]
   | _+2=>simp [Z4o]
  split
  ·have h2:=Z6l l me xs (i+1)
   rw[List.length_append,List.length_append]
   omega
  ·have h2:=Z6l l me xs i
   omega
end
abbrev prs (l:List (Str × Th)):List Th:=l.map pr
theorem Zgf {H:Hp}{ws:List V}{st:List (Str × Th)}(h:IsThs H ws (prs st))(hne:ws ≠ []):∃ws' y st' d t a vn,ws=ws' ++ [y]/\st=st' ++ [(d,t)]/\IsThs H ws' (prs st')/\y = .ref a/\H a=some (.tup [.str d,vn])/\IsTh H vn t:=by
 obtain⟨ws',y,us',u,e1,e2,h1,h2⟩:=ths_last ws h hne
 have hn:st ≠ []:=fun z=>by
  subst z
  have:=congrArg List.length e2
  simp [prs] at this
 obtain⟨st',x,rfl⟩:∃st' x,st=st' ++ [x]:=⟨st.dropLast,st.getLast hn,(List.dropLast_concat_getLast hn).symm⟩
 have e3:prs (st' ++ [x])=prs st' ++ [pr x]:=by simp [prs]
 rw[e3] at e2
 have e4:=List.append_inj' e2 rfl
 obtain⟨e5,e6⟩:=e4
 have e6':pr x=u:=by simpa using e6
 subst e6' e5
 obtain⟨a,vs,rfl,ha,hvs⟩:=Z1i h2
 cases hvs with
 | cons c1 c2 =>
  cases c2 with
  | cons c3 c4 =>
   cases c4
   obtain⟨rfl,_⟩:=Z4a c1
   exact⟨ws',_,st',x.1,x.2,a,_,e1,rfl,h1,rfl,ha,c3⟩
theorem Z3e {d:Str}(h:d="node"∨d="opened"∨d="closed"):smallV (.str d)=true:=by
 rcases h with rfl | rfl | rfl <;> decide +kernel
theorem Z1g (v:V)(vs:List V):atI (v::vs) 0=some v:=Z2c (j:=0) rfl
theorem Z5g (u v:V)(vs:List V):atI (u::v::vs) 1=some v:=Z2c (j:=1) rfl
theorem Zea {n:Nat}{t:Th}(h:OkT n t):1<=(Z13 t).length:=by
 cases n with
 | zero=>exact h.elim
 | succ n =>
  obtain⟨w,ts,rfl,_⟩:=h
  rw[Z13,List.length_cons]
  omega
def Zit (N:Nat)(p:Str × Th):Prop:=(p.1="node"∨p.1="opened"∨p.1="closed")/\OkT N p.2/\Th.sz p.2<=100000
theorem Zbd {N:Nat}:∀(st:List (Str × Th)),(∀x∈st,Zit N x)->st.length<=(Z2m st).length:=by
 intro st
 induction st with
 | nil=>intro _;exact Nat.zero_le _
 | cons x st ih =>
  intro h
  have h1:=ih (fun y hy=>h y (List.mem_cons_of_mem _ hy))
  have h2:1<=(Z5d x).length:=by
   unfold Z5d
   split
   ·exact Zea (h x (List.mem_cons_self ..)).2.1
   ·exact Nat.le_refl _
  have e:Z2m (x::st)=Z2m st++Z5d x:=by unfold Z2m;simp
  rw[e,List.length_append,List.length_cons]
  omega
theorem Z6m (w:Str)(ts:List Th):Z1f (.at (.str w)::ts)=Z1f ts:=rfl
theorem Z9e {w:Str}{ts:List Th}:Z4n (.at (.str w)::ts)=decide (w="let"):=rfl
section
variable {P:Program}{w:World}{K:PySem.W.Frag}{mg:Str->Option Value}{base:Heap}
theorem scSteps:FnScope ["tree","walk","waiting","deed","node","inner"] ["tree"] (Z05 Z7i):=⟨rfl,rfl,rfl,by decide +kernel,rfl,by decide +kernel,by decide +kernel⟩
theorem Zgg {f fP:Addr}{fd dP:FuncData}(F:Fun K "steps" "steps" Z7i f fd)(T:TxtT mg)(TD:TxtD mg)(KI:Kits K)
  (FP:Fun K "parts" "parts" Z6g fP dP) (bP:Binds K dP ["e"] []) (mP:mg "parts"=some (.ref fP)) (N:Nat):FnOk P w K mg base CX0 2 f fd ["tree"] (spSteps N):=by
 have GP:FnOk P w K mg base CX0 1 fP dP ["e"] spParts:=Z4t FP T KI
 obtain⟨tn,hNode⟩:=TD.node
 obtain⟨to,hOpen⟩:=TD.opened
 obtain⟨tc,hClose⟩:=TD.closed
 refine F.ok scSteps (fun vs H Q E h => ?_) (fun cdv A outer s H vs Q E hr h => ?_)
 ·obtain⟨v,t,rfl,_⟩:=h
  rfl
 ·obtain⟨v,t,rfl,ht,hok,hz,k⟩:=h
  have hsz:sizeLine=16777216:=sizeLine_eq
  have hr1:Room 1 _:=hr.mono (by decide)
  refine'⟨?tt,?body,?fin⟩
  case body =>
   refine' Z03 ?s1 (Z0u ?s2 (Z03 ?s3 (Z07 ?s4)))
   case s1=>exact Z0c (i:=1) scSteps.nd rfl (Or.inl rfl) (Z1p Z01)
   case s2=>exact Z0c (i:=2) scSteps.nd rfl (Or.inl rfl) (Z1p (Zfw (Z1h (Z0h (Z58 (v := .str "node") (by rfl) hNode ⟨tn,rfl⟩) (Z0h (pv 0) Z01))) Z01))
   case s3 =>
    refine' Z5u PassesOwn.never ?c (Z03 ?b1 (Z0u ?b2 (Z07 ?b3)))
    case c=>exact Z7t (pv 2) (fun _=>rfl)
    case b1=>exact Zhj (Zdi PySem.F.plainAttrs_list PySem.F.slot_list_pop PySem.F.type_list_pop Zdj (pv 2)) (Zas rfl (Z2z (Z0m (i:=3) scSteps.nd rfl (Or.inl rfl)) (Z2z (Z0m (i:=4) scSteps.nd rfl (Or.inl rfl)) Z7s)))
    case b2=>exact Z2k (Z59 PySem.F.plainAttrs_list PySem.F.slot_list_append PySem.F.type_list_append Z26 (pv 1) (Zfw (Z1h (Z0h (pv 3) (Z0h (pv 4) Z01))) Z01))
    case b3 =>
     refine' Z17 ?d (Z0u ?c1 (Z0u ?c2 (Z07 ?c3))) Z0k
     case d=>exact Z0f Z1l (pv 3) (Z58 (v := .str "node") (by rfl) hNode ⟨tn,rfl⟩) (Z0j _)
     case c1 =>
      refine' Zcc (i:=5) (N' := ["part"]) (src := [none]) ?k1 ?k2 ?k3 ?k4 ?k5 ?k6 ?k7
      case k1=>rfl
      case k2=>exact scSteps.nd
      case k3=>rfl
      case k4=>exact Or.inl rfl
      case k5=>exact Z0i (Z05 Z7i) rfl ["tree","walk","waiting","deed","node","inner"] rfl (by decide +kernel)
      case k6=>exact Z4j (Z06 GP hr1 (by rfl) mP FP.kp bP .nil Z0g (Z0h (pv 4) Z01))
      case k7=>exact fun cl C ex s0 H0=>⟨Z0m (i:=0) (nd1 _) rfl (Or.inl rfl),Z1d,Z1h (Z0h (Z58 (v := .str "node") (by rfl) hNode ⟨tn,rfl⟩) (Z0h (pv 0) Z01))⟩
     case c2 =>
      refine' Z17 ?e (Z07 ?g) Z0k
      case e=>exact Z0f Z1l (Z0y Z1z (pv 4) Z04 (fun _ _=>rfl)) Z0e (Z0j _)
      case g=>exact Z0c (i:=5) scSteps.nd rfl (Or.inl rfl) (Z1p (Z09 (Z0y Z11 (pv 5) Z04 (fun _ _=>rfl)) (Zfw (Z1h (Z0h (Z58 (v := .str "opened") (by rfl) hOpen ⟨to,rfl⟩) (Z0h (pv 4) Z01))) (Z09 (Z0y Z11 (pv 5) Z04 (fun _ _=>rfl)) (Zfw (Z1h (Z0h (Z58 (v := .str "closed") (by rfl) hClose ⟨tc,rfl⟩) (Z0h (pv 4) Z01))) Z01)))))
     case c3=>exact Z2k (Z59 PySem.F.plainAttrs_list PySem.F.slot_list_extend PySem.F.type_list_extend Z67 (pv 2) (Z09 (Zb6 (pv 5) (Zfp Zau Z04)) Z01))
   case s4=>exact Z0l (pv 1)
  case fin =>
   refine⟨Nat.zero_le _,fun wk hwk => ?_⟩
   refine⟨fun σ' H'=>∃wt p0,σ' = [some v,some (.ref wk),some (.ref wt),none,none,none]/\wk≠wt/\H wt=none/\Same H H'/\H' wk=some (.lst [])/\H' wt=some (.lst [.ref p0])/\H' p0=some (.tup [.str "node",v]),?_,?_⟩
   ·refine⟨_,rfl,(by show 2<=sizeLine;decide),fun p0 hp0=>⟨(by show 1<=sizeLine;decide),fun wt hwt => ?_⟩⟩
    have s1:=Z02 (o := .lst []) hwk
    have s2:=s1.trans (Z02 (o := .tup [.str "node",v]) hp0)
    have e1:upd (upd H wk (.lst [])) p0 (.tup [.str "node",v]) wk=some (.lst []):=Z02 hp0 _ _ Z00
    have s3:=Z02 (o := .lst [.ref p0]) hwt
    exact⟨wt,p0,rfl,Z0a e1 hwt,Z1v s2 hwt,s2.trans s3,s3 _ _ e1,Z00,s3 _ _ Z00⟩
   rintro σ0 H1 ⟨wt,p0,rfl,hkt,hwt,s1,L1,W1,P1⟩
   refine Za0 (fun m σ H'=>∃(ws wl:List V) (st dn:List (Str × Th)) (o3 o4 o5:Option V),σ = [some v,some (.ref wk),some (.ref wt),o3,o4,o5]/\Same H H'/\H' wt=some (.lst ws)/\H' wk=some (.lst wl) ∧
     IsThs (off wk wt H') ws (prs st)/\IsThs (off wk wt H') wl (prs dn)/\dn++Z2m st=Z13 t/\(∀x∈st,Zit N x)/\m=(Z2m st).length)
    (Z2m [("node",t)]).length ⟨[.ref p0],[],[("node",t)],[],none,none,none,rfl,s1,W1,L1,?_,.nil,?_,?_,rfl⟩ ?_ ?_
   ·refine .cons (.tup (Z21 P1 (Z1b P1 L1 (by intro q;cases q)) (Z1b P1 W1 (by intro q;cases q))) (.cons (.at (Z3e (.inl rfl))) (.cons (IsTh.kp (Kp.of (Ze9 s1 hwk hwt)) ht) .nil))) .nil
   ·show Z2m ([] ++ [(("node":Str),t)])=_
    rw[Z4p,Z47]
    show Z13 t ++ []=_
    rw[List.append_nil]
   ·intro x hx
    rw[List.mem_singleton] at hx
    subst hx
    exact⟨.inl rfl,hok,hz⟩
   ·rintro m σ H2 ⟨ws,wl,st,dn,o3,o4,o5,rfl,s2,W2,L2,hst,hdn,heq,hall,rfl⟩
    have hlt:=Z6k t
    have hlen:dn.length+(Z2m st).length=(Z13 t).length:=by rw[<- heq,List.length_append]
    have hstl:=Zbd st hall
    refine⟨_,rfl,_,.inl ⟨ws,SqL.of W2,rfl⟩,?_⟩
    cases hws:ws.isEmpty with
    | true =>
     have e:ws = []:=List.isEmpty_iff.mp hws
     subst e
     refine Z4l ?_
     have est:st = []:=by
      have:=IsThs.len _ hst
      rw[List.length_map] at this
      exact List.eq_nil_of_length_eq_zero this.symm
     subst est
     have ed:dn=Z13 t:=by rw[<- heq];show dn=dn ++ [];rw[List.append_nil]
     subst ed
     exact⟨_,rfl,k wk wl H2 s2 hwk L2 (IsThs.kp (Kp.of off_sub) hdn)⟩
    | false =>
     have hne:ws ≠ []:=fun z=>by rw[z] at hws;cases hws
     obtain⟨ws',y,st',d,n,a,vn,rfl,rfl,hst',rfl,ha,hvn⟩:=Zgf hst hne
     refine Z71 ?_
     refine⟨_,rfl,.inl ⟨rfl,_,SqL.of W2⟩,wt,_,.ref a,rfl,rfl,W2,(by rw[List.length_append];simp),?_⟩
     rw[List.dropLast_concat]
     have hx:=hall (d,n) (List.mem_append_right _ (List.mem_singleton.mpr rfl))
     have hall':∀x∈st',Zit N x:=fun x hx=>hall x (List.mem_append_left _ hx)
     have hat:upd H2 wt (.lst ws') a=some (.tup [.str d,vn]):=by
      have h1:=off_sub _ _ ha
      rw[Z08 (Z1b h1 W2 (by intro q;cases q))]
      exact h1
     refine⟨a,[.str d,vn],rfl,SqT.of hat,rfl,_,_,rfl,_,_,rfl,rfl,?_⟩
     refine⟨fun σ' H'=>∃(wl':List V),σ' = [some v,some (.ref wk),some (.ref wt),some (.str d),some vn,o5]/\Same H H'/\H' wt=some (.lst ws')/\H' wk=some (.lst wl') ∧
      IsThs (off wk wt H') ws' (prs st')/\IsThs (off wk wt H') wl' (prs (dn ++ [(d,n)]))/\IsTh (off wk wt H') vn n,?_,?_⟩
     ·have eo:off wk wt (upd H2 wt (.lst ws'))=off wk wt H2:=Z5y
      have Lx:upd H2 wt (.lst ws') wk=some (.lst wl):=by rw[Z08 hkt];exact L2
      have Wx:upd H2 wt (.lst ws') wt=some (.lst ws'):=Z00
      have sx:Same H (upd H2 wt (.lst ws')):=fun b ob e=>by rw[Z08 (Z0a e hwt)];exact s2 b ob e
      rw[<- eo] at hst' hdn hvn
      generalize upd H2 wt (.lst ws')=H3 at Lx Wx sx hst' hdn hvn ⊢
      refine⟨_,rfl,.inl ⟨rfl,_,SqL.of Lx⟩,_,rfl,_,rfl,(by show 2<=sizeLine;decide),fun q hq => ?_⟩
      have sq:=Z02 (o := .tup [.str d,vn]) hq
      have hqk:q≠wk:=fun z=>by rw[z,Lx] at hq;cases hq
      have hqt:q≠wt:=fun z=>by rw[z,Wx] at hq;cases hq
      have hll:=IsThs.len _ hdn
      rw[List.length_map] at hll
      rw[List.length_append] at hstl
      simp only [List.length_singleton] at hstl
      refine⟨wk,wl,.ref q,rfl,rfl,sq _ _ Lx,by omega,?_⟩
      have so:=Z0x (a:=wk) (b:=wt) sq
      have eo2:off wk wt (upd (upd H3 q (.tup [.str d,vn])) wk (.lst (wl ++ [.ref q])))=off wk wt (upd H3 q (.tup [.str d,vn])):=Zge
      refine⟨wl ++ [.ref q],rfl,?_,?_,Z00,?_,?_,?_⟩
      ·intro b ob e
       rw[Z08 (Z0a e hwk)]
       exact sq _ _ (sx _ _ e)
      ·rw[Z08 hkt.symm]
       exact sq _ _ Wx
      ·rw[eo2];exact IsThs.kp (Kp.of so) hst'
      ·rw[eo2]
       unfold prs
       rw[List.map_append]
       refine IsThs.app _ (IsThs.kp (Kp.of so) hdn) (.cons (.tup (Z21 Z00 hqk hqt) (.cons (.at (Z3e hx.1)) (.cons (IsTh.kp (Kp.of so) hvn) .nil))) .nil)
      ·rw[eo2];exact IsTh.kp (Kp.of so) hvn
     clear hst hdn ha hvn hat hst' W2 L2 s2
     rintro σ3 H3 ⟨wl',rfl,s3,W3,L3,hst3,hdn3,hvn3⟩
     refine⟨_,rfl,rfl,_,rfl,Z22 (fun g => ?_) (fun g => ?_)⟩
     ·have hd:d="node":=by
       have g':=of_decide_eq_true g
       injection g'
      subst hd
      obtain⟨_,hokn,hzn⟩:=hx
      obtain⟨N',rfl⟩:∃N',N=N'+1:=by
       cases N with
       | zero=>exact hokn.elim
       | succ N'=>exact⟨N',rfl⟩
      obtain⟨w0,xs,rfl,hlet,hkid⟩:=hokn
      simp only [] at hzn
      have hxs:Th.sz (.tup (.at (.str w0)::xs))=1+(1+szs xs):=by simp only [Th.sz,szs]
      have hxl:=Za4 xs
      have hkl:(Z1f xs).length<=100000:=by
       have h1:=List.length_filter_le isTup xs
       show(xs.filter isTup).length<=_
       omega
      have hkok:∀k∈Z1f xs,OkT N' k/\Th.sz k<=100000:=fun k hk=>by
       have hk':k∈xs/\isTup k=true:=List.mem_filter.mp hk
       have:=Zb9 xs k hk'.1
       exact⟨hkid k hk'.1 hk'.2,by omega⟩
      refine⟨fun σ' H'=>∃(l:Addr) (ys:List V),σ' = [some v,some (.ref wk),some (.ref wt),some (.str "node"),some vn,some (.ref l)]/\Same H3 H'/\H' l=some (.lst ys)/\H3 l=none/\IsThs (off wk wt H') ys (prs ((Z1f xs).map fun k=>(("node":Str),k))),?_,?_⟩
      ·refine⟨_,rfl,off wk wt H3,vn,.at (.str w0)::xs,rfl,off_sub,hvn3,by rw[List.length_cons];omega,fun p ps H4 s4 hp4 hps => ?_⟩
       rw[Z6m] at hps
       have hpl:=IsThs.len _ hps
       refine⟨p,rfl,⟨_,SqT.of hp4⟩,Z2q (K:=K) (a:=p) (xs:=ps) (fun i ys σc H'=>∃o,σc = [o]/\Same H4 H'/\ys.length=i/\IsThs (off wk wt H') ys (prs (((Z1f xs).take i).map fun k=>(("node":Str),k))))
        ⟨none,rfl,Same.refl _,rfl,by rw[List.take_zero];exact .nil⟩ (fun i ys σc H' ⟨_,_,e,_⟩=>SqT.of (e _ _ hp4)) ?_ ?_⟩
       ·rintro i x ys σc H' hxi hi ⟨o,rfl,s5,hyl,hys⟩
        obtain⟨kd,hk,h1⟩:=Z0q _ hps hxi
        refine⟨by omega,_,rfl,(by show 2<=sizeLine;decide),fun q hq => ?_⟩
        have sq:=Z02 (o := .tup [.str "node",x]) hq
        have so:=Z0x (a:=wk) (b:=wt) sq
        have hqk:q≠wk:=fun z=>by rw[z,s5 _ _ (s4 _ _ L3)] at hq;cases hq
        have hqt:q≠wt:=fun z=>by rw[z,s5 _ _ (s4 _ _ W3)] at hq;cases hq
        refine nx hi ⟨_,rfl,s5.trans sq,by rw[List.length_append,hyl];rfl,?_⟩
        have e1:((Z1f xs).take (i+1))=(Z1f xs).take i ++ [kd]:=by rw[List.take_add_one,hk];rfl
        unfold prs
        rw[e1,List.map_append,List.map_append]
        refine IsThs.app _ (IsThs.kp (Kp.of so) hys) (.cons (.tup (Z21 Z00 hqk hqt) (.cons (.at (Z3e (.inl rfl))) (.cons (IsTh.kp (Kp.of (Z0x ((s4.trans s5).trans sq))) h1) .nil))) .nil)
       ·rintro ys σc H' ⟨o,rfl,s5,hyl,hys⟩ l hl
        rw[List.take_of_length_le (by omega)] at hys
        have sl:=Z02 (o := .lst ys) hl
        refine⟨l,ys,rfl,(s4.trans s5).trans sl,Z00,Z1v (s4.trans s5) hl,IsThs.kp (Kp.of (Z0x sl)) hys⟩
      rintro σ4 H4 ⟨l,ys,rfl,s4,hl4,hl3,hys4⟩
      have hlk:l≠wk:=fun z=>by rw[z,L3] at hl3;cases hl3
      have hlt':l≠wt:=fun z=>by rw[z,W3] at hl3;cases hl3
      obtain⟨an,vns,evn,han,hvns⟩:=Z1i hvn3
      cases hvns with
      | @cons vh vr _ _ c1 c2 =>
       obtain⟨rfl,_⟩:=Z4a c1
       have han3:=off_sub _ _ han
       refine⟨fun σ' H'=>∃(l:Addr) (ys:List V) (ps:List (Str × Th)),σ' = [some v,some (.ref wk),some (.ref wt),some (.str "node"),some vn,some (.ref l)]/\Same H3 H'/\H' l=some (.lst ys)/\IsThs (off wk wt H') ys (prs ps) ∧
        Z2m (st' ++ [(("node":Str),.tup (.at (.str w0)::xs))])=(("node":Str),.tup (.at (.str w0)::xs))::Z2m (st'++ps.reverse)/\∀x∈ps,Zit (N'+1) x,?_,?_⟩
       ·have hself:Zit (N'+1) ("opened",.tup (.at (.str w0)::xs))/\Zit (N'+1) ("closed",.tup (.at (.str w0)::xs)) :=
         ⟨⟨.inr (.inl rfl),⟨w0,xs,rfl,hlet,hkid⟩,hzn⟩,⟨.inr (.inr rfl),⟨w0,xs,rfl,hlet,hkid⟩,hzn⟩⟩
        refine⟨_,rfl,an,_,0,.str w0,evn,rfl,SqT.of (s4 _ _ han3),Z1g _ _,rfl,_,rfl,Z22 (fun g2 => ?_) (fun g2 => ?_)⟩
        ·have hw0:w0="let":=by
          have g':=of_decide_eq_true g2
          injection g'
         have h2:=hlet hw0
         obtain⟨k1,k2,hk12⟩:∃k1 k2,Z1f xs = [k1,k2]:=by
          match hq:Z1f xs,h2 with
          | [k1,k2],_=>exact⟨k1,k2,rfl⟩
         rw[hk12] at hys4 hkok
         cases hys4 with
         | @cons y1 yr _ _ d1 d2 =>
          cases d2 with
          | @cons y2 yr2 _ _ d3 d4 =>
           cases d4
           refine⟨_,rfl,l,_,0,y1,rfl,rfl,SqL.of hl4,Z1g _ _,_,rfl,(by show 2<=sizeLine;decide),fun q1 hq1 => ?_⟩
           have sq1:=Z02 (o := .tup [.str "opened",vn]) hq1
           refine⟨_,rfl,l,_,1,y2,rfl,rfl,SqL.of (sq1 _ _ hl4),Z5g _ _ _,_,rfl,(by show 2<=sizeLine;decide),fun q2 hq2 => ?_⟩
           have sq2:=Z02 (o := .tup [.str "closed",vn]) hq2
           refine⟨(by show 4<=sizeLine;decide),fun l2 hl2 => ?_⟩
           have sq3:=Z02 (o := .lst [y1,.ref q1,y2,.ref q2]) hl2
           have sA:=(sq1.trans sq2).trans sq3
           have hq1k:q1≠wk:=fun z=>by rw[z,s4 _ _ L3] at hq1;cases hq1
           have hq1t:q1≠wt:=fun z=>by rw[z,s4 _ _ W3] at hq1;cases hq1
           have hq2k:q2≠wk:=fun z=>by rw[z,sq1 _ _ (s4 _ _ L3)] at hq2;cases hq2
           have hq2t:q2≠wt:=fun z=>by rw[z,sq1 _ _ (s4 _ _ W3)] at hq2;cases hq2
           have oA:=Z0x (a:=wk) (b:=wt) sA
           have hvA:=IsTh.kp (Kp.of (Z0x (a:=wk) (b:=wt) (s4.trans sA))) hvn3
           refine⟨l2,_,[("node",k1),("opened",.tup (.at (.str w0)::xs)),("node",k2),("closed",.tup (.at (.str w0)::xs))],rfl,s4.trans sA,Z00,?_,?_,?_⟩
           ·exact .cons (IsTh.kp (Kp.of oA) d1) (.cons (.tup (Z21 (sq3 _ _ (sq2 _ _ Z00)) hq1k hq1t) (.cons (.at (Z3e (.inr (.inl rfl)))) (.cons hvA .nil))) (.cons (IsTh.kp (Kp.of oA) d3) (.cons (.tup (Z21 (sq3 _ _ Z00) hq2k hq2t) (.cons (.at (Z3e (.inr (.inr rfl)))) (.cons hvA .nil))) .nil)))
           ·exact Zg3 (by rw[Z9e,hw0];decide +kernel) (by rw[Z6m,hk12])
           ·intro x hx
            have o1:=hkok k1 (by simp)
            have o2:=hkok k2 (by simp)
            simp only [List.mem_cons,List.not_mem_nil,or_false] at hx
            rcases hx with rfl | rfl | rfl | rfl
            ·exact⟨.inl rfl,o1.1.up,o1.2⟩
            ·exact hself.1
            ·exact⟨.inl rfl,o2.1.up,o2.2⟩
            ·exact hself.2
        ·have hw0:w0≠"let":=fun z=>g2 (by rw[z];decide +kernel)
         refine⟨l,ys,(Z1f xs).map fun k=>(("node":Str),k),rfl,s4,hl4,hys4,?_,?_⟩
         ·have:=Zce (st:=st') (xs := .at (.str w0)::xs) (by rw[Z9e];exact decide_eq_false hw0)
          rw[Z6m] at this
          exact this
         ·intro x hx
          obtain⟨kd,hk,rfl⟩:=List.mem_map.mp hx
          exact⟨.inl rfl,(hkok kd hk).1.up,(hkok kd hk).2⟩
       clear hys4 hl4 s4 hl3 hlk hlt'
       rintro σ5 H5 ⟨l,ys,ps,rfl,s5,hl5,hys5,htodo,hps⟩
       have hyl:=IsThs.len _ hys5
       rw[List.length_map] at hyl
       have hnew:∀x∈st'++ps.reverse,Zit (N'+1) x:=fun x hx=>by
        rcases List.mem_append.mp hx with z | z
        ·exact hall' x z
        ·exact hps x (List.mem_reverse.mp z)
       have hnl:=Zbd _ hnew
       rw[htodo] at hlen
       rw[List.length_cons] at hlen
       rw[List.length_append,List.length_reverse] at hnl
       have hwl:=IsThs.len _ hst3
       rw[List.length_map] at hwl
       refine⟨_,rfl,.inl ⟨rfl,_,SqL.of (s5 _ _ W3)⟩,_,rfl,_,rfl,rfl,l,ys,rfl,SqL.of hl5,fun p hp => ?_⟩
       have sp5:=Z02 (o := .lst ys.reverse) hp
       refine⟨wt,p,ws',ys.reverse,rfl,rfl,sp5 _ _ (s5 _ _ W3),Z00,by rw[List.length_reverse];omega,?_⟩
       have eo:off wk wt (upd (upd H5 p (.lst ys.reverse)) wt (.lst (ws'++ys.reverse)))=off wk wt (upd H5 p (.lst ys.reverse)):=Z5y
       refine⟨(Z2m (st'++ps.reverse)).length,by rw[htodo,List.length_cons];omega,ws'++ys.reverse,wl',st'++ps.reverse,dn ++ [(("node":Str),Th.tup (.at (.str w0)::xs))],_,_,_,rfl,?_,Z00,?_,?_,?_,?_,hnew,rfl⟩
       ·intro b ob e
        rw[Z08 (Z0a e hwt)]
        exact sp5 _ _ (s5 _ _ (s3 _ _ e))
       ·rw[Z08 hkt]
        exact sp5 _ _ (s5 _ _ L3)
       ·rw[eo]
        unfold prs
        rw[List.map_append,List.map_reverse]
        exact IsThs.app _ (IsThs.kp (Kp.of (Z0x (s5.trans sp5))) hst3) (Za3 _ (IsThs.kp (Kp.of (Z0x sp5)) hys5))
       ·rw[eo]
        exact IsThs.kp (Kp.of (Z0x (s5.trans sp5))) hdn3
       ·rw[<- heq,htodo,List.append_assoc]
        rfl
     ·have hd:d≠"node":=fun z=>g (by rw[z];decide +kernel)
      have e1:Z2m (st' ++ [(d,n)])=(d,n)::Z2m st':=by
       rw[Z4p]
       unfold Z5d
       rw[if_neg hd]
       rfl
      refine⟨(Z2m st').length,by rw[e1,List.length_cons];omega,ws',wl',st',dn ++ [(d,n)],_,_,_,rfl,s3,W3,L3,hst3,hdn3,?_,hall',rfl⟩
      rw[<- heq,e1,List.append_assoc]
      rfl
   ·rintro σ H1 Q1 Q2 hq ⟨u1,e1,b1,e2,q⟩
    exact⟨u1,e1,b1,e2,hq _ _ q⟩
end
theorem Z3l {X:Cx}{K:PySem.W.Frag}(hK:X.K=K):Z48 X (.builtin "len") (fun xs H Q=>∃p ys,xs = [.ref p]/\(SqL K H p ys∨SqT K H p ys)/\Q (.int ys.length) H):=by
 subst hK
 exact Z0b
theorem Zgh {X:Cx}{K:PySem.W.Frag}{x y:Str}{px py pos:Pos}{k i j:Nat}(hK:X.K=K)(hc:X.calm=true)(hN:X.N.Nodup)(hi:X.N[i]? = some x)(hx:Loc X.env.scope x)(hj:X.N[j]? = some y)(hy:Loc X.env.scope y)
  (hf:X.fn x=true∨X.env.scope.names.lookup x=some .local) (hg:X.fn y=true∨X.env.scope.names.lookup y=some .local) :
  PG X (.Tuple [.Name x px,.Name y py] k pos) (gTup K 2 (Zi9 (Z8o i) (Zi9 (Z8o j) gNil))):=by
 subst hK
 exact Zas hc (Z2z (Z0m hN hi hx hf) (Z2z (Z0m hN hj hy hg) Z7s))
def Zeb:Th->Th
 | .tup xs => .tup [.tup (Z2x xs),.at (.int ((Z1f xs).length:Nat))]
 | t=>t
def Z19 (t:Th):List Th:=(Z1j (Z13 t)).map fun p=>Zeb p.2
inductive spFlat (N:Nat)(vs:List V)(H:Hp)(Q:VK)(E_3:XK):Prop
 | mk (v:V) (t:Th) (_:vs = [v]) (_:IsTh H v t) (_:OkT N t) (_:Th.sz t<=100000) (_:∀(p:Addr) (ws:List V) H',Same H H'->H p=none->H' p=some (.lst ws)->IsThs H' ws (Z19 t)->Q (.ref p) H'):spFlat N vs H Q E_3
mutual
theorem Zbe:∀(t:Th) (N:Nat),OkT N t->Th.sz t<=100000->∀x∈Z13 t,OkT N x.2/\Th.sz x.2<=100000
 | .tup xs,N,h,hz,x,hx=>by
  rw[Z13] at hx
  rcases List.mem_cons.mp hx with z | z
  ·subst z;exact⟨h,hz⟩
  ·cases N with
   | zero=>exact h.elim
   | succ N =>
    refine Zbf (Z4n xs) (.tup xs) xs N 0 ?_ h hz ?_ x z
    ·intro y hy hyt
     obtain⟨w,ts,e,_,h2⟩:=h
     cases e
     rcases List.mem_cons.mp hy with q | q
     ·subst q;cases hyt
     ·exact h2 y q hyt
    ·rw[Th.sz] at hz;omega
 | .at _,N,h,hz,x,hx=>by simp [Z13] at hx
 | .lst _,N,h,hz,x,hx=>by simp [Z13] at hx
theorem Zbf (l:Bool)(me:Th):∀(xs:List Th) (N i:Nat),(∀y∈xs,isTup y=true->OkT N y)->OkT (N+1) me->Th.sz me<=100000->szs xs<=100000->∀x∈Z2v l me i xs,OkT (N+1) x.2/\Th.sz x.2<=100000
 | [],N,i,h,hm,hz,hs,x,hx=>by simp [Z2v] at hx
 | y::ys,N,i,h,hm,hz,hs,x,hx=>by
  rw[Z2v] at hx
  rw[szs] at hs
  have hr:=fun j z=>Zbf l me ys N j (fun q hq=>h q (List.mem_cons_of_mem _ hq)) hm hz (by omega) x z
  split at hx
  ·rcases List.mem_append.mp hx with z | z
   ·have:=Zbe y N (h y (List.mem_cons_self ..) ‹_›) (by omega) x z
    exact⟨this.1.up,this.2⟩
   ·rcases List.mem_append.mp z with z | z
    ·have e:x.2=me:=by
      match i with
      | 0=>cases l <;> simp [Z4o] at z;rw[z]
      | 1=>cases l <;> simp [Z4o] at z;rw[z]
      | _+2=>simp [Z4o] at z
     rw[e];exact⟨hm,hz⟩
    ·exact hr _ z
  ·exact hr _ hx
end
theorem Zec {l:List (Str × Th)}{i:Nat}{p:Str × Th}(h:l[i]? = some p):(Z1j (l.take (i+1))).map (fun p=>Zeb p.2)=(Z1j (l.take i)).map (fun p=>Zeb p.2)++(if p.1="node" then [Zeb p.2] else []):=by
 unfold Z1j
 rw[List.take_add_one,h,List.filter_append,List.map_append]
 by_cases hp:p.1="node" <;> simp [hp]
section
variable {P:Program}{w:World}{K:PySem.W.Frag}{mg:Str->Option Value}{base:Heap}
structure HT (K:PySem.W.Frag)(mg:Str->Option Value)(fP fH fS:Addr)(dP dH dS:FuncData):Prop where
 T:TxtT mg
 TD:TxtD mg
 KI:Kits K
 P:Fun K "parts" "parts" Z6g fP dP
 bP:Binds K dP ["e"] []
 mP:mg "parts"=some (.ref fP)
 H:Fun K "head" "head" Zch fH dH
 bH:Binds K dH ["node"] []
 mH:mg "head"=some (.ref fH)
 S:Fun K "steps" "steps" Z7i fS dS
 bS:Binds K dS ["tree"] []
 mS:mg "steps"=some (.ref fS)
theorem nd2:(["deed","node"]:List Str).Nodup:=by decide +kernel
theorem Zkq:FnScope ["tree"] ["tree"] (Z05 Za9):=⟨rfl,rfl,rfl,by decide +kernel,rfl,by decide +kernel,by decide +kernel⟩
theorem Zed {f fP fH fS:Addr}{fd dP dH dS:FuncData}(F:Fun K "flat" "flat" Za9 f fd)(U:HT K mg fP fH fS dP dH dS)(N:Nat):FnOk P w K mg base CX0 3 f fd ["tree"] (spFlat N):=by
 have GP:FnOk P w K mg base CX0 1 fP dP ["e"] spParts:=Z4t U.P U.T U.KI
 have GH:FnOk P w K mg base CX0 1 fH dH ["node"] spHead:=Zac U.H U.T U.KI
 have GS:FnOk P w K mg base CX0 2 fS dS ["tree"] (spSteps N):=Zgg U.S U.T U.TD U.KI U.P U.bP U.mP N
 obtain⟨tn,hNode⟩:=U.TD.node
 refine F.ok Zkq (fun vs H Q E h => ?_) (fun cdv A outer s H vs Q E hr h => ?_)
 ·obtain⟨v,t,rfl,_⟩:=h
  rfl
 ·obtain⟨v,t,rfl,ht,hok,hz,k⟩:=h
  have hsz:sizeLine=16777216:=sizeLine_eq
  have hr1:Room 1 _:=hr.mono (by decide)
  have hr2:Room 2 _:=hr.mono (by decide)
  refine'⟨?tt,?body,?fin⟩
  case body =>
   refine' Z07 ?s1
   case s1 =>
    refine' Z0l ?r
    case r =>
     refine' Z1a (N' := ["deed","node"]) (src := [none,none]) ?k1 ?k5 ?k6 ?k7
     case k1=>rfl
     case k5=>exact Z0i (Z05 Za9) rfl ["tree"] rfl (by decide +kernel)
     case k6=>exact Z2l (Z06 GS hr2 (by rfl) U.mS U.S.kp U.bS .nil Z0g (Z0h (pv 0) Z01))
     case k7 =>
      intro cl C ex s0 H0
      refine'⟨?g1,?g2,?g3⟩
      case g1=>exact Zgh (K:=K) (i:=0) (j:=1) rfl rfl nd2 rfl (Or.inl rfl) rfl (Or.inl rfl) (Or.inr rfl) (Or.inr rfl)
      case g2=>exact Z6a (Z0f Z1l (pv 0) (Z58 (v := .str "node") (by rfl) hNode ⟨tn,rfl⟩) (Z0j _))
      case g3=>exact Z1h (Z2s (Z06 GH hr1 (by rfl) U.mH U.H.kp U.bH .nil Z0g (Z0h (pv 1) Z01)) (Z2s (Z0d (id:="len") (Z3l (K:=K) rfl) (by rfl) U.T.len PySem.boot_len (Z2s (Z06 GP hr1 (by rfl) U.mP U.P.kp U.bP .nil Z0g (Z0h (pv 1) Z01)) Z01)) Z01))
  case fin =>
   refine⟨_,rfl,v,t,rfl,ht,hok,hz,fun p ws H1 s1 hp0 hp hws => ?_⟩
   have hl:=IsThs.len _ hws
   rw[List.length_map] at hl
   have hlt:=Z6k t
   refine⟨p,rfl,⟨_,SqL.of hp⟩,Z1q (K:=K) (a:=p) (xs:=ws) (fun i ys σc H'=>∃o o',σc = [o,o']/\Same H1 H'/\ys.length<=i/\IsThs H' ys ((Z1j ((Z13 t).take i)).map fun p=>Zeb p.2))
    ⟨none,none,rfl,Same.refl _,Nat.le_refl _,by rw[List.take_zero];exact .nil⟩ (fun i ys σc H' ⟨_,_,_,e,_⟩=>SqL.of (e _ _ hp)) ?_ ?_⟩
   ·rintro i x ys σc H' hx hi ⟨o,o',rfl,s2,hyl,hys⟩
    obtain⟨u,hu,h1⟩:=Z0q _ hws hx
    rw[List.getElem?_map] at hu
    obtain⟨q,hq,rfl⟩:∃q,(Z13 t)[i]? = some q/\pr q=u:=by
     cases e:(Z13 t)[i]? with
     | none=>rw[e] at hu;cases hu
     | some q=>rw[e] at hu;exact⟨q,rfl,by simpa using hu⟩
    obtain⟨hqo,hqz⟩:=Zbe t N hok hz q (List.mem_of_getElem? hq)
    obtain⟨a,vs,rfl,ha,hvs⟩:=Z1i h1
    have htd:=Zec hq
    cases hvs with
    | cons c1 c2 =>
     cases c2 with
     | @cons vn _ _ _ c3 c4 =>
      cases c4
      obtain⟨rfl,_⟩:=Z4a c1
      refine⟨by omega,a,_,rfl,SqT.of (s2 _ _ ha),rfl,_,_,rfl,_,_,rfl,rfl,_,rfl,rfl,_,rfl,Z22 (fun g => ?_) (fun g => ?_)⟩
      ·have hd:q.1="node":=by
        have g':=of_decide_eq_true g
        injection g'
       rw[if_pos hd] at htd
       obtain⟨N',rfl⟩:∃N',N=N'+1:=by
        cases N with
        | zero=>exact hqo.elim
        | succ N'=>exact⟨N',rfl⟩
       obtain⟨w0,xs,e0,_⟩:=hqo
       rw[e0] at c3 hqz htd
       have hxs:Th.sz (.tup (.at (.str w0)::xs))=1+(1+szs xs):=by simp only [Th.sz,szs]
       have hxl:=Za4 xs
       have c3':=IsTh.kp (Kp.of s2) c3
       refine⟨_,rfl,H',vn,_,rfl,Same.refl _,c3',by rw[List.length_cons];omega,fun p1 ws1 H2 s3 hp1 hw1 => ?_⟩
       refine⟨_,rfl,H2,vn,_,rfl,Same.refl _,IsTh.kp (Kp.of s3) c3',by rw[List.length_cons];omega,fun p2 ps H3 s4 hp3 hps => ?_⟩
       refine⟨p2,ps,rfl,.inr (SqT.of hp3),(by show 2<=sizeLine;decide),fun q3 hq3 => ?_⟩
       have sA:=(s3.trans s4).trans (Z02 (o := .tup [.ref p1,.int (ps.length:Nat)]) hq3)
       refine nx hi ⟨_,_,rfl,s2.trans sA,by rw[List.length_append];show ys.length+1<=i+1;omega,?_⟩
       rw[htd]
       refine IsThs.app _ (IsThs.kp (Kp.of sA) hys) (.cons ?_ .nil)
       have hpl:=IsThs.len _ hps
       show IsTh _ _ (.tup [.tup (Z2x (.at (.str w0)::xs)),.at (.int ((Z1f (.at (.str w0)::xs)).length:Nat))])
       rw[<- hpl]
       refine .tup Z00 (.cons (.tup (Z02 hq3 _ _ (s4 _ _ hp1)) (IsThs.kp (Kp.of sA) hw1)) (.cons (.at rfl) .nil))
      ·have hd:q.1≠"node":=fun z=>g (by rw[z];decide +kernel)
       rw[if_neg hd,List.append_nil] at htd
       exact nx hi ⟨_,_,rfl,s2,by omega,by rw[htd];exact hys⟩
   ·rintro ys σc H' ⟨o,o',rfl,s2,hyl,hys⟩ q hq
    rw[List.take_of_length_le (by omega)] at hys
    have sq:=Z02 (o := .lst ys) hq
    exact k q ys _ ((s1.trans s2).trans sq) (Z1v (s1.trans s2) hq) Z00 (IsThs.kp (Kp.of sq) hys)
end
def nd (w:Str)(hd:List V)(ks:List Th):Th := .tup (.at (.str w)::(hd.map Th.at++ks))
def PfT:Nat->Th->Prop
 | 0,_=>False
 | n+1,t=>∃(w:Str) (hd:List V) (ks:List Th),t=nd w hd ks/\hd.length<=1/\(∀v∈hd,plT (.at v)=true)/\(w="let"->hd = []/\ks.length=2)/\(w="hole"->∃i:Nat,hd = [.int i]/\ks = [])/\ks.length<=6/\∀k∈ks,PfT n k
theorem PfT.up:∀(n:Nat) {t:Th},PfT n t->PfT (n+1) t:=by
 intro n
 induction n with
 | zero=>intro t h;exact h.elim
 | succ n ih =>
  intro t h
  obtain⟨w,hd,ks,e,h1,h2,h3,h4,h5,h6⟩:=h
  exact⟨w,hd,ks,e,h1,h2,h3,h4,h5,fun k hk=>ih (h6 k hk)⟩
theorem PfT.le {n m:Nat}{t:Th}(h:PfT n t)(hm:n<=m):PfT m t:=by
 induction hm with
 | refl=>exact h
 | step _ ih=>exact PfT.up _ ih
theorem PfT.isTup {n:Nat}{t:Th}(h:PfT n t):isTup t=true:=by
 cases n with
 | zero=>exact h.elim
 | succ n=>obtain⟨w,hd,ks,rfl,_⟩:=h;rfl
theorem Z83 (hd:List V):(hd.map Th.at).filter L2.isTup = []:=by
 induction hd with
 | nil=>rfl
 | cons v hd ih=>rw[List.map_cons,List.filter_cons];simpa [L2.isTup] using ih
theorem Zbg (hd:List V):(hd.map Th.at).filter Z2p=hd.map Th.at:=by
 induction hd with
 | nil=>rfl
 | cons v hd ih=>rw[List.map_cons,List.filter_cons,if_pos (by rfl),ih]
theorem Z5z:∀{ks:List Th},(∀k∈ks,L2.isTup k=true)->ks.filter L2.isTup=ks:=fun h=>List.filter_eq_self.mpr h
theorem Z9f {ks:List Th}(h:∀k∈ks,L2.isTup k=true):ks.filter Z2p = []:=by
 rw[List.filter_eq_nil_iff]
 intro k hk
 unfold Z2p
 rw[h k hk]
 decide
theorem Z2d {w:Str}{hd:List V}{ks:List Th}(h:∀k∈ks,L2.isTup k=true):Z1f (.at (.str w)::(hd.map Th.at++ks))=ks:=by
 unfold Z1f
 rw[List.filter_cons,if_neg (by simp [L2.isTup]),List.filter_append,Z83,List.nil_append,Z5z h]
theorem Z2y {w:Str}{hd:List V}{ks:List Th}(h:∀k∈ks,L2.isTup k=true):Z2x (.at (.str w)::(hd.map Th.at++ks)) = .at (.str w)::hd.map Th.at:=by
 unfold Z2x
 rw[List.filter_cons,if_pos (by rfl),List.filter_append,Zbg,Z9f h,List.append_nil]
theorem Zad:∀{a b:List V},a.map Th.at=b.map Th.at->a=b:=by
 intro a
 induction a with
 | nil=>intro b h;cases b with
  | nil=>rfl
  | cons=>cases h
 | cons x a ih=>intro b h;cases b with
  | nil=>cases h
  | cons y b =>
   rw[List.map_cons,List.map_cons] at h
   injection h with h1 h2
   injection h1 with h1
   rw[h1,ih h2]
theorem PfT.ok:∀(n:Nat) {t:Th},PfT n t->OkT n t:=by
 intro n
 induction n with
 | zero=>intro t h;exact h.elim
 | succ n ih =>
  intro t h
  obtain⟨w,hd,ks,rfl,h1,h2,h3,h4,h5,h6⟩:=h
  refine⟨w,hd.map Th.at++ks,rfl,fun e => ?_,fun x hx ht => ?_⟩
  ·obtain⟨rfl,h⟩:=h3 e
   show((([]:List V).map Th.at++ks).filter L2.isTup).length=2
   rw[List.map_nil,List.nil_append,Z5z fun k hk=>(h6 k hk).isTup]
   exact h
  ·rcases List.mem_append.mp hx with z | z
   ·obtain⟨v,_,rfl⟩:=List.mem_map.mp z
    cases ht
   ·exact ih (h6 x z)
theorem Z60:∀a b:List Th,Z24 (a++b)=(Z24 a&&Z24 b):=by
 intro a
 induction a with
 | nil=>intro b;rw[List.nil_append,Z24,Bool.true_and]
 | cons x a ih=>intro b;rw[List.cons_append,Z24,Z24,ih,Bool.and_assoc]
theorem Z1c:∀{a:List Th},(∀x∈a,plT x=true)->Z24 a=true:=by
 intro a
 induction a with
 | nil=>intro _;rw[Z24]
 | cons x a ih=>intro h;rw[Z24,h x (List.mem_cons_self ..),ih fun y hy=>h y (List.mem_cons_of_mem _ hy)];rfl
theorem PfT.pl:∀(n:Nat) {t:Th},PfT n t->plT t=true:=by
 intro n
 induction n with
 | zero=>intro t h;exact h.elim
 | succ n ih =>
  intro t h
  obtain⟨w,hd,ks,rfl,h1,h2,h3,h4,h5,h6⟩:=h
  unfold nd
  rw[plT,Z24,Z60,Z1c (a:=hd.map Th.at) fun x hx => ?_,Z1c (a:=ks) fun x hx=>ih (h6 x hx),plT]
  ·rfl
  ·obtain⟨v,hv,rfl⟩:=List.mem_map.mp hx
   exact h2 v hv
theorem Z3z {n:Nat}:∀{a:List Th},(∀x∈a,dp x<=n)->dps a<=n:=by
 intro a
 induction a with
 | nil=>intro _;rw[dps];exact Nat.zero_le _
 | cons x a ih=>intro h;rw[dps];exact Nat.max_le.mpr ⟨h x (List.mem_cons_self ..),ih fun y hy=>h y (List.mem_cons_of_mem _ hy)⟩
theorem PfT.dp:∀(n:Nat) {t:Th},PfT n t->L2.dp t<=n:=by
 intro n
 induction n with
 | zero=>intro t h;exact h.elim
 | succ n ih =>
  intro t h
  obtain⟨w,hd,ks,rfl,h1,h2,h3,h4,h5,h6⟩:=h
  unfold nd
  rw[L2.dp,Nat.add_comm]
  refine Nat.succ_le_succ (Z3z fun x hx => ?_)
  rcases List.mem_cons.mp hx with rfl | hx
  ·rw[L2.dp];exact Nat.zero_le _
  ·rcases List.mem_append.mp hx with z | z
   ·obtain⟨v,_,rfl⟩:=List.mem_map.mp z
    rw[L2.dp];exact Nat.zero_le _
   ·exact ih (h6 x z)
theorem Zae (l:Bool)(me:Th):∀(xs:List Th) (i:Nat),Z1j (Z2v l me i xs)=((Z1f xs).map fun k=>Z1j (Z13 k)).flatten:=by
 intro xs
 induction xs with
 | nil=>intro i;simp [Z2v,Z1f,Z1j]
 | cons x xs ih =>
  intro i
  rw[Z2v]
  unfold Z1f at ih ⊢
  rw[List.filter_cons]
  split
  ·have h3:=Zcf l me i
   have h2:=ih (i+1)
   unfold Z1j at *
   rw[List.filter_append,List.filter_append,h3,List.nil_append,List.map_cons,List.flatten_cons,h2]
  ·exact ih i
theorem Z4u (xs:List Th):Z19 (.tup xs)=Zeb (.tup xs)::((Z1f xs).map Z19).flatten:=by
 unfold Z19
 rw[Z13]
 have h:=Zae (Z4n xs) (.tup xs) xs 0
 unfold Z1j at h ⊢
 rw[List.filter_cons,if_pos (by simp),List.map_cons,h,List.map_flatten,List.map_map]
 rfl
theorem Zbh:∀(n m:Nat) {t u:Th} {r s:List Th},PfT n t->PfT m u->Z19 t++r=Z19 u++s->t=u/\r=s:=by
 intro n
 induction n with
 | zero=>intro m t u r s h;exact h.elim
 | succ n ih =>
  intro m t u r s ht hu he
  cases m with
  | zero=>exact hu.elim
  | succ m =>
   obtain⟨w,hd,ks,rfl,h1,h2,h3,h4,h5,h6⟩:=ht
   obtain⟨w',hd',ks',rfl,g1,g2,g3,g4,g5,g6⟩:=hu
   have k1:∀k∈ks,L2.isTup k=true:=fun k hk=>(h6 k hk).isTup
   have k2:∀k∈ks',L2.isTup k=true:=fun k hk=>(g6 k hk).isTup
   unfold nd at he
   rw[Z4u,Z4u,Z2d k1,Z2d k2,List.cons_append,List.cons_append] at he
   injection he with he1 he2
   unfold Zeb at he1
   dsimp only at he1
   rw[Z2d k1,Z2d k2,Z2y k1,Z2y k2] at he1
   injection he1 with he1
   injection he1 with he3 he4
   injection he3 with he3
   injection he3 with he5 he6
   injection he4 with he4 _
   injection he4 with he4
   injection he4 with he4
   have hlen:ks.length=ks'.length:=by omega
   have key:∀(as bs:List Th) (r s:List Th),as.length=bs.length->(∀k∈as,PfT n k)->(∀k∈bs,PfT m k)->(as.map Z19).flatten++r=(bs.map Z19).flatten++s->as=bs/\r=s:=by
    intro as
    induction as with
    | nil =>
     intro bs r s hl _ _ e
     cases bs with
     | nil=>exact⟨rfl,by simpa using e⟩
     | cons=>simp at hl
    | cons a as ih2 =>
     intro bs r s hl ha hb e
     cases bs with
     | nil=>simp at hl
     | cons b bs =>
      rw[List.map_cons,List.map_cons,List.flatten_cons,List.flatten_cons,List.append_assoc,List.append_assoc] at e
      obtain⟨e1,e2⟩:=ih m (ha a (List.mem_cons_self ..)) (hb b (List.mem_cons_self ..)) e
      obtain⟨e3,e4⟩:=ih2 bs r s (by simpa using hl) (fun k hk=>ha k (List.mem_cons_of_mem _ hk)) (fun k hk=>hb k (List.mem_cons_of_mem _ hk)) e2
      exact⟨by rw[e1,e3],e4⟩
   obtain⟨e1,e2⟩:=key ks ks' r s hlen h6 g6 he2
   refine⟨?_,e2⟩
   rw[e1,Zad he6]
   injection he5 with he5
   injection he5 with he5
   rw[he5]
theorem Ziu {n m:Nat}{t u:Th}(h:PfT n t)(h':PfT m u)(e:Z19 t=Z19 u):t=u:=(Zbh n m h h' (r := []) (s := []) (by rw[e])).1
def Z9g:Th->Option Nat
 | .tup [.at (.str w),.at (.int i)]=>if w="hole" then some i.toNat else none
 | _=>none
mutual
def fl (σ:Nat->Th):Th->Th
 | .tup xs=>match Z9g (.tup xs) with
  | some i=>σ i
  | none => .tup (fls σ xs)
 | .at v => .at v
 | .lst xs => .lst xs
def fls (σ:Nat->Th):List Th->List Th
 | [] => []
 | x::xs=>fl σ x::fls σ xs
end
mutual
def hs:Th->List Nat
 | .tup xs=>match Z9g (.tup xs) with
  | some i => [i]
  | none=>hss xs
 | .at _ => []
 | .lst _ => []
def hss:List Th->List Nat
 | [] => []
 | x::xs=>hs x++hss xs
end
theorem Ziv (σ:Nat->Th):∀xs:List Th,fls σ xs=xs.map (fl σ):=by
 intro xs
 induction xs with
 | nil=>rw[fls];rfl
 | cons x xs ih=>rw[fls,ih];rfl
theorem Ziw {i:Nat}:∀{xs:List Th},i∈hss xs↔∃x∈xs,i∈hs x:=by
 intro xs
 induction xs with
 | nil=>rw[hss];simp
 | cons x xs ih=>rw[hss,List.mem_append,ih];simp
theorem Zee {i:Nat}:Z9g (nd "hole" [.int (i:Nat)] [])=some i:=by
 show(if ("hole":Str)="hole" then some ((i:Nat):Int).toNat else none)=some i
 rw[if_pos rfl];simp
theorem Z84 {w:Str}{hd:List V}{ks:List Th}(h:w≠"hole"):Z9g (nd w hd ks)=none:=by
 unfold nd Z9g
 split
 ·next w' i e =>
  injection e with e
  injection e with e1 e2
  injection e1 with e1
  injection e1 with e1
  rw[if_neg (by rw[<- e1];exact h)]
 ·rfl
theorem Z1m {σ:Nat->Th}{i:Nat}:fl σ (nd "hole" [.int (i:Nat)] [])=σ i:=by
 have h:=Zee (i:=i)
 unfold nd at h ⊢
 rw[fl,h]
theorem Z1x {i:Nat}:hs (nd "hole" [.int (i:Nat)] []) = [i]:=by
 have h:=Zee (i:=i)
 unfold nd at h ⊢
 rw[hs,h]
theorem Zkr (σ:Nat->Th)(hd:List V):(hd.map Th.at).map (fl σ)=hd.map Th.at:=by
 rw[List.map_map]
 refine List.map_congr_left fun v _ => ?_
 show fl σ (.at v) = .at v
 rw[fl]
theorem Z3f {σ:Nat->Th}{w:Str}{hd:List V}{ks:List Th}(h:w≠"hole"):fl σ (nd w hd ks)=nd w hd (ks.map (fl σ)):=by
 have h':=Z84 (hd:=hd) (ks:=ks) h
 unfold nd at h' ⊢
 rw[fl,h']
 dsimp only
 rw[Ziv,List.map_cons,List.map_append,Zkr,fl]
theorem Z3t {w:Str}{hd:List V}{ks:List Th}{i:Nat}(h:w≠"hole"):i∈hs (nd w hd ks)↔∃k∈ks,i∈hs k:=by
 have h':=Z84 (hd:=hd) (ks:=ks) h
 unfold nd at h' ⊢
 rw[hs,h']
 dsimp only
 rw[Ziw]
 constructor
 ·rintro⟨x,hx,hi⟩
  rcases List.mem_cons.mp hx with rfl | hx
  ·rw[hs] at hi;simp at hi
  ·rcases List.mem_append.mp hx with z | z
   ·obtain⟨v,_,rfl⟩:=List.mem_map.mp z
    rw[hs] at hi;simp at hi
   ·exact⟨x,z,hi⟩
 ·rintro⟨k,hk,hi⟩
  exact⟨k,List.mem_cons_of_mem _ (List.mem_append_right _ hk),hi⟩
theorem Zks {w w':Str}{hd hd':List V}{ks ks':List Th}(h:∀k∈ks,L2.isTup k=true)(h':∀k∈ks',L2.isTup k=true)(e:nd w hd ks=nd w' hd' ks'):w=w'/\hd=hd'/\ks=ks':=by
 unfold nd at e
 injection e with e
 have e1:=congrArg Z2x e
 have e2:=congrArg Z1f e
 rw[Z2y h,Z2y h'] at e1
 rw[Z2d h,Z2d h'] at e2
 injection e1 with e1 e3
 injection e1 with e1
 injection e1 with e1
 exact⟨e1,Zad e3,e2⟩
def Tps (σ:Nat->Th):Prop:=∀i,L2.isTup (σ i)=true
theorem Zef {σ:Nat->Th}(hσ:Tps σ){n:Nat}{t:Th}(h:PfT n t):L2.isTup (fl σ t)=true:=by
 cases n with
 | zero=>exact h.elim
 | succ n =>
  obtain⟨w,hd,ks,rfl,h1,h2,h3,h4,h5,h6⟩:=h
  by_cases e:w="hole"
  ·subst e
   obtain⟨i,rfl,rfl⟩:=h4 rfl
   rw[Z1m]
   exact hσ i
  ·rw[Z3f e]
   rfl
theorem Zeg {H:Hp}{a:Addr}{kvs kvs':List (Key × V)}(h:H a=some (.dK kvs)):Kp H (upd H a (.dK kvs')):=fun c o e n=>by
 rw[Z08 (fun z=>by rw[z,h] at e;cases e;exact n _ rfl)]
 exact e
theorem Z9h {ks:List Nat}{ns:List Int}{m:Nat}(nd:ks.Nodup)(hm:∀i,i∈ks↔i<m)(hp:ns.Perm (ks.map fun(i:Nat)=>(i:Int)))(hs:ns.Pairwise (· <= ·)):ns=(List.range m).map fun(i:Nat)=>(i:Int):=by
 have p1:ks.Perm (List.range m):=(List.perm_ext_iff_of_nodup nd List.nodup_range).mpr fun i=>by rw[hm,List.mem_range]
 have p2:ns.Perm ((List.range m).map fun(i:Nat)=>(i:Int)):=hp.trans (p1.map _)
 refine p2.eq_of_pairwise (le:=(· <= ·)) (fun a b _ _ h1 h2=>Int.le_antisymm h1 h2) hs ?_
 rw[List.pairwise_map]
 exact List.pairwise_lt_range.imp fun h=>by omega
theorem Z40 {n:Nat}{t:Th}(h:PfT n t):1<=cnt t:=by
 cases n with
 | zero=>exact h.elim
 | succ n =>
  obtain⟨w,hd,ks,rfl,_⟩:=h
  unfold nd
  rw[cnt]
  omega
def Z1t (l:Addr)(n:Nat)(z:Int):List (Key × V) := [(Sum.inr "cells",.ref l),(Sum.inr "at",.int n),(Sum.inr "left",.int z)]
structure Feed (H:Hp)(d l:Addr)(ns:List Int)(n:Nat):Prop where
 dc:∃z,H d=some (.dK (Z1t l n z))
 ls:H l=some (.lst (ns.map V.int))
 sz:ns.length<=63
def But (d:Addr)(H H':Hp):Prop:=∀b o,H b=some o->b≠d->H' b=some o
theorem But.trans {d:Addr}{H H1 H2:Hp}(a:But d H H1)(b:But d H1 H2):But d H H2:=fun c o e n=>b c o (a c o e n) n
theorem But.of {d:Addr}{H H1:Hp}(a:Same H H1):But d H H1:=fun c o e _=>a c o e
theorem Zgi (l:Addr)(n:Nat)(z:Int):Z37 (Z1t l n z) (Sum.inr "cells")=some (.ref l):=by with_unfolding_all rfl
theorem Zmv (l:Addr)(n:Nat)(z:Int):Z37 (Z1t l n z) (Sum.inr "at")=some (.int n):=by with_unfolding_all rfl
theorem Zix (l:Addr)(n:Nat)(z:Int):Z37 (Z1t l n z) (Sum.inr "left")=some (.int z):=by with_unfolding_all rfl
theorem Zkt (l:Addr)(n:Nat)(z:Int):Z43 (Z1t l n z) (Sum.inr "at") (.int ((n:Int)+1))=Z1t l (n+1) z:=by with_unfolding_all rfl
theorem Zgj (l:Addr)(n:Nat)(z y:Int):Z43 (Z1t l n z) (Sum.inr "left") (.int y)=Z1t l n y:=by with_unfolding_all rfl
theorem Z6n {H:Hp}{d l:Addr}{n:Nat}{z:Int}(h:H d=some (.dK (Z1t l n z))):DGet H d (.str "cells") (some (.ref l)):=by
 have:=DGet.k (k:=Sum.inr "cells") h;rw[Zgi] at this;exact this
theorem Zku {H:Hp}{d l:Addr}{n:Nat}{z:Int}(h:H d=some (.dK (Z1t l n z))):DGet H d (.str "at") (some (.int n)):=by
 have:=DGet.k (k:=Sum.inr "at") h;rw[Zmv] at this;exact this
theorem Z85 {H:Hp}{d l:Addr}{n:Nat}{z:Int}(h:H d=some (.dK (Z1t l n z))):DGet H d (.str "left") (some (.int z)):=by
 have:=DGet.k (k:=Sum.inr "left") h;rw[Zix] at this;exact this
theorem Zkv {H:Hp}{d l:Addr}{n:Nat}{z:Int}(h:H d=some (.dK (Z1t l n z))):DPut H d (.str "at") (.int ((n:Int)+1)) (upd H d (.dK (Z1t l (n+1) z))):=by
 have:=DPut.k (k:=Sum.inr "at") (v := .int ((n:Int)+1)) h (by show 3<sizeLine;decide);rw[Zkt] at this;exact this
theorem Zbi {H:Hp}{d l:Addr}{n:Nat}{z y:Int}(h:H d=some (.dK (Z1t l n z))):DPut H d (.str "left") (.int y) (upd H d (.dK (Z1t l n y))):=by
 have:=DPut.k (k:=Sum.inr "left") (v := .int y) h (by show 3<sizeLine;decide);rw[Zgj] at this;exact this
theorem Feed.ne {H:Hp}{d l:Addr}{ns:List Int}{n:Nat}(F:Feed H d l ns n):l≠d:=by
 obtain⟨⟨z,h⟩,g,_⟩:=F
 exact Z1b g h (by intro q;cases q)
theorem Feed.but {H H':Hp}{d l:Addr}{ns:List Int}{n m:Nat}{z:Int}(F:Feed H d l ns n)(b:But d H H')(h:H' d=some (.dK (Z1t l m z))):Feed H' d l ns m:=⟨⟨z,h⟩,b l _ F.ls F.ne,F.sz⟩
theorem But.upd {d:Addr}{H:Hp}{o:HO}:But d H (upd H d o):=fun c u e n=>by rw[Z08 n];exact e
inductive spFeed (K:PySem.W.Frag)(vs:List V)(H:Hp)(Q:VK)(E_3:XK):Prop
 | mk (a:Addr) (ns:List Int) (_:vs = [.ref a]) (_:SqL K H a (ns.map V.int)) (_:ns.length<=63) (_:∀d l H',Feed H' d l ns 0->H d=none->Same H H'->Q (.ref d) H'):spFeed K vs H Q E_3
inductive spDraw (vs:List V)(H:Hp)(Q:VK)(E_3:XK):Prop
 | mk (d l:Addr) (ns:List Int) (n:Nat) (m:Int) (_:vs = [.ref d,.int m]) (_:Feed H d l ns n) (_:n<=1000000000000) (_:0<m) (_:m<18446744073709551616) (_:∀r n' H',0<=r->r<m->n'<=n+1->Feed H' d l ns n'->But d H H'->Q (.int r) H'):spDraw vs H Q E_3
theorem Zmw {ns:List Int}(h:ns.length<=63):Z5v (ns.map V.int) none (some 63)=ns.map V.int:=by
 have e1:HT.sIx (ns.map V.int).length 0 none=0:=rfl
 have e2:HT.sIx (ns.map V.int).length (ns.map V.int).length (some 63)=min 63 (ns.map V.int).length:=rfl
 unfold Z5v
 rw[e1,e2,List.drop_zero,List.take_of_length_le]
 rw[List.length_map];omega
theorem Znm (x:Int) : -(2 ^ 64)<x % 2147483629:=by omega
theorem Znn (x:Int):x % 2147483629<2 ^ 64:=by omega
theorem Zeh (ns:List Int):(ns.map V.int).all Z49=true:=by
 rw[List.all_map];exact List.all_eq_true.mpr fun _ _=>rfl
theorem Feed.same {H H':Hp}{d l:Addr}{ns:List Int}{n:Nat}(F:Feed H d l ns n)(s:Same H H'):Feed H' d l ns n:=let ⟨⟨z,h⟩,g,q⟩:=F;⟨⟨z,s _ _ h⟩,s _ _ g,q⟩
theorem Z6o {xs:List V}(h:xs.length<=1000):xs.length<=sizeLine:=Nat.le_trans h (by decide)
structure Txt0 (mg:Str->Option Value):Prop where
 len:mg "len"=none
 list:mg "list"=none
 range:mg "range"=none
section
variable {P:Program}{w:World}{K:PySem.W.Frag}{mg:Str->Option Value}{base:Heap}
theorem Zkw:FnScope ["_law_script"] ["_law_script"] (Z05 Ze6):=⟨rfl,rfl,rfl,by decide +kernel,rfl,by decide +kernel,by decide +kernel⟩
theorem Ziy {f:Addr}{fd:FuncData}(F:Fun K "_law_feed" "_law_feed" Ze6 f fd)(T:Txt0 mg):FnOk P w K mg base CX0 1 f fd ["_law_script"] (spFeed K):=by
 refine F.ok Zkw (fun vs H Q E h => ?_) (fun cdv A outer s H vs Q E hr h => ?_)
 ·obtain⟨a,ns,rfl,_⟩:=h
  rfl
 ·obtain⟨a,ns,rfl,hS,hl,k⟩:=h
  refine⟨_,Z07 (Z0l (Zdq (Z30 Z0e (Z10 Z8z (by rfl) T.list (by rfl) (Z09 (Z2f Z7x (pv 0) Z35 (Z2u Z04)) Z01)) (Z30 Z0e Z04 (Z30 Z0e Z04 Zdp))) rfl rfl (by intro z;cases z) (by decide))),?_⟩
  intro d hd
  refine⟨_,rfl,_,rfl,a,_,rfl,(Z02 hd).seq hS,fun p hp => ?_⟩
  refine⟨p,_,rfl,.inl (SqL.of Z00),fun l hl' => ?_⟩
  have hdl:d≠l:=Z0a (H:=upd (upd H d (.dK [])) p (.lst (Z5v (ns.map V.int) none (some 63)))) (by rw[Z08 (Z0a Z00 hp)];exact Z00) hl'
  have hpd:p≠d:=fun z=>by rw[z,Z00] at hp;cases hp
  refine⟨by rw[Z08 hdl,Z08 hpd.symm];exact Z00,Z1t l 0 0,rfl,by show 3<=15;decide,?_⟩
  have em:Z68 [] (Z1t l 0 0)=Z1t l 0 0:=by with_unfolding_all rfl
  rw[em]
  refine k d l _ ⟨⟨0,Z00⟩,?_,hl⟩ hd ?_
  ·rw[Z08 hdl.symm,Z00,Zmw hl]
  ·intro b o e
   have hb:(upd H d (.dK [])) b=some o:=Z02 hd b o e
   have hb2:=Z02 (o := .lst (Z5v (ns.map V.int) none (some 63))) hp b o hb
   rw[Z08 (Z0a e hd)]
   exact Z02 hl' b o hb2
theorem scDraw:FnScope ["_law_feed_here","_law_many","_law_found","_law_at","_law_cell","_law_number"] ["_law_feed_here","_law_many"] (Z05 Ze7):=⟨rfl,rfl,rfl,by decide +kernel,rfl,by decide +kernel,by decide +kernel⟩
theorem Z41 {f:Addr}{fd:FuncData}(F:Fun K "_law_draw" "_law_draw" Ze7 f fd)(T:Txt0 mg):FnOk P w K mg base CX0 1 f fd ["_law_feed_here","_law_many"] spDraw:=by
 refine F.ok scDraw (fun vs H Q E h => ?_) (fun cdv A outer s H vs Q E hr h => ?_)
 ·obtain⟨d,l,ns,n,m,rfl,_⟩:=h
  rfl
 ·obtain⟨d,l,ns,n,m,rfl,FD,hn,hm0,hm1,k⟩:=h
  have hu:=Zmo hr
  have hu0:=hr.units0
  obtain⟨⟨z,hd⟩,hls,hsz⟩:=id FD
  refine⟨_,Z03 (Z17 (Z0f Zd9 (Z12 hu (pv 0) Z0e (fun _ _=>rfl)) Z04 (Z0j _))
    (Z03 (Z0c (i:=2) scDraw.nd rfl (Or.inl rfl) (Z0n Z39 (Z12 hu (pv 0) Z0e (fun _ _=>rfl)) (pv 1))) <|
     Z03 (Z4f hu (pv 0) Z0e (Z0n Z5w (Z12 hu (pv 0) Z0e (fun _ _=>rfl)) (pv 1)) rfl) <|
     Z07 (Z0l (pv 2))) Z0k) <|
   Z03 (Z0c (i:=3) scDraw.nd rfl (Or.inl rfl) (Z12 hu (pv 0) Z0e (fun _ _=>rfl))) <|
   Z03 (Z4f hu (pv 0) Z0e (Z0n Z25 (pv 3) Z04) rfl) <|
   Z03 (Z0c (i:=4) scDraw.nd rfl (Or.inl rfl) (Z0n Z25 (Z0n Z4c (pv 3) (pv 3)) Z04)) <|
   Z0u (Z17 (Z0f (Z5b hu0) (Z12 hu (pv 0) Z0e (fun _ _=>rfl)) (Z1p Z01) (Z0j _))
    (Z07 (Z0c (i:=4) scDraw.nd rfl (Or.inl rfl) (Z0y Z11 (Z12 hu (pv 0) Z0e (fun _ _=>rfl)) (Z0n Z39 (pv 3) (Z0d Z0b (by rfl) T.len PySem.boot_len (Z09 (Z12 hu (pv 0) Z0e (fun _ _=>rfl)) Z01))) (fun _ _=>rfl)))) Z0k) <|
   Z03 (Z17 (Z0f Zmd (pv 4) (Z0n Zkc Z04 Z04) (Z0j _))
    (Z03 (Z4f hu (pv 0) Z0e (Z0n Z5w (pv 4) (pv 1)) rfl) <| Z07 (Z0l (Z0n Z39 (pv 4) (pv 1)))) Z0k) <|
   Z03 (Z0c (i:=5) scDraw.nd rfl (Or.inl rfl) (Z0n Z39 (Z0n Z4c (Z0n Z25 (Z0n Z25 (Z0n Z39 (pv 4) Z04) (Z0n Z4c Z04 (pv 3))) Z04) Z04) Z04)) <|
   Z03 (Z0c (i:=5) scDraw.nd rfl (Or.inl rfl) (Z0n Z39 (Z0n Z25 (Z0n Z25 (Z0n Z4c (pv 5) (pv 5)) (Z0n Z4c Z04 (pv 3))) Z04) Z04)) <|
   Z03 (Z0c (i:=5) scDraw.nd rfl (Or.inl rfl) (Z0n Z39 (Z0n Z25 (Z0n Z4c (pv 5) Z04) (pv 3)) Z04)) <|
   Z07 (Z0l (Z0n Z39 (Z0n Z5w (Z0n Z39 (Z0n Z4c (pv 5) (pv 5)) Z04) Z04) (pv 1))),?_⟩
  refine⟨_,rfl,d,.int z,rfl,Z85 hd,_,_,rfl,rfl,_,rfl,?_⟩
  refine Z22 (fun hz => ?_) (fun hz => ?_)
  ·refine⟨_,rfl,d,.int z,rfl,Z85 hd,_,rfl,_,_,rfl,rfl,hm0,?_⟩
   refine⟨_,rfl,d,.int z,rfl,Z85 hd,_,rfl,_,_,rfl,rfl,⟨hm0,hm1⟩,_,rfl,d,_,rfl,Zbi hd,_,rfl,?_⟩
   exact k _ n _ (Int.emod_nonneg _ (by omega)) (Int.emod_lt_of_pos _ hm0) (Nat.le_succ _) (FD.but But.upd Z00) But.upd
  ·refine⟨_,rfl,d,.int n,rfl,Zku hd,?_⟩
   refine⟨_,rfl,_,_,rfl,rfl,_,rfl,d,_,rfl,Zkv hd,?_⟩
   have hd1:upd H d (.dK (Z1t l (n+1) z)) d=some (.dK (Z1t l (n+1) z)):=Z00
   have F1:Feed (upd H d (.dK (Z1t l (n+1) z))) d l ns (n+1):=FD.but But.upd Z00
   have B1:But d H (upd H d (.dK (Z1t l (n+1) z))):=But.upd
   generalize upd H d (.dK (Z1t l (n+1) z))=H1 at hd1 F1 B1 ⊢
   have hls1:=F1.ls
   refine⟨_,rfl,_,rfl,_,_,rfl,rfl,.inl ⟨by omega,by omega⟩,_,_,rfl,rfl,?_⟩
   refine⟨fun σ' H'=>∃c o,σ' = [some (.ref d),some (.int m),o,some (.int n),some (.int c),none]/\Feed H' d l ns (n+1)/\But d H H',?_,?_⟩
   ·refine⟨_,rfl,d,.ref l,rfl,Z6n hd1,Nat.zero_le _,fun e he=>⟨l,e,ns.map V.int,[],rfl,rfl,SqL.of (Z02 he _ _ hls1),SqL.of Z00,Zeh ns,rfl,_,rfl,?_⟩⟩
    have F2:=F1.same (Z02 (o := .lst []) he)
    have B2:But d H (upd H1 e (.lst [])):=B1.trans (But.of (Z02 he))
    obtain⟨⟨z2,hd2⟩,hls2,_⟩:=id F2
    refine Z22 (fun hne => ?_) (fun hne => ?_)
    ·have hpos:0<(ns.map V.int).length:=by
      cases ns with
      | nil=>exact absurd hne (by decide)
      | cons _ _=>exact Nat.succ_pos _
     obtain⟨v,hv,hat⟩:=Zkl hpos (n:Int)
     obtain⟨c,_,rfl⟩:=List.mem_map.mp hv
     refine⟨_,rfl,d,.ref l,rfl,Z6n hd2,_,rfl,_,rfl,d,.ref l,rfl,Z6n hd2,l,ns.map V.int,rfl,.inl (SqL.of hls2),_,_,rfl,rfl,(by show(0:Int)<((ns.map V.int).length:Int);omega),l,ns.map V.int,_,.int c,rfl,rfl,SqL.of hls2,hat,?_⟩
     exact⟨c,none,rfl,F2,B2⟩
    ·exact⟨_,none,rfl,F2,B2⟩
   ·rintro σ' H2 ⟨c,o,rfl,F2,B2⟩
    obtain⟨⟨z2,hd2⟩,hls2,_⟩:=id F2
    refine⟨_,rfl,_,_,rfl,rfl,⟨by decide,by decide,by decide⟩,_,_,rfl,rfl,_,rfl,?_⟩
    refine Z22 (fun hge => ?_) (fun hge => ?_)
    ·refine⟨_,rfl,_,rfl,_,_,rfl,rfl,⟨hm0,hm1⟩,_,rfl,d,_,rfl,Zbi hd2,_,rfl,_,rfl,_,_,rfl,rfl,hm0,?_⟩
     exact k _ (n+1) _ (Int.emod_nonneg _ (by omega)) (Int.emod_lt_of_pos _ hm0) (Nat.le_refl _) (F2.but But.upd Z00) (B2.trans But.upd)
    ·refine⟨_,rfl,_,_,rfl,rfl,(by show(0:Int)<2147483647;decide),_,rfl,_,_,rfl,rfl,.inl ⟨by decide,by decide⟩,_,_,rfl,rfl,_,_,rfl,rfl,_,_,rfl,rfl,.inr ⟨by decide,by decide⟩,_,_,rfl,rfl,(by show(0:Int)<2147483629;decide),?_⟩
     refine⟨_,rfl,_,rfl,_,_,rfl,rfl,.inl ⟨Znm _,Znn _⟩,_,rfl,_,_,rfl,rfl,.inl ⟨by decide,by decide⟩,_,_,rfl,rfl,_,_,rfl,rfl,_,_,rfl,rfl,(by show(0:Int)<2147483647;decide),?_⟩
     refine⟨_,rfl,_,_,rfl,rfl,.inr ⟨by decide,by decide⟩,_,rfl,_,_,rfl,rfl,_,_,rfl,rfl,(by show(0:Int)<2147483629;decide),?_⟩
     refine⟨_,rfl,_,rfl,_,_,rfl,rfl,.inl ⟨Znm _,Znn _⟩,_,_,rfl,rfl,(by show(0:Int)<2147483587;decide),_,_,rfl,rfl,⟨by decide,by decide⟩,_,rfl,_,_,rfl,rfl,hm0,?_⟩
     exact k _ (n+1) _ (Int.emod_nonneg _ (by omega)) (Int.emod_lt_of_pos _ hm0) (Nat.le_refl _) F2 B2
def Low (t:Str):Prop:=∀c∈t.cps.toList,97<=c/\c<=122
theorem Ziz:Low "":=by
 have e:("":Str).cps.toList = []:=by decide +kernel
 intro c hc
 rw[e] at hc
 cases hc
theorem Z6p {x y:Str}(a:Low x)(b:Low y):Low (x++y):=by
 intro c hc
 have e:(x++y).cps.toList=x.cps.toList++y.cps.toList:=by
  show(x.cps++y.cps).toList=_
  rw[Array.toList_append]
 rw[e] at hc
 rcases List.mem_append.mp hc with z | z
 ·exact a c z
 ·exact b c z
theorem Zaf {c:Nat}(h:97<=c/\c<=122):Low ⟨#[c]⟩:=by
 intro d hd
 have:d=c:=by simpa using hd
 subst this
 exact h
def Zei (t:Str)(x m:Int):Prop:=((t.length:Int)=m/\Low t)/\(0<m->t.cps.toList[0]? = some (97+(x % 26).toNat))
inductive spSpelled (vs:List V)(H:Hp)(Q:VK)(E_3:XK):Prop
 | mk (x m:Int) (_:vs = [.int x,.int m]) (_:0<=m) (_:m<=10) (_:∀t:Str,Zei t x m->Q (.str t) H):spSpelled vs H Q E_3
abbrev abc:Str:="abcdefghijklmnopqrstuvwxyz"
theorem Zkx:∀k:Fin 26,abc.cps.toList[k.val]? = some (97+k.val):=by decide +kernel
theorem Zky (y:Int):atI abc.cps.toList (y % 26)=some (97+(y % 26).toNat):=by
 have h0:0<=y % 26:=by omega
 have h1:y % 26<26:=by omega
 have e:y % 26=((y % 26).toNat:Int):=by omega
 have h:=Z2c (Zkx ⟨(y % 26).toNat,by omega⟩)
 rw[<- e] at h
 exact h
theorem scSpelled:FnScope ["_law_number","_law_long","_law_word","_law_k"] ["_law_number","_law_long"] (Z05 Z4r):=⟨rfl,rfl,rfl,by decide +kernel,rfl,by decide +kernel,by decide +kernel⟩
theorem Zcm {f:Addr}{fd:FuncData}(F:Fun K "_law_spelled" "_law_spelled" Z4r f fd)(T:Txt0 mg):FnOk P w K mg base CX0 1 f fd ["_law_number","_law_long"] spSpelled:=by
 refine F.ok scSpelled (fun vs H Q E h => ?_) (fun cdv A outer s H vs Q E hr h => ?_)
 ·obtain⟨x,m,rfl,_⟩:=h
  rfl
 ·obtain⟨x,m,rfl,h0,h1,k⟩:=h
  refine⟨_,Z03 (Z0c (i:=2) scSpelled.nd rfl (Or.inl rfl) Z0e) <|
   Z03 (Z4b PassesOwn.never rfl (Z1o rfl T.range (Z09 (pv 1) Z01)) (Z0m (i:=3) scSpelled.nd rfl (Or.inl rfl))
    (Z03 (Z0c (i:=2) scSpelled.nd rfl (Or.inl rfl) (Z0n Z3a (pv 2) (Z0y Z8w Z0e (Z0n Z39 (pv 0) Z04) (fun _ _=>rfl)))) <|
     Z07 (Z0c (i:=0) scSpelled.nd rfl (Or.inl rfl) (Z0n Z5w (pv 0) Z04)))) <|
   Z07 (Z0l (pv 2)),?_⟩
  refine⟨_,rfl,m,rfl,by omega,by omega,Z2t (n:=m.toNat) (fun i σ H'=>∃y t o,σ = [some (.int y),some (.int m),some (.str t),o]/\t.length=i/\Low t/\(i=0->y=x)/\(0<i->t.cps.toList[0]? = some (97+(x % 26).toNat))/\H'=H) ⟨x,_,none,rfl,rfl,Ziz,fun _=>rfl,fun z=>absurd z (Nat.lt_irrefl _),rfl⟩ ?_ ?_⟩
  ·rintro i σ H' hi ⟨y,t,o,rfl,ht,hlow,hy,hf,rfl⟩
   have hat:=Zky y
   refine⟨_,rfl,_,rfl,_,_,rfl,rfl,(by show(0:Int)<26;decide),abc,_,_,rfl,rfl,(by decide +kernel),hat,_,_,rfl,rfl,?_,_,rfl,_,_,rfl,rfl,⟨by decide,by decide⟩,?_⟩
   ·show t.length+1<=sizeLine
    have:sizeLine=16777216:=sizeLine_eq
    omega
   ·refine⟨_,_,_,rfl,by rw[PySem.Str.length_append,ht];rfl,Z6p hlow (Zaf (by omega)),fun z=>absurd z (Nat.succ_ne_zero _),fun _ => ?_,rfl⟩
    show(t.cps ++ #[97+(y % 26).toNat]).toList[0]? = _
    by_cases hz:i=0
    ·have h2:t.cps.toList = []:=by
      apply List.eq_nil_of_length_eq_zero
      rw[Array.length_toList]
      show t.length=0
      omega
     rw[Array.toList_append,h2,hy hz]
     rfl
    ·have h2:=hf (by omega)
     rw[Array.toList_append,List.getElem?_append_left (by rw[Array.length_toList];show 0<t.length;omega)]
     exact h2
  ·rintro σ H' ⟨y,t,o,rfl,ht,hlow,_,hf,rfl⟩
   exact⟨_,rfl,k t ⟨⟨by omega,hlow⟩,fun z=>hf (by omega)⟩⟩
end
instance (t:Str):Decidable (Low t):=by unfold Low;exact inferInstance
theorem Z4v (ts:List Str):(ts.map V.str).all Z49=true:=by
 rw[List.all_map]
 exact List.all_eq_true.mpr fun _ _=>rfl
theorem Z6q {x:Str}{lo hi:Option Int}(h:Low x):Low (Txt.slice x lo hi):=by
 unfold Txt.slice
 split
 ·exact h
 ·intro c hc
  have hc':=hc
  simp only [List.mem_filterMap] at hc'
  obtain⟨i,_,e⟩:=hc'
  refine h c ?_
  rw[Array.mem_toList_iff]
  exact Array.mem_of_getElem? e
def words8:List Str := ["num","name","op","pick","let","set","say","take"]
def words5:List Str := ["do","again","call","own","hole"]
def words13:List Str:=words8++words5
theorem Zcn:∀t∈words13,(1<=t.length/\t.length<=5)/\Low t:=by decide +kernel
theorem Z61 (t:Str)(ts:List Str):inV (.str t) (ts.map V.str)=true↔t∈ts:=by
 unfold inV
 rw[List.any_map,List.any_eq_true]
 constructor
 ·rintro⟨y,hy,e⟩
  have e':(y==t)=true:=e
  rw[<- beq_iff_eq.mp e']
  exact hy
 ·intro h
  exact⟨t,h,beq_self_eq_true t⟩
theorem But.lst {d a:Addr}{H H':Hp}{kvs:List (Key × V)}{xs:List V}(b:But d H H')(hd:H d=some (.dK kvs))(h:H a=some (.lst xs)):H' a=some (.lst xs):=b a _ h (Z1b h hd (by intro q;cases q))
theorem Z5h (x y:Str):(x++y).length=x.length+y.length:=PySem.Str.length_append x y
theorem Z5i {x:Str}(h:x.length<=1000):x.length<=sizeLine:=Nat.le_trans h (by decide)
abbrev Nm (t:Str):Prop:=(1<=t.length/\t.length<=8)/\Low t
inductive spLawName (vs:List V)(H:Hp)(Q:VK)(E_3:XK):Prop
 | mk (d l a:Addr) (ns:List Int) (n:Nat) (ts:List Str) (_:vs = [.ref d,.ref a]) (_:Feed H d l ns n) (_:n<=900000000000) (_:H a=some (.lst (ts.map V.str))) (_:ts.length<=40) (_:(∀t∈ts,Nm t)) (_:∀(t:Str) n' H',Nm t->t∉ts->t∉words13->n'<=n+8->Feed H' d l ns n'->But d H H'->Q (.str t) H'):spLawName vs H Q E_3
theorem Zbj {t:Str}(h:1<=t.length):∃c,atI t.cps.toList 0=some c:=by
 have hl:t.cps.toList.length=t.length:=by simp [Str.length]
 obtain⟨c,_,e⟩:=Z3w (xs:=t.cps.toList) (i:=0) (by decide) (by rw[hl];omega)
 exact⟨c,e⟩
theorem Zhp {t:Str}{i:Int}{c:Nat}(h:Low t)(e:atI t.cps.toList i=some c):97<=c/\c<=122:=by
 obtain⟨j,_,e2,_⟩:=Z7v e
 exact h c (List.mem_of_getElem? e2)
def mi (m:Int)(i:Nat):Int:=(m-1+i) % 8+1
def Z5r (x m:Int)(u:Str)(j:Nat):Prop:=(u.length:Int)=mi m j/\u.cps.toList[0]? = some (97+((x+j) % 26).toNat)
instance (x m:Int)(u:Str)(j:Nat):Decidable (Z5r x m u j):=by unfold Z5r;exact inferInstance
theorem Zej {x m:Int}{u:Str}{i j:Nat}(hi:i<=60)(hj:j<i)(a:Z5r x m u i)(b:Z5r x m u j):False:=by
 obtain⟨a1,a2⟩:=a
 obtain⟨b1,b2⟩:=b
 unfold mi at a1 b1
 rw[a2] at b2
 have b3:=Option.some.inj b2
 have h1:0<=(x+i) % 26:=by omega
 have h2:0<=(x+j) % 26:=by omega
 omega
structure Left (x m:Int)(ex R:List Str)(i:Nat):Prop where
 few:R.length+i<=54
 all:∀u∈ex,u∈R∨∃j,j<i/\Z5r x m u j
theorem Left.zero {x m:Int}{ex:List Str}(h:ex.length<=53):Left x m ex ex 0:=⟨by omega,fun u hu => .inl hu⟩
theorem Left.one {x m:Int}{ex R:List Str}(h:ex.length<=53):Left x m ex ex 1:=⟨by omega,fun u hu => .inl hu⟩
theorem Left.next {x m:Int}{ex R:List Str}{i:Nat}{t:Str}(h:Left x m ex R i)(ht:t∈ex)(k:Z5r x m t i):Left x m ex (R.filter fun u => !decide (Z5r x m u i)) (i+1):=by
 have hR:t∈R:=by
  rcases h.all t ht with z | ⟨j,hj,kj⟩
  ·exact z
  ·exact(Zej (by have:=h.few;omega) hj k kj).elim
 have hlt:(R.filter fun u => !decide (Z5r x m u i)).length<R.length:=by
  rw[List.length_filter_lt_length_iff_exists]
  exact⟨t,hR,by simp [k]⟩
 refine⟨by have:=h.few;omega,fun u hu => ?_⟩
 rcases h.all u hu with z | ⟨j,hj,kj⟩
 ·by_cases q:Z5r x m u i
  ·exact .inr ⟨i,Nat.lt_succ_self _,q⟩
  ·exact .inl (List.mem_filter.mpr ⟨z,by simp [q]⟩)
 ·exact .inr ⟨j,by omega,kj⟩
theorem Zj0 {X:Cx}{i:Nat}{x:Str}{e:Expr}{te:TE}{pos pos':Pos}(hN:X.N.Nodup)(hi:X.N[i]? = some x)(hx:Loc X.env.scope x)(he:PE X e te)(hs:swapsWith e (some (.Name x pos')) pos.line X.env=pure false)(hf:X.fn x=true∨X.env.scope.names.lookup x=some .local) :
  PS X (.Assign [.Name x pos'] e pos) (Zk2 te (Z8o i)):=Z0c hN hi hx he hs hf
section
variable {P:Program}{w:World}{K:PySem.W.Frag}{mg:Str->Option Value}{base:Heap}
structure Helpers (K:PySem.W.Frag)(mg:Str->Option Value)(fD fS:Addr)(dD dS:FuncData):Prop where
 T:Txt0 mg
 D:Fun K "_law_draw" "_law_draw" Ze7 fD dD
 bD:Binds K dD ["_law_feed_here","_law_many"] []
 mD:mg "_law_draw"=some (.ref fD)
 S:Fun K "_law_spelled" "_law_spelled" Z4r fS dS
 bS:Binds K dS ["_law_number","_law_long"] []
 mS:mg "_law_spelled"=some (.ref fS)
theorem scLName:FnScope ["_law_feed_here","_law_taken","_law_words","_law_way","_law_long","_law_number","_law_name_here","_law_word","_law_at"] ["_law_feed_here","_law_taken"] (Z05 Ze8):=⟨rfl,rfl,rfl,by decide +kernel,rfl,by decide +kernel,by decide +kernel⟩
inductive Mid (d l a wd:Addr)(ns:List Int)(n k:Nat)(ts:List Str)(H:Hp)(way m x:Int)(σ':St)(H':Hp):Prop
 | mk (t:Str) (n':Nat) (o7 o8:Option V) (_:σ' = [some (.ref d),some (.ref a),some (.ref wd),some (.int way),some (.int m),some (.int x),some (.str t),o7,o8]) (_:Nm t) (_:n'<=n+k) (_:Feed H' d l ns n') (_:H' a=some (.lst (ts.map V.str))) (_:H' wd=some (.lst (words13.map V.str))) (_:But d H H'):Mid d l a wd ns n k ts H way m x σ' H'
theorem Zco {f fD fS:Addr}{fd dD dS:FuncData}(F:Fun K "_law_name" "_law_name" Ze8 f fd)(U:Helpers K mg fD fS dD dS):FnOk P w K mg base CX0 2 f fd ["_law_feed_here","_law_taken"] spLawName:=by
 have GD:FnOk P w K mg base CX0 1 fD dD ["_law_feed_here","_law_many"] spDraw:=Z41 U.D U.T
 have GS:FnOk P w K mg base CX0 1 fS dS ["_law_number","_law_long"] spSpelled:=Zcm U.S U.T
 refine F.ok scLName (fun vs H Q E h => ?_) (fun cdv A outer s H vs Q E hr h => ?_)
 ·obtain⟨d,l,a,ns,n,ts,rfl,_⟩:=h
  rfl
 ·obtain⟨d,l,a,ns,n,ts,rfl,F0,hn,A0,hts,hall,k⟩:=h
  have hu0:=hr.units0
  have hsz:sizeLine=16777216:=sizeLine_eq
  have hr1:Room 1 _:=hr.mono (by decide)
  refine'⟨?tt,?body,?fin⟩
  case body =>
   refine' Z03 ?s1 (Z03 ?s2 (Z03 ?s3 (Z03 ?s4 (Z03 ?s5 (Z03 ?s6 (Z0u ?s7 (Z0u ?s9 (Z0u ?s10 (Z03 ?s11 (Z07 ?s12))))))))))
   case s1=>exact Z0c (i:=2) scLName.nd rfl (Or.inl rfl) (Z3x (vs:=words8.map V.str) (by decide +kernel))
   case s2=>exact Z0c (i:=2) scLName.nd rfl (Or.inl rfl) (Z0n Zay (pv 2) (Z3x (vs:=words5.map V.str) (by decide +kernel)))
   case s3=>exact Z0c (i:=3) scLName.nd rfl (Or.inl rfl) (Z06 GD hr1 (by rfl) U.mD U.D.kp U.bD .nil Z0g (Z0h (pv 0) (Z1r Z04 Z01)))
   case s4=>exact Z0c (i:=4) scLName.nd rfl (Or.inl rfl) (Z0n Z25 Z04 (Z06 GD hr1 (by rfl) U.mD U.D.kp U.bD .nil Z0g (Z0h (pv 0) (Z1r Z04 Z01))))
   case s5=>exact Z0c (i:=5) scLName.nd rfl (Or.inl rfl) (Z0n Z25 (Z0n Z4c (Z06 GD hr1 (by rfl) U.mD U.D.kp U.bD .nil Z0g (Z0h (pv 0) (Z1r Z04 Z01))) Z04) (Z06 GD hr1 (by rfl) U.mD U.D.kp U.bD .nil Z0g (Z0h (pv 0) (Z1r Z04 Z01))))
   case s6=>exact Z0c (i:=6) scLName.nd rfl (Or.inl rfl) (Z06 GS hr1 (by rfl) U.mS U.S.kp U.bS .nil Z0g (Z0h (pv 5) (Z0h (pv 4) Z01)))
   case s7 =>
    refine' Z17 (Z0f Z1l (pv 3) Z04 (Z0j _)) (Z07 ?b) Z0k
    case b =>
     refine' Z0c (i:=6) scLName.nd rfl (Or.inl rfl) (Z0n Z3a ?l ?r)
     case l=>exact Z0y Z11 (pv 2) (Z06 GD hr1 (by rfl) U.mD U.D.kp U.bD .nil Z0g (Z0h (pv 0) (Z1r Z04 Z01))) (fun _ _=>rfl)
     case r=>exact Z0y Z8w (pv 6) Z04 (fun _ _=>rfl)
   case s9 =>
    refine' Z17 ?c (Z07 ?b) Z0k
    case c=>exact(Z3u (Z0f Z1l (pv 3) Z04 (Z0j _)) (Z34 (Z0f (Z5b hu0) (pv 1) (Z1p Z01) (Z0j _)))).pt
    case b =>
     refine' Z0c (i:=6) scLName.nd rfl (Or.inl rfl) (Z2f Zdv (Z0n Z3a (Z0y Z11 ?x ?y (fun _ _=>rfl)) ?z) Z35 (Z2u ?u))
     case x=>exact pv 1
     case y=>exact(Z06 GD hr1 (by rfl) U.mD U.D.kp U.bD .nil Z0g (Z0h (pv 0) (Z2s (Z0d Z0b (by rfl) U.T.len PySem.boot_len (Z0h (pv 1) Z01)) Z01)))
     case z=>exact pv 6
     case u=>exact Z0n Z25 Z04 (Z0n Z39 (pv 5) Z04)
   case s10 =>
    refine' Z17 ?c (Z03 ?b1 (Z03 ?b2 (Z07 ?b3))) Z0k
    case c=>exact(Z3u (Z0f Z1l (pv 3) Z04 (Z0j _)) (Z34 (Z0f (Z5b hu0) (pv 1) (Z1p Z01) (Z0j _)))).pt
    case b1 =>
     refine' Z0c (i:=7) scLName.nd rfl (Or.inl rfl) (Z0y Z11 ?x ?y (fun _ _=>rfl))
     case x=>exact pv 1
     case y=>exact(Z06 GD hr1 (by rfl) U.mD U.D.kp U.bD .nil Z0g (Z0h (pv 0) (Z2s (Z0d Z0b (by rfl) U.T.len PySem.boot_len (Z0h (pv 1) Z01)) Z01)))
    case b2=>exact Z0c (i:=8) scLName.nd rfl (Or.inl rfl) (Z0n Z39 (pv 5) (Z0d Z8y (by rfl) U.T.len PySem.boot_len (Z0h (pv 7) Z01)))
    case b3 =>
     refine' Z0c (i:=6) scLName.nd rfl (Or.inl rfl) (Z0n Z3a (Z0n Z3a ?x ?y) ?z)
     case x=>exact Z2f Zdv (pv 7) Z35 (Z2u (pv 8))
     case y=>exact Z0y Z8w (pv 6) Z04 (fun _ _=>rfl)
     case z=>exact Z2f Zdv (pv 7) (Z2u (Z0n Z25 (pv 8) Z04)) Z35
   case s11 =>
    refine' Z5u PassesOwn.never ?c (Z03 ?b1 (Z03 ?b2 (Z07 ?b3)))
    case c=>exact(Zc3 (Z0f Z3b (pv 6) (pv 1) (by with_unfolding_all rfl)) (Z8n (Z0f Z3b (pv 6) (pv 2) (by with_unfolding_all rfl)))).pt
    case b1=>exact Z0c (i:=5) scLName.nd rfl (Or.inl rfl) (Z0n Z25 (pv 5) Z04)
    case b2=>exact Z0c (i:=4) scLName.nd rfl (Or.inl rfl) (Z0n Z25 (Z0n Z39 (pv 4) Z04) Z04)
    case b3=>exact Z0c (i:=6) scLName.nd rfl (Or.inl rfl) (Z06 GS hr1 (by rfl) U.mS U.S.kp U.bS .nil Z0g (Z0h (pv 5) (Z0h (pv 4) Z01)))
   case s12=>exact Z0l (pv 6)
  case fin =>
   refine⟨Z6o (by decide +kernel),fun p hp => ?_⟩
   refine⟨_,rfl,Z6o (by decide +kernel),fun q hq=>⟨p,q,words8.map V.str,words5.map V.str,rfl,rfl,Z02 hq _ _ Z00,Z00,(by decide +kernel),fun wd hwd => ?_⟩⟩
   have s1:=((Z02 (o := .lst (words8.map V.str)) hp).trans (Z02 (o := .lst (words5.map V.str)) hq)).trans (Z02 (o := .lst (words8.map V.str++words5.map V.str)) hwd)
   have W1:upd (upd (upd H p (.lst (words8.map V.str))) q (.lst (words5.map V.str))) wd (.lst (words8.map V.str++words5.map V.str)) wd=some (.lst (words13.map V.str)):=by
    rw[Z00,words13,List.map_append]
   have F1:=F0.same s1
   have A1:=s1 _ _ A0
   have B1:But d H _:=But.of s1
   generalize upd (upd (upd H p (.lst (words8.map V.str))) q (.lst (words5.map V.str))) wd (.lst (words8.map V.str++words5.map V.str))=H1 at W1 F1 A1 B1 ⊢
   refine⟨_,rfl,d,l,ns,n,_,rfl,F1,by omega,by decide,by decide,fun way n2 H2 _ _ hn2 F2 B2 => ?_⟩
   obtain⟨z1,hd1⟩:=F1.dc
   have A2:=B2.lst hd1 A1
   have W2:=B2.lst hd1 W1
   have B2':=B1.trans B2
   refine⟨_,rfl,d,l,ns,n2,_,rfl,F2,by omega,by decide,by decide,fun lg n3 H3 lg0 lg1 hn3 F3 B3 => ?_⟩
   obtain⟨z2,hd2⟩:=F2.dc
   have A3:=B3.lst hd2 A2
   have W3:=B3.lst hd2 W2
   have B3':=B2'.trans B3
   refine⟨_,_,rfl,rfl,?_⟩
   refine⟨_,rfl,d,l,ns,n3,_,rfl,F3,by omega,by decide,by decide,fun r4 n4 H4 r40 r41 hn4 F4 B4 => ?_⟩
   obtain⟨z3,hd3⟩:=F3.dc
   have A4:=B4.lst hd3 A3
   have W4:=B4.lst hd3 W3
   have B4':=B3'.trans B4
   refine⟨_,_,rfl,rfl,.inr ⟨by decide,by decide⟩,?_⟩
   refine⟨_,rfl,d,l,ns,n4,_,rfl,F4,by omega,by decide,by decide,fun r5 n5 H5 r50 r51 hn5 F5 B5 => ?_⟩
   obtain⟨z4,hd4⟩:=F4.dc
   have A5:=B5.lst hd4 A4
   have W5:=B5.lst hd4 W4
   have B5':=B4'.trans B5
   refine⟨_,_,rfl,rfl,?_⟩
   have hx0:0<=r4*456976+r5:=by omega
   refine⟨_,rfl,_,rfl,r4*456976+r5,1+lg,rfl,by omega,by omega,fun t5 ht5 => ?_⟩
   obtain⟨⟨hl5,hw5⟩,hf5⟩:=ht5
   have hm0:1<=1+lg:=by omega
   have hm1:1+lg<=8:=by omega
   refine⟨Mid d l a wd ns n 5 ts H way (1+lg) (r4*456976+r5),?_,?_⟩
   ·refine⟨_,rfl,rfl,_,rfl,Z22 (fun _ => ?_) (fun _ => ?_)⟩
    ·refine⟨_,rfl,_,rfl,d,l,ns,n5,_,rfl,F5,by omega,by decide,by decide,fun r6 n6 H6 r60 r61 hn6 F6 B6 => ?_⟩
     obtain⟨z5,hd5⟩:=F5.dc
     have A6:=B6.lst hd5 A5
     have W6:=B6.lst hd5 W5
     obtain⟨v6,hv6,hat6⟩:=Z3w (xs:=words13.map V.str) (i:=r6) r60 (Int.lt_of_lt_of_le r61 (by decide +kernel))
     obtain⟨t6,ht6,rfl⟩:=List.mem_map.mp hv6
     have h6:=Zcn t6 ht6
     obtain⟨c6,hc6⟩:=Zbj (t:=t5) (by omega)
     refine⟨wd,words13.map V.str,r6,.str t6,rfl,rfl,SqL.of W6,hat6,?_⟩
     refine⟨_,rfl,t5,0,c6,rfl,rfl,Z5i (by omega),hc6,?_⟩
     refine⟨t6,⟨#[c6]⟩,rfl,rfl,(by show t6.length+1<=sizeLine;omega),?_⟩
     exact⟨_,n6,none,none,rfl,⟨⟨by rw[Z5h];show 1<=t6.length+1;omega,by rw[Z5h];show t6.length+1<=8;omega⟩,Z6p h6.2 (Zaf (Zhp hw5 hc6))⟩,by omega,F6,A6,W6,B5'.trans B6⟩
    ·exact⟨t5,n5,none,none,rfl,⟨⟨by omega,by omega⟩,hw5⟩,by omega,F5,A5,W5,B5'⟩
   generalize r4*456976+r5=x at hx0 ⊢
   generalize 1+lg=m at hm0 hm1 ⊢
   rintro σ7 H7 ⟨t7,n7,o77,o78,rfl,ht7,hn7,F7,A7,W7,B7⟩
   obtain⟨z7,hd7⟩:=F7.dc
   refine⟨Mid d l a wd ns n 7 ts H way m x,?_,?_⟩
   ·refine⟨_,rfl,rfl,_,rfl,Z22 (fun _ => ?_) (fun _=>Z4l ⟨t7,n7,o77,o78,rfl,ht7,by omega,F7,A7,W7,B7⟩)⟩
    refine⟨_,rfl,Nat.zero_le _,fun e he=>⟨a,e,ts.map V.str,[],rfl,rfl,SqL.of (Z02 he _ _ A7),SqL.of Z00,Z4v ts,rfl,_,rfl,?_⟩⟩
    have se:=Z02 (o := .lst []) he
    have F7':=F7.same se
    have A7':=se _ _ A7
    have W7':=se _ _ W7
    have B7':=B7.trans (But.of (d:=d) se)
    obtain⟨z7',hd7'⟩:=F7'.dc
    generalize upd H7 e (.lst [])=H7e at F7' A7' W7' B7' hd7' ⊢
    refine Z22 (fun hne => ?_) (fun _=>⟨t7,n7,o77,o78,rfl,ht7,by omega,F7',A7',W7',B7'⟩)
    have hpos:0<(ts.map V.str).length:=by
     cases ts with
     | nil=>exact absurd hne (by decide)
     | cons _ _=>exact Nat.succ_pos _
    have hfew:(ts.map V.str).length<=40:=by rw[List.length_map];exact hts
    refine⟨_,rfl,_,rfl,_,rfl,a,ts.map V.str,rfl,.inl (SqL.of A7'),d,l,ns,n7,_,rfl,F7',by omega,(by show(0:Int)<((ts.map V.str).length:Int);omega),(by show((ts.map V.str).length:Int)<18446744073709551616;omega),fun r8 n8 H8 r80 r81 hn8 F8 B8 => ?_⟩
    have A8:=B8.lst hd7' A7'
    have W8:=B8.lst hd7' W7'
    obtain⟨v8,hv8,hat8⟩:=Z3w (xs:=ts.map V.str) (i:=r8) r80 r81
    obtain⟨t8,ht8,rfl⟩:=List.mem_map.mp hv8
    have h8:=hall t8 ht8
    refine⟨a,ts.map V.str,r8,.str t8,rfl,rfl,SqL.of A8,hat8,?_⟩
    refine⟨_,rfl,t8,t7,rfl,rfl,(by omega),?_⟩
    have hlen:(t8++t7).length=t8.length+t7.length:=Z5h _ _
    refine⟨_,rfl,_,_,rfl,rfl,(by show(0:Int)<8;decide),_,_,rfl,rfl,_,rfl,_,rfl,Z5i (by omega),?_⟩
    have hj:1<=1+x % 8:=by omega
    have hj2:1+x % 8<=8:=by omega
    have q1:=Zij (x:=t8++t7) (j:=1+x % 8) (by omega) hj
    have q2:=Zho (x:=t8++t7) (j:=1+x % 8) (by omega)
    exact⟨_,n8,o77,o78,rfl,⟨⟨q1,by omega⟩,Z6q (Z6p h8.2 ht7.2)⟩,by omega,F8,A8,W8,B7'.trans B8⟩
   rintro σ8 H8 ⟨t8,n8,o87,o88,rfl,ht8,hn8,F8,A8,W8,B8⟩
   obtain⟨z8,hd8⟩:=F8.dc
   refine⟨Mid d l a wd ns n 8 ts H way m x,?_,?_⟩
   ·refine⟨_,rfl,rfl,_,rfl,Z22 (fun _ => ?_) (fun _=>Z4l ⟨t8,n8,o87,o88,rfl,ht8,by omega,F8,A8,W8,B8⟩)⟩
    refine⟨_,rfl,Nat.zero_le _,fun e he=>⟨a,e,ts.map V.str,[],rfl,rfl,SqL.of (Z02 he _ _ A8),SqL.of Z00,Z4v ts,rfl,_,rfl,?_⟩⟩
    have se:=Z02 (o := .lst []) he
    have F8':=F8.same se
    have A8':=se _ _ A8
    have W8':=se _ _ W8
    have B8':=B8.trans (But.of (d:=d) se)
    obtain⟨z8',hd8'⟩:=F8'.dc
    generalize upd H8 e (.lst [])=H8e at F8' A8' W8' B8' hd8' ⊢
    refine Z22 (fun hne => ?_) (fun _=>⟨t8,n8,o87,o88,rfl,ht8,by omega,F8',A8',W8',B8'⟩)
    have hpos:0<(ts.map V.str).length:=by
     cases ts with
     | nil=>exact absurd hne (by decide)
     | cons _ _=>exact Nat.succ_pos _
    have hfew:(ts.map V.str).length<=40:=by rw[List.length_map];exact hts
    refine⟨_,rfl,_,rfl,_,rfl,a,ts.map V.str,rfl,.inl (SqL.of A8'),d,l,ns,n8,_,rfl,F8',by omega,(by show(0:Int)<((ts.map V.str).length:Int);omega),(by show((ts.map V.str).length:Int)<18446744073709551616;omega),fun r9 n9 H9 r90 r91 hn9 F9 B9 => ?_⟩
    have A9:=B9.lst hd8' A8'
    have W9:=B9.lst hd8' W8'
    obtain⟨v9,hv9,hat9⟩:=Z3w (xs:=ts.map V.str) (i:=r9) r90 r91
    obtain⟨t9,ht9,rfl⟩:=List.mem_map.mp hv9
    have h9:=hall t9 ht9
    refine⟨a,ts.map V.str,r9,.str t9,rfl,rfl,SqL.of A9,hat9,?_⟩
    refine⟨_,rfl,_,rfl,t9,rfl,Z5i (by omega),_,_,rfl,rfl,(by show(0:Int)<(t9.length:Int);omega),?_⟩
    have at0:0<=x % (t9.length:Int):=Int.emod_nonneg _ (by omega)
    have at1:x % (t9.length:Int)<t9.length:=Int.emod_lt_of_pos _ (by omega)
    obtain⟨c9,hc9⟩:=Zbj (t:=t8) ht8.1.1
    have q1:=Zho (x:=t9) (j:=x % (t9.length:Int)) at0
    have q2:=Zfy (x:=t9) (i:=x % (t9.length:Int)+1) (by omega) (by omega)
    refine⟨_,rfl,_,rfl,_,rfl,t9,rfl,Z5i (by omega),_,rfl,t8,0,c9,rfl,rfl,Z5i (by omega),hc9,_,⟨#[c9]⟩,rfl,rfl,(by show _+1<=sizeLine;omega),?_⟩
    have hlen:(Txt.slice t9 none (some (x % (t9.length:Int)))++(⟨#[c9]⟩:Str)).length=(Txt.slice t9 none (some (x % (t9.length:Int)))).length+1:=Z5h _ _
    refine⟨_,rfl,_,rfl,_,_,rfl,rfl,_,rfl,t9,rfl,Z5i (by omega),_,_,rfl,rfl,(by omega),?_⟩
    exact⟨_,n9,_,_,rfl,⟨⟨by rw[Z5h];omega,by rw[Z5h];omega⟩,Z6p (Z6p (Z6q h9.2) (Zaf (Zhp ht8.2 hc9))) (Z6q h9.2)⟩,by omega,F9,A9,W9,B8'.trans B9⟩
   rintro σ9 H9 ⟨t9,n9,o97,o98,rfl,ht9,hn9,F9,A9,W9,B9⟩
   have hex:(ts++words13).length<=53:=by
    rw[List.length_append]
    have:words13.length=13:=by decide +kernel
    omega
   refine Zfo (fun σ H'=>∃(i:Nat) (R:List Str) (t:Str),σ = [some (.ref d),some (.ref a),some (.ref wd),some (.int way),some (.int (mi m i)),some (.int (x+i)),some (.str t),o97,o98]/\Nm t/\Left x m (ts++words13) R i/\(0<i->Z5r x m t i)/\H'=H9)
    (fun(σ:St) (_:Hp)=>match σ[5]? with | some (some (V.int z))=>(x+100-z).toNat | _=>0) ⟨0,_,t9,?_,ht9,Left.zero hex,fun z=>absurd z (Nat.lt_irrefl _),rfl⟩ ?_ ?_
   ·have e1:mi m 0=m:=by unfold mi;omega
    have e2:x+((0:Nat):Int)=x:=by omega
    rw[e1,e2]
   ·rintro σ H' ⟨i,R,t,rfl,ht,hL,hK,rfl⟩
    have hi:i<=54:=by have:=hL.few;omega
    have e1:mi m i % 8+1=mi m (i+1):=by unfold mi;omega
    have e2:x+(i:Int)+1=x+((i+1:Nat):Int):=by omega
    have e3:1<=mi m (i+1)/\mi m (i+1)<=8:=by unfold mi;omega
    have body:t∈ts++words13->∀t':Str,Zei t' (x+((i+1:Nat):Int)) (mi m (i+1)) →
      ∃R',Nm t'/\Left x m (ts++words13) R' (i+1)/\(0<i+1->Z5r x m t' (i+1)):=by
     intro hin t' ht'
     have hk:Z5r x m t' (i+1):=⟨ht'.1.1,ht'.2 (by omega)⟩
     have hl:=ht'.1.1
     by_cases hz:i=0
     ·subst hz
      exact⟨_,⟨⟨by omega,by omega⟩,ht'.1.2⟩,Left.one (R:=R) hex,fun _=>hk⟩
     ·exact⟨_,⟨⟨by omega,by omega⟩,ht'.1.2⟩,hL.next hin (hK (by omega)),fun _=>hk⟩
    refine⟨_,rfl,_,rfl,a,ts.map V.str,rfl,.inl (SqL.of A9),rfl,Z4v ts,_,rfl,Z22 (fun g=>Z71 ?_) (fun g => ?_)⟩
    ·refine⟨_,rfl,_,_,rfl,rfl,_,rfl,_,_,rfl,rfl,(by show(0:Int)<8;decide),_,_,rfl,rfl,_,rfl,_,rfl,_,_,rfl,(by rw[e1];omega),(by rw[e1];omega),fun t' ht' => ?_⟩
     rw[e1,e2] at ht'
     obtain⟨R',q1,q2,q3⟩:=body (List.mem_append.mpr (.inl ((Z61 t ts).mp g))) t' ht'
     refine⟨⟨i+1,R',t',?_,q1,q2,q3,rfl⟩,?_⟩
     ·show[some (.ref d),some (.ref a),some (.ref wd),some (.int way),some (.int (mi m i % 8+1)),some (.int (x+i+1)),some (.str t'),o97,o98]=_
      rw[e1,e2]
     ·show(x+100-(x+i+1)).toNat<(x+100-(x+i)).toNat
      omega
    ·refine⟨_,rfl,_,rfl,wd,words13.map V.str,rfl,.inl (SqL.of W9),rfl,Z4v words13,_,rfl,Z22 (fun g2 => ?_) (fun g2 => ?_)⟩
     ·refine⟨_,rfl,_,_,rfl,rfl,_,rfl,_,_,rfl,rfl,(by show(0:Int)<8;decide),_,_,rfl,rfl,_,rfl,_,rfl,_,_,rfl,(by rw[e1];omega),(by rw[e1];omega),fun t' ht' => ?_⟩
      rw[e1,e2] at ht'
      obtain⟨R',q1,q2,q3⟩:=body (List.mem_append.mpr (.inr ((Z61 t words13).mp g2))) t' ht'
      refine⟨⟨i+1,R',t',?_,q1,q2,q3,rfl⟩,?_⟩
      ·show[some (.ref d),some (.ref a),some (.ref wd),some (.int way),some (.int (mi m i % 8+1)),some (.int (x+i+1)),some (.str t'),o97,o98]=_
       rw[e1,e2]
      ·show(x+100-(x+i+1)).toNat<(x+100-(x+i)).toNat
       omega
     ·exact⟨_,rfl,k t n9 _ ht (fun z=>g ((Z61 t ts).mpr z)) (fun z=>g2 ((Z61 t words13).mpr z)) hn9 F9 B9⟩
   ·rintro σ H' Q1 Q2 hq ⟨v,f1,w1,f2,p,xs,f3,f4,f5,f6,c,f7,q⟩
    refine⟨v,f1,w1,f2,p,xs,f3,f4,f5,f6,c,f7,?_⟩
    cases c with
    | true=>exact Z71 (hq _ _ (by simpa using q))
    | false =>
     refine Z4l ?_
     simp only [Bool.false_eq_true,if_false] at q
     obtain⟨v,f1,w1,f2,p,xs,f3,f4,f5,f6,c,f7,q⟩:=q
     exact⟨v,f1,w1,f2,p,xs,f3,f4,f5,f6,c,f7,hq _ _ q⟩
end
inductive spNames (vs:List V)(H:Hp)(Q:VK)(E_3:XK):Prop
 | mk (d l:Addr) (ns:List Int) (n:Nat) (m:Int) (_:vs = [.ref d,.int m]) (_:Feed H d l ns n) (_:n<=800000000000) (_:0<=m) (_:m<=40) (_:∀(nm:Addr) (ts:List Str) n' H',H nm=none->H' nm=some (.lst (ts.map V.str))->(ts.length:Int)=m->(∀t∈ts,Nm t)->n'<=n+8*m.toNat->Feed H' d l ns n'->But d H H'->Q (.ref nm) H'):spNames vs H Q E_3
section
variable {P:Program}{w:World}{K:PySem.W.Frag}{mg:Str->Option Value}{base:Heap}
theorem scNames:FnScope ["_law_feed_here","_law_many","_law_names_here","_law_k"] ["_law_feed_here","_law_many"] (Z05 Z9b):=⟨rfl,rfl,rfl,by decide +kernel,rfl,by decide +kernel,by decide +kernel⟩
theorem Zgk {f fN fD fS:Addr}{fd dN dD dS:FuncData}(F:Fun K "_law_names" "_law_names" Z9b f fd)(U:Helpers K mg fD fS dD dS)
  (FN:Fun K "_law_name" "_law_name" Ze8 fN dN) (bN:Binds K dN ["_law_feed_here","_law_taken"] []) (mN:mg "_law_name"=some (.ref fN)):FnOk P w K mg base CX0 3 f fd ["_law_feed_here","_law_many"] spNames:=by
 have GN:FnOk P w K mg base CX0 2 fN dN ["_law_feed_here","_law_taken"] spLawName:=Zco FN U
 refine F.ok scNames (fun vs H Q E h => ?_) (fun cdv A outer s H vs Q E hr h => ?_)
 ·obtain⟨d,l,ns,n,m,rfl,_⟩:=h
  rfl
 ·obtain⟨d,l,ns,n,m,rfl,F0,hn,hm0,hm1,k⟩:=h
  have hsz:sizeLine=16777216:=sizeLine_eq
  refine⟨_,Z03 (Z0c (i:=2) scNames.nd rfl (Or.inl rfl) (Z1p Z01)) <|
   Z03 (Z4b PassesOwn.never rfl (Z1o (by rfl) U.T.range (Z0h (pv 1) Z01)) (Z0m (i:=3) scNames.nd rfl (Or.inl rfl))
    (Z07 (Z2k (Z59 PySem.F.plainAttrs_list PySem.F.slot_list_append PySem.F.type_list_append Z26 (pv 2) (Z2s (Z06 GN hr (by rfl) mN FN.kp bN .nil Z0g (Z0h (pv 0) (Z0h (pv 2) Z01))) Z01))))) <|
   Z07 (Z0l (pv 2)),?_⟩
  refine⟨Nat.zero_le _,fun nm hnm => ?_⟩
  refine⟨_,rfl,m,rfl,by omega,by omega,Z2t (n:=m.toNat) (fun i σ H'=>∃(ts:List Str) (n':Nat) (o:Option V),σ = [some (.ref d),some (.int m),some (.ref nm),o]/\ts.length=i/\(∀t∈ts,Nm t)/\n'<=n+8*i/\Feed H' d l ns n'/\H' nm=some (.lst (ts.map V.str))/\But d H H')
   ⟨[],n,none,rfl,rfl,(fun t ht=>absurd ht List.not_mem_nil),Nat.le_refl _,F0.same (Z02 hnm),Z00,But.of (Z02 hnm)⟩ ?_ ?_⟩
  ·rintro i σ H' hi ⟨ts,n',o,rfl,hl,hall,hn',F',L',B'⟩
   refine⟨_,rfl,.inl ⟨rfl,_,SqL.of L'⟩,_,rfl,_,rfl,d,l,nm,ns,n',ts,rfl,F',by omega,L',by omega,hall,fun t n2 H2 ht _ _ hn2 F2 B2 => ?_⟩
   obtain⟨z,hd⟩:=F'.dc
   have L2:=B2.lst hd L'
   refine⟨nm,_,_,rfl,rfl,L2,(by rw[List.length_map];omega),?_⟩
   have hne:nm≠d:=(Z1b L2 (F2.dc.choose_spec) (by intro q;cases q))
   have hne2:nm≠l:=fun e=>by
    have h0:H l=some _:=F0.ls
    rw[<- e,hnm] at h0
    cases h0
   refine⟨ts ++ [t],n2,_,rfl,by rw[List.length_append,hl];rfl,?_,by omega,?_,?_,?_⟩
   ·intro u hu
    rcases List.mem_append.mp hu with z | z
    ·exact hall u z
    ·rw[List.mem_singleton.mp z];exact ht
   ·obtain⟨⟨z2,hd2⟩,hls,hz⟩:=F2
    exact⟨⟨z2,by rw[Z08 (Ne.symm hne)];exact hd2⟩,by rw[Z08 (Ne.symm hne2)];exact hls,hz⟩
   ·rw[Z00,List.map_append];rfl
   ·intro b u e hb
    rw[Z08 (Z0a e hnm)]
    exact B2 b u (B' b u e hb) hb
  ·rintro σ H' ⟨ts,n',o,rfl,hl,hall,hn',F',L',B'⟩
   exact⟨_,rfl,k nm ts n' H' hnm L' (by omega) hall hn' F' B'⟩
end
theorem But.kp {d l:Addr}{ns:List Int}{n:Nat}{H H':Hp}(b:But d H H')(F:Feed H d l ns n):Kp H H':=by
 obtain⟨⟨z,hd⟩,_,_⟩:=F
 intro a o h hk
 exact b a o h (fun q=>by subst q;rw[hd] at h;cases h;exact hk _ rfl)
theorem Feed.lst {d l a:Addr}{ns:List Int}{n:Nat}{H H':Hp}{xs:List V}(F:Feed H d l ns n)(b:But d H H')(h:H a=some (.lst xs)):H' a=some (.lst xs):=by
 obtain⟨⟨z,hd⟩,_,_⟩:=F
 exact b.lst hd h
inductive spValue (vs:List V)(H:Hp)(Q:VK)(E_3:XK):Prop
 | mk (d l:Addr) (ns:List Int) (n:Nat) (_:vs = [.ref d]) (_:Feed H d l ns n) (_:n<=900000000000) (_:∀(i:Int) n' H',0<=i->i<=1000000000->n'<=n+3->Feed H' d l ns n'->But d H H'->Q (.int i) H'):spValue vs H Q E_3
inductive spLawParts (vs:List V)(H:Hp)(Q:VK)(E_3:XK):Prop
 | mk (v:V) (w0:Str) (ts:List Th) (_:vs = [v]) (_:IsTh H v (.tup (.at (.str w0)::ts))) (_:ts.length<=1000000) (_:∀(p:Addr) (ws:List V) H',Same H H'->H p=none->H' p=some (.lst ws)->IsThs H' ws (Z1f ts)->Q (.ref p) H'):spLawParts vs H Q E_3
inductive spWith (vs:List V)(H:Hp)(Q:VK)(E_3:XK):Prop
 | mk (v:V) (la:Addr) (ts ks:List Th) (ws:List V) (_:vs = [v,.ref la]) (_:IsTh H v (.tup ts)) (_:ts.length<=1000) (_:H la=some (.lst ws)) (_:IsThs H ws ks) (_:ks.length<=1000) (_:∀(p:Addr) H',Same H H'->IsTh H' (.ref p) (.tup (Z2x ts++ks))->Q (.ref p) H'):spWith vs H Q E_3
inductive spNodes (N:Nat)(vs:List V)(H:Hp)(Q:VK)(E_3:XK):Prop
 | mk (v:V) (t:Th) (_:vs = [v]) (_:IsTh H v t) (_:PfT N t) (_:∀H',Same H H'->Q (.int (cnt t:Nat)) H'):spNodes N vs H Q E_3
theorem Z3m {hd:List V}{ks:List Th}(h:∀k∈ks,L2.isTup k=true):Z1f (hd.map Th.at++ks)=ks:=by
 unfold Z1f
 rw[List.filter_append,Z83,List.nil_append,Z5z h]
theorem Z1k {w:Str}{hd:List V}{ks:List Th}(h:∀k∈ks,L2.isTup k=true):cnt (nd w hd ks)=1+Z14 ks:=by
 unfold nd
 rw[cnt,Z99,Z2d h]
theorem Z6r:∀(a:List Th) (x:Th),Z14 (a ++ [x])=Z14 a+cnt x:=by
 intro a
 induction a with
 | nil=>intro x;simp [Z14]
 | cons y a ih=>intro x;rw[List.cons_append,Z14,Z14,ih];omega
section
variable {P:Program}{w:World}{K:PySem.W.Frag}{mg:Str->Option Value}{base:Heap}
theorem scLawValue:FnScope ["_law_feed_here","_law_way"] ["_law_feed_here"] (Z05 Z3y):=⟨rfl,rfl,rfl,by decide +kernel,rfl,by decide +kernel,by decide +kernel⟩
theorem Zgl {f fD fS:Addr}{fd dD dS:FuncData}(F:Fun K "_law_value" "_law_value" Z3y f fd)(U:Helpers K mg fD fS dD dS):FnOk P w K mg base CX0 2 f fd ["_law_feed_here"] spValue:=by
 have GD:FnOk P w K mg base CX0 1 fD dD ["_law_feed_here","_law_many"] spDraw:=Z41 U.D U.T
 refine F.ok scLawValue (fun vs H Q E h => ?_) (fun cdv A outer s H vs Q E hr h => ?_)
 ·obtain⟨d,l,ns,n,rfl,_⟩:=h
  rfl
 ·obtain⟨d,l,ns,n,rfl,F0,hn,k⟩:=h
  have hr1:Room 1 _:=hr.mono (by decide)
  refine'⟨?tt,?body,?fin⟩
  case body =>
   refine' Z03 ?s1 (Z03 ?s2 (Z03 ?s3 (Z07 ?s4)))
   case s1=>exact Z0c (i:=1) scLawValue.nd rfl (Or.inl rfl) (Z06 GD hr1 (by rfl) U.mD U.D.kp U.bD .nil Z0g (Z0h (pv 0) (Z1r Z04 Z01)))
   case s2=>exact Z17 (Z0f Z1l (pv 1) Z04 (Z0j _)) (Z07 (Z0l (Z0n Z2o Z04 (Z06 GD hr1 (by rfl) U.mD U.D.kp U.bD .nil Z0g (Z0h (pv 0) (Z1r Z04 Z01)))))) Z0k
   case s3=>exact Z17 (Z0f Z1l (pv 1) Z04 (Z0j _)) (Z07 (Z0l (Z0n Z25 (Z0n Z4c (Z06 GD hr1 (by rfl) U.mD U.D.kp U.bD .nil Z0g (Z0h (pv 0) (Z1r Z04 Z01))) Z04) (Z06 GD hr1 (by rfl) U.mD U.D.kp U.bD .nil Z0g (Z0h (pv 0) (Z1r Z04 Z01)))))) Z0k
   case s4=>exact Z0l (Z06 GD hr1 (by rfl) U.mD U.D.kp U.bD .nil Z0g (Z0h (pv 0) (Z09 (Z0n Z2o (Z0n Z4c Z04 (pv 1)) Z04) Z01)))
  case fin =>
   refine⟨_,rfl,d,l,ns,n,_,rfl,F0,by omega,by decide,by decide,fun way n1 H1 w0 w1 hn1 F1 b1 => ?_⟩
   refine⟨_,rfl,rfl,_,rfl,Z22 (fun g => ?_) (fun g => ?_)⟩
   ·refine⟨_,rfl,d,l,ns,n1,_,rfl,F1,by omega,by decide,by decide,fun i n2 H2 i0 i1 hn2 F2 b2=>⟨_,_,rfl,rfl,?_⟩⟩
    exact k _ n2 H2 (by omega) (by omega) (by omega) F2 (b1.trans b2)
   ·refine⟨_,rfl,rfl,_,rfl,Z22 (fun g2 => ?_) (fun g2 => ?_)⟩
    ·refine⟨_,rfl,d,l,ns,n1,_,rfl,F1,by omega,by decide,by decide,fun i n2 H2 i0 i1 hn2 F2 b2=>⟨_,_,rfl,rfl,.inr ⟨by decide,by decide⟩,?_⟩⟩
     refine⟨_,rfl,d,l,ns,n2,_,rfl,F2,by omega,by decide,by decide,fun j n3 H3 j0 j1 hn3 F3 b3=>⟨_,_,rfl,rfl,?_⟩⟩
     exact k _ n3 H3 (by omega) (by omega) (by omega) F3 ((b1.trans b2).trans b3)
    ·have g':way≠0:=fun z=>g (by rw[z];decide)
     have g2':way≠1:=fun z=>g2 (by rw[z];decide)
     refine⟨_,rfl,_,rfl,_,_,rfl,rfl,.inl ⟨by decide,by decide⟩,_,_,rfl,rfl,d,l,ns,n1,3*way-3,rfl,F1,by omega,by omega,by omega,fun i n2 H2 i0 i1 hn2 F2 b2 => ?_⟩
     exact k i n2 H2 i0 (by omega) (by omega) F2 (b1.trans b2)
theorem Zcp:FnScope ["_law_e"] ["_law_e"] (Z05 Z2i):=⟨rfl,rfl,rfl,by decide +kernel,rfl,by decide +kernel,by decide +kernel⟩
theorem Z1w {f:Addr}{fd:FuncData}(F:Fun K "_law_parts" "_law_parts" Z2i f fd)(T:TxtT mg)(KI:Kits K):FnOk P w K mg base CX0 1 f fd ["_law_e"] spLawParts:=by
 refine F.ok Zcp (fun vs H Q E h => ?_) (fun cdv A outer s H vs Q E hr h => ?_)
 ·obtain⟨v,w0,ts,rfl,_⟩:=h
  rfl
 ·obtain⟨v,w0,ts,rfl,hv,hz,k⟩:=h
  refine⟨_,Z07 (Z0l (Z1a (N' := ["_law_part"]) (src := [none]) rfl (Z0i (Z05 Z2i) rfl ["_law_e"] rfl (by decide +kernel)) (Z4j (Z2f Za1 (pv 0) (Z2u Z04) Z35))
   (fun cl C ex s0 H0=>⟨Z0m (i:=0) (nd1 _) rfl (Or.inl rfl),Z6a (Z3p (Z0d (id:="isinstance") (Z31 (K:=K) rfl) (by rfl) T.isi (by decide +kernel) (Z0h (pv 0) (Z0h (Z2b (v := .ty "tuple") (by rfl) T.tup (by decide +kernel) rfl) Z01)))),pv 0⟩))),?_⟩
  obtain⟨a,vs,rfl,a1,a2⟩:=Z1i hv
  cases a2 with
  | @cons x xs _ _ c1 c2 =>
   refine⟨_,rfl,_,rfl,a,x::xs,rfl,a1,fun p H1 s1 hp => ?_⟩
   rw[Zms] at hp
   have hl:=IsThs.len _ c2
   refine⟨p,rfl,⟨_,SqT.of hp⟩,Z2q (K:=K) (a:=p) (xs:=xs) (fun i ys σc H'=>∃o,σc = [o]/\IsThs H ys ((ts.take i).filter isTup)/\ys.length<=i/\H'=H1) ⟨none,rfl,by rw[List.take_zero];exact .nil,Nat.le_refl _,rfl⟩ (fun i ys σc H' ⟨_,_,_,_,e⟩=>by rw[e];exact SqT.of hp) ?_ ?_⟩
   ·rintro i x ys σc H' hx hi ⟨o,rfl,hys,hyl,rfl⟩
    obtain⟨t,ht,h1⟩:=Z0q _ c2 hx
    have hnext:(ts.take (i+1)).filter isTup=(ts.take i).filter isTup++(if isTup t=true then [t] else []):=Z45 _ ht
    refine⟨by have:sizeLine=16777216:=sizeLine_eq;omega,?_⟩
    refine⟨_,rfl,_,_,_,_,rfl,Z4m (IsTh.kp (Kp.of s1) h1),KI.tup h1,_,rfl,Z22 (fun g => ?_) (fun g => ?_)⟩
    ·refine⟨_,rfl,nx hi ⟨_,rfl,?_,by rw[List.length_append];show ys.length+1<=i+1;omega,rfl⟩⟩
     rw[hnext,if_pos g]
     exact IsThs.app _ hys (.cons h1 .nil)
    ·refine nx hi ⟨_,rfl,?_,by omega,rfl⟩
     rw[hnext,if_neg g,List.append_nil]
     exact hys
   ·rintro ys σc H' ⟨o,rfl,hys,hyl,rfl⟩ q hq
    rw[List.take_of_length_le (by omega)] at hys
    have sA:=s1.trans (Z02 (o := .lst ys) hq)
    exact k q ys _ sA (Z1v s1 hq) Z00 (IsThs.kp (Kp.of sA) hys)
theorem Zkz:FnScope ["_law_e","_law_inner"] ["_law_e","_law_inner"] (Z05 Zci):=⟨rfl,rfl,rfl,by decide +kernel,rfl,by decide +kernel,by decide +kernel⟩
theorem Z5j {f:Addr}{fd:FuncData}(F:Fun K "_law_with" "_law_with" Zci f fd)(T:TxtT mg)(KI:Kits K):FnOk P w K mg base CX0 1 f fd ["_law_e","_law_inner"] spWith:=by
 refine F.ok Zkz (fun vs H Q E h => ?_) (fun cdv A outer s H vs Q E hr h => ?_)
 ·obtain⟨v,la,ts,ks,ws,rfl,_⟩:=h
  rfl
 ·obtain⟨v,la,ts,ks,ws,rfl,hv,hz,hla,hws,hkz,k⟩:=h
  have hsz:sizeLine=16777216:=sizeLine_eq
  refine'⟨?tt,?body,?fin⟩
  case body =>
   refine' Z07 ?s1
   case s1 =>
    refine' Z0l ?r
    case r =>
     refine' Z10 Z0s (by rfl) T.tup (by decide +kernel) ?a
     case a =>
      refine' Z09 ?c Z01
      case c =>
       refine' Z0n Zay ?x (pv 1)
       case x =>
        refine' Z1a (N' := ["_law_part"]) (src := [none]) ?k1 ?k5 ?k6 ?k7
        case k1=>rfl
        case k5=>exact Z0i (Z05 Zci) rfl ["_law_e","_law_inner"] rfl (by decide +kernel)
        case k6=>exact Z4j (pv 0)
        case k7=>exact fun cl C ex s0 H0=>⟨Z0m (i:=0) (nd1 _) rfl (Or.inl rfl),Z6a (Z76 (Z3p (Z0d (id:="isinstance") (Z31 (K:=K) rfl) (by rfl) T.isi (by decide +kernel) (Z0h (pv 0) (Z0h (Z2b (v := .ty "tuple") (by rfl) T.tup (by decide +kernel) rfl) Z01))))),pv 0⟩
  case fin =>
   obtain⟨a,xs,rfl,ha,hts⟩:=Z1i hv
   have hl:=IsThs.len _ hts
   refine⟨_,rfl,a,rfl,⟨_,SqT.of ha⟩,Z2q (K:=K) (a:=a) (xs:=xs) (fun i ys σc H'=>∃o,σc = [o]/\IsThs H ys ((ts.take i).filter Z2p)/\ys.length<=i/\H'=H) ⟨none,rfl,by rw[List.take_zero];exact .nil,Nat.le_refl _,rfl⟩ (fun i ys σc H' ⟨_,_,_,_,e⟩=>by rw[e];exact SqT.of ha) ?_ ?_⟩
   ·rintro i x ys σc H' hx hi ⟨o,rfl,hys,hyl,rfl⟩
    obtain⟨t,ht,h1⟩:=Z0q _ hts hx
    have hnext:(ts.take (i+1)).filter Z2p=(ts.take i).filter Z2p++(if Z2p t=true then [t] else []):=Z45 _ ht
    refine⟨by omega,?_⟩
    refine⟨_,rfl,_,_,_,_,rfl,Z4m h1,KI.tup h1,_,rfl,Z22 (fun g => ?_) (fun g => ?_)⟩
    ·refine⟨_,rfl,nx hi ⟨_,rfl,?_,by rw[List.length_append];show ys.length+1<=i+1;omega,rfl⟩⟩
     rw[hnext,if_pos (show Z2p t=true from g)]
     exact IsThs.app _ hys (.cons h1 .nil)
    ·refine nx hi ⟨_,rfl,?_,by omega,rfl⟩
     rw[hnext,if_neg (show ¬Z2p t=true from g),List.append_nil]
     exact hys
   ·rintro ys σc H' ⟨o,rfl,hys,hyl,rfl⟩ l hl'
    rw[List.take_of_length_le (by omega)] at hys
    have s1:=Z02 (o := .lst ys) hl'
    have hwl:=IsThs.len _ hws
    refine⟨_,rfl,l,la,ys,ws,rfl,rfl,Z00,s1 _ _ hla,by omega,fun l2 hl2 => ?_⟩
    have s2:=Z02 (o := .lst (ys++ws)) hl2
    refine⟨l2,_,rfl,.inl ⟨SqL.of Z00,fun p hp => ?_⟩⟩
    have s3:=Z02 (o := .tup (ys++ws)) hp
    have sA:=(s1.trans s2).trans s3
    exact k p _ sA (.tup Z00 (IsThs.app _ (IsThs.kp (Kp.of sA) hys) (IsThs.kp (Kp.of sA) hws)))
theorem Zek:FnScope ["_law_e"] ["_law_e"] (Z05 Z6h):=⟨rfl,rfl,rfl,by decide +kernel,rfl,by decide +kernel,by decide +kernel⟩
theorem Zgm {f fP:Addr}{fd dP:FuncData}(F:Fun K "_law_nodes" "_law_nodes" Z6h f fd)(b:Binds K fd ["_law_e"] [])(m:mg "_law_nodes"=some (.ref f))(T:TxtT mg)(KI:Kits K)(hsum:mg "sum"=none)
  (FP:Fun K "_law_parts" "_law_parts" Z2i fP dP) (bP:Binds K dP ["_law_e"] []) (mP:mg "_law_parts"=some (.ref fP)):∀N,FnOk P w K mg base CX0 (N+2) f fd ["_law_e"] (spNodes N):=by
 have GP:FnOk P w K mg base CX0 1 fP dP ["_law_e"] spLawParts:=Z1w FP T KI
 intro N
 induction N with
 | zero =>
  refine F.ok Zek (fun vs H Q E h => ?_) (fun cdv A outer s H vs Q E hr h => ?_)
  ·obtain⟨v,t,rfl,_⟩:=h
   rfl
  ·obtain⟨v,t,rfl,_,h,_⟩:=h
   exact h.elim
 | succ N ih =>
  refine F.ok Zek (fun vs H Q E h => ?_) (fun cdv A outer s H vs Q E hr h => ?_)
  ·obtain⟨v,t,rfl,_⟩:=h
   rfl
  ·obtain⟨v,t,rfl,hv,hD,k⟩:=h
   have hsz:sizeLine=16777216:=sizeLine_eq
   have hr1:Room 1 _:=hr.mono (by omega)
   refine⟨_,Z07 (Z0l (Z0n Z25 Z04 (Z0d (Zg2 rfl) (by rfl) hsum (by decide +kernel) (Z09 (Z1a (N' := ["_law_part"]) (src := [none]) rfl (Z0i (Z05 Z6h) rfl ["_law_e"] rfl (by decide +kernel)) (Z2l (Z06 GP hr1 (by rfl) mP FP.kp bP .nil Z0g (Z0h (pv 0) Z01)))
    (fun cl C ex s0 H0=>⟨Z0m (i:=0) (nd1 _) rfl (Or.inl rfl),Z1d,Z06 ih hr (by rfl) m F.kp b .nil Z0g (Z0h (pv 0) Z01)⟩)) Z01)))),?_⟩
   obtain⟨w0,hd,ks,rfl,h1,h2,h3,h4,h5,h6⟩:=hD
   have nk:∀k∈ks,L2.isTup k=true:=fun k hk=>(h6 k hk).isTup
   refine⟨_,rfl,v,w0,hd.map Th.at++ks,rfl,hv,by rw[List.length_append,List.length_map];omega,fun p ws H1 s1 hp0 hp hws => ?_⟩
   rw[Z3m nk] at hws
   have hl:=IsThs.len _ hws
   refine⟨p,rfl,⟨_,SqL.of hp⟩,Z1q (K:=K) (a:=p) (xs:=ws) (fun i ys σc H'=>∃(o:Option V) (ms:List Int),σc = [o]/\ys=ms.map V.int/\ms.length=i/\ms.sum=(Z14 (ks.take i):Nat)/\Same H1 H')
    ⟨none,[],rfl,rfl,rfl,by rw[List.take_zero];rfl,Same.refl _⟩ (fun i ys σc H' ⟨_,_,_,_,_,_,e⟩=>SqL.of (e _ _ hp)) ?_ ?_⟩
   ·rintro i x ys σc H' hx hi ⟨o,ms,rfl,rfl,hm,hsm,s2⟩
    obtain⟨t,ht,hxt⟩:=Z0q _ hws hx
    refine⟨by rw[List.length_map];omega,?_⟩
    refine⟨_,rfl,x,t,rfl,IsTh.kp (Kp.of s2) hxt,h6 t (List.mem_of_getElem? ht),fun H2 s3=>nx hi ⟨_,ms ++ [((cnt t:Nat):Int)],rfl,by rw[List.map_append];rfl,by rw[List.length_append,hm];rfl,?_,s2.trans s3⟩⟩
    rw[List.take_add_one,ht,List.sum_append,hsm]
    show _=((Z14 (ks.take i ++ [t]):Nat):Int)
    rw[Z6r]
    simp
   ·rintro ys σc H' ⟨o,ms,rfl,rfl,hm,hsm,s2⟩ q hq
    rw[List.take_of_length_le (by omega)] at hsm
    refine⟨q,ms,rfl,SqL.of Z00,_,_,rfl,rfl,?_⟩
    have kk:=k _ (s1.trans (s2.trans (Z02 (o := .lst (ms.map V.int)) hq)))
    rw[Z1k nk] at kk
    rw[hsm]
    simpa using kk
end
structure HW (K:PySem.W.Frag)(mg:Str->Option Value)(fP fW:Addr)(dP dW:FuncData):Prop where
 T:TxtT mg
 KI:Kits K
 P:Fun K "_law_parts" "_law_parts" Z2i fP dP
 bP:Binds K dP ["_law_e"] []
 mP:mg "_law_parts"=some (.ref fP)
 W:Fun K "_law_with" "_law_with" Zci fW dW
 bW:Binds K dW ["_law_e","_law_inner"] []
 mW:mg "_law_with"=some (.ref fW)
def sg (ts:List Th)(i:Nat):Th:=ts.getD i (.tup [])
inductive spFill (N:Nat)(vs:List V)(H:Hp)(Q:VK)(E_3:XK):Prop
 | mk (v:V) (fa:Addr) (p:Th) (ws:List V) (ts:List Th) (_:vs = [v,.ref fa]) (_:IsTh H v p) (_:PfT N p) (_:(H fa=some (.tup ws)∨H fa=some (.lst ws))) (_:IsThs H ws ts) (_:(∀i∈hs p,i<ts.length)) (_:∀(v':V) H',Same H H'->IsTh H' v' (fl (sg ts) p)->Q v' H'):spFill N vs H Q E_3
theorem Zmx:(["_law_fillings","_law_part"]:List Str).Nodup:=by decide +kernel
theorem Z86 {w:Str}{hd:List V}{ks ks':List Th}(h:∀k∈ks,L2.isTup k=true):Th.tup (Z2x (.at (.str w)::(hd.map Th.at++ks))++ks')=nd w hd ks':=by
 rw[Z2y h]
 rfl
section
variable {P:Program}{w:World}{K:PySem.W.Frag}{mg:Str->Option Value}{base:Heap}
theorem Zhq:FnScope ["_law_b","_law_fillings"] ["_law_b","_law_fillings"] (Z05 Zcl):=⟨rfl,rfl,rfl,by decide +kernel,rfl,by decide +kernel,by decide +kernel⟩
theorem Zj1 {f fP fW:Addr}{fd dP dW:FuncData}(F:Fun K "_law_fill" "_law_fill" Zcl f fd)(b:Binds K fd ["_law_b","_law_fillings"] [])(m:mg "_law_fill"=some (.ref f))(U:HW K mg fP fW dP dW):∀N,FnOk P w K mg base CX0 (N+2) f fd ["_law_b","_law_fillings"] (spFill N):=by
 have GP:FnOk P w K mg base CX0 1 fP dP ["_law_e"] spLawParts:=Z1w U.P U.T U.KI
 have GW:FnOk P w K mg base CX0 1 fW dW ["_law_e","_law_inner"] spWith:=Z5j U.W U.T U.KI
 intro N
 induction N with
 | zero =>
  refine F.ok Zhq (fun vs H Q E h => ?_) (fun cdv A outer s H vs Q E hr h => ?_)
  ·obtain⟨v,fa,p,ws,ts,rfl,_⟩:=h
   rfl
  ·obtain⟨v,fa,p,ws,ts,rfl,_,h,_⟩:=h
   exact h.elim
 | succ N ih =>
  refine F.ok Zhq (fun vs H Q E h => ?_) (fun cdv A outer s H vs Q E hr h => ?_)
  ·obtain⟨v,fa,p,ws,ts,rfl,_⟩:=h
   rfl
  ·obtain⟨v,fa,p,ws,ts,rfl,hv,hD,hfa,hws,hin,k⟩:=h
   have hsz:sizeLine=16777216:=sizeLine_eq
   have hr1:Room 1 _:=hr.mono (by omega)
   refine'⟨?tt,?body,?fin⟩
   case body =>
    refine' Z03 ?s1 (Z07 ?s2)
    case s1 =>
     refine' Z17 ?c (Z07 ?b) Z0k
     case c=>exact Z0f Z1l (Z0y Z1z (pv 0) Z04 (fun _ _=>rfl)) Z0e (Z0j _)
     case b=>exact Z0l (Z0y (IxR.or Z1z Z11) (pv 1) (Z0y Z1z (pv 0) Z04 (fun _ _=>rfl)) (fun _ _=>rfl))
    case s2 =>
     refine' Z0l ?r
     case r =>
      refine' Z06 GW hr1 (by rfl) U.mW U.W.kp U.bW .nil Z0g ?a
      case a =>
       refine' Z0h (pv 0) ?a2
       case a2 =>
        refine' Z09 ?c Z01
        case c =>
         refine' Z1a (N' := ["_law_fillings","_law_part"]) (src := [some 1,none]) ?k1 ?k5 ?k6 ?k7
         case k1=>rfl
         case k5=>exact Z0i (Z05 Zcl) rfl ["_law_b","_law_fillings"] rfl (by decide +kernel)
         case k6=>exact Z2l (Z06 GP hr1 (by rfl) U.mP U.P.kp U.bP .nil Z0g (Z0h (pv 0) Z01))
         case k7=>exact fun cl C ex s0 H0=>⟨Z0m (i:=1) Zmx rfl (Or.inl rfl),Z1d,Z06 ih hr (by rfl) m F.kp b .nil Z0g (Z0h (pv 1) (Z0h (pv 0) Z01))⟩
   case fin =>
    obtain⟨w0,hd,ks,rfl,h1,h2,h3,h4,h5,h6⟩:=hD
    have nk:∀k∈ks,L2.isTup k=true:=fun k hk=>(h6 k hk).isTup
    obtain⟨an,vns,rfl,han,hvns⟩:=Z1i hv
    cases hvns with
    | @cons vh vr _ _ c1 c2 =>
     obtain⟨rfl,_⟩:=Z4a c1
     refine⟨_,rfl,an,_,0,.str w0,rfl,rfl,SqT.of han,Z1g _ _,rfl,_,rfl,Z22 (fun g2 => ?_) (fun g2 => ?_)⟩
     ·have hw0:w0="hole":=by
       have g':=of_decide_eq_true g2
       injection g'
      subst hw0
      obtain⟨i,rfl,rfl⟩:=h4 rfl
      cases c2 with
      | @cons vi vr2 _ _ c3 c4 =>
       cases c4
       obtain⟨rfl,_⟩:=Z4a c3
       have hi:i<ts.length:=hin i (by rw[Z1x];exact List.mem_singleton.mpr rfl)
       have hti:ts[i]? = some ts[i]:=List.getElem?_eq_getElem hi
       obtain⟨vx,hvx,hxt⟩:=Ze0 _ hws hti
       have hres:IsTh H vx (fl (sg ts) (nd "hole" [.int (i:Nat)] [])):=by
        rw[Z1m]
        unfold sg
        rw[show ts.getD i (.tup [])=ts[i] by simp [List.getD,hti]]
        exact hxt
       refine⟨_,rfl,_,rfl,an,_,1,.int (i:Nat),rfl,rfl,SqT.of han,Z5g _ _ _,?_⟩
       rcases hfa with z | z
       ·exact .inl ⟨fa,ws,(i:Nat),vx,rfl,rfl,SqT.of z,Z2c hvx,k vx H (Same.refl _) hres⟩
       ·exact .inr ⟨fa,ws,(i:Nat),vx,rfl,rfl,SqL.of z,Z2c hvx,k vx H (Same.refl _) hres⟩
     ·have hw0:w0≠"hole":=fun z=>g2 (by rw[z];decide +kernel)
      refine⟨_,rfl,_,rfl,.ref an,w0,hd.map Th.at++ks,rfl,hv,by rw[List.length_append,List.length_map];omega,fun p ps H1 s1 hp0 hp hps => ?_⟩
      rw[Z3m nk] at hps
      have hl:=IsThs.len _ hps
      refine⟨p,rfl,⟨_,SqL.of hp⟩,Z1q (K:=K) (a:=p) (xs:=ps) (fun i ys σc H'=>∃(o:Option V),σc = [some (.ref fa),o]/\ys.length=i/\IsThs H' ys ((ks.take i).map (fl (sg ts)))/\Same H1 H')
       ⟨none,rfl,rfl,by rw[List.take_zero];exact .nil,Same.refl _⟩ (fun i ys σc H' ⟨_,_,_,_,e⟩=>SqL.of (e _ _ hp)) ?_ ?_⟩
      ·rintro i x ys σc H' hx hi ⟨o,rfl,hyl,hys,s2⟩
       obtain⟨t,ht,hxt⟩:=Z0q _ hps hx
       have htk:=List.mem_of_getElem? ht
       have s12:=s1.trans s2
       refine⟨by omega,?_⟩
       refine⟨_,rfl,_,rfl,x,fa,t,ws,ts,rfl,IsTh.kp (Kp.of s2) hxt,h6 t htk,hfa.imp (fun z=>s12 _ _ z) (fun z=>s12 _ _ z),IsThs.kp (Kp.of s12) hws,fun j hj=>hin j ((Z3t hw0).mpr ⟨t,htk,hj⟩),fun v' H2 s3 hv'=>nx hi ⟨_,rfl,by rw[List.length_append,hyl];rfl,?_,s2.trans s3⟩⟩
       rw[List.take_add_one,ht,List.map_append]
       exact IsThs.app _ (IsThs.kp (Kp.of s3) hys) (.cons hv' .nil)
      ·rintro ys σc H' ⟨o,rfl,hyl,hys,s2⟩ q hq
       rw[List.take_of_length_le (by omega)] at hys
       have sq:=Z02 (o := .lst ys) hq
       have sA:=(s1.trans s2).trans sq
       refine⟨.ref an,q,_,ks.map (fl (sg ts)),ys,rfl,IsTh.kp (Kp.of sA) hv,by rw[List.length_cons,List.length_append,List.length_map];omega,Z00,IsThs.kp (Kp.of sq) hys,by rw[List.length_map];omega,fun r H3 s3 hr3 => ?_⟩
       rw[Z86 nk] at hr3
       refine k _ _ (sA.trans s3) ?_
       rw[Z3f hw0]
       exact hr3
end
structure KS (K:PySem.W.Frag):Prop where
 is:PySem.W.kitOne K (.type "int") (.type "str")=some false
 ss:PySem.W.kitOne K (.type "str") (.type "str")=some true
structure TxtA (mg:Str->Option Value):Prop where
 str:mg "str"=none
 all:mg "all"=none
 any:mg "any"=none
 range:mg "range"=none
inductive spSame (N:Nat)(vs:List V)(H:Hp)(Q:VK)(E_3:XK):Prop
 | mk (v v':V) (t:Th) (_:vs = [v,v']) (_:IsTh H v t) (_:IsTh H v' t) (_:plT t=true) (_:dp t<N) (_:Th.sz t<=1000000) (_:∀H',Same H H'->Q (.bl true) H'):spSame N vs H Q E_3
theorem Zl0:(["_law_due","_law_found","_law_k"]:List Str).Nodup:=by decide +kernel
theorem Zgn:∀{ts:List Th} {t:Th},Z24 ts=true->t∈ts->plT t=true:=by
 intro ts
 induction ts with
 | nil=>intro t _ h;cases h
 | cons x ts ih =>
  intro t p h
  rw[Z24,Bool.and_eq_true] at p
  rcases List.mem_cons.mp h with rfl | h
  ·exact p.1
  ·exact ih p.2 h
theorem Zj2:∀{ts:List Th} {t:Th},t∈ts->dp t<=dps ts:=by
 intro ts
 induction ts with
 | nil=>intro t h;cases h
 | cons x ts ih =>
  intro t h
  rw[dps]
  rcases List.mem_cons.mp h with rfl | h
  ·exact Nat.le_max_left _ _
  ·exact Nat.le_trans (ih h) (Nat.le_max_right _ _)
theorem Zbk {vs:List V}{i:Nat}{x:V}(h:vs[i]? = some x):atI vs (0+(i:Int))=some x:=by
 rw[Int.zero_add]
 exact Z2c h
section
variable {P:Program}{w:World}{K:PySem.W.Frag}{mg:Str->Option Value}{base:Heap}
theorem Zhr:FnScope ["_law_found","_law_due"] ["_law_found","_law_due"] (Z05 Zcj):=⟨rfl,rfl,rfl,by decide +kernel,rfl,by decide +kernel,by decide +kernel⟩
theorem Zj3 {f:Addr}{fd:FuncData}(F:Fun K "_law_same" "_law_same" Zcj f fd)(b:Binds K fd ["_law_found","_law_due"] [])(m:mg "_law_same"=some (.ref f))(T:TxtT mg)(TA:TxtA mg)(KI:Kits K)(KS:KS K):∀N,FnOk P w K mg base CX0 (N+1) f fd ["_law_found","_law_due"] (spSame N):=by
 intro N
 induction N with
 | zero =>
  refine F.ok Zhr (fun vs H Q E h => ?_) (fun cdv A outer s H vs Q E hr h => ?_)
  ·obtain⟨v,v',t,rfl,_⟩:=h
   rfl
  ·obtain⟨v,v',t,rfl,_,_,_,h,_⟩:=h
   exact absurd h (Nat.not_lt_zero _)
 | succ N ih =>
  refine F.ok Zhr (fun vs H Q E h => ?_) (fun cdv A outer s H vs Q E hr h => ?_)
  ·obtain⟨v,v',t,rfl,_⟩:=h
   rfl
  ·obtain⟨v,v',t,rfl,hv,hv',hp,hd,hz,k⟩:=h
   have hsz:sizeLine=16777216:=sizeLine_eq
   refine'⟨?tt,?body,?fin⟩
   case body =>
    refine' Z03 ?s1 (Z03 ?s2 (Z07 ?s3))
    case s1 =>
     refine' Z17 ?c (Z07 ?b1) Z0k
     case c=>exact Z3p (Z0d Z1e (by rfl) T.isi (by decide +kernel) (Z0h (pv 1) (Z0h (Z2b (v := .ty "tuple") (by rfl) T.tup (by decide +kernel) rfl) Z01)))
     case b1 =>
      refine' Z0l ?r
      case r =>
       refine' Z77 ?x (Z77 ?y (Zar ?z))
       case x=>exact Z0d Z1e (by rfl) T.isi (by decide +kernel) (Z0h (pv 0) (Z0h (Z2b (v := .ty "tuple") (by rfl) T.tup (by decide +kernel) rfl) Z01))
       case y=>exact Z3i Z1l (Z0d Z0b (by rfl) T.len PySem.boot_len (Z0h (pv 0) Z01)) (Z0d Z0b (by rfl) T.len PySem.boot_len (Z0h (pv 1) Z01)) (Z0j _)
       case z =>
        refine' Z0d (Z6b rfl) (by rfl) TA.all (by decide +kernel) ?a
        case a =>
         refine' Z09 ?c Z01
         case c =>
          refine' Z1a (N' := ["_law_due","_law_found","_law_k"]) (src := [some 1,some 0,none]) ?k1 ?k5 ?k6 ?k7
          case k1=>rfl
          case k5=>exact Z0i (Z05 Zcj) rfl ["_law_found","_law_due"] rfl (by decide +kernel)
          case k6=>exact Z1o (by rfl) TA.range (Z2s (Z0d Z0b (by rfl) T.len PySem.boot_len (Z0h (pv 1) Z01)) Z01)
          case k7=>exact fun cl C ex s0 H0=>⟨Z0m (i:=2) Zl0 rfl (Or.inl rfl),Z1d,Z06 ih hr (by rfl) m F.kp b .nil Z0g (Z09 (Z0y (Z5c (K:=K) rfl) (pv 1) (pv 2) (fun _ _=>rfl)) (Z09 (Z0y (Z5c (K:=K) rfl) (pv 0) (pv 2) (fun _ _=>rfl)) Z01))⟩
    case s2 =>
     refine' Z17 ?c (Z07 ?b1) Z0k
     case c=>exact Z3p (Z0d Z1e (by rfl) T.isi (by decide +kernel) (Z0h (pv 1) (Z0h (Z2b (v := .ty "str") (by rfl) TA.str (by decide +kernel) rfl) Z01)))
     case b1=>exact Z0l (Z77 (Z0d Z1e (by rfl) T.isi (by decide +kernel) (Z0h (pv 0) (Z0h (Z2b (v := .ty "str") (by rfl) TA.str (by decide +kernel) rfl) Z01))) (Zar (Z3i Z1l (pv 0) (pv 1) (Z0j _))))
    case s3 =>
     refine' Z0l ?r
     case r =>
      refine' Z77 ?x (Z77 ?y (Zar ?z))
      case x=>exact Z3i Z1l (Z0d Z1e (by rfl) T.isi (by decide +kernel) (Z0h (pv 0) (Z0h (Z2b (v := .ty "bool") (by rfl) T.bl (by decide +kernel) rfl) Z01))) (Z0d Z1e (by rfl) T.isi (by decide +kernel) (Z0h (pv 1) (Z0h (Z2b (v := .ty "bool") (by rfl) T.bl (by decide +kernel) rfl) Z01))) (Z0j _)
      case y=>exact Z3i Z1l (Z0d Z1e (by rfl) T.isi (by decide +kernel) (Z0h (pv 0) (Z0h (Z2b (v := .ty "int") (by rfl) T.int (by decide +kernel) rfl) Z01))) (Z0d Z1e (by rfl) T.isi (by decide +kernel) (Z0h (pv 1) (Z0h (Z2b (v := .ty "int") (by rfl) T.int (by decide +kernel) rfl) Z01))) (Z0j _)
      case z=>exact Z3i Z1l (pv 0) (pv 1) (Z0j _)
   case fin =>
    refine⟨_,rfl,_,_,_,_,rfl,Z4m hv',KI.tup hv',_,rfl,Z22 (fun g => ?_) (fun g => ?_)⟩
    ·obtain⟨ts,rfl⟩:∃ts,t = .tup ts:=by
      cases t with
      | tup ts=>exact⟨ts,rfl⟩
      | «at» v => cases g
      | lst v=>cases g
     obtain⟨a,vs,rfl,ha,hvs⟩:=Z1i hv
     obtain⟨a',vs',rfl,ha',hvs'⟩:=Z1i hv'
     have l1:=IsThs.len _ hvs
     have l2:=IsThs.len _ hvs'
     rw[plT] at hp
     rw[dp] at hd
     have zl:=Za4 ts
     have ez:Th.sz (.tup ts)=1+szs ts:=by rw[Th.sz]
     refine⟨_,rfl,_,_,_,_,rfl,Z4m hv,KI.tup hv,_,rfl,Z71 ?_⟩
     refine⟨_,rfl,a,vs,rfl,.inr (SqT.of ha),_,rfl,a',vs',rfl,.inr (SqT.of ha'),rfl,_,rfl,Z22 (fun g2 => ?_) (fun g2=>absurd (by rw[l1,l2];simp) g2)⟩
     refine⟨_,rfl,a',vs',rfl,.inr (SqT.of ha'),_,rfl,by omega,by omega,Z3c (lo:=0) (n:=vs'.length) (fun i ys σc H'=>∃(o:Option V) (bs:List Bool),σc = [some (.ref a'),some (.ref a),o]/\ys=bs.map V.bl/\bs.length=i/\(∀x∈bs,x=true)/\Same H H') ⟨none,[],rfl,rfl,rfl,fun x hx=>(by cases hx),Same.refl _⟩ ?_ ?_⟩
     ·rintro i ys σc H' hi ⟨o,bs,rfl,rfl,hbl,hall,s2⟩
      refine⟨by rw[List.length_map];omega,?_⟩
      have hit:ts[i]? = some (ts[i]'(by omega)):=List.getElem?_eq_getElem (by omega)
      obtain⟨x,hx,hxt⟩:=Ze0 _ hvs hit
      obtain⟨y,hy,hyt⟩:=Ze0 _ hvs' hit
      have hm:ts[i]'(by omega)∈ts:=List.getElem_mem _
      have hd2:=Zj2 hm
      have hz2:=Zb9 ts _ hm
      refine⟨_,rfl,_,rfl,a,vs,0+(i:Int),x,rfl,rfl,SqT.of (s2 _ _ ha),Zbk hx,_,rfl,_,rfl,a',vs',0+(i:Int),y,rfl,rfl,SqT.of (s2 _ _ ha'),Zbk hy,x,y,_,rfl,IsTh.kp (Kp.of s2) hxt,IsTh.kp (Kp.of s2) hyt,Zgn hp hm,by omega,by omega,fun H2 s3 => ?_⟩
      refine nx hi ⟨_,bs ++ [true],rfl,by rw[List.map_append];rfl,by rw[List.length_append,hbl];rfl,fun x hx => ?_,s2.trans s3⟩
      rcases List.mem_append.mp hx with z | z
      ·exact hall x z
      ·exact List.mem_singleton.mp z
     ·rintro ys σc H' ⟨o,bs,rfl,rfl,hbl,hall,s2⟩ q hq
      refine⟨q,bs,rfl,SqL.of Z00,?_⟩
      rw[show bs.all id=true from List.all_eq_true.mpr fun x hx=>hall x hx]
      exact k _ (s2.trans (Z02 hq))
    ·cases t with
     | tup ts=>exact absurd rfl g
     | lst ts=>rw[plT] at hp;cases hp
     | «at» u =>
      obtain⟨rfl,_⟩:=Z4a hv
      obtain⟨rfl,_⟩:=Z4a hv'
      cases v' with
      | int i =>
       refine⟨_,rfl,_,_,_,_,rfl,Z4m hv',KS.is,_,rfl,Z4l ?_⟩
       refine⟨_,rfl,_,_,_,_,rfl,Z4m hv,KI.bl hv,_,rfl,_,_,_,_,rfl,Z4m hv',KI.bl hv',rfl,_,rfl,Z71 ?_⟩
       refine⟨_,rfl,_,_,_,_,rfl,Z4m hv,KI.int hv,_,rfl,_,_,_,_,rfl,Z4m hv',KI.int hv',rfl,_,rfl,Z71 ?_⟩
       refine⟨_,rfl,_,rfl,rfl,?_⟩
       rw[decide_eq_true rfl]
       exact k H (Same.refl _)
      | str x =>
       refine⟨_,rfl,_,_,_,_,rfl,Z4m hv',KS.ss,_,rfl,Z71 ?_⟩
       refine⟨_,rfl,_,_,_,_,rfl,Z4m hv,KS.ss,_,rfl,Z71 ?_⟩
       refine⟨_,rfl,_,rfl,rfl,?_⟩
       rw[decide_eq_true rfl]
       exact k H (Same.refl _)
      | _=>simp [plT] at hp
end
def hol (i:Nat):Th:=nd "hole" [.int (i:Nat)] []
theorem Z9i (i:Nat):PfT 1 (hol i):=⟨"hole",[.int (i:Nat)],[],rfl,Nat.le_refl _,fun v hv=>by rw[List.mem_singleton] at hv;subst hv;rfl,fun z=>absurd z (by decide +kernel),fun _=>⟨i,rfl,rfl⟩,Nat.zero_le _,fun k hk=>by cases hk⟩
theorem Z5n {H:Hp}{p:Addr}{i:Nat}(h:H p=some (.tup [.str "hole",.int (i:Nat)])):IsTh H (.ref p) (hol i) := .tup h (.cons (.at (by decide +kernel)) (.cons (.at rfl) .nil))
theorem Zgo {w:Str}{hd:List V}{ks:List Th}:Th.sz (nd w hd ks)=1+(1+(szs (hd.map Th.at)+szs ks)):=by
 unfold nd
 rw[Th.sz,szs,Zik,Th.sz]
def Z0o (nm:Addr)(r h s:Int)(bg:Addr):List (Key × V) := [(Sum.inr "names",.ref nm),(Sum.inr "room",.int r),(Sum.inr "holes",.int h),(Sum.inr "astray",.int s),(Sum.inr "bag",.ref bg)]
section
variable {H:Hp}{wd nm bg:Addr}{r h s q:Int}
theorem Z3g (e:H wd=some (.dK (Z0o nm r h s bg))):DGet H wd (.str "names") (some (.ref nm)):=by
 have z:=DGet.k (k:=Sum.inr "names") e
 rw[show Z37 (Z0o nm r h s bg) (Sum.inr "names")=some (.ref nm) by with_unfolding_all rfl] at z
 exact z
theorem Z4w (e:H wd=some (.dK (Z0o nm r h s bg))):DGet H wd (.str "room") (some (.int r)):=by
 have z:=DGet.k (k:=Sum.inr "room") e
 rw[show Z37 (Z0o nm r h s bg) (Sum.inr "room")=some (.int r) by with_unfolding_all rfl] at z
 exact z
theorem Z7j (e:H wd=some (.dK (Z0o nm r h s bg))):DGet H wd (.str "holes") (some (.int h)):=by
 have z:=DGet.k (k:=Sum.inr "holes") e
 rw[show Z37 (Z0o nm r h s bg) (Sum.inr "holes")=some (.int h) by with_unfolding_all rfl] at z
 exact z
theorem Z6s (e:H wd=some (.dK (Z0o nm r h s bg))):DGet H wd (.str "astray") (some (.int s)):=by
 have z:=DGet.k (k:=Sum.inr "astray") e
 rw[show Z37 (Z0o nm r h s bg) (Sum.inr "astray")=some (.int s) by with_unfolding_all rfl] at z
 exact z
theorem Z4x (e:H wd=some (.dK (Z0o nm r h s bg))):DGet H wd (.str "bag") (some (.ref bg)):=by
 have z:=DGet.k (k:=Sum.inr "bag") e
 rw[show Z37 (Z0o nm r h s bg) (Sum.inr "bag")=some (.ref bg) by with_unfolding_all rfl] at z
 exact z
theorem Z9j (e:H wd=some (.dK (Z0o nm r h s bg))):DPut H wd (.str "room") (.int q) (upd H wd (.dK (Z0o nm q h s bg))):=by
 have z:=DPut.k (k:=Sum.inr "room") (v := .int q) e (by show 5<sizeLine;decide)
 rw[show Z43 (Z0o nm r h s bg) (Sum.inr "room") (.int q)=Z0o nm q h s bg by with_unfolding_all rfl] at z
 exact z
end
theorem Z4y {H:Hp}{d wd l nm bg:Addr}{ns:List Int}{n:Nat}{r h s:Int}(F:Feed H d l ns n)(W:H wd=some (.dK (Z0o nm r h s bg))):wd≠d:=by
 obtain⟨⟨z,hd⟩,_,_⟩:=F
 refine Z1b W hd (fun q => ?_)
 injection q with q
 have h1:=congrArg List.length q
 cases h1
inductive spWorld (vs:List V)(H:Hp)(Q:VK)(E_3:XK):Prop
 | mk (nm:Addr) (r h s:Int) (_:vs = [.ref nm,.int r,.int h,.int s]) (_:∀(wd bg:Addr) H',Same H H'->H wd=none->H bg=none->H' wd=some (.dK (Z0o nm r h s bg))->H' bg=some (.lst [])->Q (.ref wd) H'):spWorld vs H Q E_3
structure Nms (H:Hp)(nm:Addr)(T:List Str):Prop where
 a:H nm=some (.lst (T.map V.str))
 l1:1<=T.length
 l2:T.length<=40
 nm:∀t∈T,Nm t
def Zel (h:Int)(t:Th):Prop:=PfT 1 t/\cnt t=1/\Th.sz t<=3/\∀i∈hs t,((i:Nat):Int)<h
inductive spLeaf (vs:List V)(H:Hp)(Q:VK)(E_3:XK):Prop
 | mk (d l wd nm bg:Addr) (ns:List Int) (n:Nat) (r h s lt:Int) (T:List Str) (_:vs = [.ref d,.ref wd,.int lt]) (_:Feed H d l ns n) (_:n<=800000000000) (_:H wd=some (.dK (Z0o nm r h s bg))) (_:Nms H nm T) (_:h<=1000) (_:lt+s<=1000) (_:∀(v:V) (t:Th) n' H',IsTh H' v t->Zel h t->n'<=n+5->Feed H' d l ns n'->But d H H'->Q v H'):spLeaf vs H Q E_3
theorem Zmy {w:Str}{h:Int}(h1:w≠"let")(h2:w≠"hole"):Zel h (nd w [] []):=by
 refine⟨⟨w,[],[],rfl,Nat.zero_le _,fun v hv=>(by cases hv),fun z=>absurd z h1,fun z=>absurd z h2,Nat.zero_le _,fun k hk=>(by cases hk)⟩,?_,?_,fun i hi => ?_⟩
 ·rw[Z1k (fun k hk=>by cases hk)];simp [Z14]
 ·rw[Zgo];simp [szs]
 ·obtain⟨k,hk,_⟩:=(Z3t h2).mp hi
  cases hk
theorem Zj4 {w:Str}{v:V}{h:Int}(hv:plT (.at v)=true)(h1:w≠"let")(h2:w≠"hole"):Zel h (nd w [v] []):=by
 refine⟨⟨w,[v],[],rfl,Nat.le_refl _,fun u hu=>(by rw[List.mem_singleton] at hu;rw[hu];exact hv),fun z=>absurd z h1,fun z=>absurd z h2,Nat.zero_le _,fun k hk=>(by cases hk)⟩,?_,?_,fun i hi => ?_⟩
 ·rw[Z1k (fun k hk=>by cases hk)];simp [Z14]
 ·rw[Zgo];simp [szs,Th.sz]
 ·obtain⟨k,hk,_⟩:=(Z3t h2).mp hi
  cases hk
theorem Zmz {i:Nat}{h:Int}(hi:((i:Nat):Int)<h):Zel h (hol i):=by
 refine⟨Z9i i,?_,?_,fun j hj => ?_⟩
 ·unfold hol;rw[Z1k (fun k hk=>by cases hk)];simp [Z14]
 ·unfold hol;rw[Zgo];simp [szs,Th.sz]
 ·unfold hol at hj
  rw[Z1x,List.mem_singleton] at hj
  rw[hj]
  exact hi
section
variable {P:Program}{w:World}{K:PySem.W.Frag}{mg:Str->Option Value}{base:Heap}
theorem Zj5:FnScope ["_law_names_here","_law_room","_law_holes","_law_astray"] ["_law_names_here","_law_room","_law_holes","_law_astray"] (Z05 Z9c):=⟨rfl,rfl,rfl,by decide +kernel,rfl,by decide +kernel,by decide +kernel⟩
theorem Zgp {f:Addr}{fd:FuncData}(F:Fun K "_law_world" "_law_world" Z9c f fd):FnOk P w K mg base CX0 1 f fd ["_law_names_here","_law_room","_law_holes","_law_astray"] spWorld:=by
 refine F.ok Zj5 (fun vs H Q E h => ?_) (fun cdv A outer s H vs Q E hr h => ?_)
 ·obtain⟨nm,r,h,s,rfl,_⟩:=h
  rfl
 ·obtain⟨nm,r,h,s,rfl,k⟩:=h
  refine⟨_,Z07 (Z0l (Zdq (Z30 Z0e (pv 0) (Z30 Z0e (pv 1) (Z30 Z0e (pv 2) (Z30 Z0e (pv 3) (Z30 Z0e (Z1p Z01) Zdp))))) rfl rfl (by intro z;cases z) (by decide))),?_⟩
  intro wd hwd
  have sw:=Z02 (o := .dK []) hwd
  refine⟨_,rfl,_,rfl,_,rfl,_,rfl,Nat.zero_le _,fun bg hbg => ?_⟩
  have hbn:bg≠wd:=fun z=>by rw[z,Z00] at hbg;cases hbg
  have sb:=Z02 (o := .lst []) hbg
  refine⟨sb _ _ Z00,Z0o nm r h s bg,rfl,by show 5<=15;decide,?_⟩
  have em:Z68 [] (Z0o nm r h s bg)=Z0o nm r h s bg:=by with_unfolding_all rfl
  rw[em]
  refine k wd bg _ (fun b ob e => ?_) hwd (Z1v sw hbg) Z00 ?_
  ·rw[Z08 (Z0a e hwd)]
   exact sb _ _ (sw _ _ e)
  ·rw[Z08 hbn]
   exact Z00
theorem scLeaf:FnScope ["_law_feed_here","_law_world_here","_law_lets","_law_way"] ["_law_feed_here","_law_world_here","_law_lets"] (Z05 Zck):=⟨rfl,rfl,rfl,by decide +kernel,rfl,by decide +kernel,by decide +kernel⟩
theorem Zj6 {f fV fD fS:Addr}{fd dV dD dS:FuncData}(F:Fun K "_law_leaf" "_law_leaf" Zck f fd)(U:Helpers K mg fD fS dD dS)(FV:Fun K "_law_value" "_law_value" Z3y fV dV)(bV:Binds K dV ["_law_feed_here"] [])(mV:mg "_law_value"=some (.ref fV)) :
  FnOk P w K mg base CX0 3 f fd ["_law_feed_here","_law_world_here","_law_lets"] spLeaf:=by
 have GD:FnOk P w K mg base CX0 1 fD dD ["_law_feed_here","_law_many"] spDraw:=Z41 U.D U.T
 have GV:FnOk P w K mg base CX0 2 fV dV ["_law_feed_here"] spValue:=Zgl FV U
 refine F.ok scLeaf (fun vs H Q E h => ?_) (fun cdv A outer s H vs Q E hr h => ?_)
 ·obtain⟨d,l,wd,nm,bg,ns,n,r,h,s,lt,T,rfl,_⟩:=h
  rfl
 ·obtain⟨d,l,wd,nm,bg,ns,n,r,h,sa,lt,T,rfl,F0,hn,W0,N0,hh,hls,k⟩:=h
  have hsz:sizeLine=16777216:=sizeLine_eq
  have hu:(_:Around).units+1<cLine:=Nat.lt_of_le_of_lt (Nat.add_le_add_left (by decide) _) hr.units
  have hr1:Room 1 _:=hr.mono (by decide)
  have hr2:Room 2 _:=hr.mono (by decide)
  refine'⟨?tt,?body,?fin⟩
  case body =>
   refine' Z03 ?s1 ?r1
   case s1=>exact Z0c (i:=3) scLeaf.nd rfl (Or.inl rfl) (Z06 GD hr1 (by rfl) U.mD U.D.kp U.bD .nil Z0g (Z0h (pv 0) (Z1r Z04 Z01)))
   case r1 =>
    refine' Z0u ?s2 ?r2
    case s2 =>
     refine' Z17 ?c (Z07 ?b) Z0k
     case c=>exact(Z3u (Z0f Zia (pv 3) Z04 (Z0j _)) (Z34 (Z0f Zd9 (Z12 hu (pv 1) Z0e (fun _ _=>rfl)) Z04 (Z0j _)))).pt
     case b=>exact Z0l (Z1h (Z1r Z0e (Z2s (Z06 GD hr1 (by rfl) U.mD U.D.kp U.bD .nil Z0g (Z0h (pv 0) (Z09 (Z12 hu (pv 1) Z0e (fun _ _=>rfl)) Z01))) Z01)))
    case r2 =>
     refine' Z0u ?s3 ?r3
     case s3 =>
      refine' Z17 ?c (Z07 ?b) Z0k
      case c=>exact(Z3u (Z0f Z3b (pv 3) (Z1h (Z1r Z04 (Z1r Z04 Z01))) (by with_unfolding_all rfl)) (Z34 (Z0f Zd9 (Z0n Z25 (pv 2) (Z12 hu (pv 1) Z0e (fun _ _=>rfl))) Z04 (Z0j _)))).pt
      case b=>exact Z0l (Z1h (Z1r Z0e (Z2s (Z06 GD hr1 (by rfl) U.mD U.D.kp U.bD .nil Z0g (Z0h (pv 0) (Z09 (Z0n Z25 (pv 2) (Z12 hu (pv 1) Z0e (fun _ _=>rfl))) Z01))) Z01)))
     case r3 =>
      refine' Z03 ?s4 ?r4
      case s4=>exact Z17 (Z0f Z1l (pv 3) Z04 (Z0j _)) (Z07 (Z0l (Z1h (Z1r Z0e Z01)))) Z0k
      case r4 =>
       refine' Z03 ?s5 ?r5
       case s5=>exact Z17 (Z0f Z1l (pv 3) Z04 (Z0j _)) (Z07 (Z0l (Z1h (Z1r Z0e (Z2s (Z06 GV hr2 (by rfl) mV FV.kp bV .nil Z0g (Z0h (pv 0) Z01)) Z01))))) Z0k
       case r5 =>
        refine' Z07 ?s6
        case s6 =>
         refine' Z0l ?r
         case r =>
          refine' Z1h ?a
          case a =>
           refine' Z1r Z0e (Z09 ?x Z01)
           case x=>exact Z0y Z11 (Z12 hu (pv 1) Z0e (fun _ _=>rfl)) (Z06 GD hr1 (by rfl) U.mD U.D.kp U.bD .nil Z0g (Z0h (pv 0) (Z2s (Z0d Z0b (by rfl) U.T.len PySem.boot_len (Z09 (Z12 hu (pv 1) Z0e (fun _ _=>rfl)) Z01)) Z01))) (fun _ _=>rfl)
  case fin =>
   have hne:=Z4y F0 W0
   refine⟨_,rfl,d,l,ns,n,_,rfl,F0,by omega,by decide,by decide,fun way n1 H1 w0 w1 hn1 F1 b1 => ?_⟩
   have W1:=b1 wd _ W0 hne
   have N1:=F0.lst b1 N0.a
   refine⟨fun σ' H'=>σ' = [some (.ref d),some (.ref wd),some (.int lt),some (.int way)]/\H'=H1,?_,?_⟩
   ·refine⟨_,rfl,_,_,rfl,rfl,_,rfl,Z22 (fun g => ?_) (fun g=>Z4l ⟨rfl,rfl⟩)⟩
    refine⟨_,rfl,wd,.int h,rfl,Z7j W1,_,_,rfl,rfl,_,rfl,Z22 (fun g2 => ?_) (fun g2=>⟨rfl,rfl⟩)⟩
    have hpos:0<h:=by simpa using g2
    refine⟨_,rfl,_,rfl,wd,.int h,rfl,Z7j W1,d,l,ns,n1,h,rfl,F1,by omega,hpos,by omega,fun i n2 H2 i0 i1 hn2 F2 b2=>⟨(by show 2<=sizeLine;decide),fun p hp => ?_⟩⟩
    obtain⟨j,rfl⟩:∃j:Nat,i=(j:Nat):=⟨i.toNat,by omega⟩
    exact k (.ref p) (hol j) n2 _ (Z5n Z00) (Zmz i1) (by omega) (F2.same (Z02 hp)) ((b1.trans b2).trans (But.of (Z02 hp)))
   rintro σ2 H2 ⟨rfl,rfl⟩
   refine⟨fun σ' H'=>σ' = [some (.ref d),some (.ref wd),some (.int lt),some (.int way)]/\Same H2 H',?_,?_⟩
   ·refine⟨_,rfl,(by show 2<=sizeLine;decide),fun e he => ?_⟩
    have se:=Z02 (o := .tup [.int 2,.int 3]) he
    have W2:=se _ _ W1
    refine⟨e,[.int 2,.int 3],rfl,.inr (SqT.of Z00),rfl,rfl,_,rfl,Z22 (fun g => ?_) (fun g=>Z4l ⟨rfl,se⟩)⟩
    refine⟨_,rfl,_,rfl,wd,.int sa,rfl,Z6s W2,_,_,rfl,rfl,_,_,rfl,rfl,_,rfl,Z22 (fun g2 => ?_) (fun g2=>⟨rfl,se⟩)⟩
    have hpos:0<lt+sa:=by simpa using g2
    refine⟨_,rfl,_,rfl,_,rfl,wd,.int sa,rfl,Z6s W2,_,_,rfl,rfl,d,l,ns,n1,lt+sa,rfl,F1.same se,by omega,hpos,by omega,fun i n3 H3 i0 i1 hn3 F3 b3=>⟨(by show 2<=sizeLine;decide),fun p hp => ?_⟩⟩
    exact k (.ref p) (nd "own" [.int i] []) n3 _ (.tup Z00 (.cons (.at (by decide +kernel)) (.cons (.at rfl) .nil))) (Zj4 rfl (by decide +kernel) (by decide +kernel)) (by omega) (F3.same (Z02 hp)) (((b1.trans (But.of se)).trans b3).trans (But.of (Z02 hp)))
   rintro σ3 H3 ⟨rfl,s3⟩
   have W3:=s3 _ _ W1
   have N3:=s3 _ _ N1
   have F3:=F1.same s3
   have b3:=b1.trans (But.of (d:=d) s3)
   refine⟨_,rfl,rfl,_,rfl,Z22 (fun _ => ?_) (fun _ => ?_)⟩
   ·refine⟨(by show 1<=sizeLine;decide),fun p hp => ?_⟩
    exact k (.ref p) (nd "take" [] []) n1 _ (.tup Z00 (.cons (.at (by decide +kernel)) .nil)) (Zmy (by decide +kernel) (by decide +kernel)) (by omega) (F3.same (Z02 hp)) (b3.trans (But.of (Z02 hp)))
   ·refine⟨_,rfl,rfl,_,rfl,Z22 (fun _ => ?_) (fun _ => ?_)⟩
    ·refine⟨_,rfl,d,l,ns,n1,rfl,F3,by omega,fun i n4 H4 i0 i1 hn4 F4 b4=>⟨(by show 2<=sizeLine;decide),fun p hp => ?_⟩⟩
     exact k (.ref p) (nd "num" [.int i] []) n4 _ (.tup Z00 (.cons (.at (by decide +kernel)) (.cons (.at rfl) .nil))) (Zj4 rfl (by decide +kernel) (by decide +kernel)) (by omega) (F4.same (Z02 hp)) ((b3.trans b4).trans (But.of (Z02 hp)))
    ·have l1:=N0.l1
     have l2:=N0.l2
     have hl:((T.map V.str).length:Int)=(T.length:Int):=by rw[List.length_map]
     refine⟨_,rfl,wd,.ref nm,rfl,Z3g W3,_,rfl,_,rfl,wd,.ref nm,rfl,Z3g W3,nm,T.map V.str,rfl,.inl (SqL.of N3),d,l,ns,n1,_,rfl,F3,by omega,by show(0:Int)<((T.map V.str).length:Int);omega,by show((T.map V.str).length:Int)<18446744073709551616;omega,fun i n4 H4 i0 i1 hn4 F4 b4 => ?_⟩
     obtain⟨v4,hv4,hat4⟩:=Z3w (xs:=T.map V.str) (i:=i) i0 i1
     obtain⟨t4,ht4,rfl⟩:=List.mem_map.mp hv4
     have hN:=N0.nm t4 ht4
     refine⟨nm,T.map V.str,i,.str t4,rfl,rfl,SqL.of (F3.lst b4 N3),hat4,(by show 2<=sizeLine;decide),fun p hp => ?_⟩
     exact k (.ref p) (nd "name" [.str t4] []) n4 _ (.tup Z00 (.cons (.at (by decide +kernel)) (.cons (.at (decide_eq_true (Nat.le_trans hN.1.2 (by decide)))) .nil))) (Zj4 rfl (by decide +kernel) (by decide +kernel)) (by omega) (F4.same (Z02 hp)) ((b3.trans b4).trans (But.of (Z02 hp)))
end
theorem Zj7 (hd:List V):szs (hd.map Th.at)=hd.length:=by
 induction hd with
 | nil=>simp [szs]
 | cons v hd ih=>rw[List.map_cons,szs,ih,Th.sz,List.length_cons];omega
theorem Zgq {n:Nat}(ih:∀{t:Th},PfT n t->Th.sz t<=3*cnt t):∀{ks:List Th},(∀k∈ks,PfT n k)->szs ks<=3*Z14 ks:=by
 intro ks
 induction ks with
 | nil=>intro _;simp [szs]
 | cons k ks h2 =>
  intro h
  have a:=ih (h k (List.mem_cons_self ..))
  have b:=h2 fun x hx=>h x (List.mem_cons_of_mem _ hx)
  rw[szs,Z14]
  omega
theorem Z6t:∀(n:Nat) {t:Th},PfT n t->Th.sz t<=3*cnt t:=by
 intro n
 induction n with
 | zero=>intro t h;exact h.elim
 | succ n ih =>
  intro t h
  obtain⟨w,hd,ks,rfl,h1,h2,h3,h4,h5,h6⟩:=h
  have a:=Zgq ih h6
  rw[Zgo,Zj7,Z1k fun k hk=>(h6 k hk).isTup]
  omega
theorem Zj8 {σ:Nat->Th}{n:Nat}(ih:∀{t:Th},PfT n t->(∀i∈hs t,cnt (σ i)=1)->cnt (fl σ t)=cnt t):∀{ks:List Th},(∀k∈ks,PfT n k)->(∀k∈ks,∀i∈hs k,cnt (σ i)=1)->Z14 (ks.map (fl σ))=Z14 ks:=by
 intro ks
 induction ks with
 | nil=>intro _ _;rfl
 | cons k ks h2 =>
  intro h e
  rw[List.map_cons,Z14,Z14,ih (h k (List.mem_cons_self ..)) (e k (List.mem_cons_self ..)),h2 (fun x hx=>h x (List.mem_cons_of_mem _ hx)) fun x hx=>e x (List.mem_cons_of_mem _ hx)]
theorem Zl1 {σ:Nat->Th}(hσ:Tps σ):∀(n:Nat) {t:Th},PfT n t->(∀i∈hs t,cnt (σ i)=1)->cnt (fl σ t)=cnt t:=by
 intro n
 induction n with
 | zero=>intro t h;exact h.elim
 | succ n ih =>
  intro t h e
  obtain⟨w,hd,ks,rfl,h1,h2,h3,h4,h5,h6⟩:=h
  by_cases hw:w="hole"
  ·subst hw
   obtain⟨i,rfl,rfl⟩:=h4 rfl
   rw[Z1m,e i (by rw[Z1x];exact List.mem_singleton.mpr rfl),Z1k (fun k hk=>by cases hk)]
   simp [Z14]
  ·rw[Z3f hw,Z1k fun k hk=>(h6 k hk).isTup,Z1k fun k hk => ?_,Zj8 ih h6 fun k hk i hi=>e i ((Z3t hw).mpr ⟨k,hk,hi⟩)]
   obtain⟨y,hy,rfl⟩:=List.mem_map.mp hk
   exact Zef hσ (h6 y hy)
theorem Zbl (i j:Nat):j∈hs (hol i)↔j=i:=by
 unfold hol
 rw[Z1x,List.mem_singleton]
theorem Zl2 {ts:List Th}(h:∀t∈ts,L2.isTup t=true):Tps (sg ts):=fun i=>by
 unfold sg
 rw[List.getD_eq_getElem?_getD]
 cases e:ts[i]? with
 | none=>rfl
 | some t=>exact h t (List.mem_of_getElem? e)
def But2 (d e:Addr)(H H':Hp):Prop:=∀b o,H b=some o->b≠d->b≠e->H' b=some o
theorem But2.refl (d e:Addr)(H:Hp):But2 d e H H:=fun _ _ h _ _=>h
theorem But2.trans {d e:Addr}{H H1 H2:Hp}(a:But2 d e H H1)(b:But2 d e H1 H2):But2 d e H H2:=fun c o h n m=>b c o (a c o h n m) n m
theorem But2.of {d e:Addr}{H H1:Hp}(a:But d H H1):But2 d e H H1:=fun c o h n _=>a c o h n
theorem But2.same {d e:Addr}{H H1:Hp}(a:Same H H1):But2 d e H H1:=fun c o h _ _=>a c o h
theorem But2.upd {d e:Addr}{H:Hp}{o:HO}:But2 d e H (upd H e o):=fun c u h _ n=>by rw[Z08 n];exact h
structure Bag (H:Hp)(bg:Addr)(B:Nat)(ts:List Th):Prop where
 l:∃ws,H bg=some (.lst ws)/\IsThs H ws ts
 few:ts.length<=100
 ok:∀t∈ts,PfT B t/\cnt t<=1000
structure Cf (H H':Hp)(d l wd nm bg:Addr)(ns:List Int)(n:Nat)(r h s:Int)(T:List Str)(B:Nat)(ts:List Th):Prop where
 F:Feed H' d l ns n
 W:H' wd=some (.dK (Z0o nm r h s bg))
 N:Nms H' nm T
 G:Bag H' bg B ts
 b2:But2 d wd H H'
section
variable {H H1 H2:Hp}{d l wd nm bg:Addr}{ns:List Int}{n n2:Nat}{r r2 h s:Int}{T:List Str}{B:Nat}{ts:List Th}
theorem Cf.kp (C:Cf H H1 d l wd nm bg ns n r h s T B ts)(b:But2 d wd H1 H2):Kp H1 H2:=by
 obtain⟨⟨⟨z,hd⟩,_,_⟩,W,_⟩:=C
 intro a o h hk
 exact b a o h (fun q=>by subst q;rw[hd] at h;cases h;exact hk _ rfl) (fun q=>by subst q;rw[W] at h;cases h;exact hk _ rfl)
theorem Nms.kp (N:Nms H1 nm T)(k:Kp H1 H2):Nms H2 nm T:=⟨k _ _ N.a (by intro kvs q;cases q),N.l1,N.l2,N.nm⟩
theorem Bag.kp (G:Bag H1 bg B ts)(k:Kp H1 H2):Bag H2 bg B ts:=by
 obtain⟨⟨ws,a,b⟩,c,d⟩:=G
 exact⟨⟨ws,k _ _ a (by intro kvs q;cases q),IsThs.kp k b⟩,c,d⟩
theorem Cf.go (C:Cf H H1 d l wd nm bg ns n r h s T B ts)(b:But2 d wd H1 H2)(F2:Feed H2 d l ns n2)(W2:H2 wd=some (.dK (Z0o nm r2 h s bg))):Cf H H2 d l wd nm bg ns n2 r2 h s T B ts :=
 ⟨F2,W2,C.N.kp (C.kp b),C.G.kp (C.kp b),C.b2.trans b⟩
theorem Cf.draw (C:Cf H H1 d l wd nm bg ns n r h s T B ts)(b:But d H1 H2)(F2:Feed H2 d l ns n2):Cf H H2 d l wd nm bg ns n2 r h s T B ts:=C.go (But2.of b) F2 (b wd _ C.W (Z4y C.F C.W))
theorem Cf.same (C:Cf H H1 d l wd nm bg ns n r h s T B ts)(e:Same H1 H2):Cf H H2 d l wd nm bg ns n r h s T B ts:=C.go (But2.same e) (C.F.same e) (e _ _ C.W)
theorem Cf.room (C:Cf H H1 d l wd nm bg ns n r h s T B ts):Cf H (upd H1 wd (.dK (Z0o nm r2 h s bg))) d l wd nm bg ns n r2 h s T B ts:=by
 have hne:=Z4y C.F C.W
 refine C.go But2.upd ?_ Z00
 obtain⟨⟨z,hd⟩,hl,hs⟩:=C.F
 refine⟨⟨z,by rw[Z08 hne.symm];exact hd⟩,?_,hs⟩
 rw[Z08 (Z1b hl C.W (by intro q;cases q))]
 exact hl
end
def cD:Nat->Nat
 | 0=>0
 | N+1=>30+6*cD N
def Rm (N:Nat)(r r':Int)(c:Nat):Prop:=(c:Int)+r'<=r/\(r<=1->r-1<=r')/\(2<=r->1-6*(N:Int)<=r')
inductive spForm (B N:Nat)(vs:List V)(H:Hp)(Q:VK)(E_3:XK):Prop
 | mk (d l wd nm bg:Addr) (ns:List Int) (n:Nat) (r h s lt bb:Int) (T:List Str) (ts:List Th) (_:vs = [.ref d,.ref wd,.int lt,.int bb]) (_:Cf H H d l wd nm bg ns n r h s T B ts) (_:n+cD N<=700000000000) (_:h<=1000) (_:0<=lt) (_:0<=s) (_:lt+s+N<=1000) (_:1<=N) (_:bb<=N) (_:N<=10) (_:∀(v:V) (t:Th) n' r' H',IsTh H' v t->PfT (N+B) t->Rm N r r' (cnt t)->((∀u∈ts,hs u = [])->∀i∈hs t,((i:Nat):Int)<h)->n'<=n+cD N->Cf H H' d l wd nm bg ns n' r' h s T B ts->Q v H'):spForm B N vs H Q E_3
def kinds12:List Str := ["op","do","let","call","pick","set","again","say","op","let","leaf","bag"]
theorem Zj9:(["_law_below","_law_feed_here","_law_k","_law_lets","_law_world_here"]:List Str).Nodup:=by decide +kernel
section
variable {P:Program}{w:World}{K:PySem.W.Frag}{mg:Str->Option Value}{base:Heap}
theorem scForm:FnScope ["_law_feed_here","_law_world_here","_law_lets","_law_below","_law_kinds","_law_kind","_law_found","_law_names_here","_law_first","_law_head","_law_many"] ["_law_feed_here","_law_world_here","_law_lets","_law_below"] (Z05 Z9d):=⟨rfl,rfl,rfl,by decide +kernel,rfl,by decide +kernel,by decide +kernel⟩
end
end K20
namespace L2
open PySem PySem.Spec PyProof.Rows
theorem Zem {X:Cx}(hu:X.A.units<cLine):OpR X (compareOp .NotEq) (fun x y H Q=>∃a b xs,x = .ref a/\y = .ref b/\SqL X.K H a xs/\SqL X.K H b []/\Q (.bl (!xs.isEmpty)) H):=by
 intro pins s σ H x y v u Q I rx ry h
 obtain⟨a,b,xs,rfl,rfl,hx,hy,q⟩:=h
 cases rx
 cases ry
 obtain⟨its,r,pl,hz⟩:=I.list hx
 obtain⟨its2,r2,pl2,hz2⟩:=I.list hy
 have hl:=r.length
 have hl2:=r2.length
 cases xs with
 | nil =>
  refine SeqAt.RcNeAt.lists (e:=fun _=>true) pl.isList pl2.isList (by simp only [List.size_toArray];simp at hl hl2;omega) hu (fun j h1 h2 => ?_) X.prog X.w _ _ ?_
  ·simp only [List.size_toArray] at h1
   simp at hl
   omega
  ·refine Z0w I q ?_
   rw[List.size_toArray,<- hl]
   rfl
 | cons z zs =>
  refine SeqAt.RcNeAt.lists_lengths pl.isList pl2.isList (by simp only [List.size_toArray,bne_iff_ne];simp at hl hl2;omega) hu X.prog X.w _ _ ?_
  exact Z0w I q rfl
end L2
namespace K20
open PySem L2
section
variable {P:Program}{w:World}{K:PySem.W.Frag}{mg:Str->Option Value}{base:Heap}
inductive MC (H:Hp)(d l wd nm bg e:Addr)(ns:List Int)(n:Nat)(r h sa lt bb:Int)(T:List Str)(B:Nat)(ts:List Th)(kd:Str)(o6:Option V)(j:Nat)(σ':St)(H':Hp):Prop
 | mk (ha:Addr) (hd:List V) (mn:Int) (n':Nat) (_:σ' = [some (.ref d),some (.ref wd),some (.int lt),some (.int bb),some (.ref e),some (.str kd),o6,some (.ref nm),none,some (.ref ha),some (.int mn)]) (_:H' ha=some (.lst (.str kd::hd))) (_:hd.length<=1) (_:(∀v∈hd,plT (.at v)=true/\smallV v=true)) (_:0<=mn) (_:mn<=6) (_:n'<=n+j) (_:Cf H H' d l wd nm bg ns n' r h sa T B ts):MC H d l wd nm bg e ns n r h sa lt bb T B ts kd o6 j σ' H'
theorem Zja {f fD fS fL fN:Addr}{fd dD dS dL dN:FuncData}(F:Fun K "_law_form" "_law_form" Z9d f fd)(b:Binds K fd ["_law_feed_here","_law_world_here","_law_lets","_law_below"] [])(m:mg "_law_form"=some (.ref f))(U:Helpers K mg fD fS dD dS)(T0:TxtT mg)
  (GL:FnOk P w K mg base CX0 3 fL dL ["_law_feed_here","_law_world_here","_law_lets"] spLeaf) (FL:Fun K "_law_leaf" "_law_leaf" Zck fL dL) (bL:Binds K dL ["_law_feed_here","_law_world_here","_law_lets"] []) (mL:mg "_law_leaf"=some (.ref fL))
  (GN:∀N,FnOk P w K mg base CX0 (N+2) fN dN ["_law_e"] (spNodes N)) (FN:Fun K "_law_nodes" "_law_nodes" Z6h fN dN) (bN:Binds K dN ["_law_e"] []) (mN:mg "_law_nodes"=some (.ref fN)) (B:Nat):∀N,FnOk P w K mg base CX0 (N+B+4) f fd ["_law_feed_here","_law_world_here","_law_lets","_law_below"] (spForm B N):=by
 have GD:FnOk P w K mg base CX0 1 fD dD ["_law_feed_here","_law_many"] spDraw:=Z41 U.D U.T
 intro N
 induction N with
 | zero =>
  refine F.ok scForm (fun vs H Q E h => ?_) (fun cdv A outer s H vs Q E hr h => ?_)
  ·obtain⟨d,l,wd,nm,bg,ns,n,r,h,s,lt,bb,T,ts,rfl,_⟩:=h
   rfl
  ·obtain⟨d,l,wd,nm,bg,ns,n,r,h,s,lt,bb,T,ts,rfl,_,_,_,_,_,_,h1,h2,_⟩:=h
   exact absurd h2 (by omega)
 | succ N ih =>
  refine F.ok scForm (fun vs H Q E h => ?_) (fun cdv A outer s H vs Q E hr h => ?_)
  ·obtain⟨d,l,wd,nm,bg,ns,n,r,h,s,lt,bb,T,ts,rfl,_⟩:=h
   rfl
  ·obtain⟨d,l,wd,nm,bg,ns,n,r,h,sa,lt,bb,T,ts,rfl,C0,hn,hh,hlt0,hs0,hls,hb1,hbN,hN10,k⟩:=h
   have hsz:sizeLine=16777216:=sizeLine_eq
   have hu:(_:Around).units+1<cLine:=Nat.lt_of_le_of_lt (Nat.add_le_add_left (by decide) _) hr.units
   have hu0:=hr.units0
   have hr1:Room 1 _:=hr.mono (by omega)
   have hr3:Room 3 _:=hr.mono (by omega)
   have hrB:Room (B+2) _:=hr.mono (by omega)
   have hrN:Room (N+B+4) _:=hr.mono (by omega)
   refine'⟨?tt,?body,?fin⟩
   case body =>
    refine' Z03 ?s1 ?r1
    case s1=>exact Z4f hu (pv 1) Z0e (Z0n Z2o (Z12 hu (pv 1) Z0e (fun _ _=>rfl)) Z04) rfl
    case r1 =>
     refine' Z03 ?s2 ?r2
     case s2 =>
      refine' Zj0 (i:=4) ?ha ?hb ?hc ?hd ?he ?hf
      case ha=>exact scForm.nd
      case hb=>exact rfl
      case hc=>exact(Or.inl rfl)
      case he=>exact rfl
      case hf=>exact(.inr rfl)
      case hd =>
       refine' @Z3x ((Zhl CX0 P w K mg base ["_law_feed_here","_law_world_here","_law_lets","_law_below","_law_kinds","_law_kind","_law_found","_law_names_here","_law_first","_law_head","_law_many"] "_law_form" (Z05 Z9d) f cdv A outer s H E).nox) _ (kinds12.map V.str) ?q
       case q=>decide +kernel
     case r2 =>
      refine' Z0u ?s3 ?r3
      case s3=>exact Z0c (i:=5) scForm.nd rfl (Or.inl rfl) (Z0y Z11 (pv 4) (Z06 GD hr1 (by rfl) U.mD U.D.kp U.bD .nil Z0g (Z0h (pv 0) (Z1r Z04 Z01))) (fun _ _=>rfl))
      case r3 =>
       refine' Z0u ?s4 ?r4
       case s4 =>
        refine' Z17 ?c (Z03 ?e1 (Z07 ?e2)) Z0k
        case c=>exact(Z3u (Z0f Z1l (pv 5) Z0e (Z0j _)) (Z34 (Z0f (Zem hu0) (Z12 hu (pv 1) Z0e (fun _ _=>rfl)) (Z1p Z01) (Z0j _)))).pt
        case e1=>exact Z0c (i:=6) scForm.nd rfl (Or.inl rfl) (Z0y Z11 (Z12 hu (pv 1) Z0e (fun _ _=>rfl)) (Z06 GD hr1 (by rfl) U.mD U.D.kp U.bD .nil Z0g (Z0h (pv 0) (Z2s (Z0d Z0b (by rfl) U.T.len PySem.boot_len (Z09 (Z12 hu (pv 1) Z0e (fun _ _=>rfl)) Z01)) Z01))) (fun _ _=>rfl))
        case e2 =>
         refine' Z17 ?c2 (Z03 ?e3 (Z07 ?e4)) Z0k
         case c2=>exact(Z3u (Z0f Zd9 (pv 3) Z04 (Z0j _)) (Z34 (Z0f Zmc (Z06 (GN B) hrB (by rfl) mN FN.kp bN .nil Z0g (Z0h (pv 6) Z01)) (Z12 hu (pv 1) Z0e (fun _ _=>rfl)) (Z0j _)))).pt
         case e3=>exact Z4f hu (pv 1) Z0e (Z0n Z2o (Z12 hu (pv 1) Z0e (fun _ _=>rfl)) (Z06 (GN B) hrB (by rfl) mN FN.kp bN .nil Z0g (Z0h (pv 6) Z01))) rfl
         case e4=>exact Z0l (pv 6)
       case r4 =>
        refine' Z0u ?s5 ?r5
        case s5 =>
         refine' Z17 ?c (Z07 ?e) Z0k
         case c=>exact(Zc3 (Z0f Zia (pv 3) Z04 (Z0j _)) (Zc3 (Z0f Zia (Z12 hu (pv 1) Z0e (fun _ _=>rfl)) Z04 (Z0j _)) (Z8n (Z0f Z3b (pv 5) (Z1h (Z1r Z0e (Z1r Z0e Z01))) (by with_unfolding_all rfl))))).pt
         case e=>exact Z0l (Z06 GL hr3 (by rfl) mL FL.kp bL .nil Z0g (Z0h (pv 0) (Z0h (pv 1) (Z0h (pv 2) Z01))))
        case r5 =>
         refine' Z03 ?s6 ?r6
         case s6=>exact Z0c (i:=7) scForm.nd rfl (Or.inl rfl) (Z12 hu (pv 1) Z0e (fun _ _=>rfl))
         case r6 =>
          refine' Z03 ?s7 ?r7
          case s7 =>
           refine' Z17 ?c (Z03 ?e1 (Z07 ?e2)) Z0k
           case c=>exact Z0f Z1l (pv 5) Z0e (Z0j _)
           case e1=>exact Z0c (i:=8) scForm.nd rfl (Or.inl rfl) (Z06 ih hrN (by rfl) m F.kp b .nil Z0g (Z0h (pv 0) (Z0h (pv 1) (Z0h (pv 2) (Z09 (Z0n Z2o (pv 3) Z04) Z01)))))
           case e2=>exact Z0l (Z1h (Z1r Z0e (Z0h (pv 8) (Z2s (Z06 ih hrN (by rfl) m F.kp b .nil Z0g (Z0h (pv 0) (Z0h (pv 1) (Z09 (Z0n Z25 (pv 2) Z04) (Z09 (Z0n Z2o (pv 3) Z04) Z01))))) Z01))))
          case r7 =>
           refine' Z03 ?s8 ?r8
           case s8=>exact Z0c (i:=9) scForm.nd rfl (Or.inl rfl) (Z1p (Z0h (pv 5) Z01))
           case r8 =>
            refine' Z0u ?s9 ?r9
            case s9=>exact Z0c (i:=10) scForm.nd rfl (Or.inl rfl) Z04
            case r9 =>
             refine' Z0u ?s10 ?r10
             case s10 =>
              refine' Z17 ?c (Z03 ?e1 (Z07 ?e2)) Z0k
              case c=>exact Z0f Z1l (pv 5) Z0e (Z0j _)
              case e1=>exact Z0c (i:=9) scForm.nd rfl (Or.inl rfl) (Z1p (Z1r Z0e (Z09 (Z0y Z8w Z0e (Z06 GD hr1 (by rfl) U.mD U.D.kp U.bD .nil Z0g (Z0h (pv 0) (Z1r Z04 Z01))) (fun _ _=>rfl)) Z01)))
              case e2=>exact Z0c (i:=10) scForm.nd rfl (Or.inl rfl) Z04
             case r10 =>
              refine' Z0u ?s11 ?r11
              case s11=>exact Z17 (Z0f Z1l (pv 5) Z0e (Z0j _)) (Z07 (Z0c (i:=10) scForm.nd rfl (Or.inl rfl) Z04)) Z0k
              case r11 =>
               refine' Z0u ?s12 ?r12
               case s12 =>
                refine' Z17 ?c (Z07 ?e) Z0k
                case c=>exact Z0f Z1l (pv 5) Z0e (Z0j _)
                case e=>exact Z96 (i:=10) (vs := [.int 2,.int 1,.int 3,.int 2,.int 6,.int 4]) scForm.nd rfl (Or.inl rfl) ⟨_,_,_,_,_,rfl,by decide +kernel⟩ (Z06 GD hr1 (by rfl) U.mD U.D.kp U.bD .nil Z0g (Z0h (pv 0) (Z1r Z04 Z01))) (fun _ _=>rfl) (.inr rfl)
               case r12 =>
                refine' Z0u ?s13 ?r13
                case s13 =>
                 refine' Z17 ?c (Z03 ?e1 (Z07 ?e2)) Z0k
                 case c=>exact Z0f Z1l (pv 5) Z0e (Z0j _)
                 case e1=>exact Z0c (i:=9) scForm.nd rfl (Or.inl rfl) (Z1p (Z1r Z0e (Z09 (Z0y Z11 (pv 7) (Z06 GD hr1 (by rfl) U.mD U.D.kp U.bD .nil Z0g (Z0h (pv 0) (Z2s (Z0d Z0b (by rfl) U.T.len PySem.boot_len (Z0h (pv 7) Z01)) Z01))) (fun _ _=>rfl)) Z01)))
                 case e2=>exact Z96 (i:=10) (vs := [.int 1,.int 0,.int 2,.int 3,.int 6,.int 1]) scForm.nd rfl (Or.inl rfl) ⟨_,_,_,_,_,rfl,by decide +kernel⟩ (Z06 GD hr1 (by rfl) U.mD U.D.kp U.bD .nil Z0g (Z0h (pv 0) (Z1r Z04 Z01))) (fun _ _=>rfl) (.inr rfl)
                case r13 =>
                 refine' Z0u ?s14 ?r14
                 case s14 =>
                  refine' Z17 ?c (Z07 ?e) Z0k
                  case c=>exact Z0f Z1l (pv 5) Z0e (Z0j _)
                  case e=>exact Z0c (i:=9) scForm.nd rfl (Or.inl rfl) (Z1p (Z1r Z0e (Z09 (Z0y Z11 (pv 7) (Z06 GD hr1 (by rfl) U.mD U.D.kp U.bD .nil Z0g (Z0h (pv 0) (Z2s (Z0d Z0b (by rfl) U.T.len PySem.boot_len (Z0h (pv 7) Z01)) Z01))) (fun _ _=>rfl)) Z01)))
                 case r14 =>
                  refine' Z0u ?s15 ?r15
                  case s15 =>
                   refine' Z17 ?c (Z07 ?e) Z0k
                   case c=>exact Z0f Z1l (pv 5) Z0e (Z0j _)
                   case e=>exact Z0c (i:=9) scForm.nd rfl (Or.inl rfl) (Z1p (Z1r Z0e (Z2s (Z06 GD hr1 (by rfl) U.mD U.D.kp U.bD .nil Z0g (Z0h (pv 0) (Z1r Z04 Z01))) Z01)))
                  case r15 =>
                   refine' Z07 ?s16
                   case s16 =>
                    refine' Z0l ?r
                    case r =>
                     refine' Z10 Z0s (by rfl) T0.tup (by decide +kernel) ?a
                     case a =>
                      refine' Z09 ?x Z01
                      case x =>
                       refine' Z0n Zay (pv 9) ?y
                       case y =>
                        refine' Z1a (N' := ["_law_below","_law_feed_here","_law_k","_law_lets","_law_world_here"]) (src := [some 3,some 0,none,some 2,some 1]) ?k1 ?k5 ?k6 ?k7
                        case k1=>rfl
                        case k5=>exact Z0i (Z05 Z9d) rfl ["_law_feed_here","_law_world_here","_law_lets","_law_below","_law_kinds","_law_kind","_law_found","_law_names_here","_law_first","_law_head","_law_many"] rfl (by decide +kernel)
                        case k6=>exact Z1o (by rfl) U.T.range (Z0h (pv 10) Z01)
                        case k7=>exact fun cl C ex s0 H0=>⟨Z0m (i:=2) Zj9 rfl (Or.inl rfl),Z1d,Z06 ih hrN (by rfl) m F.kp b .nil Z0g (Z0h (pv 1) (Z0h (pv 4) (Z0h (pv 3) (Z09 (Z0n Z2o (pv 0) Z04) Z01))))⟩
   case fin =>
    have ec:cD (N+1)=30+6*cD N:=rfl
    refine⟨_,rfl,wd,.int r,rfl,Z4w C0.W,_,_,rfl,rfl,_,rfl,wd,_,rfl,Z9j C0.W,?_⟩
    have C1:=C0.room (r2:=r-1)
    refine⟨Z6o (by decide +kernel),fun e he => ?_⟩
    have C2:=C1.same (Z02 (o := .lst (kinds12.map V.str)) he)
    have E2:upd (upd H wd (.dK (Z0o nm (r-1) h sa bg))) e (.lst (kinds12.map V.str)) e=some (.lst (kinds12.map V.str)):=Z00
    generalize upd (upd H wd (.dK (Z0o nm (r-1) h sa bg))) e (.lst (kinds12.map V.str))=H2 at C2 E2 ⊢
    refine⟨fun σ' H'=>∃(kd:Str) (n':Nat),σ' = [some (.ref d),some (.ref wd),some (.int lt),some (.int bb),some (.ref e),some (.str kd),none,none,none,none,none]/\kd∈kinds12/\n'<=n+1/\Cf H H' d l wd nm bg ns n' (r-1) h sa T B ts,?_,?_⟩
    ·refine⟨_,rfl,_,rfl,d,l,ns,n,_,rfl,C2.F,by omega,by decide,by decide,fun i n1 H3 i0 i1 hn1 F3 b3 => ?_⟩
     obtain⟨v3,hv3,hat3⟩:=Z3w (xs:=kinds12.map V.str) (i:=i) i0 (Int.lt_of_lt_of_le i1 (by decide +kernel))
     obtain⟨kd,hk,rfl⟩:=List.mem_map.mp hv3
     exact⟨e,kinds12.map V.str,i,.str kd,rfl,rfl,SqL.of (C2.F.lst b3 E2),hat3,kd,n1,rfl,hk,by omega,C2.draw b3 F3⟩
    rintro σ3 H3 ⟨kd,n3,rfl,hkd,hn3,C3⟩
    refine⟨fun σ' H'=>∃(o6:Option V) (n':Nat) (r':Int),σ' = [some (.ref d),some (.ref wd),some (.int lt),some (.int bb),some (.ref e),some (.str kd),o6,none,none,none,none]/\n'<=n+2/\r'=r-1/\Cf H H' d l wd nm bg ns n' r' h sa T B ts,?_,?_⟩
    ·refine⟨_,rfl,rfl,_,rfl,Z22 (fun g => ?_) (fun g=>Z4l ⟨none,n3,_,rfl,by omega,rfl,C3⟩)⟩
     obtain⟨⟨ws,hbg,hws⟩,hfew,hok⟩:=C3.G
     refine⟨_,rfl,wd,.ref bg,rfl,Z4x C3.W,Nat.zero_le _,fun q hq => ?_⟩
     have sq:=Z02 (o := .lst []) hq
     have C4:=C3.same sq
     have hbg4:=sq _ _ hbg
     have hws4:=IsThs.kp (Kp.of sq) hws
     refine⟨bg,q,ws,rfl,rfl,SqL.of hbg4,SqL.of Z00,_,rfl,Z22 (fun g2 => ?_) (fun g2=>⟨none,n3,_,rfl,by omega,rfl,C4⟩)⟩
     have hwl:=IsThs.len _ hws
     have hpos:0<ws.length:=by
      cases ws with
      | nil=>exact absurd g2 (by decide)
      | cons _ _=>exact Nat.succ_pos _
     refine⟨_,rfl,wd,.ref bg,rfl,Z4x C4.W,_,rfl,_,rfl,wd,.ref bg,rfl,Z4x C4.W,bg,ws,rfl,.inl (SqL.of hbg4),d,l,ns,n3,_,rfl,C4.F,by omega,by show(0:Int)<(ws.length:Int);omega,by show(ws.length:Int)<18446744073709551616;omega,fun i n5 H5 i0 i1 hn5 F5 b5 => ?_⟩
     have C5:=C4.draw b5 F5
     have hbg5:=C4.F.lst b5 hbg4
     have hws5:=IsThs.kp (C4.kp (But2.of b5)) hws4
     obtain⟨x,hx,hat5⟩:=Z3w (xs:=ws) (i:=i) i0 i1
     obtain⟨j,hj⟩:=List.getElem?_of_mem hx
     obtain⟨t,htj,hxt⟩:=Z0q _ hws5 hj
     obtain⟨tp,tc⟩:=hok t (List.mem_of_getElem? htj)
     refine⟨bg,ws,i,x,rfl,rfl,SqL.of hbg5,hat5,?_⟩
     refine⟨_,rfl,_,_,rfl,rfl,_,rfl,Z22 (fun g3 => ?_) (fun g3=>Z4l ⟨some x,n5,_,rfl,by omega,rfl,C5⟩)⟩
     refine⟨_,rfl,x,t,rfl,hxt,tp,fun H6 s6 => ?_⟩
     have C6:=C5.same s6
     refine⟨_,rfl,wd,.int _,rfl,Z4w C6.W,_,_,rfl,rfl,_,rfl,Z22 (fun g4 => ?_) (fun g4=>⟨some x,n5,_,rfl,by omega,rfl,C6⟩)⟩
     refine⟨_,rfl,wd,.int _,rfl,Z4w C6.W,_,rfl,x,t,rfl,IsTh.kp (Kp.of s6) hxt,tp,fun H7 s7 => ?_⟩
     have C7:=C6.same s7
     refine⟨_,_,rfl,rfl,_,rfl,wd,_,rfl,Z9j C7.W,_,rfl,?_⟩
     have g5:(cnt t:Int)<=r-1:=by simpa using g4
     have c1:=Z40 tp
     refine k x t n5 _ _ (IsTh.kp (Zeg C7.W) (IsTh.kp (Kp.of (s6.trans s7)) hxt)) (tp.le (by omega)) ⟨by omega,by omega,by omega⟩ (fun z i hi=>by rw[z t (List.mem_of_getElem? htj)] at hi;cases hi) (by omega) C7.room
    rintro σ4 H4 ⟨o6,n4,r4,rfl,hn4,hr4,C4⟩
    have fin5:∀H5,Cf H H5 d l wd nm bg ns n4 r4 h sa T B ts->∀(v:V) (t:Th) n' H',IsTh H' v t->Zel h t->n'<=n4+5->Feed H' d l ns n'->But d H5 H'->Q v H':=by
     intro H5 C5 v t n' H' hv ht hn' F' b'
     exact k v t n' r4 H' hv (ht.1.le (by omega)) ⟨by rw[ht.2.1];omega,by omega,by omega⟩ (fun _=>ht.2.2.2) (by omega) (C5.draw b' F')
    refine⟨fun σ' H'=>σ' = [some (.ref d),some (.ref wd),some (.int lt),some (.int bb),some (.ref e),some (.str kd),o6,none,none,none,none]/\2<=bb/\1<=r4/\Cf H H' d l wd nm bg ns n4 r4 h sa T B ts,?_,?_⟩
    ·refine⟨_,rfl,_,_,rfl,rfl,_,rfl,Z22 (fun g=>Z71 ?_) (fun g => ?_)⟩
     ·exact⟨_,rfl,_,rfl,_,rfl,d,l,wd,nm,bg,ns,n4,r4,h,sa,lt,T,rfl,C4.F,by omega,C4.W,C4.N,hh,by omega,fin5 _ C4⟩
     have hb2:2<=bb:=by
      have:¬bb<2:=fun z=>g (by simpa using z)
      omega
     refine⟨_,rfl,wd,.int r4,rfl,Z4w C4.W,_,_,rfl,rfl,_,rfl,Z22 (fun g2=>Z71 ?_) (fun g2 => ?_)⟩
     ·exact⟨_,rfl,_,rfl,_,rfl,d,l,wd,nm,bg,ns,n4,r4,h,sa,lt,T,rfl,C4.F,by omega,C4.W,C4.N,hh,by omega,fin5 _ C4⟩
     have h41:1<=r4:=by
      have:¬r4<6:=fun z=>g2 (by simpa using z)
      omega
     refine⟨_,rfl,(by show 2<=sizeLine;decide),fun q hq => ?_⟩
     have C5:=C4.same (Z02 (o := .tup [.str "leaf",.str "bag"]) hq)
     refine⟨q,[.str "leaf",.str "bag"],rfl,.inr (SqT.of Z00),rfl,rfl,_,rfl,Z22 (fun g3 => ?_) (fun g3=>⟨rfl,hb2,h41,C5⟩)⟩
     exact⟨_,rfl,_,rfl,_,rfl,d,l,wd,nm,bg,ns,n4,r4,h,sa,lt,T,rfl,C5.F,by omega,C5.W,C5.N,hh,by omega,fin5 _ C5⟩
    rintro σ5 H5 ⟨rfl,hb2,h41,C5⟩
    refine⟨_,rfl,wd,.ref nm,rfl,Z3g C5.W,?_⟩
    refine⟨_,rfl,rfl,_,rfl,Z22 (fun g => ?_) (fun g => ?_)⟩
    ·refine⟨_,rfl,_,rfl,_,rfl,_,rfl,_,_,rfl,rfl,d,l,wd,nm,bg,ns,n4,r4,h,sa,lt,bb-1,T,ts,rfl,⟨C5.F,C5.W,C5.N,C5.G,But2.refl _ _ _⟩,by omega,hh,hlt0,hs0,by omega,by omega,by omega,by omega,fun v6 t6 n6 r6 H6 hv6 pf6 cn6 hs6 hn6 C6' => ?_⟩
     have C6:=C5.go C6'.b2 C6'.F C6'.W
     refine⟨_,rfl,_,rfl,_,rfl,_,rfl,_,_,rfl,rfl,_,rfl,_,_,rfl,rfl,d,l,wd,nm,bg,ns,n6,r6,h,sa,lt+1,bb-1,T,ts,rfl,⟨C6.F,C6.W,C6.N,C6.G,But2.refl _ _ _⟩,by omega,hh,by omega,hs0,by omega,by omega,by omega,by omega,fun v7 t7 n7 r7 H7 hv7 pf7 cn7 hs7 hn7 C7'=>⟨(by show 3<=sizeLine;decide),fun p hp => ?_⟩⟩
     have C7:=C6.go C7'.b2 C7'.F C7'.W
     have sp:=Z02 (o := .tup [.str "let",v6,v7]) hp
     have hv67:=IsTh.kp (C6.kp C7'.b2) hv6
     have nk:∀k ∈ [t6,t7],L2.isTup k=true:=fun k hk=>by
      simp only [List.mem_cons,List.not_mem_nil,or_false] at hk
      rcases hk with rfl | rfl
      ·exact pf6.isTup
      ·exact pf7.isTup
     refine k (.ref p) (nd "let" [] [t6,t7]) n7 r7 _ (.tup Z00 (.cons (.at (by decide +kernel)) (.cons (IsTh.kp (Kp.of sp) hv67) (.cons (IsTh.kp (Kp.of sp) hv7) .nil)))) ?_ ?_ ?_ (by omega) (C7.same sp)
     ·rw[Nat.add_right_comm]
      refine⟨"let",[],[t6,t7],rfl,Nat.zero_le _,fun v hv=>(by cases hv),fun _=>⟨rfl,rfl⟩,fun z=>absurd z (by decide +kernel),by show 2<=6;decide,fun k hk => ?_⟩
      simp only [List.mem_cons,List.not_mem_nil,or_false] at hk
      rcases hk with rfl | rfl
      ·exact pf6
      ·exact pf7
     ·rw[Z1k nk]
      simp only [Z14]
      obtain⟨c6a,c6b,c6c⟩:=cn6
      obtain⟨c7a,c7b,c7c⟩:=cn7
      exact⟨by omega,by omega,by omega⟩
     ·intro z0 i hi
      obtain⟨k,hk,hj⟩:=(Z3t (by decide +kernel)).mp hi
      simp only [List.mem_cons,List.not_mem_nil,or_false] at hk
      rcases hk with rfl | rfl
      ·exact hs6 z0 i hj
      ·exact hs7 z0 i hj
    ·have hkl:kd≠"let":=fun z=>g (by rw[z];decide +kernel)
     have hkh:kd≠"hole":=fun z=>by rw[z] at hkd;exact absurd hkd (by decide +kernel)
     refine⟨_,rfl,(by show 1<=sizeLine;decide),fun ha hha => ?_⟩
     have C6a:=C5.same (Z02 (o := .lst [.str kd]) hha)
     refine⟨MC H d l wd nm bg e ns n4 r4 h sa lt bb T B ts kd o6 0,⟨ha,[],1,n4,rfl,Z00,Nat.zero_le _,fun v hv=>(by cases hv),by decide,by decide,Nat.le_refl _,C6a⟩,?_⟩
     rintro σ6 H6 ⟨ha6,hd6,mn6,n6,rfl,A6,hl6,hp6,m60,m61,hn6,C6⟩
     refine⟨MC H d l wd nm bg e ns n4 r4 h sa lt bb T B ts kd o6 1,?_,?_⟩
     ·refine⟨_,rfl,rfl,_,rfl,Z22 (fun g2 => ?_) (fun g2=>⟨ha6,hd6,mn6,n6,rfl,A6,hl6,hp6,m60,m61,by omega,C6⟩)⟩
      have ek:kd="op":=by
       have g':=of_decide_eq_true g2
       injection g'
      subst ek
      refine⟨_,rfl,d,l,ns,n6,_,rfl,C6.F,by omega,by decide,by decide,fun i n7 H7 i0 i1 hn7 F7 b7 => ?_⟩
      obtain⟨c,_,hc⟩:=Z3w (xs:=("+-*/<=":Str).cps.toList) (i:=i) i0 (Int.lt_of_lt_of_le i1 (by decide +kernel))
      refine⟨"+-*/<=",i,c,rfl,rfl,(by decide +kernel),hc,(by show 2<=sizeLine;decide),fun ha2 hha2 => ?_⟩
      exact⟨ha2,[.str ⟨#[c]⟩],2,n7,rfl,Z00,Nat.le_refl _,fun v hv=>(by rw[List.mem_singleton] at hv;subst hv;exact⟨rfl,rfl⟩),by decide,by decide,by omega,(C6.draw b7 F7).same (Z02 hha2)⟩
     rintro σ7 H7 ⟨ha7,hd7,mn7,n7,rfl,A7,hl7,hp7,m70,m71,hn7,C7⟩
     refine⟨MC H d l wd nm bg e ns n4 r4 h sa lt bb T B ts kd o6 1,?_,?_⟩
     ·exact⟨_,rfl,rfl,_,rfl,Z22 (fun g2=>⟨ha7,hd7,3,n7,rfl,A7,hl7,hp7,by decide,by decide,hn7,C7⟩) (fun g2=>⟨ha7,hd7,mn7,n7,rfl,A7,hl7,hp7,m70,m71,hn7,C7⟩)⟩
     clear A7 hl7 hp7 m70 m71 hn7 C7 A6 hl6 hp6 m60 m61 hn6 C6
     rintro σ8 H8 ⟨ha8,hd8,mn8,n8,rfl,A8,hl8,hp8,m80,m81,hn8,C8⟩
     refine⟨MC H d l wd nm bg e ns n4 r4 h sa lt bb T B ts kd o6 2,?_,?_⟩
     ·refine⟨_,rfl,rfl,_,rfl,Z22 (fun g2 => ?_) (fun g2=>⟨ha8,hd8,mn8,n8,rfl,A8,hl8,hp8,m80,m81,by omega,C8⟩)⟩
      refine⟨(by show 6<=sizeLine;decide),fun q hq => ?_⟩
      have sq:=Z02 (o := .lst [.int 2,.int 1,.int 3,.int 2,.int 6,.int 4]) hq
      have C9:=C8.same sq
      refine⟨_,rfl,d,l,ns,n8,_,rfl,C9.F,by omega,by decide,by decide,fun i n9 H9 i0 i1 hn9 F9 b9 => ?_⟩
      obtain⟨v,hv,hat⟩:=Z3w (xs:=([.int 2,.int 1,.int 3,.int 2,.int 6,.int 4]:List V)) (i:=i) i0 i1
      obtain⟨z,rfl,z0,z1⟩:∃z:Int,v = .int z/\0<=z/\z<=6:=by
       simp only [List.mem_cons,List.not_mem_nil,or_false] at hv
       rcases hv with rfl | rfl | rfl | rfl | rfl | rfl <;> exact⟨_,rfl,by decide,by decide⟩
      exact⟨q,_,i,.int z,rfl,rfl,SqL.of (C9.F.lst b9 Z00),hat,ha8,hd8,z,n9,rfl,C9.F.lst b9 (sq _ _ A8),hl8,hp8,z0,z1,by omega,C9.draw b9 F9⟩
     clear A8 hl8 hp8 m80 m81 hn8 C8
     rintro σ9 H9 ⟨ha9,hd9,mn9,n9,rfl,A9,hl9,hp9,m90,m91,hn9,C9⟩
     have l1:=C9.N.l1
     have l2:=C9.N.l2
     have hTl:((T.map V.str).length:Int)=(T.length:Int):=by rw[List.length_map]
     refine⟨MC H d l wd nm bg e ns n4 r4 h sa lt bb T B ts kd o6 4,?_,?_⟩
     ·refine⟨_,rfl,rfl,_,rfl,Z22 (fun g2 => ?_) (fun g2=>⟨ha9,hd9,mn9,n9,rfl,A9,hl9,hp9,m90,m91,by omega,C9⟩)⟩
      have ek:kd="call":=by
       have g':=of_decide_eq_true g2
       injection g'
      subst ek
      refine⟨_,rfl,_,rfl,_,rfl,nm,T.map V.str,rfl,.inl (SqL.of C9.N.a),d,l,ns,n9,_,rfl,C9.F,by omega,by show(0:Int)<((T.map V.str).length:Int);omega,by show((T.map V.str).length:Int)<18446744073709551616;omega,fun i n10 H10 i0 i1 hn10 F10 b10 => ?_⟩
      obtain⟨v,hv,hat⟩:=Z3w (xs:=T.map V.str) (i:=i) i0 i1
      obtain⟨t,ht,rfl⟩:=List.mem_map.mp hv
      have hNm:=C9.N.nm t ht
      have C10:=C9.draw b10 F10
      refine⟨nm,T.map V.str,i,.str t,rfl,rfl,SqL.of C10.N.a,hat,(by show 2<=sizeLine;decide),fun ha2 hha2 => ?_⟩
      have s11:=Z02 (o := .lst [.str "call",.str t]) hha2
      have C11:=C10.same s11
      refine⟨(by show 6<=sizeLine;decide),fun q hq => ?_⟩
      have sq:=Z02 (o := .lst [.int 1,.int 0,.int 2,.int 3,.int 6,.int 1]) hq
      have C12:=C11.same sq
      refine⟨_,rfl,d,l,ns,n10,_,rfl,C12.F,by omega,by decide,by decide,fun i n13 H13 i0 i1 hn13 F13 b13 => ?_⟩
      obtain⟨v,hv,hat⟩:=Z3w (xs:=([.int 1,.int 0,.int 2,.int 3,.int 6,.int 1]:List V)) (i:=i) i0 i1
      obtain⟨z,rfl,z0,z1⟩:∃z:Int,v = .int z/\0<=z/\z<=6:=by
       simp only [List.mem_cons,List.not_mem_nil,or_false] at hv
       rcases hv with rfl | rfl | rfl | rfl | rfl | rfl <;> exact⟨_,rfl,by decide,by decide⟩
      exact⟨q,_,i,.int z,rfl,rfl,SqL.of (C12.F.lst b13 Z00),hat,ha2,[.str t],z,n13,rfl,C12.F.lst b13 (sq _ _ Z00),Nat.le_refl _,fun v hv=>(by rw[List.mem_singleton] at hv;subst hv;exact⟨rfl,decide_eq_true (Nat.le_trans hNm.1.2 (by decide))⟩),z0,z1,by omega,C12.draw b13 F13⟩
     clear A9 hl9 hp9 m90 m91 hn9 C9
     rintro σ10 H10 ⟨ha10,hd10,mn10,n10,rfl,A10,hl10,hp10,m100,m101,hn10,C10⟩
     refine⟨MC H d l wd nm bg e ns n4 r4 h sa lt bb T B ts kd o6 5,?_,?_⟩
     ·refine⟨_,rfl,rfl,_,rfl,Z22 (fun g2 => ?_) (fun g2=>⟨ha10,hd10,mn10,n10,rfl,A10,hl10,hp10,m100,m101,by omega,C10⟩)⟩
      have ek:kd="set":=by
       have g':=of_decide_eq_true g2
       injection g'
      subst ek
      refine⟨_,rfl,_,rfl,_,rfl,nm,T.map V.str,rfl,.inl (SqL.of C10.N.a),d,l,ns,n10,_,rfl,C10.F,by omega,by show(0:Int)<((T.map V.str).length:Int);omega,by show((T.map V.str).length:Int)<18446744073709551616;omega,fun i n11 H11 i0 i1 hn11 F11 b11 => ?_⟩
      obtain⟨v,hv,hat⟩:=Z3w (xs:=T.map V.str) (i:=i) i0 i1
      obtain⟨t,ht,rfl⟩:=List.mem_map.mp hv
      have hNm:=C10.N.nm t ht
      have C11:=C10.draw b11 F11
      refine⟨nm,T.map V.str,i,.str t,rfl,rfl,SqL.of C11.N.a,hat,(by show 2<=sizeLine;decide),fun ha2 hha2 => ?_⟩
      exact⟨ha2,[.str t],mn10,n11,rfl,Z00,Nat.le_refl _,fun v hv=>(by rw[List.mem_singleton] at hv;subst hv;exact⟨rfl,decide_eq_true (Nat.le_trans hNm.1.2 (by decide))⟩),m100,m101,by omega,C11.same (Z02 hha2)⟩
     clear A10 hl10 hp10 m100 m101 hn10 C10
     rintro σ11 H11 ⟨ha11,hd11,mn11,n11,rfl,A11,hl11,hp11,m110,m111,hn11,C11⟩
     refine⟨MC H d l wd nm bg e ns n4 r4 h sa lt bb T B ts kd o6 6,?_,?_⟩
     ·refine⟨_,rfl,rfl,_,rfl,Z22 (fun g2 => ?_) (fun g2=>⟨ha11,hd11,mn11,n11,rfl,A11,hl11,hp11,m110,m111,by omega,C11⟩)⟩
      have ek:kd="again":=by
       have g':=of_decide_eq_true g2
       injection g'
      subst ek
      refine⟨_,rfl,d,l,ns,n11,_,rfl,C11.F,by omega,by decide,by decide,fun i n12 H12 i0 i1 hn12 F12 b12=>⟨(by show 2<=sizeLine;decide),fun ha2 hha2 => ?_⟩⟩
      exact⟨ha2,[.int i],mn11,n12,rfl,Z00,Nat.le_refl _,fun v hv=>(by rw[List.mem_singleton] at hv;subst hv;exact⟨rfl,rfl⟩),m110,m111,by omega,(C11.draw b12 F12).same (Z02 hha2)⟩
     clear A11 hl11 hp11 m110 m111 hn11 C11
     rintro σ12 H12 ⟨ha,hd,mn,n12,rfl,A12,hl12,hp12,m120,m121,hn12,C12⟩
     have hkds:smallV (.str kd)=true:=(by decide +kernel:∀t∈kinds12,smallV (.str t)=true) kd hkd
     refine⟨_,rfl,_,rfl,mn,rfl,by omega,by omega,Z3c (lo:=0) (n:=mn.toNat) (fun j ys σc H'=>∃(o:Option V) (n':Nat) (r':Int) (cs:List Th),σc = [some (.int bb),some (.ref d),o,some (.int lt),some (.ref wd)]/\ys.length=j/\IsThs H' ys cs/\(∀t∈cs,PfT (N+B) t/\((∀u∈ts,hs u = [])->∀i∈hs t,((i:Nat):Int)<h))/\((Z14 cs:Int)+r'<=r4/\1-6*(N:Int)-j<=r')/\n'<=n12+j*cD N/\Cf H H' d l wd nm bg ns n' r' h sa T B ts/\H' ha=some (.lst (.str kd::hd)))
      ⟨none,n12,r4,[],rfl,rfl,.nil,fun t ht=>(by cases ht),⟨by show((0:Nat):Int)+r4<=r4;omega,by omega⟩,by omega,C12,A12⟩ ?_ ?_⟩
     ·rintro j ys σc H' hj ⟨o,n',r',cs,rfl,hyl,hys,hcs,hrm,hn',C',A'⟩
      have hj6:j<=5:=by omega
      have hjm:=Nat.mul_le_mul_right (cD N) hj6
      refine⟨by omega,?_⟩
      refine⟨_,rfl,_,rfl,_,rfl,_,rfl,_,_,rfl,rfl,d,l,wd,nm,bg,ns,n',r',h,sa,lt,bb-1,T,ts,rfl,⟨C'.F,C'.W,C'.N,C'.G,But2.refl _ _ _⟩,by omega,hh,hlt0,hs0,by omega,by omega,by omega,by omega,fun v t n2 r2 H2 hv pf cn hs' hn2 C2'=>nx hj ⟨_,n2,r2,cs ++ [t],rfl,by rw[List.length_append,hyl];rfl,IsThs.app _ (IsThs.kp (C'.kp C2'.b2) hys) (.cons hv .nil),fun x hx => ?_,?_,by rw[Nat.succ_mul];omega,C'.go C2'.b2 C2'.F C2'.W,C'.kp C2'.b2 _ _ A' (by intro kvs q;cases q)⟩⟩
      ·rcases List.mem_append.mp hx with z | z
       ·exact hcs x z
       ·rw[List.mem_singleton.mp z]
        exact⟨pf,hs'⟩
      ·obtain⟨ca,cb,cc⟩:=cn
       rw[Z6r]
       exact⟨by omega,by omega⟩
     ·rintro ys σc H' ⟨o,n',r',cs,rfl,hyl,hys,hcs,hrm,hn',C',A'⟩ q hq
      have sq:=Z02 (o := .lst ys) hq
      have hcl:=IsThs.len _ hys
      have hm6:mn.toNat<=6:=by omega
      have hjm:=Nat.mul_le_mul_right (cD N) hm6
      refine⟨ha,q,.str kd::hd,ys,rfl,rfl,sq _ _ A',Z00,by rw[List.length_cons];omega,fun l2 hl2 => ?_⟩
      have s2:=Z02 (o := .lst ((.str kd::hd)++ys)) hl2
      refine⟨l2,_,rfl,.inl ⟨SqL.of Z00,fun p hp => ?_⟩⟩
      have s3:=Z02 (o := .tup ((.str kd::hd)++ys)) hp
      have sA:=(sq.trans s2).trans s3
      have nk:∀k∈cs,L2.isTup k=true:=fun k hk=>(hcs k hk).1.isTup
      have hhd:∀(H0:Hp) (hd:List V),(∀v∈hd,plT (.at v)=true/\smallV v=true)->IsThs H0 hd (hd.map Th.at):=by
       intro H0 hd
       induction hd with
       | nil=>intro _;exact .nil
       | cons x hd ih2=>intro hx;exact .cons (.at (hx x (List.mem_cons_self ..)).2) (ih2 fun v hv=>hx v (List.mem_cons_of_mem _ hv))
      refine k (.ref p) (nd kd hd cs) n' r' _ (.tup Z00 (.cons (.at hkds) (IsThs.app _ (hhd _ hd hp12) (IsThs.kp (Kp.of sA) hys)))) ?_ ?_ ?_ (by omega) (C'.same sA)
      ·rw[Nat.add_right_comm]
       exact⟨kd,hd,cs,rfl,hl12,fun v hv=>(hp12 v hv).1,fun z=>absurd z hkl,fun z=>absurd z hkh,by omega,fun k hk=>(hcs k hk).1⟩
      ·rw[Z1k nk]
       exact⟨by omega,by omega,by omega⟩
      ·intro z0 i hi
       obtain⟨k,hk,hj⟩:=(Z3t hkh).mp hi
       exact(hcs k hk).2 z0 i hj
end
end K20
namespace L2
open PySem PySem.Spec PyProof.Rows
end L2
namespace L2
open PySem PySem.Spec PyProof.Rows
open Sem (wp)
open AutoSeq1 (wpAny_loadPart')
end L2
namespace L2
open PySem PySem.Spec PyProof.Rows PySem.Builtin PySem.AutoSeq1
end L2
namespace L2
open PySem PySem.Spec PyProof.Rows
end L2
namespace L2
open PySem PySem.Spec PyProof.Rows PySem.Builtin PySem.AutoSeq1
theorem Z5o:mroOf (.type "reversed")=pure [.type "reversed",.type "object"]:=by rw[mroOf_type];kernel_rfl
theorem Z4g:typeLookup (.type "reversed") "__new__"=pure (some (.builtin "reversed.__new__")):=by rw[typeLookup_type,builtinLookup_eq_fast];kernel_rfl
theorem Z87:Bind.madeBy (.type "reversed")=pure (some "reversed.__new__"):=madeBy_type Z5o Z4g (by decide +kernel)
theorem Z9k:isSubtype (.type "reversed") (.type "reversed")=pure true:=by rw[isSubtype_type];kernel_rfl
theorem Zcq:isSubtype (.type "list_reverseiterator") (.type "reversed")=pure false:=by rw[isSubtype_type];kernel_rfl
theorem Z4z : entryFor table "reversed.__new__" = some Builtin.«reversed.__new__» := entryFor_of_tree (by kernel_rfl)
theorem Z5k (a:Value):checkTypeCall "reversed" ⟨[a],[]⟩=pure ():=by kernel_rfl
theorem Z5s (a:Value):checkBuiltinCall "reversed.__new__" ⟨[.type "reversed",a],[]⟩=pure ():=by kernel_rfl
section
variable {prog:Program}{w:World}{A:Around}{E:Value->Shared->Prop}{s:Shared}
theorem Z72 {T U newId:String}{Bn:Builtin}{args:List Value}{S:PySem.Spec}{Q:Value->Shared->Prop}{c:Value}{tl:List Value}(h1:(Value.type T==Value.type "type")=false)
  (h2:((Manifest.find? T).bind (·.mro.findSome? fun t=>(Manifest.find? t).bind fun b=>if b.noNew then some true else if b.attrs.any (·.1=="__new__") then some false else none)).getD false=false)
  (hmro:mroOf (.type T)=pure (c::tl)) (hmade:Bind.madeBy (.type T)=pure (some newId)) (plain:plainId newId=true) (hsub:isSubtype (.type U) (.type T)=pure false)
  (hct:checkTypeCall T ⟨args,[]⟩=pure ()) (hcn:checkBuiltinCall newId ⟨.type T::args,[]⟩=pure ())
  (entryN:entryFor table newId=some Bn) (g:Meets (Bn ⟨.type T::args,[]⟩) S)
  (h:S A.in1 (wants (fun obj s₁=>s₁.TypeIs obj U/\Q obj s₁) E) s):wpAny (model prog w) A (call (.type T) args) Q E s:=by
 refine wpAny_call (codeAny_of_tree ?_)
 show wpAny _ _ (callAny (.type T) _) _ _ _
 refine wpAny_pure ⟨Code.quiet_builtin _ (by decide +kernel),codeAny_builtin F.entry_type_call ?_⟩
 rw[Around.under_plain (weight_type_call_type T args []) (units_type_call_type T args [])]
 repeat (any_goals (first | assumption | wp_step))
 refine codeAny_mono (codeAny_call_builtin plain entryN (wpAny_of_eq hcn (g prog w A.in1 _ s h))) fun r s₁ hr => ?_
 cases r with
 | error e=>exact hr
 | ok fl =>
  cases fl with
  | ret obj =>
   obtain⟨hT,hq⟩:=hr
   repeat (any_goals (first | assumption | wp_step))
  | _=>exact hr.elim
end
theorem Zgr {prog:Program}{w:World}{A:Around}{s:Shared}{R:Result->Shared->Prop}{l:Addr}{items:Array Value}{n:Nat}(hl:s.heap.get? l=some { cls := .type "list",dict:=none,data := .seq items n,slots := #[] })
  (h:R (.ok (.ret (Value.ref s.heap.objs.size))) { s with heap:=s.heap.push { cls:=Value.type "list_reverseiterator",data := .fields #[.ref l,rawInt ((items.size:Int)-1)] } }) :
  codeAny (model prog w) A (.call (.builtin "list.__reversed__") ⟨[.ref l],[]⟩) R s :=
 codeAny_call_builtin F.slot_list_reversed.plain F.entry_list_reversed (F.slot_list_reversed.check _ _ _ _ _ _ _ _ ⟨_,hl,rfl⟩ (F.args_list_reversed_1 _) (PySem.AutoListH.list___reversed___list_0 l items n prog w A R s ⟨hl,h⟩))
theorem Z50 (l:Addr)(items:Array Value)(n:Nat) :
  Meets (Builtin.«reversed.__new__» ⟨[.type "reversed", .ref l], []⟩) (fun _ R s => s.heap.get? l = some { cls := .type "list", dict := none, data := .seq items n, slots := #[] } ∧
   R (.ok (.ret (Value.ref s.heap.objs.size))) { s with heap:=s.heap.push { cls:=Value.type "list_reverseiterator",data := .fields #[.ref l,rawInt ((items.size:Int)-1)] } }) :=
 .of_wp fun prog w A R s h=>by
  obtain⟨hp,g,d,tk,os⟩:=s;obtain⟨hl,h⟩:=h
  have hsub:=Z9k
  have hT:Shared.TypeIs ⟨hp,g,d,tk,os⟩ (.ref l) "list":=⟨_,hl,rfl⟩
  have hlk:=F.slot_list_reversed.lookup
  have hbd:=F.slot_list_reversed.bind (.ref l)
  wp_walk
  refine Zgr hl ?_
  exact wpAny_pure ⟨_,rfl,h⟩
section
variable {prog:Program}{w:World}{A:Around}{E:Value->Shared->Prop}{s:Shared}
theorem Z88 {l:Addr}{items:Array Value}{n:Nat}{Q:Value->Shared->Prop}(hl:s.heap.get? l=some { cls := .type "list",dict:=none,data := .seq items n,slots := #[] })
  (h:Q (.ref s.heap.objs.size) { s with heap:=s.heap.push { cls:=Value.type "list_reverseiterator",data := .fields #[.ref l,rawInt ((items.size:Int)-1)] } }) :
  wpAny (model prog w) A (call (.type "reversed") [.ref l]) Q E s :=
 Z72 (U:="list_reverseiterator") (by decide +kernel) (by decide +kernel) Z5o Z87 (by decide +kernel) Zcq (Z5k _) (Z5s _) Z4z (Z50 l items n)
  ⟨hl,⟨_,Heap.get?_push_size _ rfl,rfl⟩,h⟩
def IsRevIter (h:Heap)(it l:Addr)(k:Int):Prop:=∃o,h.get? it=some o/\o.cls = .type "list_reverseiterator"/\o.data = .fields #[.ref l,.int k 0]
theorem IsRevIter.typeIs {it l:Addr}{k:Int}(x:IsRevIter s.heap it l k):s.TypeIs (.ref it) "list_reverseiterator":=let ⟨o,ho,hc,_⟩:=x;⟨o,ho,hc⟩
theorem slot_rev_next:Slot "list_reverseiterator" "__next__" "list_reverseiterator.__next__" :=
 .of (owner:="list_reverseiterator") (n:="__next__") (by rw[typeLookup_type,builtinLookup_eq_fast];kernel_rfl) (by decide +kernel) (by decide +kernel) (by decide +kernel)
  (by first | exact .inl (by decide +kernel) | exact .inr (by decide +kernel)) (by rw[isSubtype_type];kernel_rfl)
theorem Z51:Slot "list_reverseiterator" "__iter__" "list_reverseiterator.__iter__" :=
 .of (owner:="list_reverseiterator") (n:="__iter__") (by rw[typeLookup_type,builtinLookup_eq_fast];kernel_rfl) (by decide +kernel) (by decide +kernel) (by decide +kernel)
  (by first | exact .inl (by decide +kernel) | exact .inr (by decide +kernel)) (by rw[isSubtype_type];kernel_rfl)
theorem Z4d : entryFor table "list_reverseiterator.__next__" = some Builtin.«list_reverseiterator.__next__» := entryFor_of_tree (by kernel_rfl)
theorem Z73 : entryFor table "list_reverseiterator.__iter__" = some Builtin.«dict_keyiterator.__iter__» :=
 entryFor_alias (id':="dict_keyiterator.__iter__") (by kernel_rfl) (by first | rfl | decide +kernel | (unfold String.splitOn;simp +decide [String.splitOnAux])) (by decide +kernel) (by kernel_rfl)
theorem Z52 (a:Value):argsOk "list_reverseiterator.__next__" ⟨[a],[]⟩:=by unfold argsOk;kernel_rfl
theorem Z89 (a:Value):argsOk "list_reverseiterator.__iter__" ⟨[a],[]⟩:=by unfold argsOk;kernel_rfl
theorem Z7k {it l:Addr}{k:Int}{Q:Value->Shared->Prop}(hz:IsRevIter s.heap it l k)(h:Q (.ref it) s):wpAny (model prog w) A (pyIter (.ref it)) Q E s:=by
 refine wpAny_pyIter_slot hz.typeIs Z51 (wpAny_call_entry Z51 hz.typeIs Z73 ?_ (Z89 _))
 show wpAny _ _ (ret (.ref it)) _ _ s
 exact wpAny_pure ⟨_,rfl,"list_reverseiterator",_,hz.typeIs,slot_rev_next.lookup,h⟩
theorem Z8a {it l:Addr}{k:Nat}{items:Array Value}{x:Value}{Q:Option Value->Shared->Prop}(hit:IsRevIter s.heap it l k)(hl:s.heap.IsList l items)(hx:items[k]? = some x)
  (hQ:∀h',IsRevIter h' it l ((k:Int)-1)->Heap.SameBut it s.heap h'->Q (some x) { s with heap:=h' }):wpAny (model prog w) A (pyNext (.ref it)) Q E s:=by
 obtain⟨o,ho,hc,hd⟩:=id hit
 obtain⟨ol,hol,_,nl,hdl⟩:=hl
 unfold pyNext
 refine wpAny_bind (wpAny_attempt (wpAny_callSpecial?_slot (name:=Str.ofString "__next__") hit.typeIs slot_rev_next
  (wpAny_call_entry slot_rev_next hit.typeIs Z4d ?_ (Z52 _))))
 show wpAny _ _ (field (.ref it) 1 >>= _) _ _ s
 refine wpAny_bind (wpAny_field ho hd (x := .int k 0) rfl ?_)
 show wpAny _ _ (if ((k:Int)<0) then _ else _) _ _ s
 rw[if_neg (by omega)]
 show wpAny _ _ (field (.ref it) 0 >>= _) _ _ s
 refine wpAny_bind (wpAny_field ho hd (x := .ref l) rfl ?_)
 refine wpAny_bind (wpAny_seqItems hol hdl ?_)
 simp only [Int.toNat_natCast,hx]
 refine wpAny_bind (wpAny_setField ho hd (by simp) (wpAny_pure ⟨x,rfl,wpAny_pure (hQ _ ?_ (Heap.SameBut.update ..))⟩))
 exact⟨_,Heap.get?_update_self _ ho (Obj.isFreed_of_fields (Obj.data_mapFields hd _)),(Obj.cls_mapFields ..).trans hc,by
  rw[Obj.data_mapFields hd];simp [rawInt]⟩
theorem Z9l {it l:Addr}{Q:Option Value->Shared->Prop}(hh:A.handled=none)(hit:IsRevIter s.heap it l (-1))
  (hQ:∀h',(∀b o,s.heap.get? b=some o->h'.get? b=some o)->Q none { s with heap:=h' }):wpAny (model prog w) A (pyNext (.ref it)) Q E s:=by
 obtain⟨o,ho,hc,hd⟩:=id hit
 unfold pyNext
 refine wpAny_bind (wpAny_attempt (wpAny_callSpecial?_slot (name:=Str.ofString "__next__") hit.typeIs slot_rev_next
  (wpAny_call_entry slot_rev_next hit.typeIs Z4d ?_ (Z52 _))))
 show wpAny _ _ (field (.ref it) 1 >>= _) _ _ s
 refine wpAny_bind (wpAny_field ho hd (x := .int (-1) 0) rfl ?_)
 show wpAny _ _ (if ((-1:Int)<0) then _ else _) _ _ s
 rw[if_pos (by decide)]
 refine wpAny_bind (wpAny_rule ?_)
 refine wpAny_bind ?_
 show wpAny _ _ (newExc (.type "StopIteration") [] >>= _) _ _ _
 refine wpAny_bind ?_
 simp only [newExc,newTuple]
 refine wpAny_bind (wpAny_newObj_type ?_ (by size_fits))
 refine wpAny_bind (m:=firstArgMember _ _) (wpAny_of_eq (a:=Value.none) (by first | rfl | (simp only [firstArgMember];rfl)) ?_)
 refine wpAny_newObj_type ?_ (by size_fits)
 simp only [raiseNew]
 refine wpAny_bind (wpAny_handled ?_)
 rw[show A.in1.handled=none from hh]
 refine wpAny_bind (wpAny_pure (wpAny_throw ?_))
 refine wpAny_bind (wpAny_isInstance (T:="StopIteration") (b:=true) ⟨_,Heap.get?_push_size _ rfl,rfl⟩ isSubtype_stop ?_)
 exact wpAny_pure (hQ _ fun b o e=>Heap.get?_push_of_some _ (Heap.get?_push_of_some _ e))
end
def Itv (K:PySem.W.Frag)(a:Addr)(n:Nat):It :=
 ⟨fun i H=>i<n/\∃xs x,SqL K H a xs/\xs[n-1-i]? = some x,fun i H x H'=>H'=H/\∀xs,SqL K H a xs->xs[n-1-i]? = some x,fun i H=>i=n⟩
theorem Zgs {P:Program}{w:World}{K:PySem.W.Frag}{tg:Expr}(a it:Addr)(n:Nat):Turn P w K tg (Itv K a n) [it] it (fun i h=>IsRevIter h it a ((n:Int)-1-i)) where
 mem:=by simp
 obj:=fun i h st b hb=>by
  have e:b=it:=by simpa using hb
  subst e
  obtain⟨o,e,c,d⟩:=st
  exact⟨o,e,fun v z=>by rw[d] at z;cases z⟩
 keep:=fun i h h' st k=>by
  obtain⟨o,e,c,d⟩:=st
  exact⟨o,k it (by simp) o e,c,d⟩
 item:=by
  intro X hP hw hK hc i pins s σ H E I hf st hg
  subst hP hw hK
  obtain⟨hin,xs,x,hq,hx⟩:=hg
  obtain⟨its,rv,p,hz⟩:=I.list hq
  obtain⟨u,hu,ru⟩:=rv.get hx
  obtain⟨f0,f1,f2,f3,f4,f5⟩:=hf it (by simp)
  have ek:(n:Int)-1-i=((n-1-i:Nat):Int):=by omega
  rw[ek] at st
  refine Z8a st p.isList (x:=u) (by simpa using hu) fun h' st' sb => ?_
  have I1:Inv X pins σ H { s with heap:=h' }:=I.turned (t':=s.toks) (fun b o hb e=>(sb.2 b hb).trans e) f0 f1 f3 f4 f5
  have e2:((n-1-i:Nat):Int)-1=(n:Int)-1-((i+1:Nat):Int):=by omega
  rw[e2] at st'
  obtain⟨o,e,c,d⟩:=id st'
  exact⟨u,rfl,Zfm (s:={ s with heap:=h' }) e c d (by decide) ⟨x,H,I1,ru,⟨rfl,fun ys hy=>by rw[I.list_inj hy hq];exact hx⟩,st',fun b hb=>(hf b hb).1⟩⟩
 done:=by
  intro X hP hw hK hc i pins s σ H E I hf st hg
  subst hP hw hK
  have e:i=n:=hg
  subst e
  have ek:(i:Int)-1-i = -1:=by omega
  rw[ek] at st
  exact Z9l (I.ok.hd hc) st fun h' kk=>⟨rfl,I.kept (t':=s.toks) kk⟩
 self:=fun _ _ _ _ _ st h=>Z7k st h
def Zo5 (K:PySem.W.Frag)(ta:TA):TI:=fun σ H R=>ta σ H fun vs H1=>∃a xs,vs = [.ref a]/\H1 a=some (.lst xs)/\R (Itv K a xs.length) H1
section
variable {X:Cx}
theorem Zl3 {tg:Expr}{a:Expr}{ta:TA}{p pos:Pos}(hg:Gl X "reversed")(hm:X.mg "reversed"=none)(ha:PA X [a] ta)(hs:starEach [a] X.env = [(false,eval a X.env)]:=by rfl) :
  PI X tg (.Call (.Name "reversed" p) [a] [] pos) (Zo5 X.K ta):=by
 intro pins s σ H R I h
 refine wpAny_Call_Name_kw (Z65 I hg hm (by decide +kernel:bootBuiltins "reversed"=some (.type "reversed")) ?_)
 refine PyProof.Rows.callWith_type1 (thn (ha pos pins s σ H _ I h) fun us s1 ⟨vs,H1,I1,r1,q1⟩ => ?_) hs (by rfl)
 obtain⟨l,xs,rfl,hl,hR⟩:=q1
 cases r1 with
 | cons r rr =>
  cases rr
  cases r
  obtain⟨_,its,n,rv,h1⟩:=(show ObjOk X.prog X.w H1 s1.heap l (.lst xs) from I1.hok l _ hl)
  refine Z88 h1 ?_
  have hlen:=rv.length
  have st:IsRevIter (s1.heap.push { cls:=Value.type "list_reverseiterator",data := .fields #[.ref l,rawInt ((its.toArray.size:Int)-1)] }) s1.heap.objs.size l ((xs.length:Int)-1-((0:Nat):Int)):=by
   refine⟨_,Heap.get?_push_size _ rfl,rfl,?_⟩
   rw[List.size_toArray,<- hlen]
   simp [rawInt]
  refine Z7k st ?_
  refine⟨s1.heap.objs.size,[s1.heap.objs.size],_,_,H1,rfl,I1.kept (t':=s1.toks) fun b o e=>Heap.get?_push_of_some _ e,Zgs l _ xs.length,st,fun b hb => ?_,hR⟩
  have e:b=s1.heap.objs.size:=by simpa using hb
  subst e
  exact I1.fpOk (Nat.le_refl _) (I1.hok.fresh (Nat.le_refl _))
end
end L2
namespace L2
open PySem PySem.Spec PyProof.Rows
theorem Zjb {K:PySem.W.Frag}{a:Addr}{xs:List V}{g:TG}{tb:TS}{D:Ends}{σ:St}{H:Hp}(Pv:Nat->St->Hp->Prop)(h0:Pv 0 σ H)(hl:∀i σ H,i<=xs.length->Pv i σ H->SqL K H a xs)
  (hs:∀i x σ H,i<xs.length->xs[xs.length-1-i]? = some x->Pv i σ H->g x σ H fun σ2 H2=>tb { D with nx:=Pv (i+1),ct:=Pv (i+1),bk:=D.nx } σ2 H2) (hd:∀ σ H,Pv xs.length σ H->D.nx σ H) :
  ∃W:Nat->Nat->St->Hp->Prop,(∃m,W 0 m σ H)/\∀i m σ H,W i m σ H →
   ((Itv K a xs.length).stop i H/\D.nx σ H)∨((Itv K a xs.length).go i H/\∃N:St->Hp->Prop,(∀ σ' H',N σ' H'->∃m',m'<m/\W (i+1) m' σ' H')/\∀x H',(Itv K a xs.length).yld i H x H'->g x σ H' fun σ2 H2=>tb { D with nx:=N,ct:=N,bk:=D.nx } σ2 H2):=by
 refine⟨fun i m σ H=>m=xs.length-i/\i<=xs.length/\Pv i σ H,⟨xs.length,by simp,Nat.zero_le _,h0⟩,?_⟩
 rintro i m σ H ⟨rfl,hi,p⟩
 have q:=hl i σ H hi p
 by_cases hlt:i<xs.length
 ·have hj:xs.length-1-i<xs.length:=by omega
  refine .inr ⟨⟨hlt,xs,xs[xs.length-1-i],q,List.getElem?_eq_getElem hj⟩,Pv (i+1),fun σ' H' p'=>⟨xs.length-(i+1),by omega,rfl,hlt,p'⟩,fun x H' y => ?_⟩
  obtain⟨e,y⟩:=y
  subst e
  exact hs i x σ _ hlt (y xs q) p
 ·have e:i=xs.length:=by omega
  subst e
  exact .inl ⟨rfl,hd σ H p⟩
theorem Zcr {xs:List V}{z:Int}(h0:0<=z)(h1:z.toNat<=xs.length):Z5v xs (some z) none=xs.drop z.toNat:=by
 have e:HT.sIx xs.length 0 (some z)=z.toNat:=by
  show(if z<0 then (z+(xs.length:Int)).toNat else min z.toNat xs.length)=_
  rw[if_neg (by omega)]
  omega
 unfold Z5v
 rw[e]
 show(xs.drop z.toNat).take (xs.length-z.toNat)=_
 rw[List.take_of_length_le (by rw[List.length_drop];omega)]
theorem Zbm {H:Hp}:∀(n:Nat) {vs:List V} {ts:List Th},IsThs H vs ts->IsThs H (vs.take n) (ts.take n)
 | 0,_,_,_=>by simp only [List.take_zero];exact .nil
 | _+1,_,_,.nil => .nil
 | n+1,_,_,.cons h r => .cons h (Zbm n r)
theorem Z62 {H:Hp}:∀(n:Nat) {vs:List V} {ts:List Th},IsThs H vs ts->IsThs H (vs.drop n) (ts.drop n)
 | 0,_,_,h=>h
 | _+1,_,_,.nil => .nil
 | n+1,_,_,.cons h r=>Z62 n r
section
variable {prog:Program}{w:World}{A:Around}{E:Value->Shared->Prop}{s:Shared}
theorem Zag {a n:Nat}(ha:a<=n):sliceBounds (some (a:Int)) none none n=((a:Int),(n:Int),1):=by
 simp only [sliceBounds,Option.getD_none]
 have h1:¬ ((a:Int)<0):=by omega
 simp only [h1,if_false,show(1:Int)>0 by decide,if_true]
 congr 1
 ·omega
theorem Zen:∀(xs:List Value) (b:Nat) (p:Nat->Bool) (a:Nat),(∀k,b<=k->k<b+xs.length->p k=decide (a<=k))->((xs.zipIdx b).filterMap fun x=>if p x.snd=true then none else some x.fst)=xs.take (a-b):=by
 intro xs
 induction xs with
 | nil=>intro b p a _;simp
 | cons x xs ih =>
  intro b p a h
  have h0:=h b (Nat.le_refl _) (by rw[List.length_cons];omega)
  have h1:=ih (b+1) p a (fun k h1 h2=>h k (by omega) (by rw[List.length_cons];omega))
  rw[List.zipIdx_cons]
  by_cases ha:a<=b
  ·rw[List.filterMap_cons_none (by simp [h0,ha]),h1,show a-(b+1)=0 by omega,show a-b=0 by omega]
   simp
  ·rw[List.filterMap_cons_some (b:=x) (by simp [h0,ha]),h1,show a-b=(a-(b+1))+1 by omega]
   simp
theorem Zeo (items:Array Value)(a:Nat)(p:Nat->Bool)(h:∀k,k<items.size->p k=decide (a<=k)):(items.toList.zipIdx.filterMap fun x=>if p x.snd=true then none else some x.fst).toArray=(items.toList.take a).toArray:=by
 rw[Zen items.toList 0 p a (fun k _ hk=>h k (by rw[Array.length_toList] at hk;omega)),Nat.sub_zero]
theorem Z8b {l sl:Addr}{items:Array Value}{n:Nat}{vl:Value}{a:Nat}{Q:Unit->Shared->Prop}
  (e:s.heap.get? l=some { cls := .type "list",data := .seq items n })
  (hs:s.heap.IsSliceOf sl vl .none .none) (pl:IsPart vl (some (a:Int))) (ha:a<=items.size)
  (hsz:items.size<=sizeLine) (h:∀f:Array Value->Array Value,f items=(items.toList.take a).toArray->Q () { s with heap:=s.heap.update l (Obj.mapSeq f) }) :
  wpAny (model prog w) A (delItem (.ref l) (.ref sl)) Q E s:=by
 have hl:s.heap.IsList l items:=PySem.IsL.isList e
 obtain⟨os,hos,hcs,hds⟩:=id hs
 have hTs:s.TypeIs (.ref sl) "slice":=⟨os,hos,hcs⟩
 have hstep:¬ ((rawPart none==rawInt 0)=true):=Bool.false_ne_true
 refine wpAny_delItem_slot hl.typeIs (by decide) PySem.F.slot_list_delitem (wpAny_call_entry PySem.F.slot_list_delitem hl.typeIs PySem.F.entry_list_delitem ?_ (PySem.F.args_list_delitem_2 _ _))
 show wpAny _ _ (Builtin.List.listSubscript? (.ref sl) >>= _) _ _ s
 refine wpAny_bind ?_
 unfold Builtin.List.listSubscript?
 refine wpAny_bind (wpAny_specialOf hTs slice_no_index ?_)
 simp only [Option.isNone_none,if_true]
 refine wpAny_pure ?_
 show wpAny _ _ (typeOf (.ref sl) >>= _) _ _ s
 refine wpAny_bind (wpAny_typeOf hTs ?_)
 first
  | rw[if_neg (by decide)]
  | refine PySem.W.KFB.if_not (by decide) ?_
 rw[listSliceParts_eq]
 refine wpAny_bind (wpAny_bind (wpAny_field hos hds (x := .none) rfl (wpAny_bind (wpAny_listPart .none ?_))))
 rw[if_neg hstep]
 refine wpAny_bind (wpAny_field hos hds (x:=vl) rfl (wpAny_bind (wpAny_listPart pl ?_)))
 refine wpAny_bind (wpAny_field hos hds (x := .none) rfl (wpAny_bind (wpAny_listPart .none (wpAny_pure ?_))))
 unfold Builtin.List.listItems
 refine wpAny_bind (wpAny_bind (wpAny_seqItems e rfl (wpAny_pure ?_)))
 refine wpAny_bind (wpAny_of_eq ((sliceIndices_raw (some (a:Int)) none none items.size (by simp)).trans (congrArg (pure:Int × Int × Int->Sem (Int × Int × Int)) (Zag ha))) ?_)
 refine wpAny_bind (wpAny_rule ?_)
 have key:∀k,k<items.size->(if (1:Int)>0 then decide ((a:Int)<=k)&&decide ((k:Int)<(items.size:Int))&&((k:Int)-a) % 1==0 else decide ((items.size:Int)<k)&&decide ((k:Int)<=a)&&((a:Int)-k) % (-1)==0)=decide (a<=k):=by
  intro k hk
  rw[if_pos (by decide)]
  have h1:decide ((k:Int)<(items.size:Int))=true:=decide_eq_true (by omega)
  have h2:(((k:Int)-a) % 1==0)=true:=by rw[Int.emod_one];rfl
  rw[h1,h2,Bool.and_true,Bool.and_true]
  exact decide_eq_decide.mpr (by omega)
 have key2:=Zeo items a _ key
 refine wpAny_bind (wpAny_updateSeq (hz:=hsz) (_hz' := ?_) e rfl ?_)
 ·refine wpAny_bind (wpAny_letGo ?_)
  first
   | exact wpAny_pure ⟨.none,rfl,h _ key2⟩
   | exact wpAny_bind (wpAny_pure (wpAny_pure ⟨.none,rfl,h _ key2⟩))
   | exact wpAny_bind (wpAny_pure (wpAny_pure ⟨.none,rfl,wpAny_pure (h _ key2)⟩))
 ·refine Nat.le_trans (Nat.le_of_eq (congrArg Array.size key2)) ?_
  rw[List.size_toArray,List.length_take,Array.length_toList]
  omega
end
section
variable {X:Cx}
theorem Zep {pins:List (Addr × Obj)}{s:Shared}{σ:St}{H:Hp}{l sl:Addr}{xs:List V}{a:Int}{vl:Value}{Q:Unit->Shared->Prop}(I:Inv X pins σ H s)
  (hH:H l=some (.lst xs)) (hs:s.heap.IsSliceOf sl vl .none .none) (ra:IsPart vl (some a)) (h0:0<=a) (hc:a<=xs.length)
  (h:∀s',Inv X pins σ (upd H l (.lst (xs.take a.toNat))) s'->Q () s') :
  wpAny (model X.prog X.w) X.A (delItem (.ref l) (.ref sl)) Q X.xe s:=by
 obtain⟨z,its,n,r,hl,e⟩:=I.lstM hH
 obtain⟨a',rfl⟩:=Int.eq_ofNat_of_zero_le h0
 simp only [Int.toNat_natCast] at h
 refine Z8b (a:=a') e hs ra (by rw[List.size_toArray];omega) (by rw[List.size_toArray];omega) (fun f hf=>h _ ?_)
 refine I.lset (its':=its.take a') (t':=s.toks) hH e hf (r.take _) ?_
 rw[List.length_take]
 omega
def Zgt (te:TE)(tl:TO):TS:=fun D σ H=>te σ H fun x H1=>tl σ H1 fun lo H2=>∃(l:Addr) (xs:List V) (a:Int),x = .ref l/\lo=some a/\H2 l=some (.lst xs)/\0<=a/\a<=xs.length/\D.nx σ (upd H2 l (.lst (xs.take a.toNat)))
theorem Zcs {o:Expr}{lo:Option Expr}{te:TE}{tl:TO}{p2 tpos pos:Pos}(ho:PE X o te)(hl:PO X lo tl):PS X (.Delete [.Subscript o (.Slice lo none none p2) tpos] pos) (Zgt te tl):=by
 intro pins s σ H D I h
 refine wpAny_Delete (wpAny_deleteEach_cons (wpAny_delete_Subscript (thn (ho pins s σ H _ I h) fun u s1 ⟨x,H1,I1,rx,q1⟩ => ?_)))
 refine wpAny_Slice (thn (hl pins s1 σ H1 _ I1 q1) fun vl s2 ⟨l,H2,I2,pl,q2⟩ => ?_)
 rw[evalPart_none]
 refine wpAny_pure (wpAny_pure ?_)
 obtain⟨la,xs,a,rfl,rfl,hH,h0,hc,q3⟩:=q2
 obtain rfl:u=Value.ref la:=rx
 have I4:Inv X pins σ H2 { s2 with heap:=s2.heap.push { cls := .type "slice",data := .fields #[vl,.none,.none] } }:=I2.kept (t':=s2.toks) fun b ob q=>Heap.get?_push_of_some _ q
 exact Zep I4 hH (Heap.IsSliceOf.new ..) pl h0 hc fun s5 I5=>wpAny_deleteEach_nil ⟨σ,_,I5,q3⟩
end
inductive NT (κ : Type) where
 | at (k : κ)
 | tup (xs:List (NT κ))
section
variable {κ : Type}[DecidableEq κ]
mutual
def Zah:NT κ -> NT κ -> Bool
 | .at a,.at b=>decide (a=b)
 | .tup xs,.tup ys=>Z5t xs ys
 | .at _,.tup _=>false
 | .tup _,.at _=>false
def Z5t:List (NT κ)->List (NT κ)->Bool
 | [],[]=>true
 | x::xs,y::ys=>Zah x y&&Z5t xs ys
 | [],_::_=>false
 | _::_,[]=>false
end
mutual
theorem Z53:∀x y:NT κ,Zah x y=true↔x=y
 | .at a,.at b=>by rw[Zah,decide_eq_true_iff];exact⟨fun h=>by rw[h],fun h=>by injection h⟩
 | .tup xs,.tup ys=>by rw[Zah,Z9m xs ys];exact⟨fun h=>by rw[h],fun h=>by injection h⟩
 | .at _,.tup _=>by rw[Zah];exact⟨fun h=>(by cases h),fun h=>(by cases h)⟩
 | .tup _,.at _=>by rw[Zah];exact⟨fun h=>(by cases h),fun h=>(by cases h)⟩
theorem Z9m:∀xs ys:List (NT κ),Z5t xs ys=true↔xs=ys
 | [],[]=>by rw[Z5t];exact⟨fun _=>rfl,fun _=>rfl⟩
 | x::xs,y::ys=>by rw[Z5t,Bool.and_eq_true,Z53 x y,Z9m xs ys,List.cons.injEq]
 | [],_::_=>by rw[Z5t];exact⟨fun h=>(by cases h),fun h=>(by cases h)⟩
 | _::_,[]=>by rw[Z5t];exact⟨fun h=>(by cases h),fun h=>(by cases h)⟩
end
instance ntDec:DecidableEq (NT κ):=fun x y=>decidable_of_iff _ (Z53 x y)
variable {prog:Program}{w:World}(knd:KeyKind prog w κ)
def IsN (h:Heap):Nat->NT κ -> Value->Prop
 | 0,.at k,v=>knd.is k v=true
 | 0,.tup _,_=>False
 | _+1,.at k,v=>knd.is k v=true
 | n+1,.tup xs,v=>∃(a:Addr) (o:Obj) (its:Array Value) (m:Nat),v = .ref a/\h.get? a=some o/\o.cls = .type "tuple"/\o.data = .seq its m/\Paired (IsN h n) xs its.toList
mutual
def Zct:NT κ -> Int
 | .at k=>knd.hash k
 | .tup xs=>reduceHash (Builtin.Tuple.tupleHashOf (Z33 xs))
def Z33:List (NT κ)->List Int
 | [] => []
 | x::xs=>Zct x::Z33 xs
end
mutual
def Zcu:NT κ -> Nat
 | .at _=>1
 | .tup xs=>Z3r xs+1
def Z3r:List (NT κ)->Nat
 | []=>0
 | x::xs=>Zcu x+Z3r xs
end
variable {knd}
theorem Z7l {h:Heap}{n:Nat}{k : κ}{v:Value}(x:IsN knd h n (.at k) v):knd.is k v=true:=by
 cases n with
 | zero=>exact x
 | succ n=>exact x
theorem Z7m:∀(xs ys:List (NT κ)),Z33 knd (xs++ys)=Z33 knd xs++Z33 knd ys
 | [],ys=>by rw[Z33];rfl
 | x::xs,ys=>by rw[List.cons_append,Z33,Z33,Z7m xs ys];rfl
theorem Z7n:∀(xs ys:List (NT κ)),Z3r (xs++ys)=Z3r xs+Z3r ys
 | [],ys=>by rw[Z3r,Nat.zero_add];rfl
 | x::xs,ys=>by rw[List.cons_append,Z3r,Z3r,Z7n xs ys,Nat.add_assoc]
theorem Zgu:∀(n:Nat) {A:Around} {E:Value->Shared->Prop} {s:Shared} {t:NT κ} {v:Value} {Q:Int->Shared->Prop},A.units+n<cLine->IsN knd s.heap n t v →
  Q (Zct knd t) { s with toks:=s.toks+Zcu t }->wpAny (model prog w) A (pyHash v) Q E s:=by
 intro n
 induction n with
 | zero =>
  intro A E s t v Q _ hk q
  cases t with
  | «at» k => exact knd.pyHash (Z7l hk) (by rw [Zct, Zcu] at q; exact q)
  | tup xs=>exact hk.elim
 | succ n ih =>
  intro A E s t v Q hu hk q
  cases t with
  | «at» k => exact knd.pyHash (Z7l hk) (by rw [Zct, Zcu] at q; exact q)
  | tup xs =>
   obtain⟨a,o,its,m,rfl,ho,hc,hd,hi⟩:=hk
   have hT:s.TypeIs (.ref a) "tuple":=⟨o,ho,hc⟩
   unfold pyHash
   first | unfold pyHashByItsType | skip
   first | refine wpAny_bind (wpAny_cRoomFor_or (.inr (by omega)) ?_) | skip
   refine wpAny_bind (wpAny_specialOf hT F.slot_tuple_hash.lookup ?_)
   show wpAny _ _ (if (some (Value.builtin "tuple.__hash__")==some Value.none)=true then _ else _) Q E s
   rw[if_neg (by rw[beq_builtin_none];decide)]
   refine wpAny_bind (wpAny_specialOf hT F.slot_tuple_hash.lookup ?_)
   show wpAny _ _ (callSpecialIfBoundUnlessNone? (.ref a) "__hash__" _ >>= _) Q E s
   refine wpAny_bind (wpAny_callSpecialIfBoundUnlessNone?_slot hT F.slot_tuple_hash (wpAny_call_entry F.slot_tuple_hash hT F.entry_tuple_hash ?_ (F.args_tuple_hash_1 _)))
   show wpAny _ A.in1 (Builtin.Tuple.tupleItemsOf (.ref a) >>= _) _ _ s
   refine wpAny_bind (wpAny_tupleItemsOf ho hd (wpAny_bind ?_))
   rw[<- Array.forIn_toList]
   refine wpAny_forIn_list _ (fun rest (b:Array Int) s'=>∃(ds ls:List (NT κ)),xs=ds++ls/\Paired (IsN knd s.heap n) ls rest/\b.toList=Z33 knd ds/\s'={ s with toks:=s.toks+Z3r ds }) _ ?_ ?_ _ _ ⟨[],xs,rfl,hi,by rw[Z33],by rw[Z3r];rfl⟩
   ·rintro x rest b s' ⟨ds,ls,rfl,hl,hb,rfl⟩
    cases hl with
    | @cons t1 _ ls' _ h1 hl' =>
     refine wpAny_bind (ih (A:=A.in1) (by show A.units+1+n<cLine;omega) h1 ?_)
     exact wpAny_pure ⟨ds ++ [t1],ls',by simp,hl',by rw[Array.toList_push,hb,Z7m,Z33,Z33],by rw[Z7n,Z3r,Z3r];simp [Nat.add_assoc]⟩
   ·rintro b s' ⟨ds,ls,rfl,hl,hb,rfl⟩
    cases hl
    rw[List.append_nil,Zct,Zcu] at q
    show wpAny _ _ (retInt (Builtin.Tuple.tupleHashOf b.toList)) _ _ _
    rw[hb]
    refine wpAny_ret_mkInt ?_
    unfold reduceHash at q
    by_cases hr:(decide (-(2:Int) ^ 63<=Builtin.Tuple.tupleHashOf (Z33 knd ds))&&decide (Builtin.Tuple.tupleHashOf (Z33 knd ds)<2 ^ 63))=true
    ·rw[if_pos hr] at q
     show wpAny _ _ (if _ then _ else _) Q E _
     rw[if_pos hr]
     exact wpAny_pure (by simpa [Nat.add_assoc] using q)
    ·rw[if_neg hr] at q
     show wpAny _ _ (if _ then _ else _) Q E _
     rw[if_neg hr]
     exact wpAny_bind (wpAny_rule (wpAny_pure (by simpa [Nat.add_assoc] using q)))
theorem Zeq {h:Heap}:∀(n:Nat) {x y:NT κ} {v:Value},IsN knd h n x v->IsN knd h n y v->x=y:=by
 intro n
 induction n with
 | zero =>
  intro x y v hx hy
  cases x with
  | tup xs=>exact hx.elim
  | «at» k =>
   cases y with
   | tup ys=>exact hy.elim
   | «at» k' => rw [knd.inj v k k' hx hy]
 | succ n ih =>
  intro x y v hx hy
  have ihs:∀{xs ys:List (NT κ)} {vs:List Value},Paired (IsN knd h n) xs vs->Paired (IsN knd h n) ys vs->xs=ys:=by
   intro xs ys vs p
   induction p generalizing ys with
   | nil=>intro q;cases q;rfl
   | cons h1 _ ihp =>
    intro q
    cases q with
    | cons h2 q2=>rw[ih h1 h2,ihp q2]
  cases x with
  | «at» k =>
   cases y with
   | «at» k' => rw [knd.inj v k k' hx hy]
   | tup ys =>
    obtain⟨a,o,its,m,rfl,_⟩:=hy
    have:=knd.byValue _ _ hx
    cases this
  | tup xs =>
   obtain⟨a,o,its,m,rfl,ho,hc,hd,hi⟩:=hx
   cases y with
   | «at» k' =>
    have:=knd.byValue _ _ hy
    cases this
   | tup ys =>
    obtain⟨b,o2,its2,m2,e,ho2,_,hd2,hi2⟩:=hy
    cases e
    rw[ho] at ho2
    cases ho2
    rw[hd] at hd2
    cases hd2
    rw[ihs hi hi2]
theorem Zer {h h':Heap}{d:Addr}{o:Obj}{es:Array DictEntry}{ep:Nat}(ho:h.get? d=some o)(hd:o.data = .dict es ep)(hs:Heap.SameBut d h h'):∀(n:Nat) {t:NT κ} {v:Value},IsN knd h n t v->IsN knd h' n t v:=by
 intro n
 induction n with
 | zero =>
  intro t v x
  cases t with
  | «at» k => exact x
  | tup xs=>exact x.elim
 | succ n ih =>
  intro t v x
  cases t with
  | «at» k => exact x
  | tup xs =>
   obtain⟨a,o',its,m,e,ho',hc,hd',hi⟩:=x
   have hne:a≠d:=fun z=>by
    subst z
    rw[ho] at ho'
    cases ho'
    rw[hd] at hd'
    cases hd'
   exact⟨a,o',its,m,e,(hs.2 a hne).trans ho',hc,hd',Paired.mapP hi fun _ _ z=>ih z⟩
theorem Zes:∀(n g:Nat) {A:Around} {E:Value->Shared->Prop} {s:Shared} {t:NT κ} {v:Value} {Q:Bool->Shared->Prop},n<=g->IsN knd s.heap n t v->Q true s->wpAny (model prog w) A (eqIsQuiet g v) Q E s:=by
 intro n
 induction n with
 | zero =>
  intro g A E s t v Q _ hk q
  cases t with
  | tup xs=>exact hk.elim
  | «at» k => rw [eqIsQuiet_byValue _ (knd.byValue _ _ (Z7l hk))]; exact wpAny_pure q
 | succ n ih =>
  intro g A E s t v Q hg hk q
  cases t with
  | «at» k => rw [eqIsQuiet_byValue _ (knd.byValue _ _ (Z7l hk))]; exact wpAny_pure q
  | tup xs =>
   obtain⟨a,o,its,m,rfl,ho,hc,hd,hi⟩:=hk
   have hT:s.TypeIs (.ref a) "tuple":=⟨o,ho,hc⟩
   cases g with
   | zero=>omega
   | succ g =>
    unfold eqIsQuiet
    refine wpAny_bind (wpAny_specialOf hT F.slot_tuple_eq.lookup ?_)
    show wpAny _ _ (isInstance (.ref a) (.type "tuple") >>= _) _ _ s
    refine wpAny_bind (wpAny_isInstance hT isSubtype_tuple_tuple ?_)
    simp only [Bool.not_true,Bool.false_eq_true,if_false]
    refine wpAny_bind (wpAny_seqItems ho hd (wpAny_bind ?_))
    show wpAny _ _ (forIn its _ _) _ _ s
    rw[<- Array.forIn_toList]
    refine wpAny_forIn_list _ (fun rest r s'=>r.1=none/\s'=s/\∃ls,Paired (IsN knd s.heap n) ls rest) _ ?_ ?_ _ _ ⟨rfl,rfl,xs,hi⟩
    ·rintro x rest r s' ⟨e1,rfl,ls,hl⟩
     cases hl with
     | cons h1 hl' =>
      refine wpAny_bind (ih g (by omega) h1 ?_)
      simp only [Bool.not_true,Bool.false_eq_true,if_false]
      exact wpAny_pure ⟨rfl,rfl,_,hl'⟩
    ·rintro⟨r1,r2⟩ s' ⟨e1,rfl,_⟩
     simp only at e1
     subst e1
     exact wpAny_pure q
end
theorem Zl4 (x y:NT Key):decide (x=y)=Zah x y:=by
 cases e:Zah x y with
 | true=>exact decide_eq_true ((Z53 x y).mp e)
 | false=>exact decide_eq_false fun z=>by rw[(Z53 x y).mpr z] at e;cases e
theorem Zet:∀(ts us:List (NT Key)),((List.range (min ts.length us.length)).all (fun j=>Zah (ts.getD j (.tup [])) (us.getD j (.tup [])))&&ts.length==us.length)=Z5t ts us
 | [],[]=>by unfold Z5t;rfl
 | [],_::_=>by unfold Z5t;simp
 | _::_,[]=>by unfold Z5t;simp
 | t::ts,u::us=>by
  have ih:=Zet ts us
  unfold Z5t
  rw[<- ih]
  simp only [List.length_cons,Nat.add_min_add_right,List.range_succ_eq_map,List.all_cons,List.all_map,Bool.and_assoc]
  simp [Function.comp_def]
theorem Zeu {α β : Type}{F : α -> β -> Prop}:∀{xs:List α} {ys:List β},Paired F xs ys->∀(j:Nat) (d : α) (h:j<ys.length),j<xs.length/\F (xs.getD j d) ys[j]
 | _,_,.nil,j,d,h=>by cases h
 | _,_,.cons h1 _,0,d,h=>⟨by simp,by simpa using h1⟩
 | _,_,.cons _ r,j+1,d,h=>by
  obtain⟨a,b⟩:=Zeu r j d (by simpa using h)
  exact⟨by simpa using a,by simpa using b⟩
theorem Zbn {α β : Type}{F : α -> β -> Prop}:∀{xs:List α} {ys:List β},Paired F xs ys->xs.length=ys.length
 | _,_,.nil=>rfl
 | _,_,.cons _ r=>congrArg (· + 1) (Zbn r)
section
variable {prog:Program}{w:World}
theorem Zl5 {s:Shared}:∀(n:Nat) (A:Around),A.units+n<cLine->∀{x y:NT Key} {u v:Value},IsN (Z0v prog w) s.heap n x u->IsN (Z0v prog w) s.heap n y v->SeqAt.EqAt A s u v (Zah x y):=by
 have at_at:∀(A:Around) {a b:Key} {u v:Value},(Z0v prog w).is a u=true->(Z0v prog w).is b v=true->SeqAt.EqAt A s u v (Zah (.at a) (.at b)):=fun A a b u v ha hb prog' w' E Q q=>by
  rw[Zah] at q
  exact(Z0v prog' w').eqBool (a:=a) (b:=b) ha hb q
 intro n
 induction n with
 | zero =>
  intro A hu x y u v hx hy
  cases x with
  | tup xs=>exact hx.elim
  | «at» a =>
   cases y with
   | tup ys=>exact hy.elim
   | «at» b => exact at_at A hx hy
 | succ n ih =>
  intro A hu x y u v hx hy
  have hu0:A.units<cLine:=by omega
  cases x with
  | «at» a =>
   cases y with
   | «at» b => exact at_at A hx hy
   | tup ys =>
    obtain⟨l,o,its,m,rfl,ho,hc,hd,hi⟩:=hy
    rw[Zah]
    rcases Z16 (Z7l hx) with ⟨i,t,rfl,rfl⟩ | ⟨z,t,rfl,rfl⟩
    ·exact SeqAt.EqAt.int_tuple i t ⟨o,ho,hc,m,hd⟩ hu0
    ·exact SeqAt.EqAt.str_tuple z t ⟨o,ho,hc,m,hd⟩ hu0
  | tup xs =>
   obtain⟨l,o,its,m,rfl,ho,hc,hd,hi⟩:=hx
   cases y with
   | «at» b =>
    rw[Zah]
    rcases Z16 (Z7l hy) with ⟨i,t,rfl,rfl⟩ | ⟨z,t,rfl,rfl⟩
    ·exact SeqAt.EqAt.tuple_int i t ⟨o,ho,hc,m,hd⟩ hu0
    ·exact SeqAt.EqAt.tuple_str z t ⟨o,ho,hc,m,hd⟩ hu0
   | tup ys =>
    obtain⟨l2,o2,its2,m2,rfl,ho2,hc2,hd2,hi2⟩:=hy
    by_cases hab:l=l2
    ·subst hab
     have e:NT.tup xs=NT.tup ys:=Zeq (knd:=Z0v prog w) (n+1) ⟨l,o,its,m,rfl,ho,hc,hd,hi⟩ ⟨l,o2,its2,m2,rfl,ho2,hc2,hd2,hi2⟩
     rw[(Z53 _ _).mpr e]
     exact SeqAt.EqAt.same _
    ·have e:=Zet xs ys
     have l1:=Zbn hi
     have l2':=Zbn hi2
     have l1:xs.length=its.size:=l1.trans Array.length_toList
     have l2':ys.length=its2.size:=l2'.trans Array.length_toList
     rw[l1,l2'] at e
     rw[Zah,<- e]
     refine SeqAt.EqAt.of_refs hab (SeqAt.RcAt.tuples ⟨o,ho,hc,m,hd⟩ ⟨o2,ho2,hc2,m2,hd2⟩ hu0 fun j h1 h2 => ?_)
     have g1:=(Zeu hi j (.tup []) (by rw[Array.length_toList];exact h1)).2
     have g2:=(Zeu hi2 j (.tup []) (by rw[Array.length_toList];exact h2)).2
     rw[Array.getElem_toList] at g1 g2
     exact ih A.in1 (by show A.units+1+n<cLine;omega) g1 g2
end
def Zgv (prog:Program)(w:World)(n:Nat)(hn:n<=8):HeapKind prog w (NT Key) where
 is:=fun h t a=>IsN (Z0v prog w) h n t (.ref a)
 hash:=Zct (Z0v prog w)
 draws:=Zcu
 room:=fun A=>A.units+n<cLine
 inj:=fun hx hy=>Zeq n hx hy
 keeps:=fun x ho hd hs=>Zer ho hd hs n x
 pyHash:=fun hu hk h=>Zgu n hu hk h
 eqBool:=fun hu hx hy h=>Zl5 n _ hu hx hy _ _ _ _ (by rw[Zl4] at h;exact h)
 quiet:=fun hk h=>Zes n 8 hn hk h
section
variable {prog:Program}{w:World}{κ : Type}[DecidableEq κ]{knd:HeapKind prog w κ}{A:Around}{E:Value->Shared->Prop}{s:Shared}
theorem Zgw {d a:Addr}{xs:List (κ × Addr × Value)}{k : κ}{v:Value}{Q:Value->Shared->Prop}(hu:knd.room A)(hkey:knd.is s.heap k a)(hm:s.heap.DictOfH knd d xs)(hsz:xs.length<=sizeLine)
  (h1:∀p,atKey xs k=some p->Q p.2 { s with toks:=s.toks+knd.draws k })
  (h2:atKey xs k=none->∀h',h'.DictOfH knd d (xs ++ [(k,a,v)])->Heap.SameBut d s.heap h'->Q v { s with heap:=h',toks:=s.toks+knd.draws k }) :
  wpAny (model prog w) A (dictSetDefault d (.ref a) v) Q E s:=by
 obtain⟨o,es,ep,ho,hc,hd,he,his,hn⟩:=hm
 unfold dictSetDefault
 try with_reducible refine wpAny_holding ?_
 refine wpAny_bind (knd.pyHash hu hkey (wpAny_bind (wpAny_dictFind_heap (s:={ s with toks:=s.toks+knd.draws k }) hu hkey ho hd he his hn (fun hno => ?_) fun j p hj => ?_)))
 ·have e0:=atKey_none_of_get hno
  have hnot:k∉xs.map (·.1):=not_mem_keys_of_get hno
  refine wpAny_bind (wpAny_rule (wpAny_bind (wpAny_updateDictKeys (hz:=by have e:=size_of_entries he;omega) (s:={ s with toks:=s.toks+knd.draws k }) ho hd (wpAny_pure (h2 e0 _ ⟨_,_,ep+1,Heap.get?_update_self _ ho (Obj.isFreed_of_dict (Obj.data_mapDictKeys hd _)),hc.mapDictKeys _,Obj.data_mapDictKeys hd _,?_,?_,?_⟩ (Heap.SameBut.update ..))))))
  ·simp [he,entryOfKey]
  ·intro x hx
   rcases List.mem_append.mp hx with z | z
   ·exact knd.keeps (his x z) ho hd (Heap.SameBut.update ..)
   ·rw[List.mem_singleton] at z
    subst z
    exact knd.keeps hkey ho hd (Heap.SameBut.update ..)
  ·rw[List.map_append,List.nodup_append]
   refine⟨hn,by simp,fun x hx y hy z => ?_⟩
   rw[List.map_cons,List.map_nil,List.mem_singleton] at hy
   subst hy
   subst z
   exact hnot hx
 ·have e1:=atKey_of_get hn hj
  refine wpAny_bind (wpAny_dictEntries (s:={ s with toks:=s.toks+knd.draws k }) ho hd ?_)
  rw[entry_at he j,hj]
  exact wpAny_bind (wpAny_rule (wpAny_pure (h1 p e1)))
theorem Zai (knd:HeapKind prog w κ)(d a:Addr)(hd:(d==sysModules)=false)(v:Value) :
  MeetsIn prog w (Builtin.«dict.setdefault» ⟨[.ref d, .ref a, v], []⟩) (fun A R s => knd.room A.in1 /\ ∃ k xs, knd.is s.heap k a /\ s.heap.DictOfH knd d xs /\ xs.length <= sizeLine ∧
   (∀p,atKey xs k=some p->R (.ok (.ret p.2)) { s with toks:=s.toks+knd.draws k }) ∧
   (atKey xs k=none->∀h',h'.DictOfH knd d (xs ++ [(k,a,v)])->Heap.SameBut d s.heap h'->R (.ok (.ret v)) { s with heap:=h',toks:=s.toks+knd.draws k })) :=
 .of_wp fun A R s ⟨hu,k,xs,hkey,hm,hz,h1,h2⟩=>by
  unfold Builtin.«dict.setdefault»
  refine wpAny_bind ?_
  unfold Builtin.Dict.keyAndDefault
  refine wpAny_bind (wpAny_notOrdered_dict hm.typeIs ?_)
  show wpAny _ _ (pure (d,Value.ref a,some v)) _ _ s
  refine wpAny_pure ?_
  show wpAny _ _ (if (d==sysModules)=true then _ else (dictSetDefault d (.ref a) v >>= _)) _ _ s
  rw[if_neg (by rw[hd];decide)]
  exact wpAny_bind (Zgw hu hkey hm hz (fun p hp=>wpAny_pure ⟨_,rfl,h1 p hp⟩) fun hn h' hm' hs'=>wpAny_pure ⟨v,rfl,h2 hn h' hm' hs'⟩)
end
mutual
def ntT:NT Key->Th
 | .at k => .at (kV k)
 | .tup xs => .tup (Zgx xs)
def Zgx:List (NT Key)->List Th
 | [] => []
 | x::xs=>ntT x::Zgx xs
end
section
variable {P:Program}{w:World}{H:Hp}{h:Heap}
theorem Zhs (ok:HOk P w H h):∀(n:Nat) {t:NT Key} {v:V} {u:Value},IsTh H v (ntT t)->dp (ntT t)<=n->RelV v u->IsN (Z0v P w) h n t u:=by
 intro n
 induction n with
 | zero =>
  intro t v u ht hd r
  cases t with
  | «at» k => rw [ntT] at ht; obtain ⟨rfl, _⟩ := Z4a ht; exact Z9y r
  | tup xs=>rw[ntT,dp] at hd;omega
 | succ n ih =>
  intro t v u ht hd r
  cases t with
  | «at» k => rw [ntT] at ht; obtain ⟨rfl, _⟩ := Z4a ht; exact Z9y r
  | tup xs =>
   rw[ntT] at ht hd
   obtain⟨a,vs,rfl,ha,hvs⟩:=Z1i ht
   obtain⟨_,its,rv,o,h1,h2,m,h3⟩:=(show ObjOk P w H h a (.tup vs) from ok a _ ha)
   cases r
   rw[dp] at hd
   have ihs:∀{xs:List (NT Key)} {vs:List V} {us:List Value},IsThs H vs (Zgx xs)->dps (Zgx xs)<=n->Vals vs us->Paired (IsN (Z0v P w) h n) xs us:=by
    intro xs
    induction xs with
    | nil =>
     intro vs us p _ q
     rw[Zgx] at p
     cases p
     cases q
     exact .nil
    | cons x xs ihx =>
     intro vs us p hd q
     rw[Zgx] at p hd
     rw[dps] at hd
     cases p with
     | cons p1 p2 =>
      cases q with
      | cons q1 q2=>exact .cons (ih p1 (by omega) q1) (ihx p2 (by omega) q2)
   exact⟨a,o,its.toArray,m,rfl,h1,h2,h3,ihs hvs (by omega) rv⟩
end
def nK (P:Program)(w:World):HeapKind P w (NT Key):=Zgv P w 6 (by decide)
def Zjc (p:NT Key × Addr × V)(q:NT Key × Addr × Value):Prop:=p.1=q.1/\p.2.1=q.2.1/\RelV p.2.2 q.2.2
def NtP (P:Program)(w:World)(a:Addr)(kvs:List (NT Key × Addr × V))(h:Heap):Prop:=(a==sysModules)=false/\kvs.length<=sizeLine/\∃xs:List (NT Key × Addr × Value),Paired Zjc kvs xs ∧
 ∃o es ep,h.get? a=some o/\o.ExactDict/\o.data = .dict es ep/\es.toList=xs.map (entryOfKey (nK P w))/\(xs.map (·.1)).Nodup
def ntO (P:Program)(w:World)(a:Addr)(kvs:List (NT Key × Addr × V)):HO := .ext (NtP P w a kvs)
def NtK (H:Hp)(kvs:List (NT Key × Addr × V)):Prop:=∀p∈kvs,IsTh H (.ref p.2.1) (ntT p.1)/\dp (ntT p.1)<=6
def Z74 (kvs:List (NT Key × Addr × V))(t:NT Key):Option V:=(kvs.find? fun p=>decide (p.1=t)).map (·.2.2)
theorem Zgy {P:Program}{w:World}{a:Addr}{kvs:List (NT Key × Addr × V)}(h1 h2:Heap)(x:NtP P w a kvs h1)(k:∀o,h1.get? a=some o->h2.get? a=some o):NtP P w a kvs h2 :=
 let ⟨y,z,xs,r,o,es,ep,e,c⟩:=x
 ⟨y,z,xs,r,o,es,ep,k o e,c⟩
theorem Zl6 {P:Program}{w:World}{H:Hp}{h:Heap}{a:Addr}{kvs:List (NT Key × Addr × V)}(x:NtP P w a kvs h):ObjOk P w H h a (ntO P w a kvs):=by
 refine⟨x,?_,Zgy⟩
 obtain⟨_,_,_,_,o,_,_,e,_⟩:=x
 exact⟨o,e⟩
theorem Zjd {P:Program}{w:World}{H:Hp}{h:Heap}{a:Addr}{kvs:List (NT Key × Addr × V)}(ok:HOk P w H h)(e:H a=some (ntO P w a kvs)):NtP P w a kvs h :=
 (show NtP P w a kvs h/\_ from ok a _ e).1
theorem Zht {α β : Type}{F : α -> β -> Prop}:∀{xs:List α} {ys:List β},Paired F xs ys->∀y∈ys,∃x∈xs,F x y
 | _,_,.nil,y,hy=>by cases hy
 | _,_,.cons h1 r,y,hy=>by
  rcases List.mem_cons.mp hy with z | z
  ·subst z;exact⟨_,List.mem_cons_self ..,h1⟩
  ·obtain⟨x,hx,hf⟩:=Zht r y z
   exact⟨x,List.mem_cons_of_mem _ hx,hf⟩
theorem Zje {P:Program}{w:World}{H:Hp}{h:Heap}{a:Addr}{kvs:List (NT Key × Addr × V)}(ok:HOk P w H h)(e:H a=some (ntO P w a kvs))(hk:NtK H kvs):∃xs,Paired Zjc kvs xs/\h.DictOfH (nK P w) a xs:=by
 obtain⟨_,_,xs,r,o,es,ep,h1,h2,h3,h4,h5⟩:=Zjd ok e
 refine⟨xs,r,o,es,ep,h1,h2,h3,h4,fun x hx => ?_,h5⟩
 obtain⟨p,hp,e1,e2,_⟩:=Zht r x hx
 obtain⟨g1,g2⟩:=hk p hp
 rw[e1,e2] at g1
 rw[e1] at g2
 exact Zhs ok 6 g1 g2 rfl
theorem Zhu:∀{kvs:List (NT Key × Addr × V)} {xs:List (NT Key × Addr × Value)},Paired Zjc kvs xs->∀t,RelO (Z74 kvs t) ((atKey xs t).map (·.2))
 | _,_,.nil,t=>by unfold Z74 atKey;exact trivial
 | _,_,.cons (a:=p) (b:=q) h1 r,t=>by
  obtain⟨e1,e2,e3⟩:=h1
  have ih:=Zhu r t
  unfold Z74 atKey at ih ⊢
  rw[List.find?_cons,List.find?_cons,e1]
  by_cases hq:q.1=t
  ·rw[decide_eq_true hq];exact e3
  ·rw[decide_eq_false hq];exact ih
theorem Zev {α β : Type}{F : α -> β -> Prop}{x : α}{y : β}:∀{xs:List α} {ys:List β},Paired F xs ys->F x y->Paired F (xs ++ [x]) (ys ++ [y])
 | _,_,.nil,h => .cons h .nil
 | _,_,.cons h1 r,h => .cons h1 (Zev r h)
def Zl7 (P:Program)(w:World):TE:=fun _ H Q=>∀p,H p=none->Q (.ref p) (upd H p (ntO P w p []))
def Zl8 (P:Program)(w:World)(td ty tx:TE):TE:=fun σ H Q=>td σ H fun x H1=>∃a kvs0,x = .ref a/\H1 a=some (ntO P w a kvs0)/\ty σ H1 fun y H2=>tx σ H2 fun z H3=>∃kvs t b,H3 a=some (ntO P w a kvs)/\y = .ref b ∧
 IsTh H3 (.ref b) (ntT t)/\dp (ntT t)<=6/\NtK H3 kvs/\kvs.length<sizeLine/\(∀v,Z74 kvs t=some v->Q v H3)/\(Z74 kvs t=none->Q z (upd H3 a (ntO P w a (kvs ++ [(t,b,z)]))))
section
variable {X:Cx}{o e f:Expr}{pos apos cpos:Pos}{td ty tx:TE}
theorem Zgz:PE X (.Dict [] [] pos) (Zl7 X.prog X.w):=fun pins s σ H Q I h =>
 wpAny_Dict_empty ⟨.ref s.heap.objs.size,_,I.laid (a:=s.heap.objs.size) (o:=ntO X.prog X.w s.heap.objs.size []) (t':=s.toks) (fun _ _ q=>Heap.get?_push_of_some _ q) (Nat.le_refl _)
  (Zl6 ⟨beq_eq_false_iff_ne.mpr (Ne.symm (Nat.ne_of_lt I.big)),Nat.zero_le _,[],.nil,_,#[],0,Heap.get?_push_size _ rfl,⟨rfl,rfl,rfl⟩,rfl,rfl,List.nodup_nil⟩),rfl,h _ (I.hok.fresh (Nat.le_refl _))⟩
theorem Zh0 (hu:X.A.units+7<cLine)(ho:PE X o td)(he:PE X e ty)(hf:PE X f tx)(m:M2 X o "setdefault" apos e f cpos):PE X (.Call (.Attribute o "setdefault" apos) [e,f] [] cpos) (Zl8 X.prog X.w td ty tx):=by
 intro pins s σ H Q I h
 refine wpAny_Call_method m.base m.few m.line PySem.F.plainAttrs_dict PySem.F.slot_dict_setdefault PySem.F.type_dict_setdefault (thn (ho pins s σ H _ I h) fun u s1 ⟨x,H1,I1,rx,a,kvs0,ex,ea1,q1⟩ => ?_)
 subst ex
 obtain rfl:u=Value.ref a:=rx
 have x1:=Zjd I1.hok ea1
 have t12:s1.TypeIs (.ref a) "dict"/\∀b,Value.ref a = .ref b->∃ob,s1.heap.get? b=some ob/\ob.dict=none:=by
  obtain⟨_,_,_,_,ob,_,_,g1,g2,_⟩:=x1
  exact⟨⟨ob,g1,g2.1⟩,fun b q=>by cases q;exact⟨ob,g1,g2.2.1⟩⟩
 refine⟨t12.1,t12.2,?_⟩
 rw[m.trees]
 refine Calls.callWith_builtin rfl (Calls.evalArgs_plain (Calls.spliced_cons (thn (he pins s1 σ H1 _ I1 q1) fun iv s2 ⟨y,H2,I2,ry,q2⟩ =>
  Calls.spliced_cons (thn (hf pins s2 σ H2 _ I2 q2) fun fv s3 ⟨z,H3,I3,rz,kvs,t,b,ea,ey,ht,hdt,hK,hl,q3,q4⟩=>Calls.spliced_nil ?_))))
 subst ey
 obtain rfl:iv=Value.ref b:=ry
 obtain⟨hd,hz,_⟩:=Zjd I3.hok ea
 obtain⟨xs,rel,dd⟩:=Zje I3.hok ea hK
 have hlx:kvs.length=xs.length:=Zbn rel
 have hg:=Zhu rel t
 have key:(nK X.prog X.w).is s3.heap t b:=Zhs I3.hok 6 ht hdt rfl
 refine call_meetsIn PySem.F.slot_dict_setdefault dd.typeIs PySem.F.entry_dict_setdefault (PySem.F.args_dict_setdefault_3 _ _ _) (Zai (nK X.prog X.w) a b hd fv) ⟨(by show X.A.units+1+6<cLine;omega),t,xs,key,dd,by omega,fun p hp => ?_,fun hn h' dd' hs => ?_⟩
 ·rw[hp] at hg
  cases g:Z74 kvs t with
  | none=>rw[g] at hg;exact hg.elim
  | some v =>
   rw[g] at hg
   exact⟨v,H3,I3.tok _,hg,q3 v g⟩
 ·rw[hn] at hg
  cases g:Z74 kvs t with
  | some v=>rw[g] at hg;exact hg.elim
  | none =>
   obtain⟨ob,es,ep,g1,g2,g3,g4,_,g5⟩:=dd'
   exact⟨z,_,I3.write (x:=a) (e:=a) (by rw[ea];exact True.intro) (.inl rfl) (fun c q hb z=>(hs.2 c hb).trans z) ⟨ob,g1⟩ (Zl6 ⟨hd,by rw[List.length_append,List.length_singleton];omega,_,Zev rel ⟨rfl,rfl,rz⟩,ob,es,ep,g1,g2,g3,g4,g5⟩),rz,q4 g⟩
end
end L2
namespace K20
open PySem L2
def TO (H:Hp):Hp:=fun c=>match H c with
 | some (.tup vs)=>some (.tup vs)
 | _=>none
theorem Z75 {H:Hp}{c:Addr}{vs:List V}(h:H c=some (.tup vs)):TO H c=some (.tup vs):=by
 unfold TO;rw[h]
theorem Z5p {H:Hp}{c:Addr}{o:HO}(h:TO H c=some o):H c=some o/\∃vs,o = .tup vs:=by
 unfold TO at h
 split at h
 ·next vs e=>cases h;exact⟨e,_,rfl⟩
 ·cases h
theorem to_sub {H:Hp}:Same (TO H) H:=fun _ _ e=>(Z5p e).1
theorem Z2n {H H':Hp}(s:Same H H'):Same (TO H) (TO H'):=fun c o e=>by
 obtain⟨h,vs,rfl⟩:=Z5p e
 exact Z75 (s _ _ h)
theorem Z4e {H:Hp}{a:Addr}{xs:List V}{o:HO}(h:H a=some (.lst xs)):Same (TO H) (TO (upd H a o)):=fun c u e=>by
 obtain⟨h1,vs,rfl⟩:=Z5p e
 refine Z75 ?_
 rw[Z08 (Z1b h1 h (by intro q;cases q))]
 exact h1
def bst:Th->List Th->Option (List Th)
 | .tup [.tup ls,.at (.int m)],D=>if m.toNat<=D.length then some (D.take (D.length-m.toNat) ++ [.tup (ls++(D.drop (D.length-m.toNat)).reverse)]) else none
 | _,_=>none
def Zcv (R:List Th)(x:Option (List Th)):Option (List Th):=R.foldr (fun row acc=>acc.bind (bst row)) x
theorem Zbo (A B:List Th)(x:Option (List Th)):Zcv (A++B) x=Zcv A (Zcv B x):=by
 unfold Zcv;rw[List.foldr_append]
theorem Z6u (a:Th)(B:List Th)(x:Option (List Th)):Zcv (a::B) x=(Zcv B x).bind (bst a):=rfl
theorem Zew:∀{A:List Th} {x:Option (List Th)} {D:List Th},Zcv A x=some D->∃D',x=some D':=by
 intro A
 induction A with
 | nil=>intro x D h;exact⟨D,h⟩
 | cons a A ih =>
  intro x D h
  rw[Z6u] at h
  obtain⟨D1,h1,_⟩:=Option.bind_eq_some_iff.mp h
  exact ih h1
theorem Zjf (ls D K:List Th)(m:Nat)(hm:K.length=m):bst (.tup [.tup ls,.at (.int (m:Nat))]) (D++K.reverse)=some (D ++ [.tup (ls++K)]):=by
 unfold bst
 dsimp only
 rw[Int.toNat_natCast,List.length_append,List.length_reverse,hm,if_pos (by omega),show D.length+m-m=D.length by omega,List.take_left,List.drop_left,List.reverse_reverse]
mutual
theorem Z54 {H:Hp}:∀{v:V} {t:Th},IsTh H v t->plT t=true->IsTh (TO H) v t
 | _,_,.at f,_ => .at f
 | _,_,.tup e r,p=>by
  rw[plT] at p
  exact .tup (Z75 e) (Z4h r p)
 | _,_,.lst e r,p=>by rw[plT] at p;cases p
theorem Z4h {H:Hp}:∀{vs:List V} {ts:List Th},IsThs H vs ts->Z24 ts=true->IsThs (TO H) vs ts
 | _,_,.nil,_ => .nil
 | _,_,.cons e r,p=>by
  rw[Z24,Bool.and_eq_true] at p
  exact .cons (Z54 e p.1) (Z4h r p.2)
end
def Zn0 (r:Th):Prop:=∃(ls:List Th) (m:Nat),r = .tup [.tup ls,.at (.int (m:Nat))]/\m<=6/\ls.length<=1000/\Z24 ls=true
inductive spBuilt (vs:List V)(H:Hp)(Q:VK)(E_3:XK):Prop
 | mk (ra:Addr) (ws:List V) (R:List Th) (u:Th) (_:vs = [.ref ra]) (_:H ra=some (.lst ws)) (_:IsThs H ws R) (_:(∀r∈R,Zn0 r)) (_:Zcv R (some [])=some [u]) (_:R.length<=100000) (_:∀(v:V) H',Same H H'->IsTh H' v u->Q v H'):spBuilt vs H Q E_3
theorem Zaj {r:Th}(h:Zn0 r):plT r=true:=by
 obtain⟨ls,m,rfl,_,_,hp⟩:=h
 simp [plT,Z24,hp]
section
variable {P:Program}{w:World}{K:PySem.W.Frag}{mg:Str->Option Value}{base:Heap}
theorem scBuilt:FnScope ["rows","done","lead","many","start","inner"] ["rows"] (Z05 Z9a):=⟨rfl,rfl,rfl,by decide +kernel,rfl,by decide +kernel,by decide +kernel⟩
theorem Zh1 {f:Addr}{fd:FuncData}(F:Fun K "built" "built" Z9a f fd)(T:TxtT mg)(hrev:mg "reversed"=none):FnOk P w K mg base CX0 1 f fd ["rows"] spBuilt:=by
 refine F.ok scBuilt (fun vs H Q E h => ?_) (fun cdv A outer s H vs Q E hr h => ?_)
 ·obtain⟨ra,ws,R,u,rfl,_⟩:=h
  rfl
 ·obtain⟨ra,ws,R,u,rfl,hra,hws,hR,run,hRl,k⟩:=h
  have hsz:sizeLine=16777216:=sizeLine_eq
  refine'⟨?tt,?body,?fin⟩
  case body =>
   refine' Z03 ?s1 (Z03 ?s2 (Z07 ?s3))
   case s1=>exact Z0c (i:=1) scBuilt.nd rfl (Or.inl rfl) (Z1p Z01)
   case s2 =>
    refine' Z4b PassesOwn.never rfl (Zl3 (by rfl) hrev (Z0h (pv 0) Z01)) (Zas rfl (Z2z (Z0m (i:=2) scBuilt.nd rfl (Or.inl rfl)) (Z2z (Z0m (i:=3) scBuilt.nd rfl (Or.inl rfl)) Z7s))) (Z03 ?b1 (Z03 ?b2 (Z03 ?b3 (Z07 ?b4))))
    case b1=>exact Z0c (i:=4) scBuilt.nd rfl (Or.inl rfl) (Z0n Z2o (Z0d Z0b (by rfl) T.len PySem.boot_len (Z0h (pv 1) Z01)) (pv 3))
    case b2=>exact Z0c (i:=5) scBuilt.nd rfl (Or.inl rfl) (Z2f Z7x (pv 1) (Z2u (pv 4)) Z35)
    case b3=>exact Zcs (pv 1) (Z2u (pv 4))
    case b4=>exact Z2k (Z59 PySem.F.plainAttrs_list PySem.F.slot_list_append PySem.F.type_list_append Z26 (pv 1) (Z09 (Z0n Za2 (pv 2) (Z10 Z0s (by rfl) T.tup (by decide +kernel) (Z09 (Zb6 (pv 5) (Zfp Zau Z04)) Z01))) Z01))
   case s3=>exact Z0l (Z0y Z11 (pv 1) Z04 (fun _ _=>rfl))
  case fin =>
   refine⟨Nat.zero_le _,fun dn hdn => ?_⟩
   have s0:=Z02 (o := .lst []) hdn
   have hrd:ra≠dn:=Z0a hra hdn
   have hwl:=IsThs.len _ hws
   have hra1:=s0 _ _ hra
   have hdn1:upd H dn (.lst []) dn=some (.lst []):=Z00
   have hplR:Z24 R=true:=Z1c fun r hr=>Zaj (hR r hr)
   have hws1:IsThs (TO (upd H dn (.lst []))) ws R:=Z4h (IsThs.kp (Kp.of s0) hws) hplR
   refine⟨_,rfl,ra,ws,rfl,hra1,Zjb (K:=K) (a:=ra) (xs:=ws) (fun i σ H'=>∃(D:List Th) (dv:List V) (o3 o4 o5 o6:Option V),σ = [some (.ref ra),some (.ref dn),o3,o4,o5,o6]/\Zcv (R.drop (ws.length-i)) (some [])=some D/\D.length<=i/\H' dn=some (.lst dv)/\IsThs (TO H') dv D/\But dn H H'/\IsThs (TO H') ws R)
    ⟨[],[],none,none,none,none,rfl,by rw[Nat.sub_zero,List.drop_of_length_le (Nat.le_of_eq hwl.symm)];rfl,Nat.le_refl _,hdn1,.nil,But.of s0,hws1⟩ (fun i σ H' _ ⟨_,_,_,_,_,_,_,_,_,_,_,b,_⟩=>SqL.of (b _ _ hra hrd)) ?_ ?_⟩
   ·rintro i x σ H2 hi hx ⟨D,dv,o3,o4,o5,o6,rfl,hD,hDl,hdn2,hdv,B2,hws2⟩
    obtain⟨row,hrow,hxr⟩:=Z0q _ hws2 hx
    have hmem:=List.mem_of_getElem? hrow
    obtain⟨ls,m,rfl,hm6,hls,hlp⟩:=hR row hmem
    obtain⟨a,vs,rfl,ha,hvs⟩:=Z1i hxr
    have hdvl:=IsThs.len _ hdv
    have hdrop:R.drop (ws.length-(i+1)) = .tup [.tup ls,.at (.int (m:Nat))]::R.drop (ws.length-i):=by
     rw[show ws.length-(i+1)=ws.length-1-i by omega,List.drop_eq_getElem?_toList_append,hrow,show ws.length-1-i+1=ws.length-i by omega]
     rfl
    have hsome:∃D',Zcv (R.drop (ws.length-(i+1))) (some [])=some D':=by
     have e:=run
     rw[<- List.take_append_drop (ws.length-(i+1)) R,Zbo] at e
     exact Zew e
    obtain⟨D',hD'⟩:=hsome
    have hst:=hD'
    rw[hdrop,Z6u,hD] at hst
    have hst2:(if ((m:Nat):Int).toNat<=D.length then some (D.take (D.length-((m:Nat):Int).toNat) ++ [.tup (ls++(D.drop (D.length-((m:Nat):Int).toNat)).reverse)]) else none)=some D':=hst
    rw[Int.toNat_natCast] at hst2
    by_cases hmD:m<=D.length
    ·rw[if_pos hmD] at hst2
     have hD2:=Option.some.inj hst2
     cases hvs with
     | @cons v1 vr _ _ d1 d2 =>
      cases d2 with
      | @cons v2 vr2 _ _ d3 d4 =>
       cases d4
       obtain⟨rfl,_⟩:=Z4a d3
       obtain⟨la,lvs,rfl,hla,hlvs⟩:=Z1i d1
       have hll:=IsThs.len _ hlvs
       refine⟨a,_,rfl,SqT.of (to_sub _ _ ha),rfl,_,_,rfl,_,_,rfl,rfl,?_⟩
       refine⟨_,rfl,dn,_,rfl,.inl (SqL.of hdn2),_,rfl,_,_,rfl,rfl,?_⟩
       refine⟨_,rfl,_,rfl,_,rfl,dn,_,rfl,SqL.of hdn2,fun p1 hp1 => ?_⟩
       rw[Zcr (by omega) (by omega)]
       have e1:((dv.length:Int)-(m:Int)).toNat=D.length-m:=by omega
       rw[e1]
       have s3:=Z02 (o := .lst (dv.drop (D.length-m))) hp1
       have hdn3:=s3 _ _ hdn2
       have hp1d:p1≠dn:=fun q=>by rw[q,hdn2] at hp1;cases hp1
       refine⟨_,rfl,_,rfl,_,rfl,dn,dv,_,rfl,rfl,hdn3,by omega,by omega,?_⟩
       rw[e1]
       have P4:upd (upd H2 p1 (.lst (dv.drop (D.length-m)))) dn (.lst (dv.take (D.length-m))) p1=some (.lst (dv.drop (D.length-m))):=by rw[Z08 hp1d];exact Z00
       have N4:upd (upd H2 p1 (.lst (dv.drop (D.length-m)))) dn (.lst (dv.take (D.length-m))) dn=some (.lst (dv.take (D.length-m))):=Z00
       have t4:Same (TO H2) (TO (upd (upd H2 p1 (.lst (dv.drop (D.length-m)))) dn (.lst (dv.take (D.length-m))))):=(Z2n s3).trans (Z4e hdn3)
       have B4:But dn H (upd (upd H2 p1 (.lst (dv.drop (D.length-m)))) dn (.lst (dv.take (D.length-m)))):=fun b o e hb=>by rw[Z08 hb];exact s3 _ _ (B2 b o e hb)
       generalize upd (upd H2 p1 (.lst (dv.drop (D.length-m)))) dn (.lst (dv.take (D.length-m)))=H4 at P4 N4 t4 B4
       refine⟨_,rfl,.inl ⟨rfl,_,SqL.of N4⟩,_,rfl,_,rfl,_,rfl,rfl,p1,_,rfl,SqL.of P4,fun p2 hp2 => ?_⟩
       have s5:=Z02 (o := .lst (dv.drop (D.length-m)).reverse) hp2
       refine⟨p2,_,rfl,.inl ⟨SqL.of Z00,fun p3 hp3 => ?_⟩⟩
       have s6:=Z02 (o := .tup (dv.drop (D.length-m)).reverse) hp3
       have s56:=s5.trans s6
       have hla6:=s56 _ _ (to_sub _ _ (t4 _ _ hla))
       refine⟨la,p3,_,_,rfl,rfl,hla6,Z00,by rw[List.length_reverse,List.length_drop];omega,fun p4 H7 s7 hp4 => ?_⟩
       have s47:=s56.trans s7
       have N7:=s47 _ _ N4
       have t7:=t4.trans (Z2n s47)
       refine⟨dn,_,_,rfl,rfl,N7,by rw[List.length_take];omega,?_⟩
       have t8:=t7.trans (Z4e (o := .lst (dv.take (D.length-m) ++ [.ref p4])) N7)
       have hdv8:=IsThs.kp (Kp.of t8) hdv
       refine⟨D',_,_,_,_,_,rfl,hD',?_,Z00,?_,fun b o e hb => ?_,IsThs.kp (Kp.of t8) hws2⟩
       ·rw[<- hD2,List.length_append,List.length_take,List.length_singleton]
        omega
       ·rw[<- hD2]
        refine IsThs.app _ (Zbm _ hdv8) (.cons (.tup (Z75 ?_) (IsThs.app _ (IsThs.kp (Kp.of t8) hlvs) (Za3 _ (Z62 _ hdv8)))) .nil)
        rw[Z08 (fun q=>by rw[q,N7] at hp4;cases hp4)]
        exact hp4
       ·rw[Z08 hb]
        exact s47 _ _ (B4 b o e hb)
    ·rw[if_neg hmD] at hst2
     cases hst2
   ·rintro σ H2 ⟨D,dv,o3,o4,o5,o6,rfl,hD,hDl,hdn2,hdv,B2,_⟩
    rw[Nat.sub_self,List.drop_zero,run] at hD
    have hD2:=Option.some.inj hD
    subst hD2
    cases hdv with
    | @cons v1 vr _ _ d1 d2 =>
     refine⟨_,rfl,dn,_,_,v1,rfl,rfl,SqL.of hdn2,Z1g _ _,k v1 H2 (fun b o e=>B2 b o e (Z0a e hdn)) (IsTh.kp (Kp.of to_sub) d1)⟩
end
mutual
def Zex:Th->Th->Bool
 | .at a,.at b=>decide (a=b)
 | .tup xs,.tup ys=>Z9n xs ys
 | .lst xs,.lst ys=>Z9n xs ys
 | .at _,.tup _=>false
 | .at _,.lst _=>false
 | .tup _,.at _=>false
 | .tup _,.lst _=>false
 | .lst _,.at _=>false
 | .lst _,.tup _=>false
def Z9n:List Th->List Th->Bool
 | [],[]=>true
 | x::xs,y::ys=>Zex x y&&Z9n xs ys
 | [],_::_=>false
 | _::_,[]=>false
end
mutual
theorem Zbp:∀x y:Th,Zex x y=true↔x=y
 | .at a,.at b=>by rw[Zex,decide_eq_true_iff];exact⟨fun h=>by rw[h],fun h=>by injection h⟩
 | .tup xs,.tup ys=>by rw[Zex,Z6v xs ys];exact⟨fun h=>by rw[h],fun h=>by injection h⟩
 | .lst xs,.lst ys=>by rw[Zex,Z6v xs ys];exact⟨fun h=>by rw[h],fun h=>by injection h⟩
 | .at _,.tup _=>by rw[Zex];exact⟨fun h=>(by cases h),fun h=>(by cases h)⟩
 | .at _,.lst _=>by rw[Zex];exact⟨fun h=>(by cases h),fun h=>(by cases h)⟩
 | .tup _,.at _=>by rw[Zex];exact⟨fun h=>(by cases h),fun h=>(by cases h)⟩
 | .tup _,.lst _=>by rw[Zex];exact⟨fun h=>(by cases h),fun h=>(by cases h)⟩
 | .lst _,.at _=>by rw[Zex];exact⟨fun h=>(by cases h),fun h=>(by cases h)⟩
 | .lst _,.tup _=>by rw[Zex];exact⟨fun h=>(by cases h),fun h=>(by cases h)⟩
theorem Z6v:∀xs ys:List Th,Z9n xs ys=true↔xs=ys
 | [],[]=>by rw[Z9n];exact⟨fun _=>rfl,fun _=>rfl⟩
 | x::xs,y::ys=>by rw[Z9n,Bool.and_eq_true,Zbp x y,Z6v xs ys,List.cons.injEq]
 | [],_::_=>by rw[Z9n];exact⟨fun h=>(by cases h),fun h=>(by cases h)⟩
 | _::_,[]=>by rw[Z9n];exact⟨fun h=>(by cases h),fun h=>(by cases h)⟩
end
instance thDec:DecidableEq Th:=fun x y=>decidable_of_iff _ (Zbp x y)
def Z15:Th->List Th
 | .tup xs=>Z1f xs
 | _ => []
def Z23:Th->List Th
 | .tup xs=>Z2x xs
 | _ => []
def lkT (t:Th):List Th × Nat:=(Z23 t,(Z15 t).length)
abbrev dT:Th := .tup []
theorem Zl9 {w:Str}{hd:List V}{ks:List Th}(h:∀k∈ks,L2.isTup k=true):Z15 (nd w hd ks)=ks:=Z2d h
theorem Zla {w:Str}{hd:List V}{ks:List Th}(h:∀k∈ks,L2.isTup k=true):Z23 (nd w hd ks) = .at (.str w)::hd.map Th.at:=Z2y h
theorem Z6w {w:Str}{hd:List V}{ks:List Th}(h:w≠"hole"):hs (nd w hd ks)=(ks.map hs).flatten:=by
 have h':=Z84 (hd:=hd) (ks:=ks) h
 unfold nd at h' ⊢
 rw[hs,h']
 dsimp only
 have e:∀a:List Th,hss a=(a.map hs).flatten:=by
  intro a
  induction a with
  | nil=>rw[hss];rfl
  | cons x a ih=>rw[hss,ih];rfl
 have e2:∀a:List V,((a.map Th.at).map hs).flatten = []:=by
  intro a
  induction a with
  | nil=>rfl
  | cons x a ih=>rw[List.map_cons,List.map_cons,List.flatten_cons,ih,hs];rfl
 rw[hss,hs,List.nil_append,e,List.map_append,List.flatten_append,e2,List.nil_append]
structure Fs (n m:Nat)(ts:List Th):Prop where
 len:ts.length=m
 pf:∀t∈ts,PfT n t
 no:∀t∈ts,hs t = []
theorem Z3h {n:Nat}{t:Th}(h:PfT (n+1) t)(no:hs t = []):∃(w:Str) (hd:List V) (ks:List Th),t=nd w hd ks/\w≠"hole"/\hd.length<=1/\(∀v∈hd,plT (.at v)=true)/\(w="let"->hd = []/\ks.length=2)/\ks.length<=6/\(∀k∈ks,PfT n k)/\(∀k∈ks,hs k = [])/\Z15 t=ks/\Z23 t = .at (.str w)::hd.map Th.at:=by
 obtain⟨w,hd,ks,rfl,h1,h2,h3,h4,h5,h6⟩:=h
 have hw:w≠"hole":=fun z=>by
  subst z
  obtain⟨i,rfl,rfl⟩:=h4 rfl
  rw[Z1x] at no
  cases no
 refine⟨w,hd,ks,rfl,hw,h1,h2,h3,h5,h6,fun k hk => ?_,Zl9 fun k hk=>(h6 k hk).isTup,Zla fun k hk=>(h6 k hk).isTup⟩
 rw[Z6w hw] at no
 cases e:hs k with
 | nil=>rfl
 | cons i l =>
  have:i∈(ks.map hs).flatten:=List.mem_flatten.mpr ⟨hs k,List.mem_map.mpr ⟨k,hk,rfl⟩,by rw[e];exact List.mem_cons_self ..⟩
  rw[no] at this
  cases this
def al:List Th->Bool
 | []=>true
 | t::ts=>ts.all fun u=>decide (lkT u=lkT t)
theorem al_iff {ts:List Th}:al ts=true↔∀t∈ts,∀u∈ts,lkT t=lkT u:=by
 cases ts with
 | nil=>exact⟨fun _ t ht=>(by cases ht),fun _=>rfl⟩
 | cons a ts =>
  unfold al
  rw[List.all_eq_true]
  constructor
  ·intro h
   have h1:∀t∈a::ts,lkT t=lkT a:=fun t ht=>by
    rcases List.mem_cons.mp ht with z | z
    ·rw[z]
    ·exact of_decide_eq_true (h t z)
   intro t ht u hu
   rw[h1 t ht,h1 u hu]
  ·intro h t ht
   exact decide_eq_true (h t (List.mem_cons_of_mem _ ht) a (List.mem_cons_self ..))
def Z1s (ts:List Th):List (List Th):=(List.range (Z15 (ts.headD dT)).length).map fun i=>ts.map fun u=>(Z15 u).getD i dT
def acc (f:List (List Th)->List Th->Th × List (List Th)):List (List Th)->List (List Th)->List Th × List (List Th)
 | C,[]=>([],C)
 | C,c::cs=>((f C c).1::(acc f (f C c).2 cs).1,(acc f (f C c).2 cs).2)
def Z9o (C:List (List Th))(ts:List Th):List (List Th):=if ts∈C then C else C ++ [ts]
def mP:Nat->List (List Th)->List Th->Th × List (List Th)
 | 0,C,_=>(hol 0,C)
 | n+1,C,ts=>if al ts=true then (.tup (Z23 (ts.headD dT)++(acc (mP n) C (Z1s ts)).1),(acc (mP n) C (Z1s ts)).2) else (hol (C.idxOf ts),Z9o C ts)
def sgC (C:List (List Th))(p:Nat)(i:Nat):Th:=(C.getD i []).getD p dT
def Zfj (l:List Nat)(x:Nat):List Nat:=if x∈l then l else l ++ [x]
def Z2j (l:List Nat)(xs:List Nat):List Nat:=xs.foldl Zfj l
theorem Zcw (l xs ys:List Nat):Z2j l (xs++ys)=Z2j (Z2j l xs) ys:=List.foldl_append
structure Good (n m:Nat)(C:List (List Th))(ts:List Th)(r:Th × List (List Th)):Prop where
 ex:∃D,r.2=C++D/\∀c∈D,Fs n m c/\al c=false
 nd:r.2.Nodup
 pf:PfT n r.1
 fill:∀R p,p<m->fl (sgC (r.2++R) p) r.1=ts.getD p dT
 num:Z2j (List.range C.length) (hs r.1)=List.range r.2.length
theorem Z0p {m:Nat}{ts:List Th}(h:ts.length=m)(hm:1<=m):ts.headD dT∈ts:=by
 cases ts with
 | nil=>simp at h;omega
 | cons t ts=>exact List.mem_cons_self ..
theorem Z2g {ts:List Th}{p:Nat}(h:p<ts.length):ts.getD p dT∈ts:=by
 rw[List.getD_eq_getElem?_getD,List.getElem?_eq_getElem h]
 exact List.getElem_mem h
theorem Z55 {n m:Nat}{ts:List Th}(F:Fs (n+1) m ts)(ha:al ts=true){t:Th}(ht:t∈ts)(hm:1<=m):(Z1s ts).length=(Z15 t).length:=by
 unfold Z1s
 rw[List.length_map,List.length_range]
 exact congrArg Prod.snd (al_iff.mp ha _ (Z0p F.len hm) _ ht)
theorem Z2e {n m:Nat}{ts:List Th}(F:Fs (n+1) m ts)(ha:al ts=true)(hm:1<=m):∀c∈Z1s ts,Fs n m c:=by
 intro c hc
 unfold Z1s at hc
 obtain⟨i,hi,rfl⟩:=List.mem_map.mp hc
 rw[List.mem_range] at hi
 have key:∀u∈ts,(Z15 u).getD i dT∈Z15 u:=fun u hu=>by
  have e:lkT (ts.headD dT)=lkT u:=al_iff.mp ha _ (Z0p F.len hm) _ hu
  have e2:(Z15 (ts.headD dT)).length=(Z15 u).length:=congrArg Prod.snd e
  exact Z2g (by omega)
 refine⟨by rw[List.length_map];exact F.len,fun t ht => ?_,fun t ht => ?_⟩
 ·obtain⟨u,hu,rfl⟩:=List.mem_map.mp ht
  obtain⟨w,hd,ks,_,_,_,_,_,_,h6,_,e,_⟩:=Z3h (F.pf u hu) (F.no u hu)
  have:=key u hu
  rw[e] at this ⊢
  exact h6 _ this
 ·obtain⟨u,hu,rfl⟩:=List.mem_map.mp ht
  obtain⟨w,hd,ks,_,_,_,_,_,_,_,h7,e,_⟩:=Z3h (F.pf u hu) (F.no u hu)
  have:=key u hu
  rw[e] at this ⊢
  exact h7 _ this
theorem Zak {n m:Nat}{ts:List Th}(F:Fs (n+1) m ts)(ha:al ts=true){p:Nat}(hp:p<m):(Z1s ts).map (fun c=>c.getD p dT)=Z15 (ts.getD p dT):=by
 have hp':p<ts.length:=by rw[F.len];exact hp
 have hmem:=Z2g hp'
 have e:(Z15 (ts.headD dT)).length=(Z15 (ts.getD p dT)).length:=congrArg Prod.snd (al_iff.mp ha _ (Z0p F.len (by omega)) _ hmem)
 unfold Z1s
 rw[List.map_map,e]
 have hx:ts[p]? = some (ts.getD p dT):=by rw[List.getD_eq_getElem?_getD,List.getElem?_eq_getElem hp'];rfl
 generalize ts.getD p dT=x at hx e hmem ⊢
 refine List.ext_getElem? fun i => ?_
 rw[List.getElem?_map]
 by_cases hi:i<(Z15 x).length
 ·rw[List.getElem?_range hi,List.getElem?_eq_getElem hi]
  show some ((ts.map fun u=>(Z15 u).getD i dT).getD p dT)=_
  rw[List.getD_eq_getElem?_getD,List.getElem?_map,hx]
  show some ((Z15 x).getD i dT)=_
  rw[List.getD_eq_getElem?_getD,List.getElem?_eq_getElem hi]
  rfl
 ·rw[List.getElem?_eq_none (by rw[List.length_range];omega),List.getElem?_eq_none (by omega)]
  rfl
structure GoodA (n m:Nat)(C cs:List (List Th))(r:List Th × List (List Th)):Prop where
 ex:∃D,r.2=C++D/\∀c∈D,Fs n m c/\al c=false
 nd:r.2.Nodup
 len:r.1.length=cs.length
 pf:∀x∈r.1,PfT n x
 fill:∀R p,p<m->r.1.map (fl (sgC (r.2++R) p))=cs.map fun c=>c.getD p dT
 num:Z2j (List.range C.length) (r.1.map hs).flatten=List.range r.2.length
theorem Z8c {n m:Nat}(h:∀(C:List (List Th)) (c:List Th),C.Nodup->Fs n m c->Good n m C c (mP n C c)):∀(cs C:List (List Th)),C.Nodup->(∀c∈cs,Fs n m c)->GoodA n m C cs (acc (mP n) C cs):=by
 intro cs
 induction cs with
 | nil =>
  intro C hC _
  exact⟨⟨[],(List.append_nil C).symm,fun c hc=>by cases hc⟩,hC,rfl,(fun x hx=>by cases hx),fun _ _ _=>rfl,rfl⟩
 | cons c cs ih =>
  intro C hC hf
  have G:=h C c hC (hf c (List.mem_cons_self ..))
  have A:=ih (mP n C c).2 G.nd fun x hx=>hf x (List.mem_cons_of_mem _ hx)
  show GoodA n m C (c::cs) ((mP n C c).1::(acc (mP n) (mP n C c).2 cs).1,(acc (mP n) (mP n C c).2 cs).2)
  generalize acc (mP n) (mP n C c).2 cs=b at A ⊢
  generalize mP n C c=a at G A ⊢
  obtain⟨D1,e1,k1⟩:=G.ex
  obtain⟨D2,e2,k2⟩:=A.ex
  refine⟨⟨D1++D2,by show b.2=_;rw[e2,e1,List.append_assoc],fun x hx => ?_⟩,A.nd,by show _+1=_+1;rw[A.len],fun x hx => ?_,fun R p hp => ?_,?_⟩
  ·rcases List.mem_append.mp hx with z | z
   ·exact k1 x z
   ·exact k2 x z
  ·rcases List.mem_cons.mp hx with z | z
   ·rw[z];exact G.pf
   ·exact A.pf x z
  ·show fl (sgC (b.2++R) p) a.1::b.1.map (fl (sgC (b.2++R) p))=c.getD p dT::cs.map fun c=>c.getD p dT
   rw[A.fill R p hp,e2,List.append_assoc,G.fill (D2++R) p hp]
  ·show Z2j (List.range C.length) (hs a.1++(b.1.map hs).flatten)=List.range b.2.length
   rw[Zcw,G.num,A.num]
theorem Z8d {n:Nat}{t:Th}(h:PfT (n+1) t)(no:hs t = []):t = .tup (Z23 t++Z15 t):=by
 obtain⟨w,hd,ks,e,_,_,_,_,_,_,_,e1,e2⟩:=Z3h h no
 rw[e1,e2,e]
 rfl
theorem Z7o {α : Type}{l:List α}{x : α}(h:l.Nodup)(hx:x∉l):(l ++ [x]).Nodup:=by
 rw[List.nodup_append]
 refine⟨h,by simp,fun a ha b hb e => ?_⟩
 rw[List.mem_singleton] at hb
 rw[e,hb] at ha
 exact hx ha
theorem Zh2 {n m:Nat}{C:List (List Th)}{ts:List Th}(hC:C.Nodup)(F:Fs (n+1) m ts)(ha:al ts=false):Good (n+1) m C ts (hol (C.idxOf ts),Z9o C ts):=by
 have hpf:PfT (n+1) (hol (C.idxOf ts)):=(Z9i _).le (by omega)
 have hgo:∀(C':List (List Th)) (i:Nat) (p:Nat),C'[i]? = some ts->fl (sgC C' p) (hol i)=ts.getD p dT:=fun C' i p e=>by
  unfold hol
  rw[Z1m]
  unfold sgC
  rw[List.getD_eq_getElem?_getD (l:=C'),e]
  rfl
 by_cases hm:ts∈C
 ·have e:Z9o C ts=C:=if_pos hm
  rw[e]
  have hlt:C.idxOf ts<C.length:=List.idxOf_lt_length_iff.mpr hm
  have hget:C[C.idxOf ts]? = some ts:=by rw[List.getElem?_eq_getElem hlt,List.getElem_idxOf]
  refine⟨⟨[],(List.append_nil C).symm,fun c hc=>by cases hc⟩,hC,hpf,fun R p _=>hgo _ _ _ ?_,?_⟩
  ·show(C++R)[C.idxOf ts]? = some ts
   rw[List.getElem?_append_left hlt];exact hget
  ·show Z2j (List.range C.length) (hs (hol (C.idxOf ts)))=List.range C.length
   unfold hol
   rw[Z1x]
   show Zfj (List.range C.length) (C.idxOf ts)=_
   exact if_pos (List.mem_range.mpr hlt)
 ·have e:Z9o C ts=C ++ [ts]:=if_neg hm
  rw[e,List.idxOf_eq_length hm]
  rw[List.idxOf_eq_length hm] at hpf
  refine⟨⟨[ts],rfl,fun c hc => ?_⟩,Z7o hC hm,hpf,fun R p _=>hgo _ _ _ ?_,?_⟩
  ·rw[List.mem_singleton] at hc;subst hc;exact⟨F,ha⟩
  ·show(C ++ [ts]++R)[C.length]? = some ts
   rw[List.append_assoc,List.getElem?_append_right (Nat.le_refl _),Nat.sub_self]
   rfl
  ·show Z2j (List.range C.length) (hs (hol C.length))=List.range (C ++ [ts]).length
   unfold hol
   rw[Z1x]
   show Zfj (List.range C.length) C.length=_
   unfold Zfj
   rw[if_neg (by rw[List.mem_range];omega),List.length_append,List.length_singleton,List.range_succ]
theorem Z4i {m:Nat}(hm:1<=m):∀(n:Nat) (C:List (List Th)) (ts:List Th),C.Nodup->Fs n m ts->Good n m C ts (mP n C ts):=by
 intro n
 induction n with
 | zero=>intro C ts _ F;exact(F.pf _ (Z0p F.len hm)).elim
 | succ n ih =>
  intro C ts hC F
  unfold mP
  by_cases ha:al ts=true
  ·rw[if_pos ha]
   have A:=Z8c ih (Z1s ts) C hC (Z2e F ha hm)
   have h0:=Z0p F.len hm
   obtain⟨w,hd,ks,e0,hw,h1,h2,h3,h5,h6,h7,e1,e2⟩:=Z3h (F.pf _ h0) (F.no _ h0)
   have hl:=Z55 F ha h0 hm
   rw[e1] at hl
   generalize acc (mP n) C (Z1s ts)=r at A ⊢
   have en:Th.tup (Z23 (ts.headD dT)++r.1)=nd w hd r.1:=by rw[e2];rfl
   rw[en]
   have hrl:r.1.length=ks.length:=by rw[A.len,hl]
   obtain⟨D,eD,kD⟩:=A.ex
   refine⟨⟨D,eD,fun c hc=>⟨⟨(kD c hc).1.len,fun t ht=>((kD c hc).1.pf t ht).up,(kD c hc).1.no⟩,(kD c hc).2⟩⟩,A.nd,⟨w,hd,r.1,rfl,h1,h2,fun z=>⟨(h3 z).1,by rw[hrl];exact(h3 z).2⟩,fun z=>absurd z hw,by omega,A.pf⟩,fun R p hp => ?_,?_⟩
   ·show fl (sgC (r.2++R) p) (nd w hd r.1)=_
    rw[Z3f hw,A.fill R p hp,Zak F ha hp]
    have hx:=Z2g (ts:=ts) (p:=p) (by rw[F.len];exact hp)
    have el:Z23 (ts.getD p dT)=Z23 (ts.headD dT):=congrArg Prod.fst (al_iff.mp ha _ hx _ h0)
    have es:=Z8d (F.pf _ hx) (F.no _ hx)
    generalize ts.getD p dT=x at es el ⊢
    rw[el,e2] at es
    exact es.symm
   ·show Z2j (List.range C.length) (hs (nd w hd r.1))=_
    rw[Z6w hw]
    exact A.num
  ·rw[if_neg ha]
   exact Zh2 hC F (by cases e:al ts with | true=>exact absurd e ha | false=>rfl)
structure Fm (H:Hp)(v:V)(n:Nat)(t:Th):Prop where
 is:IsTh H v t
 pf:PfT n t
 sz:Th.sz t<=100000
theorem Zlb {H:Hp}{v:V}{n:Nat}{t:Th}(f:Fm H v n t):∃xs,t = .tup xs/\xs.length<=1000000/\Z24 (Z2x xs)=true/\dps (Z2x xs)<=1:=by
 obtain⟨_,pf,sz⟩:=f
 cases n with
 | zero=>exact pf.elim
 | succ n =>
  obtain⟨w,hd,ks,rfl,h1,h2,h3,h4,h5,h6⟩:=pf
  refine⟨_,rfl,?_,?_,?_⟩
  ·rw[List.length_cons,List.length_append,List.length_map];omega
  ·rw[Z2y fun k hk=>(h6 k hk).isTup,Z24,Z1c (a:=hd.map Th.at) fun x hx => ?_,plT]
   ·rfl
   ·obtain⟨v,hv,rfl⟩:=List.mem_map.mp hx
    exact h2 v hv
  ·rw[Z2y fun k hk=>(h6 k hk).isTup]
   refine Z3z fun x hx => ?_
   rcases List.mem_cons.mp hx with rfl | hx
   ·rw[L2.dp];exact Nat.zero_le _
   ·obtain⟨v,_,rfl⟩:=List.mem_map.mp hx
    rw[L2.dp];exact Nat.zero_le _
inductive spAlikes (N:Nat)(vs:List V)(H:Hp)(Q:VK)(E_3:XK):Prop
 | mk (p:Addr) (fs:List V) (ts:List Th) (_:vs = [.ref p]) (_:H p=some (.tup fs)) (_:IsThs H fs ts) (_:(∀t∈ts,PfT N t)) (_:(∀t∈ts,Th.sz t<=100000)) (_:1<=ts.length) (_:ts.length<=1000) (_:∀H',Same H H'->Q (.bl (al ts)) H'):spAlikes N vs H Q E_3
theorem Zn1:(["first","form"]:List Str).Nodup:=by decide +kernel
section
variable {P:Program}{w:World}{K:PySem.W.Frag}{mg:Str->Option Value}{base:Heap}
theorem scAlike:FnScope ["forms","first"] ["forms"] (Z05 Z5m):=⟨rfl,rfl,rfl,by decide +kernel,rfl,by decide +kernel,by decide +kernel⟩
theorem Zbq {f fP fH fS:Addr}{fd dP dH dS:FuncData}(F:Fun K "headed_alike" "headed_alike" Z5m f fd)(U:HT K mg fP fH fS dP dH dS)(hall:mg "all"=none)(N:Nat):FnOk P w K mg base CX0 2 f fd ["forms"] (spAlikes N):=by
 have GP:FnOk P w K mg base CX0 1 fP dP ["e"] spParts:=Z4t U.P U.T U.KI
 have GH:FnOk P w K mg base CX0 1 fH dH ["node"] spHead:=Zac U.H U.T U.KI
 refine F.ok scAlike (fun vs H Q E h => ?_) (fun cdv A outer s H vs Q E hr h => ?_)
 ·obtain⟨p,fs,ts,rfl,_⟩:=h
  rfl
 ·obtain⟨p,fs,ts,rfl,hp,hfs,hpf,hsz0,hl1,hl2,k⟩:=h
  have hsz:sizeLine=16777216:=sizeLine_eq
  have hr1:Room 1 _:=hr.mono (by decide)
  have hu:(_:Around).units+(1+1)<cLine:=Nat.lt_of_le_of_lt (Nat.add_le_add_left (by decide) _) hr.units
  refine'⟨?tt,?body,?fin⟩
  case body =>
   refine' Z03 ?s1 (Z07 ?s2)
   case s1=>exact Z0c (i:=1) scAlike.nd rfl (Or.inr rfl) (Z0y Z1z (pv 0) Z04 (fun _ _=>rfl))
   case s2 =>
    refine' Z0l ?r
    case r =>
     refine' Z0d (Z6b rfl) (by rfl) hall (by decide +kernel) ?a
     case a =>
      refine' Z09 ?c Z01
      case c =>
       refine' Z1a (N' := ["first","form"]) (src := [some 1,none]) ?k1 ?k5 ?k6 ?k7
       case k1=>rfl
       case k5=>exact Z0i (Z05 Z5m) rfl ["forms","first"] rfl (by decide +kernel)
       case k6=>exact Z4j (pv 0)
       case k7 =>
        intro cl C ex s0 H0
        refine'⟨?g1,?g2,?g3⟩
        case g1=>exact Z0m (i:=1) Zn1 rfl (Or.inl rfl)
        case g2=>exact Z1d
        case g3 =>
         refine' Z77 ?x (Zar ?y)
         case x=>exact Z3i (Ze3 (K:=K) rfl 1 hu) (Z06 GH hr1 (by rfl) U.mH U.H.kp U.bH .nil Z0g (Z0h (pv 1) Z01)) (Z06 GH hr1 (by rfl) U.mH U.H.kp U.bH .nil Z0g (Z0h (pv 0) Z01)) (Z0j _)
         case y=>exact Z3i Z1l (Z0d (id:="len") (Z3l (K:=K) rfl) (by rfl) U.T.len PySem.boot_len (Z2s (Z06 GP hr1 (by rfl) U.mP U.P.kp U.bP .nil Z0g (Z0h (pv 1) Z01)) Z01)) (Z0d (id:="len") (Z3l (K:=K) rfl) (by rfl) U.T.len PySem.boot_len (Z2s (Z06 GP hr1 (by rfl) U.mP U.P.kp U.bP .nil Z0g (Z0h (pv 0) Z01)) Z01)) (Z0j _)
  case fin =>
   have hfl:=IsThs.len _ hfs
   obtain⟨v1,fr,rfl⟩:∃v1 fr,fs=v1::fr:=by
    cases fs with
    | nil=>simp at hfl;omega
    | cons v1 fr=>exact⟨v1,fr,rfl⟩
   obtain⟨t1,tr,rfl⟩:∃t1 tr,ts=t1::tr:=by
    cases ts with
    | nil=>simp at hl1
    | cons t1 tr=>exact⟨t1,tr,rfl⟩
   have f1:Fm H v1 N t1:=⟨by cases hfs with | cons a _=>exact a,hpf _ (List.mem_cons_self ..),hsz0 _ (List.mem_cons_self ..)⟩
   refine⟨_,rfl,p,_,0,v1,rfl,rfl,SqT.of hp,Z1g _ _,?_⟩
   refine⟨_,rfl,p,rfl,⟨_,SqT.of hp⟩,Z2q (K:=K) (a:=p) (xs:=v1::fr) (fun i ys σc H'=>∃o,σc = [some v1,o]/\Same H H'/\ys=((t1::tr).take i).map fun u=>V.bl (decide (lkT u=lkT t1)))
    ⟨none,rfl,Same.refl _,rfl⟩ (fun i ys σc H' ⟨_,_,e,_⟩=>SqT.of (e _ _ hp)) ?_ ?_⟩
   ·rintro i x ys σc H' hx hi ⟨o,rfl,s2,rfl⟩
    obtain⟨u,hu1,hu2⟩:=Z0q _ hfs hx
    have hmem:=List.mem_of_getElem? hu1
    have fu:Fm H x N u:=⟨hu2,hpf u hmem,hsz0 u hmem⟩
    refine⟨by rw[List.length_map,List.length_take];omega,?_⟩
    obtain⟨xs,rfl,hx1,hx2,hx3⟩:=Zlb fu
    obtain⟨ys,e1,hy1,hy2,hy3⟩:=Zlb f1
    have fin:∀(b:Bool) (H4:Hp),Same H' H4->b=decide (lkT (.tup xs)=lkT t1)->Nx (v1::fr).length i (∃o,[some v1,some x] = [some v1,o]/\Same H H4/\(((t1::tr).take i).map fun u=>V.bl (decide (lkT u=lkT t1))) ++ [V.bl b]=((t1::tr).take (i+1)).map fun u=>V.bl (decide (lkT u=lkT t1))):=by
     intro b H4 s4 hb
     refine nx hi ⟨_,rfl,s2.trans s4,?_⟩
     rw[List.take_add_one,hu1,List.map_append,hb]
     rfl
    refine⟨_,rfl,H,x,xs,rfl,s2,fu.is,hx1,fun p1 ws1 H2 s3 hp1 hw1 => ?_⟩
    refine⟨_,rfl,H,v1,ys,rfl,s2.trans s3,by rw[<- e1];exact f1.is,hy1,fun p2 ws2 H3 s4 hp2 hw2 => ?_⟩
    refine⟨Z2x xs,Z2x ys,.tup (s4 _ _ hp1) (IsThs.kp (Kp.of ((s2.trans s3).trans s4)) hw1),.tup hp2 (IsThs.kp (Kp.of ((s2.trans s3).trans s4)) hw2),hx2,hy2,hx3,hy3,fun el => ?_,fun nl => ?_⟩
    ·refine⟨_,rfl,Z71 ?_⟩
     refine⟨_,rfl,H,x,xs,rfl,(s2.trans s3).trans s4,fu.is,hx1,fun p3 ps H5 s5 hp5 hps=>⟨p3,ps,rfl,.inr (SqT.of hp5),?_⟩⟩
     refine⟨_,rfl,H,v1,ys,rfl,((s2.trans s3).trans s4).trans s5,by rw[<- e1];exact f1.is,hy1,fun p4 qs H6 s6 hp6 hqs=>⟨p4,qs,rfl,.inr (SqT.of hp6),?_⟩⟩
     have l1:=IsThs.len _ hps
     have l2:=IsThs.len _ hqs
     refine⟨rfl,fin _ _ (((s3.trans s4).trans s5).trans s6) ?_⟩
     rw[e1]
     show decide (V.int ((ps.length:Nat):Int)=V.int ((qs.length:Nat):Int))=decide ((Z2x xs,(Z1f xs).length)=(Z2x ys,(Z1f ys).length))
     rw[el,l1,l2]
     by_cases z:(Z1f xs).length=(Z1f ys).length
     ·rw[decide_eq_true (by rw[z]),decide_eq_true (by rw[z])]
     ·rw[decide_eq_false (fun q=>z (by injection q with q;omega)),decide_eq_false (fun q=>z (by injection q))]
    ·refine⟨_,rfl,Z4l (fin false _ (s3.trans s4) ?_)⟩
     rw[e1]
     exact(decide_eq_false fun z=>nl (congrArg Prod.fst z)).symm
   ·rintro ys σc H' ⟨o,rfl,s2,rfl⟩ l hl
    rw[List.take_of_length_le (by omega)]
    have sl:=Z02 (o := .lst (((t1::tr).map fun u=>V.bl (decide (lkT u=lkT t1))))) hl
    refine⟨l,(t1::tr).map fun u=>decide (lkT u=lkT t1),rfl,SqL.of (by rw[Z00,List.map_map];rfl),?_⟩
    have e:((t1::tr).map fun u=>decide (lkT u=lkT t1)).all id=al (t1::tr):=by
     rw[List.map_cons,List.all_cons,decide_eq_true rfl,List.all_map]
     rfl
    first
     | (rw[e];exact k _ (s2.trans sl))
     | trace_state
end
end K20
namespace L2
open PySem PySem.Spec PyProof.Rows
section
variable {M:Model}{A:Around}{E:Value->Shared->Prop}{s:Shared}
theorem Z6x {scope:Scope}{globals:Addr}{cl:List (Str × Addr)}{qual:Str}{env:Env}{Q:Env->Shared->Prop}
  (hQ:Q { scope:=scope,locals:=s.heap.objs.size,globals:=globals,cells:=cellsFrom (s.heap.objs.size+1) scope.names cl,qual:=qual,func:=none,code:=env.code,frame:=env.frame,builtins:=env.builtins } { s with heap:=pushCells (s.heap.push { cls := .type "dict",data := .dict #[] }) scope.names }) :
  wpAny M A (newFunctionEnv scope globals cl [] qual none .none (some env)) Q E s:=by
 simp only [newFunctionEnv,Option.isSome_some,if_true]
 refine wpAny_bind (wpAny_alloc (wpAny_bind (wpAny_layCells _ (fun name kind cells=>by cases hkc:kind==NameKind.cell <;> simp [hkc]) _ _ _ _ ?_)))
 rw[show({ s with heap:=s.heap.push { cls := .type "dict",data := .dict #[] } }:Shared).heap.objs.size=s.heap.objs.size+1 from Heap.size_push ..]
 exact wpAny_bind (wpAny_pure (wpAny_pure hQ))
end
def Z1y (X:Cx)(N':List Str)(scope:Scope)(cl:List (Str × Addr))(C:Addr)(ex:List Addr)(s0:Shared)(H0:Hp):Cx :=
 { Z2h X N' scope cl C ex s0 H0 with fn:=fun x=>scope.names.lookup x==some .cell }
structure CompScopeC (X:Cx)(scope:Scope)(N':List Str)(src:List (Option Nat))(z:Str):Prop where
 kind:scope.kind = .function
 cells:∀n acc,cellsFrom n scope.names acc=(z,n)::acc
 push:∀h,pushCells h scope.names=h.push { cls := .type "cell",data := .cell none }
 only:∀y∈scope.names,y.2 = .cell->y.1=z
 names:∀x∈scope.names,x.2 = .local->scope.names.lookup x.1=some .local
 fr:∀n,(n,NameKind.free)∈scope.names->X.env.kindOf n=some .cell∨X.env.kindOf n=some .free
 excl:∀n,(n,NameKind.free)∈scope.names->¬scope.names.lookup n=some .local/\n≠z
 len:N'.length=src.length
 src:∀(i j:Nat),src[i]? = some (some j)->∃x:Str,N'[i]? = some x/\X.N[j]? = some x/\(x,NameKind.free)∈scope.names
section
variable {X:Cx}{elt tg iter:Expr}{ifs:List Expr}{scope:Scope}{pos:Pos}{N':List Str}{src:List (Option Nat)}{wi:TI}{g:TG}{tt:TT}{te:TE}{z:Str}
theorem Zal {x:Str}{k:NameKind}:∀{l:List (Str × NameKind)},l.lookup x=some k->(x,k)∈l
 | [],h=>by simp at h
 | (n,k')::r,h=>by
  rw[List.lookup_cons] at h
  cases e:x==n with
  | true=>rw[e] at h;cases h;rw[eq_of_beq e];exact List.mem_cons_self ..
  | false=>rw[e] at h;exact List.mem_cons_of_mem _ (Zal h)
theorem Z7p {env:Env}{names:List (Str × NameKind)}{x:Str}{k:NameKind}(h:(names.map fun(n,k)=>if (k==NameKind.free&&env.scope.kind == .function&&env.kindOf n==some .cell) then (n,NameKind.cell) else (n,k)).lookup x=some k)
  (hk:k = .cell∨k = .free):(x,NameKind.cell)∈names∨(x,NameKind.free)∈names:=by
 have hm:=Zal h
 obtain⟨⟨n,k'⟩,hn,e⟩:=List.mem_map.mp hm
 by_cases hc:(k'==NameKind.free&&env.scope.kind == .function&&env.kindOf n==some .cell)=true
 ·dsimp only at e
  rw[if_pos hc] at e
  injection e with e1 _
  subst e1
  have hf:k' = .free:=by
   cases k' <;> first | rfl | simp at hc
  rw[hf] at hn
  exact .inr hn
 ·dsimp only at e
  rw[if_neg hc] at e
  injection e with e1 e2
  subst e1
  subst e2
  rcases hk with q | q
  ·rw[q] at hn;exact .inl hn
  ·rw[q] at hn;exact .inr hn
theorem Z6y {cl:List (Str × Addr)}{C D:Addr}{fp:List Addr}{pins:List (Addr × Obj)}{σ:St}{H:Hp}{s3:Shared}{h1:Heap}{tk:Nat}(S:CompScopeC X scope N' src z)(I3:Inv X pins σ H s3)
  (hcl1:∀x c,cl.lookup x=some c->X.env.cells.lookup x=some c) (hcl2:∀n,(n,NameKind.free)∈scope.names->∃c,cl.lookup n=some c) (hC:C=s3.heap.objs.size)
  (hf:∀b∈D::fp,Z3s X pins H b) (hlt:∀b∈D::fp,b<s3.heap.objs.size) (hns:h1.Ns C (fun _=>none)) (hk:∀b o,s3.heap.get? b=some o->h1.get? b=some o) (hzc:h1.IsCell (C+1) none) :
  Inv (Z1y X N' scope ((z,C+1)::cl) C (D::fp) s3 H) [] (Zdu src σ) H { s3 with heap:=h1,toks:=tk }:=by
 have neC:∀b o,s3.heap.get? b=some o->b≠C:=fun b o e=>by rw[hC];exact Nat.ne_of_lt (Heap.lt_size e)
 have HC:H C=none:=I3.hok.fresh (Nat.le_of_eq hC.symm)
 have HC1:H (C+1)=none:=I3.hok.fresh (Nat.le_trans (Nat.le_of_eq hC.symm) (Nat.le_succ C))
 have look:∀x c,List.lookup x ((z,C+1)::cl)=some c->(x=z/\c=C+1)∨(x≠z/\cl.lookup x=some c):=fun x c e=>by
  rw[List.lookup_cons] at e
  cases q:x==z with
  | true=>rw[q] at e;cases e;exact .inl ⟨eq_of_beq q,rfl⟩
  | false=>rw[q] at e;exact .inr ⟨fun y=>by rw[y] at q;simp at q,e⟩
 have clt:∀x c,cl.lookup x=some c->c<C:=fun x c e=>by
  obtain⟨v,oc,ho,_⟩:=I3.cell x c (hcl1 x c e)
  rw[hC]
  exact Heap.lt_size ho
 have ok:(Z1y X N' scope ((z,C+1)::cl) C (D::fp) s3 H).Ok:=by
  refine⟨I3.ok.mod,S.kind,I3.ok.glob,I3.ok.blt,Nat.le_of_eq hC.symm,fun x y c e1 e2 => ?_,fun x hx => ?_,fun x c q e => ?_,I3.ok.hd,I3.ok.frames,.inl rfl,fun b hb=>⟨?_,fun x c e => ?_⟩,I3.bs,Nat.le_trans I3.ok.bsz I3.sz,fun b o e hb => ?_,fun b hb => ?_,I3.stack,I3.stkFree⟩
  ·rcases look x c e1 with ⟨f1,g1⟩ | ⟨_,f1⟩
   ·rcases look y c e2 with ⟨f2,_⟩ | ⟨_,f2⟩
    ·rw[f1,f2]
    ·exact absurd (clt y c f2) (by rw[g1];exact Nat.not_lt.mpr (Nat.le_succ C))
   ·rcases look y c e2 with ⟨_,g2⟩ | ⟨_,f2⟩
    ·exact absurd (clt x c f1) (by rw[g2];exact Nat.not_lt.mpr (Nat.le_succ C))
    ·exact I3.ok.inj x y c (hcl1 x c f1) (hcl1 y c f2)
  ·have h:(x,NameKind.cell)∈scope.names∨(x,NameKind.free)∈scope.names:=by
    rcases hx with q | q
    ·exact Z7p (env:=X.env) (show((scope.names.map _).lookup x)=some .cell from q) (.inl rfl)
    ·exact Z7p (env:=X.env) (show((scope.names.map _).lookup x)=some .free from q) (.inr rfl)
   show ∃c,List.lookup x ((z,C+1)::cl)=some c
   rw[List.lookup_cons]
   rcases h with q | q
   ·rw[show x=z from S.only (x,.cell) q rfl,beq_self_eq_true]
    exact⟨_,rfl⟩
   ·obtain⟨c,hc⟩:=hcl2 x q
    rw[beq_eq_false_iff_ne.mpr (S.excl x q).2]
    exact⟨c,hc⟩
  ·have q':scope.names.lookup x=some .cell:=eq_of_beq q
   have hx:x=z:=S.only (x,.cell) (Zal q') rfl
   rcases look x c e with ⟨_,rfl⟩ | ⟨y,_⟩
   ·show s3.heap.objs.size<=C+1
    rw[<- hC]
    exact Nat.le_succ C
   ·exact absurd hx y
  ·show b≠C
   rw[hC];exact Nat.ne_of_lt (hlt b hb)
  ·rcases look x c e with ⟨_,rfl⟩ | ⟨_,e⟩
   ·have h9:=hlt b hb
    rw[<- hC] at h9
    exact fun q=>absurd h9 (by rw[<- q];exact Nat.not_lt.mpr (Nat.le_succ C))
   ·exact(hf b hb).2.2.2.2.1 x c (hcl1 x c e)
  ·rcases(hf b hb).2.2.2.1 with z | z
   ·exact I3.ok.noex b o e z
   ·exact absurd (Nat.lt_of_lt_of_le (Nat.lt_of_lt_of_le (Heap.lt_size e) I3.ok.bsz) z) (Nat.lt_irrefl _)
  ·intro z
   have z':b∈frs X.stack:=z
   rcases List.mem_cons.mp (I3.stkSub b z') with q | q
   ·exact(hf b hb).2.1 q
   ·exact(hf b hb).2.2.1 q
 refine⟨ok,rfl,I3.bare,Un.kept hk,⟨_,hns,fun i x v e1 e2 e3 => ?_⟩,fun x c e => ?_,HC,fun x c e=>(look x c e).elim (fun q=>by rw[q.2];exact HC1) (fun q=>I3.freeC x c (hcl1 x c q.2)),fun p hp=>absurd (show p∈([]:List (Addr × Obj)) from hp) (by simp),I3.hok.kept hk,?_⟩
 ·have e2':(src.map fun o=>match o with | some j=>(σ[j]?).getD none | none=>none)[i]? = some (some v):=e2
  rw[List.getElem?_map] at e2'
  cases q:src[i]? with
  | none=>rw[q] at e2';cases e2'
  | some o =>
   rw[q] at e2'
   cases o with
   | none=>cases e2'
   | some j =>
    obtain⟨x',hx1,hx2,hx3⟩:=S.src i j q
    have ex:x'=x:=Option.some.inj (hx1.symm.trans e1)
    subst ex
    have ev:σ[j]? = some (some v):=by
     cases q2:σ[j]? with
     | none=>simp [q2] at e2'
     | some o=>simp [q2] at e2';rw[e2']
    obtain⟨m,hn,hl⟩:=I3.loc
    have hkind:=S.fr x' hx3
    obtain⟨u,r,l⟩:=hl j x' v hx2 ev (by
     rcases hkind with z | z
     ·exact .inr (.inl z)
     ·exact .inr (.inr z))
    refine⟨u,r,.inr ⟨?_,?_⟩⟩
    ·rcases e3 with z | z | z
     ·exfalso
      have z':(scope.names.map fun(n,k)=>if (k==NameKind.free&&X.env.scope.kind == .function&&X.env.kindOf n==some .cell) then (n,NameKind.cell) else (n,k)).lookup x'=some .local:=z
      rcases l with ⟨k,_⟩ | ⟨_,c,hc,hcell⟩
      ·rcases hkind with y | y <;> (rw[y] at k;cases k)
      ·exact(show False by
        have:=S.names
        have hm:=hx3
        clear e2 e2'
        have key:∀(names:List (Str × NameKind)),(names.map fun(n,k)=>if (k==NameKind.free&&X.env.scope.kind == .function&&X.env.kindOf n==some .cell) then (n,NameKind.cell) else (n,k)).lookup x'=some .local →
          names.lookup x'=some .local:=by
         intro names
         induction names with
         | nil=>intro h;simp at h
         | cons y r ih =>
          obtain⟨n,k⟩:=y
          intro h
          have h':List.lookup x' ((if (k==NameKind.free&&X.env.scope.kind == .function&&X.env.kindOf n==some .cell)=true then (n,NameKind.cell) else (n,k))::(r.map fun(n,k)=>if (k==NameKind.free&&X.env.scope.kind == .function&&X.env.kindOf n==some .cell) then (n,NameKind.cell) else (n,k)))=some .local:=h
          by_cases hx:(x'==n)=true
          ·by_cases hc2:(k==NameKind.free&&X.env.scope.kind == .function&&X.env.kindOf n==some .cell)=true
           ·rw[if_pos hc2] at h';simp only [List.lookup_cons,hx] at h';cases h'
           ·rw[if_neg hc2] at h';simp only [List.lookup_cons,hx] at h' ⊢;exact h'
          ·have hx':(x'==n)=false:=by simpa using hx
           by_cases hc2:(k==NameKind.free&&X.env.scope.kind == .function&&X.env.kindOf n==some .cell)=true
           ·rw[if_pos hc2] at h';simp only [List.lookup_cons,hx'] at h' ⊢;exact ih h'
           ·rw[if_neg hc2] at h';simp only [List.lookup_cons,hx'] at h' ⊢;exact ih h'
        have z2:=key _ z'
        obtain⟨c2,hc2⟩:=hcl2 x' hx3
        exact(S.excl x' hx3).1 z2)
     ·exact .inl z
     ·exact .inr z
    ·rcases l with ⟨k,_⟩ | ⟨_,c,hc,hcell⟩
     ·rcases hkind with y | y <;> (rw[y] at k;cases k)
     ·obtain⟨c2,hc2⟩:=hcl2 x' hx3
      have e:=hcl1 x' c2 hc2
      rw[hc] at e;cases e
      obtain⟨oc,ho,hd⟩:=hcell
      exact⟨c,by show List.lookup x' ((z,C+1)::cl)=some c;rw[List.lookup_cons,beq_eq_false_iff_ne.mpr (S.excl x' hx3).2];exact hc2,oc,hk c oc ho,hd⟩
 ·rcases look x c e with ⟨_,rfl⟩ | ⟨_,e⟩
  ·exact⟨none,hzc⟩
  ·obtain⟨v,oc,ho,hd⟩:=I3.cell x c (hcl1 x c e)
   exact⟨v,oc,hk c oc ho,hd⟩
 ·show(src.map _).length=N'.length
  rw[List.length_map,S.len]
theorem Z6z {cl:List (Str × Addr)}{C D:Addr}{fp:List Addr}{pins pinsY:List (Addr × Obj)}{σ σc:St}{H H':Hp}{s3 s4:Shared}{h':Heap}{ys:List V}{us:List Value}(I3:Inv X pins σ H s3)(hC:C=s3.heap.objs.size)
  (hf:∀b∈D::fp,Z3s X pins H b) (hlt:∀b∈D::fp,b<s3.heap.objs.size) (IY:Inv (Z1y X N' scope cl C (D::fp) s3 H) pinsY σc H' s4) (hD:H' D=none) (pl:s4.heap.PlainList D us.toArray) (rv:Vals ys us) (hz:ys.length<=sizeLine)
  (hs:Heap.SameBut C s4.heap h'):Inv X pins σ (upd H' D (.lst ys)) { s4 with heap:=h' }:=by
 have J:Inv X pins σ H' s4:=I3.call' IY.os IY.base IY.hok IY.bare (ch:=D::fp) fun b hb=>⟨(hf b hb).2.2.2.1,(hf b hb).2.1,(hf b hb).2.2.2.2.1,(hf b hb).2.2.2.2.2⟩
 have fC:Z3s X pins H' C:=I3.fpOk (Nat.le_of_eq hC.symm) IY.free
 have J2:Inv X pins σ H' { s4 with heap:=h' }:=J.turned (t':=s4.toks) (fun b o hb e=>(hs.2 b hb).trans e) fC.1 fC.2.1 fC.2.2.2.1 fC.2.2.2.2.1 fC.2.2.2.2.2
 have hDC:D≠C:=by rw[hC];exact Nat.ne_of_lt (hlt D List.mem_cons_self)
 obtain⟨n,e⟩:=pl
 have fD:=hf D List.mem_cons_self
 exact J2.track ⟨hD,fD.2⟩ ⟨hz,us,n,rv,(hs.2 D hDC).trans e⟩
theorem Z9p {cl:List (Str × Addr)}{C D it:Addr}{fp:List Addr}{tn:Nat->Heap->Prop}{J:It}{pins:List (Addr × Obj)}{σ σ0:St}{H:Hp}{s3 s4:Shared}{R:Result->Shared->Prop}{W:Nat->Nat->List V->St->Hp->Prop}{m0:Nat}{Q:List V->Hp->Prop}
  (hc:X.calm=true) (T:Turn X.prog X.w X.K tg J fp it tn) (I3:Inv X pins σ H s3) (hC:C=s3.heap.objs.size)
  (hf:∀b∈D::fp,Z3s X pins H b) (hlt:∀b∈D::fp,b<s3.heap.objs.size) (hDf:D∉fp) (IY:Inv (Z1y X N' scope cl C (D::fp) s3 H) [] σ0 H s4) (st:tn 0 s4.heap) (pl:s4.heap.PlainList D #[])
  (hg:PG (Z1y X N' scope cl C (D::fp) s3 H) tg g) (ht:PTs (Z1y X N' scope cl C (D::fp) s3 H) ifs tt) (he:PE (Z1y X N' scope cl C (D::fp) s3 H) elt te) (w0:W 0 m0 [] σ0 H)
  (turn:∀i m ys σc H,W i m ys σc H->(J.stop i H/\Q ys H)∨(J.go i H/\ys.length<sizeLine/\∀x H',J.yld i H x H'->g x σc H' fun σ2 H2=>tt σ2 H2 fun b H3 =>
   if b=true then te σ2 H3 fun v H4=>∃m',m'<m/\W (i+1) m' (ys ++ [v]) σ2 H4 else ∃m',m'<m/\W (i+1) m' ys σ2 H3))
  (fin:∀s5 σc H' ys us pinsY,Inv (Z1y X N' scope cl C (D::fp) s3 H) pinsY σc H' s5->H' D=none->s5.heap.PlainList D us.toArray->Vals ys us->ys.length<=sizeLine->Q ys H'->R (.ok .next) s5) :
  codeAny (model X.prog X.w) X.A (.compLoop (.ListComp elt [⟨tg,iter,ifs,0⟩] scope pos) 0 (.ref it) (.ref D) (compEnvC scope cl C X.env)) R s4:=by
 have eY:(Z1y X N' scope cl C (D::fp) s3 H).env=compEnvC scope cl C X.env:=rfl
 generalize hY:Z1y X N' scope cl C (D::fp) s3 H=Y at *
 have e1:Y.prog=X.prog:=by rw[<- hY];rfl
 have e2:Y.w=X.w:=by rw[<- hY];rfl
 have e3:Y.K=X.K:=by rw[<- hY];rfl
 have e4:Y.A=X.A:=by rw[<- hY];rfl
 have e5:Y.calm=true:=by rw[<- hY];exact hc
 have e6:Y.xe=fun _ _=>False:=by rw[<- hY];rfl
 have e7:Y.env.locals=C:=by rw[eY];rfl
 have e8:Y.ex=D::fp:=by rw[<- hY];rfl
 have e9:Y.pn = []:=by rw[<- hY];rfl
 have e10:Y.fs=frs X.stack:=by rw[<- hY];rfl
 have e11:∀x c,Y.env.cells.lookup x=some c->∀b∈D::fp,c≠b:=fun x c e b hb=>(IY.ok.exf b (by rw[e8];exact hb)).2 x c e
 have nst:∀b∈D::fp,b∉Y.fs:=fun b hb=>IY.ok.exfs b (by rw[e8];exact hb)
 have fpY:∀(pinsY:List (Addr × Obj)) (H':Hp),(∀p∈pinsY,p.1=D)->∀b∈fp,H' b=none->Z3s Y pinsY H' b:=fun pinsY H' hp b hb hn =>
  ⟨hn,by rw[e7,hC];exact Nat.ne_of_lt (hlt b (List.mem_cons_of_mem _ hb)),nst b (List.mem_cons_of_mem _ hb),.inl (by rw[e8];exact List.mem_cons_of_mem _ hb),fun x c e=>e11 x c e b (List.mem_cons_of_mem _ hb),fun p hp' z=>by
   rw[e9,List.nil_append] at hp'
   have q:=hp p hp'
   rw[z] at q
   rw[q] at hb
   exact hDf hb⟩
 have fpD:∀(pinsY:List (Addr × Obj)) (H':Hp),(∀p∈pinsY,p.1≠D)->H' D=none->Z3s Y pinsY H' D:=fun pinsY H' hp hn =>
  ⟨hn,by rw[e7,hC];exact Nat.ne_of_lt (hlt D List.mem_cons_self),nst D List.mem_cons_self,.inl (by rw[e8];exact List.mem_cons_self),fun x c e=>e11 x c e D List.mem_cons_self,fun p hp'=>by
   rw[e9,List.nil_append] at hp'
   exact hp p hp'⟩
 have T':Turn Y.prog Y.w Y.K tg J fp it tn:=by rw[e1,e2,e3];exact T
 rw[<- eY,<- e1,<- e2,<- e4]
 refine Z5l (fun n s'=>∃i ys us σc H',Inv Y [] σc H' s'/\tn i s'.heap/\(∀b∈fp,H' b=none)/\H' D=none/\s'.heap.PlainList D (us:List Value).toArray/\Vals ys us/\ys.length<=sizeLine/\W i n ys σc H') ?_ m0
  ⟨0,[],[],σ0,H,IY,st,fun b hb=>(hf b (List.mem_cons_of_mem _ hb)).1,(hf D List.mem_cons_self).1,pl,.nil,Nat.zero_le _,w0⟩
 rintro n s5 ⟨i,ys,us,σc,H5,I5,st5,fr5,hD5,pl5,rv5,hz5,w5⟩
 obtain⟨nn,hob⟩:=id pl5
 have I5':Inv Y [(D,{ cls := .type "list",data := .seq us.toArray nn })] σc H5 s5:=I5.pins_of fun p hp=>by
  rw[List.mem_singleton] at hp
  subst hp
  exact⟨hob,hD5,by rw[e7,hC];exact Nat.ne_of_lt (hlt D List.mem_cons_self),nst D List.mem_cons_self,fun v z=>by
   have z':Data.seq us.toArray nn=Data.cell v:=z
   cases z'⟩
 have f5:∀b∈fp,Z3s Y [(D,{ cls := .type "list",data := .seq us.toArray nn })] H5 b:=fun b hb=>fpY _ _ (fun p hp=>by rw[List.mem_singleton] at hp;rw[hp]) b hb (fr5 b hb)
 rcases turn i n ys σc H5 w5 with ⟨stop,q⟩ | ⟨go,hz,step⟩
 ·refine thn (T'.done Y rfl rfl rfl e5 i _ s5 σc H5 (fun _ _=>False) I5' f5 st5 stop) fun r s6 ⟨hr,I6⟩ => ?_
  subst hr
  exact fin s6 σc H5 ys us _ I6 hD5 ⟨nn,(I6.pin (D,_) (List.mem_append_right _ List.mem_cons_self)).1⟩ rv5 hz5 q
 ·refine thn (T'.item Y rfl rfl rfl e5 i _ s5 σc H5 (fun _ _=>False) I5' f5 st5 go) fun r s6 ⟨u,hr,h6⟩ => ?_
  subst hr
  refine thn h6 fun _ s7 ⟨x,H7,I7,r7,y7,st7,fr7⟩ => ?_
  have f7:∀b∈fp,Z3s Y [(D,{ cls := .type "list",data := .seq us.toArray nn })] H7 b:=fun b hb=>fpY _ _ (fun p hp=>by rw[List.mem_singleton] at hp;rw[hp]) b hb (fr7 b hb)
  have I7':=I7.pinned f7 (T.obj _ _ st7)
  have hx:=hg _ s7 σc H7 x u _ I7' r7 (step x H7 y7)
  rw[e6] at hx
  refine thn hx fun _ s8 ⟨σ8,H8,I8,q8⟩ => ?_
  have hx2:=ht _ s8 σ8 H8 _ I8 q8
  rw[e6] at hx2
  have keepT:∀{σ9:St} {H9:Hp} {s9:Shared},Inv Y ([(D,{ cls := .type "list",data := .seq us.toArray nn })]++Z78 fp s7.heap) σ9 H9 s9->tn (i+1) s9.heap/\(∀b∈fp,H9 b=none)/\H9 D=none/\s9.heap.get? D=some { cls := .type "list",data := .seq us.toArray nn }:=fun {σ9 H9 s9} I9=>by
   have pD:=I9.pin (D,_) (List.mem_append_right _ (List.mem_append_left _ List.mem_cons_self))
   refine⟨T.keep _ _ _ st7 fun b hb o e=>(I9.pin (b,o) (List.mem_append_right _ (List.mem_append_right _ (Z2r hb e)))).1,fun b hb => ?_,pD.2.1,pD.1⟩
   obtain⟨o,e,d⟩:=T.obj _ _ st7 b hb
   exact(I9.pin (b,o) (List.mem_append_right _ (List.mem_append_right _ (Z2r hb e)))).2.1
  refine thn hx2 fun ok s9 ⟨H9,I9,q9⟩ => ?_
  cases ok with
  | false =>
   rw[if_neg Bool.false_ne_true] at q9
   rw[if_neg Bool.false_ne_true]
   obtain⟨m',hm,w9⟩:=q9
   obtain⟨k1,k2,k3,k4⟩:=keepT I9
   exact⟨m',hm,i+1,ys,us,σ8,H9,I9.pins_of (fun p hp=>nomatch hp),k1,k2,k3,⟨nn,k4⟩,rv5,hz5,w9⟩
  | true =>
   rw[if_pos rfl] at q9
   rw[if_pos rfl]
   have hx3:=he _ s9 σ8 H9 _ I9 q9
   rw[e6] at hx3
   refine thn hx3 fun xv s10 ⟨v,H10,I10,r10,m',hm,w10⟩ => ?_
   obtain⟨k1,k2,k3,k4⟩:=keepT I10
   have hl:=rv5.length
   refine wpAny_list_append_plain ⟨nn,k4⟩ (fun h' pl' sb => ?_) (by rw[List.size_toArray];omega)
   have fD:=fpD [] H10 (fun p hp=>nomatch hp) k3
   have I11:Inv Y [] σ8 H10 { s10 with heap:=h' }:=(I10.pins_of (pins' := []) fun p hp=>nomatch hp).turned (t':=s10.toks) (fun b o hb e=>(sb.2 b hb).trans e) fD.1 fD.2.1 fD.2.2.2.1 fD.2.2.2.2.1 fD.2.2.2.2.2
   refine⟨m',hm,i+1,ys ++ [v],us ++ [xv],σ8,H10,I11,T.keep _ _ _ k1 (fun b hb o e=>(sb.2 b ?_).trans e),k2,k3,?_,rv5.append (.cons r10 .nil),?_,w10⟩
   ·intro z;rw[z] at hb;exact hDf hb
   ·rw[show(us ++ [xv]).toArray=us.toArray.push xv by simp];exact pl'
   ·rw[List.length_append,List.length_singleton];exact hz
theorem Zbr (hc:X.calm=true)(S:CompScopeC X scope N' src z)(hi:PI X tg iter wi)
  (hb:∀cl C ex s0 H0,PG (Z1y X N' scope cl C ex s0 H0) tg g/\PTs (Z1y X N' scope cl C ex s0 H0) ifs tt/\PE (Z1y X N' scope cl C ex s0 H0) elt te)
  (hs:∀x,foldedSetIterable iter X.env x=pure x:=by intro _;rfl):PE X (.ListComp elt [⟨tg,iter,ifs,0⟩] scope pos) (Zfv src wi g tt te):=by
 intro pins s σ H Q I h
 obtain⟨cl,hclos,hcl1,hcl2⟩:=Z44 (scope:=scope) (env:=X.env) fun n hn=>I.ok.has n (S.fr n hn)
 rw[eval_ListComp]
 refine wpAny_comprehension_free (use:=none) rfl hs hclos S.kind S.names ?_
 refine thn (hi pins s σ H _ I h) fun v s1 h1=>thn h1 fun itv s2 h2 => ?_
 obtain⟨it,fp,tn,J,H2,e,I2,T,st2,f2,W,⟨m0,w0⟩,turn⟩:=h2
 subst e
 refine wpAny_newObj_type (Z6x ?_)
 dsimp only
 generalize hH3:s2.heap.push { cls := .type "list",dict:=none,data := .seq ([]:List Value).toArray }=H3
 rw[S.cells,S.push]
 have hns₁:((H3.push { cls := .type "dict",data := .dict #[] }).push { cls := .type "cell",data := .cell none }).Ns H3.objs.size (fun _=>none):=(Heap.Ns.new H3 (.type "dict")).keeps fun _ _ q=>Heap.get?_push_of_some _ q
 have hzc:((H3.push { cls := .type "dict",data := .dict #[] }).push { cls := .type "cell",data := .cell none }).IsCell (H3.objs.size+1) none:=⟨_,by rw[show H3.objs.size+1=(H3.push { cls := .type "dict",data := .dict #[] }).objs.size from(Heap.size_push ..).symm];exact Heap.get?_push_size _ rfl,rfl⟩
 have kp:∀b o,H3.get? b=some o->((H3.push { cls := .type "dict",data := .dict #[] }).push { cls := .type "cell",data := .cell none }).get? b=some o:=fun b o q=>Heap.get?_push_of_some _ (Heap.get?_push_of_some _ q)
 generalize (H3.push { cls := .type "dict",data := .dict #[] }).push { cls := .type "cell",data := .cell none }=h₁ at hns₁ hzc kp ⊢
 have hsz:H3.objs.size=s2.heap.objs.size+1:=by rw[<- hH3,Heap.size_push]
 have I3:Inv X pins σ H2 { s2 with heap:=H3 }:=I2.kept (t':=s2.toks) fun b o e=>by rw[<- hH3];exact Heap.get?_push_of_some _ e
 have fD:Z3s X pins H2 s2.heap.objs.size:=I2.fpOk (Nat.le_refl _) (I2.hok.fresh (Nat.le_refl _))
 have hDf:s2.heap.objs.size∉fp:=fun hm=>by
  obtain⟨o,e,_⟩:=T.obj 0 _ st2 _ hm
  exact Nat.lt_irrefl _ (Heap.lt_size e)
 have hf:∀b∈s2.heap.objs.size::fp,Z3s X pins H2 b:=fun b hb=>by
  rcases List.mem_cons.mp hb with z | z
  ·rw[z];exact fD
  ·exact f2 b z
 have hlt:∀b∈s2.heap.objs.size::fp,b<H3.objs.size:=fun b hb=>by
  rcases List.mem_cons.mp hb with z | z
  ·rw[z,hsz];exact Nat.lt_succ_self _
  ·obtain⟨o,e,_⟩:=T.obj 0 _ st2 b z
   rw[hsz];exact Nat.lt_succ_of_lt (Heap.lt_size e)
 have kp0:∀b o,s2.heap.get? b=some o->h₁.get? b=some o:=fun b o e=>kp b o (by rw[<- hH3];exact Heap.get?_push_of_some _ e)
 have hacc:h₁.PlainList s2.heap.objs.size #[]:=⟨_,kp _ _ (by rw[<- hH3];exact Heap.get?_push_size _ rfl)⟩
 have st1:tn 0 h₁:=T.keep _ _ _ st2 fun b _ o e=>kp0 b o e
 have IY:=Z6y (z:=z) (N':=N') (src:=src) (scope:=scope) (cl:=cl) (C:=H3.objs.size) (D:=s2.heap.objs.size) (fp:=fp) (s3:={ s2 with heap:=H3 }) (h1:=h₁) (tk:=s2.toks) S I3 hcl1 hcl2 rfl hf hlt hns₁ kp hzc
 obtain⟨hg,ht,he⟩:=hb ((z,H3.objs.size+1)::cl) H3.objs.size (s2.heap.objs.size::fp) { s2 with heap:=H3 } H2
 have loop:=Z9p (R:=compPost (model X.prog X.w) X.A X.xe none (EP X pins σ Q) (.ref s2.heap.objs.size) H3.objs.size) (elt:=elt) (iter:=iter) (ifs:=ifs) (pos:=pos) (Q:=fun ys H=>∀l,H l=none->Q (.ref l) (upd H l (.lst ys)))
  hc T I3 rfl hf hlt hDf IY st1 hacc hg ht he w0 turn (fun s5 σc H' ys us pinsY IY5 hD pl rv hz q=>by
   obtain⟨m,hn,_⟩:=IY5.loc
   refine⟨m,hn,fun h' hs'=>⟨.ref s2.heap.objs.size,upd H' s2.heap.objs.size (.lst ys),?_,rfl,q _ hD⟩⟩
   exact Z6z I3 rfl hf hlt IY5 hD pl rv hz hs')
 exact codeAny_compStart_list loop (T.self _ 0 _ _ _ st1 loop)
end
def Z9q (kindOf:Str->Option NameKind)(XN:List Str)(scope:Scope)(N':List Str)(src:List (Option Nat))(z:Str):Bool :=
 (scope.kind == .function)&&(scope.names.all fun y=>(y.2 != .cell||y.1==z)&&(y.2 != .local||scope.names.lookup y.1==some .local)&&(y.2 != .free||((kindOf y.1==some .cell||kindOf y.1==some .free)&&(scope.names.lookup y.1 != some .local&&y.1 != z)))) &&
 (N'.length==src.length)&&((List.range src.length).all fun i=>match src[i]? with
  | some (some j)=>(match N'[i]?,XN[j]? with | some x,some y=>x==y&&scope.names.contains (x,NameKind.free) | _,_=>false)
  | _=>true)
theorem Z3n {X:Cx}{scope:Scope}{N':List Str}{src:List (Option Nat)}{z:Str}(sc:Scope)(hsc:X.env.scope=sc)(N:List Str)(hN:X.N=N)(hcells:∀n acc,cellsFrom n scope.names acc=(z,n)::acc)
  (hpush:∀h,pushCells h scope.names=h.push { cls := .type "cell",data := .cell none }) (h:Z9q (fun x=>sc.names.lookup x) N scope N' src z=true):CompScopeC X scope N' src z:=by
 subst hsc hN
 unfold Z9q at h
 simp only [Bool.and_eq_true,List.all_eq_true,beq_iff_eq,bne_iff_ne,ne_eq,Bool.or_eq_true] at h
 obtain⟨⟨⟨h1,h2⟩,h3⟩,h4⟩:=h
 refine⟨h1,hcells,hpush,fun y hy hl => ?_,fun y hy hl => ?_,fun n hn => ?_,fun n hn => ?_,h3,fun i j e => ?_⟩
 ·rcases(h2 y hy).1.1 with q | q
  ·exact absurd hl q
  ·exact q
 ·rcases(h2 y hy).1.2 with q | q
  ·exact absurd hl q
  ·exact q
 ·rcases(h2 _ hn).2 with q | q
  ·exact absurd rfl q
  ·exact q.1
 ·rcases(h2 _ hn).2 with q | q
  ·exact absurd rfl q
  ·exact q.2
 ·have hi:i<src.length:=(List.getElem?_eq_some_iff.mp e).1
  have q:=h4 i (List.mem_range.mpr hi)
  rw[e] at q
  dsimp only at q
  cases e1:N'[i]? with
  | none=>rw[e1] at q;cases q
  | some x =>
   cases e2:X.N[j]? with
   | none=>rw[e1,e2] at q;cases q
   | some y =>
    rw[e1,e2] at q
    simp only [Bool.and_eq_true,beq_iff_eq] at q
    obtain⟨rfl,q⟩:=q
    exact⟨x,rfl,rfl,by simpa using q⟩
theorem Z36 {X:Cx}{K:PySem.W.Frag}(h:X.K=K):Z48 X (.type "tuple") (fun xs H Q=>∃p ys,xs = [.ref p]/\((SqL K H p ys/\∀l,H l=none->Q (.ref l) (upd H l (.tup ys)))∨(SqT K H p ys/\Q (.ref p) H))):=by subst h;exact Z0s
theorem Z1n:bootBuiltins "tuple"=some (.type "tuple"):=by decide +kernel
theorem Z8e {X:Cx}{K:PySem.W.Frag}(h:X.K=K){tg l:Expr}{tl:TE}(hl:PE X l tl):PI X tg l (Zkb K tl):=by subst h;exact Z2l hl
end L2
namespace K20
open PySem L2
inductive spTogether (N:Nat)(vs:List V)(H:Hp)(Q:VK)(E_3:XK):Prop
 | mk (p:Addr) (fs:List V) (ts:List Th) (m:Nat) (_:vs = [.ref p]) (_:H p=some (.tup fs)) (_:IsThs H fs ts) (_:Fs (N+1) m ts) (_:al ts=true) (_:1<=m) (_:m<=1000) (_:∀(q:Addr) (ws:List V) H',Same H H'->H q=none->H' q=some (.lst ws)->IsThs H' ws ((Z1s ts).map Th.tup)->Q (.ref q) H'):spTogether N vs H Q E_3
theorem Zbs {ts:List Th}{j:Nat}(h:j<(Z1s ts).length):(Z1s ts)[j]? = some (ts.map fun u=>(Z15 u).getD j dT):=by
 unfold Z1s at h ⊢
 rw[List.length_map,List.length_range] at h
 rw[List.getElem?_map,List.getElem?_range h]
 rfl
theorem Zn2:(["at","inner"]:List Str).Nodup:=by decide +kernel
theorem Zn3:(["at","row"]:List Str).Nodup:=by decide +kernel
theorem Zbt:(["form"]:List Str).Nodup:=by decide +kernel
abbrev Zo6:Scope:=⟨.function,[(".0",.local),("at",.cell),("tuple",.globalImplicit),("inner",.cell)],false,false,[]⟩
section
variable {P:Program}{w:World}{K:PySem.W.Frag}{mg:Str->Option Value}{base:Heap}
theorem scTogether:FnScope ["forms","inner"] ["forms"] (Z05 Z2w):=⟨rfl,rfl,rfl,by decide +kernel,rfl,by decide +kernel,by decide +kernel⟩
theorem Zam {f fP fH fS:Addr}{fd dP dH dS:FuncData}(F:Fun K "parts_together" "parts_together" Z2w f fd)(U:HT K mg fP fH fS dP dH dS)(hrange:mg "range"=none)(N:Nat):FnOk P w K mg base CX0 2 f fd ["forms"] (spTogether N):=by
 have GP:FnOk P w K mg base CX0 1 fP dP ["e"] spParts:=Z4t U.P U.T U.KI
 refine F.ok scTogether (fun vs H Q E h => ?_) (fun cdv A outer s H vs Q E hr h => ?_)
 ·obtain⟨p,fs,ts,m,rfl,_⟩:=h
  rfl
 ·obtain⟨p,fs,ts,m,rfl,hp,hfs,F0,ha,hm1,hm2,k⟩:=h
  have hsz:sizeLine=16777216:=sizeLine_eq
  have hr1:Room 1 _:=hr.mono (by decide)
  refine'⟨?tt,?body,?fin⟩
  case body =>
   refine' Z03 ?s1 (Z07 ?s2)
   case s1 =>
    refine' Z0c (i:=1) scTogether.nd rfl (Or.inr rfl) ?x
    case x =>
     refine' Z1a (N' := ["form"]) (src := [none]) ?k1 ?k5 ?k6 ?k7
     case k1=>rfl
     case k5=>exact Z0i (Z05 Z2w) rfl ["forms","inner"] rfl (by decide +kernel)
     case k6=>exact Z4j (pv 0)
     case k7=>exact fun cl C ex s0 H0=>⟨Z0m (i:=0) Zbt rfl (Or.inl rfl),Z1d,Z06 GP hr1 (by rfl) U.mP U.P.kp U.bP .nil Z0g (Z0h (pv 0) Z01)⟩
   case s2 =>
    refine' Z0l ?x
    case x =>
     refine' Zbr (z:="at") (N' := ["at","inner"]) (src := [none,some 1]) ?k1 ?k5 ?k6 ?k7
     case k1=>rfl
     case k5=>exact Z3n (Z05 Z2w) rfl ["forms","inner"] rfl (fun _ _=>rfl) (fun _=>rfl) (by decide +kernel)
     case k6=>exact Z1o (by rfl) hrange (Z2s (Z0d Z0b (by rfl) U.T.len PySem.boot_len (Z09 (Z0y Z11 (pv 1) Z04 (fun _ _=>rfl)) Z01)) Z01)
     case k7 =>
      intro cl C ex s0 H0
      refine'⟨?g1,?g2,?g3⟩
      case g1=>exact Z0m (i:=0) Zn2 rfl (Or.inr rfl)
      case g2=>exact Z1d
      case g3 =>
       refine' Z10 (Z36 (K:=K) rfl) (by rfl) U.T.tup Z1n (Z09 ?c Z01)
       case c =>
        refine' Z1a (N' := ["at","row"]) (src := [some 0,none]) ?j1 ?j5 ?j6 ?j7
        case j1=>rfl
        case j5=>exact Z0i Zo6 rfl ["at","inner"] rfl (by decide +kernel)
        case j6=>exact Z8e (K:=K) rfl (pv 1)
        case j7=>exact fun cl C ex s0 H0=>⟨Z0m (i:=1) Zn3 rfl (Or.inl rfl),Z1d,Z0y (Z5c (K:=K) rfl) (pv 1) (pv 0) (fun _ _=>rfl)⟩
  case fin =>
   have hfl:=IsThs.len _ hfs
   rw[F0.len] at hfl
   have tup:∀t∈ts,∃xs,t = .tup xs/\xs.length<=1000000:=fun t ht=>by
    obtain⟨w,hd,ks,rfl,_,h1,_,_,h5,_⟩:=Z3h (F0.pf t ht) (F0.no t ht)
    exact⟨_,rfl,by rw[List.length_cons,List.length_append,List.length_map];omega⟩
   have klen:∀t∈ts,(Z15 t).length=(Z1s ts).length:=fun t ht=>(Z55 F0 ha ht hm1).symm
   refine⟨_,rfl,p,rfl,⟨_,SqT.of hp⟩,Z2q (K:=K) (a:=p) (xs:=fs) (fun i ys σc H'=>∃o,σc = [o]/\Same H H'/\IsThs H' ys ((ts.take i).map fun t => .tup (Z15 t)))
    ⟨none,rfl,Same.refl _,.nil⟩ (fun i ys σc H' ⟨_,_,e,_⟩=>SqT.of (e _ _ hp)) ?_ ?_⟩
   ·rintro i x ys σc H' hx hi ⟨o,rfl,s1,hys⟩
    obtain⟨t,ht,hxt⟩:=Z0q _ hfs hx
    obtain⟨xs,rfl,hxl⟩:=tup t (List.mem_of_getElem? ht)
    have hyl:=IsThs.len _ hys
    rw[List.length_map,List.length_take] at hyl
    refine⟨by omega,_,rfl,H,x,xs,rfl,s1,hxt,hxl,fun q ws H2 s2 hq hws=>nx hi ⟨_,rfl,s1.trans s2,?_⟩⟩
    rw[List.take_add_one,ht,List.map_append]
    exact IsThs.app _ (IsThs.kp (Kp.of s2) hys) (.cons (.tup hq (IsThs.kp (Kp.of (s1.trans s2)) hws)) .nil)
   rintro ys σc H1 ⟨o,rfl,s1,hys⟩ q hq
   rw[List.take_of_length_le (by rw[F0.len];omega)] at hys
   have sq:=Z02 (o := .lst ys) hq
   have hys':=IsThs.kp (Kp.of sq) hys
   have Lq:upd H1 q (.lst ys) q=some (.lst ys):=Z00
   have s1q:=s1.trans sq
   generalize upd H1 q (.lst ys)=H2 at hys' Lq s1q ⊢
   have hyl:=IsThs.len _ hys
   rw[List.length_map,F0.len] at hyl
   have row:∀{H3:Hp} {i:Nat} {x:V},Same H2 H3->ys[i]? = some x->∃(t:Th) (a:Addr) (ws:List V),ts[i]? = some t/\x = .ref a/\H3 a=some (.tup ws)/\IsThs H3 ws (Z15 t):=fun {H3 i x} s3 hx=>by
    obtain⟨u,hu,hxu⟩:=Z0q _ (IsThs.kp (Kp.of s3) hys') hx
    rw[List.getElem?_map] at hu
    cases e:ts[i]? with
    | none=>rw[e] at hu;cases hu
    | some t =>
     rw[e] at hu
     cases hu
     obtain⟨a,ws,rfl,h1,h2⟩:=Z1i hxu
     exact⟨t,a,ws,rfl,rfl,h1,h2⟩
   obtain⟨x0,yr,rfl⟩:∃x0 yr,ys=x0::yr:=by
    cases ys with
    | nil=>simp at hyl;omega
    | cons x0 yr=>exact⟨x0,yr,rfl⟩
   obtain⟨t0,a0,ws0,ht0,rfl,h0,hw0⟩:=row (Same.refl H2) (i:=0) rfl
   have hk0:=klen t0 (List.mem_of_getElem? ht0)
   have hwl:=IsThs.len _ hw0
   have hk6:(Z1s ts).length<=6:=by
    obtain⟨w,hd,ks,_,_,_,_,_,h5,_,_,e,_⟩:=Z3h (F0.pf t0 (List.mem_of_getElem? ht0)) (F0.no t0 (List.mem_of_getElem? ht0))
    rw[<- hk0,e]
    exact h5
   refine⟨_,rfl,q,_,0,.ref a0,rfl,rfl,SqL.of Lq,Z1g _ _,a0,ws0,rfl,.inr (SqT.of h0),(ws0.length:Int),rfl,by omega,by omega,?_⟩
   rw[Int.toNat_natCast,hwl,hk0]
   refine Z3c (lo:=0) (n:=(Z1s ts).length) (fun j zs σc H'=>∃o,σc = [o,some (.ref q)]/\Same H2 H'/\IsThs H' zs (((Z1s ts).take j).map Th.tup)) ⟨none,rfl,Same.refl _,.nil⟩ ?_ ?_
   ·rintro j zs σc H3 hj ⟨o,rfl,s3,hzs⟩
    have hzl:=IsThs.len _ hzs
    rw[List.length_map,List.length_take] at hzl
    refine⟨by omega,?_⟩
    refine⟨_,rfl,q,rfl,⟨_,SqL.of (s3 _ _ Lq)⟩,Z1q (K:=K) (a:=q) (xs := .ref a0::yr) (fun i us σd H4=>∃o,σd = [some (.int (0+(j:Int))),o]/\Same H3 H4/\IsThs H4 us ((ts.take i).map fun u=>(Z15 u).getD j dT))
     ⟨none,rfl,Same.refl _,.nil⟩ (fun i us σd H4 ⟨_,_,e,_⟩=>SqL.of (e _ _ (s3 _ _ Lq))) ?_ ?_⟩
    ·rintro i x us σd H4 hx hi ⟨o4,rfl,s4,hus⟩
     obtain⟨t,a,ws,ht,rfl,h1,h2⟩:=row (s3.trans s4) hx
     have hkt:=klen t (List.mem_of_getElem? ht)
     have hul:=IsThs.len _ hus
     rw[List.length_map,List.length_take] at hul
     have hwt:=IsThs.len _ h2
     have hjw:j<ws.length:=by omega
     obtain⟨u,hu1,hu2⟩:=Z0q _ h2 (List.getElem?_eq_getElem hjw)
     refine⟨by omega,_,rfl,_,rfl,a,ws,0+(j:Int),ws[j],rfl,rfl,SqT.of h1,by rw[Int.zero_add];exact Z2c (List.getElem?_eq_getElem hjw),nx hi ⟨_,rfl,s4,?_⟩⟩
     rw[List.take_add_one,ht,List.map_append]
     refine IsThs.app _ hus (.cons ?_ .nil)
     show IsTh H4 ws[j] ((Z15 t).getD j dT)
     rw[List.getD_eq_getElem?_getD,hu1]
     exact hu2
    ·rintro us σd H4 ⟨o4,rfl,s4,hus⟩ l hl
     rw[List.take_of_length_le (by rw[F0.len];omega)] at hus
     have sl:=Z02 (o := .lst us) hl
     refine⟨l,us,rfl,.inl ⟨SqL.of Z00,fun l2 hl2 => ?_⟩⟩
     have sl2:=Z02 (o := .tup us) hl2
     have sA:=(s4.trans sl).trans sl2
     refine nx hj ⟨_,rfl,s3.trans sA,?_⟩
     rw[List.take_add_one,Zbs hj,List.map_append]
     exact IsThs.app _ (IsThs.kp (Kp.of sA) hzs) (.cons (.tup Z00 (IsThs.kp (Kp.of (sl.trans sl2)) hus)) .nil)
   ·rintro zs σc H3 ⟨o,rfl,s3,hzs⟩ l hl
    rw[List.take_of_length_le (Nat.le_refl _)] at hzs
    have sl:=Z02 (o := .lst zs) hl
    exact k l zs _ ((s1q.trans s3).trans sl) (Z1v (s1q.trans s3) hl) Z00 (IsThs.kp (Kp.of sl) hzs)
end
def rw0 (w:Str)(hd:List V)(m:Nat):Th := .tup [.tup (.at (.str w)::hd.map Th.at),.at (.int (m:Nat))]
theorem Z8f {w:Str}{hd:List V}{ks:List Th}(nk:∀k∈ks,L2.isTup k=true):Z19 (nd w hd ks)=rw0 w hd ks.length::(ks.map Z19).flatten:=by
 have e1:Z1f (.at (.str w)::(hd.map Th.at++ks))=ks:=by
  unfold Z1f
  rw[List.filter_cons,if_neg (by simp [L2.isTup]),List.filter_append,Z83,List.nil_append,Z5z nk]
 have e2:Z2x (.at (.str w)::(hd.map Th.at++ks)) = .at (.str w)::hd.map Th.at:=by
  unfold Z2x
  rw[List.filter_cons,if_pos (by rfl),List.filter_append,Zbg,Z9f nk,List.append_nil]
 unfold nd
 rw[Z4u,Zeb,e1,e2]
 rfl
def Rw (r:Th):Prop:=∃(w:Str) (hd:List V) (m:Nat),r=rw0 w hd m/\m<=6/\hd.length<=1/\(∀v∈hd,plT (.at v)=true)/\(w="hole"->∃i:Nat,hd = [.int i]/\m=0)
theorem Z8g:∀(n:Nat) {t:Th},PfT n t->∀r∈Z19 t,Rw r:=by
 intro n
 induction n with
 | zero=>intro t h;exact h.elim
 | succ n ih =>
  intro t h r hr
  obtain⟨w,hd,ks,rfl,h1,h2,h3,h4,h5,h6⟩:=h
  rw[Z8f fun k hk=>(h6 k hk).isTup] at hr
  rcases List.mem_cons.mp hr with z | z
  ·refine⟨w,hd,ks.length,z,h5,h1,h2,fun q => ?_⟩
   obtain⟨i,e1,e2⟩:=h4 q
   exact⟨i,e1,by rw[e2];rfl⟩
  ·obtain⟨l,hl,hrl⟩:=List.mem_flatten.mp z
   obtain⟨k,hk,rfl⟩:=List.mem_map.mp hl
   exact ih (h6 k hk) r hrl
theorem Zey:∀(n:Nat) {t:Th},PfT n t->∀D:List Th,Zcv (Z19 t) (some D)=some (D ++ [t]):=by
 intro n
 induction n with
 | zero=>intro t h;exact h.elim
 | succ n ih =>
  intro t h D
  obtain⟨w,hd,ks,rfl,h1,h2,h3,h4,h5,h6⟩:=h
  rw[Z8f fun k hk=>(h6 k hk).isTup,Z6u]
  have main:∀l:List Th,(∀k∈l,PfT n k)->Zcv (l.map Z19).flatten (some D)=some (D++l.reverse):=by
   intro l
   induction l with
   | nil=>intro _;simp [Zcv]
   | cons k l il =>
    intro hl
    rw[List.map_cons,List.flatten_cons,Zbo,il fun y hy=>hl y (List.mem_cons_of_mem _ hy),ih (hl k (List.mem_cons_self ..))]
    simp
  rw[main ks h6]
  exact Zjf (.at (.str w)::hd.map Th.at) D ks ks.length rfl
theorem Zez {r:Th}(h:Rw r):Zn0 r:=by
 obtain⟨w,hd,m,rfl,h1,h2,h3,_⟩:=h
 refine⟨_,m,rfl,h1,by rw[List.length_cons,List.length_map];omega,?_⟩
 rw[Z24,plT,Z1c fun x hx => ?_]
 ·rfl
 ·obtain⟨v,hv,rfl⟩:=List.mem_map.mp hx
  exact h3 v hv
theorem Zjg {n:Nat}{t:Th}(h:PfT n t):Z24 (Z19 t)=true:=Z1c fun r hr=>Zaj (Zez (Z8g n h r hr))
theorem Zlc {r:Th}(h:Rw r):dp r<=2:=by
 obtain⟨w,hd,m,rfl,_⟩:=h
 have e:dps (hd.map Th.at)=0:=Nat.le_zero.mp (Z3z fun x hx=>by obtain⟨v,_,rfl⟩:=List.mem_map.mp hx;rw[dp];exact Nat.le_refl _)
 unfold rw0
 simp [dp,dps,e]
theorem Zhv {f g:List (List Th)->List Th->Th × List (List Th)}:∀(cs C:List (List Th)),(∀c∈cs,∀C,f C c=g C c)->acc f C cs=acc g C cs:=by
 intro cs
 induction cs with
 | nil=>intro C _;rfl
 | cons c cs ih =>
  intro C h
  unfold acc
  rw[h c (List.mem_cons_self ..) C,ih _ fun x hx=>h x (List.mem_cons_of_mem _ hx)]
theorem Zjh {f:List (List Th)->List Th->Th × List (List Th)}:∀(xs ys C:List (List Th)),acc f C (xs++ys)=((acc f C xs).1++(acc f (acc f C xs).2 ys).1,(acc f (acc f C xs).2 ys).2):=by
 intro xs
 induction xs with
 | nil=>intro ys C;rfl
 | cons x xs ih =>
  intro ys C
  show((f C x).1::(acc f (f C x).2 (xs++ys)).1,(acc f (f C x).2 (xs++ys)).2)=_
  rw[ih ys (f C x).2]
  rfl
theorem Zn4 {m:Nat}(hm:1<=m):∀(n:Nat) (C:List (List Th)) (ts:List Th),Fs n m ts->mP (n+1) C ts=mP n C ts:=by
 intro n
 induction n with
 | zero=>intro C ts F;exact(F.pf _ (Z0p F.len hm)).elim
 | succ n ih =>
  intro C ts F
  rw[mP,mP]
  by_cases ha:al ts=true
  ·rw[if_pos ha,if_pos ha,Zhv (Z1s ts) C fun c hc C'=>ih C' c (Z2e F ha hm c hc)]
  ·rw[if_neg ha,if_neg ha]
theorem Fs.up {n m:Nat}{ts:List Th}(F:Fs n m ts):Fs (n+1) m ts:=⟨F.len,fun t ht=>(F.pf t ht).up,F.no⟩
def mu (W:List (List Th)):Nat:=(W.map fun w=>cnt (w.headD dT)).sum
theorem Z56 (A B:List (List Th)):mu (A++B)=mu A+mu B:=by unfold mu;rw[List.map_append,List.sum_append]
theorem Zhw (A:List (List Th)):mu A.reverse=mu A:=by
 induction A with
 | nil=>rfl
 | cons a A ih =>
  rw[List.reverse_cons,Z56,ih]
  show mu A+(cnt (a.headD dT)+0)=cnt (a.headD dT)+mu A
  omega
theorem Zbu:∀ks:List Th,Z14 ks=(ks.map cnt).sum
 | []=>by rw[Z14];rfl
 | k::ks=>by rw[Z14,Zbu ks];rfl
theorem Z7q (c:List Th):c.headD dT=c.getD 0 dT:=by cases c <;> rfl
theorem Z8h {n m:Nat}{ts:List Th}(F:Fs (n+1) m ts)(ha:al ts=true)(hm:1<=m):cnt (ts.headD dT)=1+mu (Z1s ts):=by
 have h0:=Z0p F.len hm
 obtain⟨w,hd,ks,e,_,_,_,_,_,h6,_,e1,_⟩:=Z3h (F.pf _ h0) (F.no _ h0)
 have e2:=Zak F ha (p:=0) (by omega)
 have e3:mu (Z1s ts)=(((Z1s ts).map fun c=>List.getD c 0 dT).map cnt).sum:=by
  unfold mu
  rw[List.map_map]
  exact congrArg List.sum (List.map_congr_left fun c _=>by rw[Z7q];rfl)
 rw[e3,e2,<- Z7q,e1,<- Zbu,e,Z1k fun k hk=>(h6 k hk).isTup]
mutual
def toN:Th->NT Key
 | .at (.int i) => .at (.inl i)
 | .at (.str x) => .at (.inr x)
 | .at _ => .tup []
 | .tup xs => .tup (Zld xs)
 | .lst _ => .tup []
def Zld:List Th->List (NT Key)
 | [] => []
 | x::xs=>toN x::Zld xs
end
mutual
theorem Zle:∀t:Th,plT t=true->ntT (toN t)=t
 | .at v,h=>by
  cases v with
  | int i=>rw[toN,ntT];rfl
  | str x=>rw[toN,ntT];rfl
  | _=>rw[plT] at h <;> first | cases h | (intro _ z;cases z)
 | .tup xs,h=>by
  rw[plT] at h
  rw[toN,ntT,Zhx xs h]
 | .lst _,h=>by rw[plT] at h;cases h
theorem Zhx:∀ts:List Th,Z24 ts=true->Zgx (Zld ts)=ts
 | [],_=>by rw[Zld,Zgx]
 | x::xs,h=>by
  rw[Z24,Bool.and_eq_true] at h
  rw[Zld,Zgx,Zle x h.1,Zhx xs h.2]
end
def Zk5 (c:List Th):Th := .tup (c.map fun t => .tup (Z19 t))
def key (c:List Th):NT Key:=toN (Zk5 c)
theorem Zhy {n m:Nat}{c:List Th}(F:Fs n m c):plT (Zk5 c)=true:=by
 unfold Zk5
 rw[plT]
 refine Z1c fun x hx => ?_
 obtain⟨t,ht,rfl⟩:=List.mem_map.mp hx
 rw[plT]
 exact Zjg (F.pf t ht)
theorem Z9r {n m:Nat}{c:List Th}(F:Fs n m c):ntT (key c)=Zk5 c:=Zle _ (Zhy F)
theorem Zhz {n m:Nat}{c:List Th}(F:Fs n m c):dp (ntT (key c))<=6:=by
 rw[Z9r F]
 unfold Zk5
 rw[dp]
 have:dps (c.map fun t => .tup (Z19 t))<=3:=Z3z fun x hx=>by
  obtain⟨t,ht,rfl⟩:=List.mem_map.mp hx
  rw[dp]
  have:dps (Z19 t)<=2:=Z3z fun r hr=>Zlc (Z8g n (F.pf t ht) r hr)
  omega
 omega
theorem Zji {n m:Nat}{c d:List Th}(F:Fs n m c)(G:Fs n m d)(e:key c=key d):c=d:=by
 have e1:=congrArg ntT e
 rw[Z9r F,Z9r G] at e1
 unfold Zk5 at e1
 injection e1 with e1
 refine List.ext_getElem? fun i => ?_
 have e2:=congrArg (fun l=>l[i]?) e1
 simp only [List.getElem?_map] at e2
 cases h1:c[i]? with
 | none =>
  rw[h1] at e2
  cases h2:d[i]? with
  | none=>rfl
  | some u=>rw[h2] at e2;cases e2
 | some t =>
  rw[h1] at e2
  cases h2:d[i]? with
  | none=>rw[h2] at e2;cases e2
  | some u =>
   rw[h2] at e2
   injection e2 with e2
   injection e2 with e2
   rw[(Zbh n n (r := []) (s := []) (F.pf t (List.mem_of_getElem? h1)) (G.pf u (List.mem_of_getElem? h2)) (by rw[e2])).1]
theorem Zjj (w:List Th):∀(C:List (List Th)) (kvs:List (NT Key × Addr × V)) (k:Nat),kvs.map (·.1)=C.map key->kvs.map (·.2.2)=(List.range' k C.length).map (fun(i:Nat)=>V.int (i:Int))->(∀c∈C,key c=key w->c=w) →
  Z74 kvs (key w)=if w∈C then some (.int ((k+C.idxOf w:Nat):Int)) else none:=by
 intro C
 induction C with
 | nil =>
  intro kvs k h1 _ _
  cases kvs with
  | nil=>rfl
  | cons p r=>cases h1
 | cons c C ih =>
  intro kvs k h1 h2 hi
  cases kvs with
  | nil=>cases h1
  | cons p r =>
   rw[List.map_cons,List.map_cons] at h1
   injection h1 with a1 b1
   rw[List.map_cons,List.length_cons,List.range'_succ,List.map_cons] at h2
   injection h2 with a2 b2
   unfold Z74
   rw[List.find?_cons]
   by_cases e:c=w
   ·subst e
    rw[decide_eq_true a1,if_pos (List.mem_cons_self ..),List.idxOf_cons_self]
    show some p.2.2=_
    rw[a2]
    rfl
   ·have ne:p.1≠key w:=fun z=>e (hi c (List.mem_cons_self ..) (a1.symm.trans z))
    rw[decide_eq_false ne]
    have:=ih r (k+1) b1 b2 fun x hx=>hi x (List.mem_cons_of_mem _ hx)
    unfold Z74 at this
    dsimp only
    rw[this,List.idxOf_cons,beq_eq_false_iff_ne.mpr e]
    by_cases hw:w∈C
    ·rw[if_pos hw,if_pos (List.mem_cons_of_mem _ hw)]
     show some (V.int _)=some (V.int _)
     rw[show k+1+C.idxOf w=k+(C.idxOf w+1) by omega]
     rfl
    ·rw[if_neg hw,if_neg fun z=>(List.mem_cons.mp z).elim (fun q=>e q.symm) hw]
def Z42 (m:Nat)(C:List (List Th)):List Th:=(List.range m).map fun p => .tup (C.map fun c=>c.getD p dT)
def Z8i (N m:Nat)(ts:List Th):Th := .tup [(mP N [] ts).1,.tup (Z42 m (mP N [] ts).2)]
end K20
namespace L2
open PySem PySem.Spec PyProof.Rows
section
variable {X:Cx}{elt tg iter:Expr}{ifs:List Expr}{scope:Scope}{pos:Pos}{N':List Str}{src:List (Option Nat)}{wi:TI}{g:TG}{tt:TT}{te:TE}{z:Str}
theorem Zan {i:Nat}{x:Str}{pos' spos:Pos}(hc:X.calm=true)(hN:X.N.Nodup)(hix:X.N[i]? = some x)(hx:Loc X.env.scope x)(S:CompScopeC X scope N' src z)(hi:PI X tg iter wi)
  (hb:∀cl C ex s0 H0,PG (Z1y X N' scope cl C ex s0 H0) tg g/\PTs (Z1y X N' scope cl C ex s0 H0) ifs tt/\PE (Z1y X N' scope cl C ex s0 H0) elt te)
  (hsw:swapsWith (.ListComp elt [⟨tg,iter,ifs,0⟩] scope pos) (some (.Name x pos')) spos.line X.env=pure true:=by rfl)
  (hs:∀x,foldedSetIterable iter X.env x=pure x:=by intro _;rfl)
  (hfn:X.fn x=true∨X.env.scope.names.lookup x=some .local:=by first | exact .inl rfl | exact .inr rfl | assumption) :
  PS X (.Assign [.Name x pos'] (.ListComp elt [⟨tg,iter,ifs,0⟩] scope pos) spos) (Zk2 (Zfv src wi g tt te) (Z8o i)):=by
 intro pins s σ H D I h
 obtain⟨cl,hclos,hcl1,hcl2⟩:=Z44 (scope:=scope) (env:=X.env) fun n hn=>I.ok.has n (S.fr n hn)
 rw[exec_Assign_Name_used _ _ _ _ hsw]
 refine wpAny_bind (wpAny_standAt (wpAny_bind ?_))
 show wpAny _ _ (do let _ ← comprehension (.ListComp elt [⟨tg,iter,ifs,0⟩] scope pos) scope X.env _ (newList []) false (eval iter X.env) (some (assign (.Name x pos') X.env))) _ _ s
 refine wpAny_bind (wpAny_mono (wpAny_comprehension_free (use:=some (assign (.Name x pos') X.env)) (Q:=fun _ s'=>SP X pins D .next s') rfl hs hclos S.kind S.names ?_) (fun _ s' hq=>wpAny_pure (wpAny_pure hq)) fun _ _ e=>e)
 refine thn (hi pins s σ H _ I h) fun v s1 h1=>thn h1 fun itv s2 h2 => ?_
 obtain⟨it,fp,tn,J,H2,e,I2,T,st2,f2,W,⟨m0,w0⟩,turn⟩:=h2
 subst e
 refine wpAny_newObj_type (Z6x ?_)
 dsimp only
 generalize hH3:s2.heap.push { cls := .type "list",dict:=none,data := .seq ([]:List Value).toArray }=H3
 rw[S.cells,S.push]
 have hns₁:((H3.push { cls := .type "dict",data := .dict #[] }).push { cls := .type "cell",data := .cell none }).Ns H3.objs.size (fun _=>none):=(Heap.Ns.new H3 (.type "dict")).keeps fun _ _ q=>Heap.get?_push_of_some _ q
 have hzc:((H3.push { cls := .type "dict",data := .dict #[] }).push { cls := .type "cell",data := .cell none }).IsCell (H3.objs.size+1) none:=⟨_,by rw[show H3.objs.size+1=(H3.push { cls := .type "dict",data := .dict #[] }).objs.size from(Heap.size_push ..).symm];exact Heap.get?_push_size _ rfl,rfl⟩
 have kp:∀b o,H3.get? b=some o->((H3.push { cls := .type "dict",data := .dict #[] }).push { cls := .type "cell",data := .cell none }).get? b=some o:=fun b o q=>Heap.get?_push_of_some _ (Heap.get?_push_of_some _ q)
 generalize (H3.push { cls := .type "dict",data := .dict #[] }).push { cls := .type "cell",data := .cell none }=h₁ at hns₁ hzc kp ⊢
 have hsz:H3.objs.size=s2.heap.objs.size+1:=by rw[<- hH3,Heap.size_push]
 have I3:Inv X pins σ H2 { s2 with heap:=H3 }:=I2.kept (t':=s2.toks) fun b o e=>by rw[<- hH3];exact Heap.get?_push_of_some _ e
 have fD:Z3s X pins H2 s2.heap.objs.size:=I2.fpOk (Nat.le_refl _) (I2.hok.fresh (Nat.le_refl _))
 have hDf:s2.heap.objs.size∉fp:=fun hm=>by
  obtain⟨o,e,_⟩:=T.obj 0 _ st2 _ hm
  exact Nat.lt_irrefl _ (Heap.lt_size e)
 have hf:∀b∈s2.heap.objs.size::fp,Z3s X pins H2 b:=fun b hb=>by
  rcases List.mem_cons.mp hb with z | z
  ·rw[z];exact fD
  ·exact f2 b z
 have hlt:∀b∈s2.heap.objs.size::fp,b<H3.objs.size:=fun b hb=>by
  rcases List.mem_cons.mp hb with z | z
  ·rw[z,hsz];exact Nat.lt_succ_self _
  ·obtain⟨o,e,_⟩:=T.obj 0 _ st2 b z
   rw[hsz];exact Nat.lt_succ_of_lt (Heap.lt_size e)
 have kp0:∀b o,s2.heap.get? b=some o->h₁.get? b=some o:=fun b o e=>kp b o (by rw[<- hH3];exact Heap.get?_push_of_some _ e)
 have hacc:h₁.PlainList s2.heap.objs.size #[]:=⟨_,kp _ _ (by rw[<- hH3];exact Heap.get?_push_size _ rfl)⟩
 have st1:tn 0 h₁:=T.keep _ _ _ st2 fun b _ o e=>kp0 b o e
 have IY:=Z6y (z:=z) (N':=N') (src:=src) (scope:=scope) (cl:=cl) (C:=H3.objs.size) (D:=s2.heap.objs.size) (fp:=fp) (s3:={ s2 with heap:=H3 }) (h1:=h₁) (tk:=s2.toks) S I3 hcl1 hcl2 rfl hf hlt hns₁ kp hzc
 obtain⟨hg,ht,he⟩:=hb ((z,H3.objs.size+1)::cl) H3.objs.size (s2.heap.objs.size::fp) { s2 with heap:=H3 } H2
 have loop:=Z9p (R:=compPost (model X.prog X.w) X.A X.xe (some (assign (.Name x pos') X.env)) (fun _ s'=>SP X pins D .next s') (.ref s2.heap.objs.size) H3.objs.size) (elt:=elt) (iter:=iter) (ifs:=ifs) (pos:=pos) (Q:=fun ys H=>∀l,H l=none->D.nx (σ.set i (some (.ref l))) (upd H l (.lst ys)))
  hc T I3 rfl hf hlt hDf IY st1 hacc hg ht he w0 turn (fun s5 σc H' ys us pinsY IY5 hD pl rv hz q=>by
   have IX:Inv X pins σ (upd H' s2.heap.objs.size (.lst ys)) s5:=Z6z (h':=s5.heap) I3 rfl hf hlt IY5 hD pl rv hz (.refl ..)
   show wpAny _ _ (assign (.Name x pos') X.env (.ref s2.heap.objs.size)) _ _ s5
   refine wpAny_assign_Name (Z64 (v := .ref s2.heap.objs.size) IX hN hix hx rfl (fun s6 I6 ⟨a,sb,ha⟩ => ?_) hfn)
   obtain⟨m,hn,_⟩:=IY5.loc
   have fC:Z3s X pins (upd H' s2.heap.objs.size (.lst ys)) H3.objs.size:=I3.fpOk (Nat.le_refl _) (by
    rw[Z08 (by rw[hsz];exact Nat.ne_of_gt (Nat.lt_succ_self _))]
    exact IY5.free)
   have hCa:H3.objs.size≠a:=by
    rcases ha with z | z
    ·rw[z];exact fC.2.1
    ·exact fun q=>fC.2.2.2.2.1 x a z q.symm
   refine⟨m,hn.sameBut sb hCa,fun h' hs'=>⟨_,_,I6.turned (t':=s6.toks) (fun b o hb e=>(hs'.2 b hb).trans e) fC.1 fC.2.1 fC.2.2.2.1 fC.2.2.2.2.1 fC.2.2.2.2.2,q _ hD⟩⟩)
 exact codeAny_compStart_list loop (T.self _ 0 _ _ _ st1 loop)
end
end L2
namespace K20
open PySem L2
theorem Zlf {H:Hp}{a:Addr}{φ : Heap->Prop}{o:HO}(h:H a=some (.ext φ)):Same (TO H) (TO (upd H a o)):=fun c u e=>by
 obtain⟨h1,vs,rfl⟩:=Z5p e
 refine Z75 ?_
 rw[Z08 (Z1b h1 h (by intro q;cases q))]
 exact h1
theorem Z63 {H0 H:Hp}{a:Addr}{o:HO}(s:Same H0 H)(h:H0 a=none):Same H0 (upd H a o):=fun c u e=>by
 rw[Z08 (Z0a e h)]
 exact s c u e
structure StM (P:Program)(w:World)(H0 H:Hp)(ra na ca wa:Addr)(N m:Nat)(R:List Th)(C W:List (List Th)):Prop where
 S:Same H0 H
 ne:ra≠ca/\ra≠wa/\ca≠wa
 fr:H0 ra=none/\H0 na=none/\H0 ca=none/\H0 wa=none
 r:∃rv,H ra=some (.lst rv)/\IsThs (TO H) rv R
 c:∃cv,H ca=some (.lst cv)/\IsThs (TO H) cv (C.map Th.tup)
 v:∃wv,H wa=some (.lst wv)/\IsThs (TO H) wv (W.map Th.tup)
 n:∃kvs,H na=some (ntO P w na kvs)/\kvs.map (·.1)=C.map key/\kvs.map (·.2.2)=(List.range' 0 C.length).map (fun(i:Nat)=>V.int (i:Int))/\∀p∈kvs,IsTh (TO H) (.ref p.2.1) (ntT p.1)/\dp (ntT p.1)<=6
 cf:∀c∈C,Fs N m c
 cn:C.Nodup
 wf:∀c∈W,Fs N m c
section
variable {P:Program}{w:World}{H0 H H':Hp}{ra na ca wa:Addr}{N m:Nat}{R:List Th}{C W:List (List Th)}
theorem StM.same (X:StM P w H0 H ra na ca wa N m R C W)(s:Same H H'):StM P w H0 H' ra na ca wa N m R C W:=by
 have k:=Kp.of (Z2n s)
 obtain⟨rv,r1,r2⟩:=X.r
 obtain⟨cv,c1,c2⟩:=X.c
 obtain⟨wv,w1,w2⟩:=X.v
 obtain⟨kvs,n1,n2,n3,n4⟩:=X.n
 exact⟨X.S.trans s,X.ne,X.fr,⟨rv,s _ _ r1,IsThs.kp k r2⟩,⟨cv,s _ _ c1,IsThs.kp k c2⟩,⟨wv,s _ _ w1,IsThs.kp k w2⟩,⟨kvs,s _ _ n1,n2,n3,fun p hp=>⟨IsTh.kp k (n4 p hp).1,(n4 p hp).2⟩⟩,X.cf,X.cn,X.wf⟩
theorem StM.addR (X:StM P w H0 H ra na ca wa N m R C W):∃rv,H ra=some (.lst rv)/\rv.length=R.length/\∀x row,IsTh (TO H) x row->StM P w H0 (upd H ra (.lst (rv ++ [x]))) ra na ca wa N m (R ++ [row]) C W:=by
 obtain⟨rv,r1,r2⟩:=X.r
 obtain⟨cv,c1,c2⟩:=X.c
 obtain⟨wv,w1,w2⟩:=X.v
 obtain⟨kvs,n1,n2,n3,n4⟩:=X.n
 refine⟨rv,r1,IsThs.len _ r2,fun x row hx => ?_⟩
 have k:=Kp.of (Z4e (o := .lst (rv ++ [x])) r1)
 have nn:na≠ra:=Z1b n1 r1 (by intro q;cases q)
 exact⟨Z63 X.S X.fr.1,X.ne,X.fr,⟨_,Z00,IsThs.app _ (IsThs.kp k r2) (.cons (IsTh.kp k hx) .nil)⟩,⟨cv,by rw[Z08 X.ne.1.symm];exact c1,IsThs.kp k c2⟩,⟨wv,by rw[Z08 X.ne.2.1.symm];exact w1,IsThs.kp k w2⟩,
  ⟨kvs,by rw[Z08 nn];exact n1,n2,n3,fun p hp=>⟨IsTh.kp k (n4 p hp).1,(n4 p hp).2⟩⟩,X.cf,X.cn,X.wf⟩
theorem StM.setW (X:StM P w H0 H ra na ca wa N m R C W){wv:List V}{W':List (List Th)}(h:IsThs (TO H) wv (W'.map Th.tup))(hf:∀c∈W',Fs N m c):StM P w H0 (upd H wa (.lst wv)) ra na ca wa N m R C W':=by
 obtain⟨rv,r1,r2⟩:=X.r
 obtain⟨cv,c1,c2⟩:=X.c
 obtain⟨wv0,w1,w2⟩:=X.v
 obtain⟨kvs,n1,n2,n3,n4⟩:=X.n
 have k:=Kp.of (Z4e (o := .lst wv) w1)
 have nn:na≠wa:=Z1b n1 w1 (by intro q;cases q)
 exact⟨Z63 X.S X.fr.2.2.2,X.ne,X.fr,⟨rv,by rw[Z08 X.ne.2.1];exact r1,IsThs.kp k r2⟩,⟨cv,by rw[Z08 X.ne.2.2];exact c1,IsThs.kp k c2⟩,⟨wv,Z00,IsThs.kp k h⟩,
  ⟨kvs,by rw[Z08 nn];exact n1,n2,n3,fun p hp=>⟨IsTh.kp k (n4 p hp).1,(n4 p hp).2⟩⟩,X.cf,X.cn,hf⟩
theorem StM.addC (X:StM P w H0 H ra na ca wa N m R C W){cv:List V}{kvs:List (NT Key × Addr × V)}{x:V}{c:List Th}{b:Addr}(hcv:H ca=some (.lst cv))(hn:H na=some (ntO P w na kvs))(hc:IsThs (TO H) cv (C.map Th.tup))(h1:kvs.map (·.1)=C.map key)(h2:kvs.map (·.2.2)=(List.range' 0 C.length).map (fun(i:Nat)=>V.int (i:Int)))(h3:∀p∈kvs,IsTh (TO H) (.ref p.2.1) (ntT p.1)/\dp (ntT p.1)<=6)
  (hx:IsTh (TO H) x (.tup c)) (hb:IsTh (TO H) (.ref b) (ntT (key c))) (F:Fs N m c) (hm:c∉C) :
  StM P w H0 (upd (upd H na (ntO P w na (kvs ++ [(key c,b,.int (C.length:Nat))]))) ca (.lst (cv ++ [x]))) ra na ca wa N m R (C ++ [c]) W:=by
 obtain⟨rv,r1,r2⟩:=X.r
 obtain⟨wv,w1,w2⟩:=X.v
 have k1:Same (TO H) (TO (upd H na (ntO P w na (kvs ++ [(key c,b,.int (C.length:Nat))])))):=Zlf hn
 have nr:ra≠na:=Z1b r1 hn (by intro q;cases q)
 have nc:ca≠na:=Z1b hcv hn (by intro q;cases q)
 have nw:wa≠na:=Z1b w1 hn (by intro q;cases q)
 have hcv':upd H na (ntO P w na (kvs ++ [(key c,b,.int (C.length:Nat))])) ca=some (.lst cv):=by rw[Z08 nc];exact hcv
 have k:=Kp.of (k1.trans (Z4e (o := .lst (cv ++ [x])) hcv'))
 refine⟨Z63 (Z63 X.S X.fr.2.1) X.fr.2.2.1,X.ne,X.fr,⟨rv,by rw[Z08 X.ne.1,Z08 nr];exact r1,IsThs.kp k r2⟩,⟨_,Z00,?_⟩,⟨wv,by rw[Z08 X.ne.2.2.symm,Z08 nw];exact w1,IsThs.kp k w2⟩,⟨_,by rw[Z08 nc.symm];exact Z00,?_,?_,fun p hp => ?_⟩,fun d hd => ?_,Z7o X.cn hm,X.wf⟩
 ·rw[List.map_append]
  exact IsThs.app _ (IsThs.kp k hc) (.cons (IsTh.kp k hx) .nil)
 ·rw[List.map_append,List.map_append,h1];rfl
 ·rw[List.map_append,h2,List.length_append,List.length_singleton,List.range'_concat,List.map_append]
  simp
 ·rcases List.mem_append.mp hp with z | z
  ·exact⟨IsTh.kp k (h3 p z).1,(h3 p z).2⟩
  ·rw[List.mem_singleton] at z
   subst z
   exact⟨IsTh.kp k hb,Zhz F⟩
 ·rcases List.mem_append.mp hd with z | z
  ·exact X.cf d z
  ·rw[List.mem_singleton] at z;subst z;exact F
end
theorem ths_last {H:Hp}:∀(vs:List V) {ts:List Th},IsThs H vs ts->vs ≠ []->∃vs' v ts' t,vs=vs' ++ [v]/\ts=ts' ++ [t]/\IsThs H vs' ts'/\IsTh H v t:=by
 intro vs
 induction vs with
 | nil=>intro ts _ h;exact absurd rfl h
 | cons v vs ih =>
  intro ts h _
  cases h with
  | @cons _ _ t tr h1 h2 =>
   cases vs with
   | nil=>cases h2;exact⟨[],v,[],t,rfl,rfl,.nil,h1⟩
   | cons v2 vs2 =>
    obtain⟨vs',x,ts',y,e1,e2,h3,h4⟩:=ih h2 (by simp)
    exact⟨v::vs',x,t::ts',y,by rw[e1];rfl,by rw[e2];rfl,.cons h1 h3,h4⟩
theorem Zh3 {H:Hp}:∀(vs:List V) {ts:List Th},IsThs H vs ts->IsThs H vs.reverse ts.reverse:=by
 intro vs
 induction vs with
 | nil=>intro ts h;cases h;exact .nil
 | cons v vs ih =>
  intro ts h
  cases h with
  | cons h1 h2 =>
   rw[List.reverse_cons,List.reverse_cons]
   exact IsThs.app _ (ih h2) (.cons h1 .nil)
theorem Zi0 {n m:Nat}{c:List Th}(F:Fs n m c):Z24 c=true:=Z1c fun t ht=>PfT.pl n (F.pf t ht)
theorem Zi1 {N m:Nat}(hm:1<=m){W:List (List Th)}(h:∀c∈W,Fs N m c):W.length<=mu W:=by
 induction W with
 | nil=>exact Nat.le_refl _
 | cons c W ih =>
  have a:=ih fun x hx=>h x (List.mem_cons_of_mem _ hx)
  have F:=h c (List.mem_cons_self ..)
  have b:=Z40 (F.pf _ (Z0p F.len hm))
  show W.length+1<=cnt (c.headD dT)+mu W
  omega
theorem Zf0 {n:Nat}{t k:Th}(h:PfT (n+1) t)(no:hs t = [])(hk:k∈Z15 t):cnt k<cnt t:=by
 obtain⟨w,hd,ks,rfl,_,_,_,_,_,h6,_,e,_⟩:=Z3h h no
 rw[e] at hk
 rw[Z1k fun k hk=>(h6 k hk).isTup]
 have:∀l:List Th,k∈l->cnt k<=Z14 l:=by
  intro l
  induction l with
  | nil=>intro z;cases z
  | cons x l ih =>
   intro z
   rw[Z14]
   rcases List.mem_cons.mp z with q | q
   ·rw[q];omega
   ·have:=ih q;omega
 have:=this ks hk
 omega
theorem Zjk {n m:Nat}(hm:1<=m){C:List (List Th)}{c:List Th}(hC:C.Nodup)(F:Fs (n+1) m c)(ha:al c=true):∃(w:Str) (hd:List V),Z23 (c.headD dT) = .at (.str w)::hd.map Th.at/\Rw (rw0 w hd (Z1s c).length) ∧
  ∀(R:List Th) (rest:List (List Th)),R++((acc (mP (n+1)) C (c::rest)).1.map Z19).flatten=(R ++ [rw0 w hd (Z1s c).length])++((acc (mP (n+1)) C (Z1s c++rest)).1.map Z19).flatten/\(acc (mP (n+1)) C (c::rest)).2=(acc (mP (n+1)) C (Z1s c++rest)).2:=by
 have h0:=Z0p F.len hm
 obtain⟨w,hd,ks,e0,hw,h1,h2,h3,h5,h6,h7,e1,e2⟩:=Z3h (F.pf _ h0) (F.no _ h0)
 have G:=Z4i hm (n+1) C c hC F
 have A:=Z8c (Z4i hm n) (Z1s c) C hC (Z2e F ha hm)
 have ea:acc (mP n) C (Z1s c)=acc (mP (n+1)) C (Z1s c):=Zhv (Z1s c) C fun d hd' C'=>(Zn4 hm n C' d (Z2e F ha hm d hd')).symm
 have em:mP (n+1) C c=(nd w hd (acc (mP (n+1)) C (Z1s c)).1,(acc (mP (n+1)) C (Z1s c)).2):=by
  rw[<- ea]
  rw[mP,if_pos ha,e2]
  rfl
 rw[ea] at A
 have ef:Z19 (mP (n+1) C c).1=rw0 w hd (Z1s c).length::((acc (mP (n+1)) C (Z1s c)).1.map Z19).flatten:=by
  rw[em]
  show Z19 (nd w hd (acc (mP (n+1)) C (Z1s c)).1)=_
  rw[Z8f fun k hk=>(A.pf k hk).isTup,A.len]
 refine⟨w,hd,e2,Z8g (n+1) G.pf _ (by rw[ef];exact List.mem_cons_self ..),fun R rest => ?_⟩
 rw[Zjh]
 show R++(Z19 (mP (n+1) C c).1++((acc (mP (n+1)) (mP (n+1) C c).2 rest).1.map Z19).flatten)=_/\(acc (mP (n+1)) (mP (n+1) C c).2 rest).2=_
 rw[ef,em]
 exact⟨by simp,rfl⟩
theorem Zjl {n:Nat}{C:List (List Th)}{c:List Th}(ha:al c=false)(R:List Th)(rest:List (List Th)):R++((acc (mP (n+1)) C (c::rest)).1.map Z19).flatten=(R ++ [rw0 "hole" [.int ((C.idxOf c:Nat):Int)] 0])++((acc (mP (n+1)) (Z9o C c) rest).1.map Z19).flatten/\(acc (mP (n+1)) C (c::rest)).2=(acc (mP (n+1)) (Z9o C c) rest).2:=by
 have em:mP (n+1) C c=(hol (C.idxOf c),Z9o C c):=by
  rw[mP,if_neg (by rw[ha];decide)]
 have ef:Z19 (hol (C.idxOf c)) = [rw0 "hole" [.int ((C.idxOf c:Nat):Int)] 0]:=by
  unfold hol
  rw[Z8f fun k hk=>by cases hk]
  rfl
 show R++(Z19 (mP (n+1) C c).1++((acc (mP (n+1)) (mP (n+1) C c).2 rest).1.map Z19).flatten)=_/\(acc (mP (n+1)) (mP (n+1) C c).2 rest).2=_
 rw[em]
 refine⟨?_,rfl⟩
 rw[ef]
 simp
inductive spMost (N:Nat)(vs:List V)(H:Hp)(Q:VK)(E_3:XK):Prop
 | mk (p:Addr) (fs:List V) (ts:List Th) (m:Nat) (_:vs = [.ref p]) (_:H p=some (.tup fs)) (_:IsThs H fs ts) (_:Fs N m ts) (_:1<=m) (_:m<=20) (_:(∀t∈ts,cnt t<=5000)) (_:∀(v:V) H',Same H H'->IsTh H' v (Z8i N m ts)->Q v H'):spMost N vs H Q E_3
abbrev NM:List Str := ["forms","rows","numbers","columns","waiting","here","inner","number","fillings"]
abbrev Zn5:Scope:=⟨.function,[(".0",.local),("at",.cell),("tuple",.globalImplicit),("columns",.cell)],false,false,[]⟩
theorem Zn6:(["at","columns"]:List Str).Nodup:=by decide +kernel
theorem Zlg:(["at","column"]:List Str).Nodup:=by decide +kernel
structure HM (K:PySem.W.Frag)(mg:Str->Option Value)(fF fA fT fB:Addr)(dF dA dT dB:FuncData):Prop where
 F:Fun K "flat" "flat" Za9 fF dF
 bF:Binds K dF ["tree"] []
 mF:mg "flat"=some (.ref fF)
 A:Fun K "headed_alike" "headed_alike" Z5m fA dA
 bA:Binds K dA ["forms"] []
 mA:mg "headed_alike"=some (.ref fA)
 T:Fun K "parts_together" "parts_together" Z2w fT dT
 bT:Binds K dT ["forms"] []
 mT:mg "parts_together"=some (.ref fT)
 B:Fun K "built" "built" Z9a fB dB
 bB:Binds K dB ["rows"] []
 mB:mg "built"=some (.ref fB)
 all:mg "all"=none
 rev:mg "reversed"=none
 range:mg "range"=none
section
variable {P:Program}{w:World}{K:PySem.W.Frag}{mg:Str->Option Value}{base:Heap}
theorem scMost:FnScope NM ["forms"] (Z05 Zaa):=⟨rfl,rfl,rfl,by decide +kernel,rfl,by decide +kernel,by decide +kernel⟩
theorem Zjm {f fP fH fS fF fA fT fB:Addr}{fd dP dH dS dF dA dT' dB:FuncData}(F:Fun K "most_shared" "most_shared" Zaa f fd)(U:HT K mg fP fH fS dP dH dS)(W:HM K mg fF fA fT fB dF dA dT' dB)(n:Nat):FnOk P w K mg base CX0 4 f fd ["forms"] (spMost (n+1)):=by
 have GH:FnOk P w K mg base CX0 1 fH dH ["node"] spHead:=Zac U.H U.T U.KI
 have GF:FnOk P w K mg base CX0 3 fF dF ["tree"] (spFlat (n+1)):=Zed W.F U (n+1)
 have GA:FnOk P w K mg base CX0 2 fA dA ["forms"] (spAlikes (n+1)):=Zbq W.A U W.all (n+1)
 have GT:FnOk P w K mg base CX0 2 fT dT' ["forms"] (spTogether n):=Zam W.T U W.range n
 have GB:FnOk P w K mg base CX0 1 fB dB ["rows"] spBuilt:=Zh1 W.B U.T W.rev
 refine F.ok scMost (fun vs H Q E h => ?_) (fun cdv A outer s H vs Q E hr h => ?_)
 ·obtain⟨p,fs,ts,m,rfl,_⟩:=h
  rfl
 ·obtain⟨p,fs,ts,m,rfl,hp,hfs,F0,hm1,hm2,hc,k⟩:=h
  have hsz:sizeLine=16777216:=sizeLine_eq
  have hr1:Room 1 _:=hr.mono (by decide)
  have hr2:Room 2 _:=hr.mono (by decide)
  have hr3:Room 3 _:=hr.mono (by decide)
  have hu7:(_:Around).units+7<cLine:=Nat.lt_of_le_of_lt (Nat.add_le_add_left (by decide) _) hr.units
  refine'⟨?tt,?body,?fin⟩
  case body =>
   refine' Z03 ?s1 ?r1
   case s1=>exact Z0c (i:=1) scMost.nd rfl (Or.inl rfl) (Z1p Z01)
   case r1 =>
    refine' Z03 ?s2 ?r2
    case s2=>exact Z0c (i:=2) scMost.nd rfl (Or.inl rfl) Zgz
    case r2 =>
     refine' Z03 ?s3 ?r3
     case s3=>exact Z0c (i:=3) scMost.nd rfl (Or.inr rfl) (Z1p Z01)
     case r3 =>
      refine' Z0u ?s4 ?r4
      case s4=>exact Z0c (i:=4) scMost.nd rfl (Or.inl rfl) (Z1p (Z2s (Z10 Z0s (by rfl) U.T.tup Z1n (Z0h (pv 0) Z01)) Z01))
      case r4 =>
       refine' Z03 ?s5 ?r5
       case s5 =>
        refine' Z5u PassesOwn.never ?c (Z03 ?b1 (Z07 ?b2))
        case c=>exact Z7t (pv 4) (fun _=>rfl)
        case b1=>exact Z0c (i:=5) scMost.nd rfl (Or.inl rfl) (Zdi PySem.F.plainAttrs_list PySem.F.slot_list_pop PySem.F.type_list_pop Zdj (pv 4))
        case b2 =>
         refine' Z17 ?d (Z03 ?c1 (Z03 ?c2 (Z07 ?c3))) (Z0u ?d1 (Z0u ?d2 (Z07 ?d3)))
         case d=>exact Z3p (Z06 GA hr2 (by rfl) W.mA W.A.kp W.bA .nil Z0g (Z0h (pv 5) Z01))
         case c1=>exact Z0c (i:=6) scMost.nd rfl (Or.inl rfl) (Z06 GT hr2 (by rfl) W.mT W.T.kp W.bT .nil Z0g (Z0h (pv 5) Z01))
         case c2=>exact Z2k (Z59 PySem.F.plainAttrs_list PySem.F.slot_list_append PySem.F.type_list_append Z26 (pv 1) (Zfw (Z1h (Z2s (Z06 GH hr1 (by rfl) U.mH U.H.kp U.bH .nil Z0g (Z09 (Z0y Z1z (pv 5) Z04 (fun _ _=>rfl)) Z01)) (Z2s (Z0d Z0b (by rfl) U.T.len PySem.boot_len (Z0h (pv 6) Z01)) Z01))) Z01))
         case c3=>exact Z2k (Z59 PySem.F.plainAttrs_list PySem.F.slot_list_extend PySem.F.type_list_extend Z67 (pv 4) (Z09 (Zb6 (pv 6) (Zfp Zau Z04)) Z01))
         case d1 =>
          refine' Z0c (i:=7) scMost.nd rfl (Or.inl rfl) (Zh0 hu7 (pv 2) ?x (Z0d Z0b (by rfl) U.T.len PySem.boot_len (Z0h (pv 3) Z01)) ⟨rfl,rfl,rfl,rfl⟩)
          case x =>
           refine' Z10 Z0s (by rfl) U.T.tup Z1n (Z09 ?y Z01)
           case y =>
            refine' Z1a (N' := ["form"]) (src := [none]) ?k1 ?k5 ?k6 ?k7
            case k1=>rfl
            case k5=>exact Z0i (Z05 Zaa) rfl NM rfl (by decide +kernel)
            case k6=>exact Z4j (pv 5)
            case k7=>exact fun cl C ex s0 H0=>⟨Z0m (i:=0) Zbt rfl (Or.inl rfl),Z1d,Z10 (Z36 (K:=K) rfl) (by rfl) U.T.tup Z1n (Z2s (Z06 GF hr3 (by rfl) W.mF W.F.kp W.bF .nil Z0g (Z0h (pv 0) Z01)) Z01)⟩
         case d2 =>
          refine' Z17 ?e (Z07 ?g) Z0k
          case e=>exact Z0f Z1l (pv 7) (Z0d Z0b (by rfl) U.T.len PySem.boot_len (Z0h (pv 3) Z01)) (Z0j _)
          case g=>exact Z2k (Z59 PySem.F.plainAttrs_list PySem.F.slot_list_append PySem.F.type_list_append Z26 (pv 3) (Z0h (pv 5) Z01))
         case d3=>exact Z2k (Z59 PySem.F.plainAttrs_list PySem.F.slot_list_append PySem.F.type_list_append Z26 (pv 1) (Zfw (Z1h (Zfw (Z1h (Z1r Z0e (Z0h (pv 7) Z01))) (Z1r Z04 Z01))) Z01))
       case r5 =>
        refine' Z03 ?s6 (Z07 ?s7)
        case s6 =>
         refine' Zan (i:=8) (z:="at") (N' := ["at","columns"]) (src := [none,some 3]) ?k1 ?k2 ?k3 ?k4 ?k5 ?k6 ?k7
         case k1=>rfl
         case k2=>exact scMost.nd
         case k3=>rfl
         case k4=>exact Or.inl rfl
         case k5=>exact Z3n (Z05 Zaa) rfl NM rfl (fun _ _=>rfl) (fun _=>rfl) (by decide +kernel)
         case k6=>exact Z1o (by rfl) W.range (Z2s (Z0d Z0b (by rfl) U.T.len PySem.boot_len (Z0h (pv 0) Z01)) Z01)
         case k7 =>
          intro cl C ex s0 H0
          refine'⟨?g1,?g2,?g3⟩
          case g1=>exact Z0m (i:=0) Zn6 rfl (Or.inr rfl)
          case g2=>exact Z1d
          case g3 =>
           refine' Z10 (Z36 (K:=K) rfl) (by rfl) U.T.tup Z1n (Z09 ?c Z01)
           case c =>
            refine' Z1a (N' := ["at","column"]) (src := [some 0,none]) ?j1 ?j5 ?j6 ?j7
            case j1=>rfl
            case j5=>exact Z0i Zn5 rfl ["at","columns"] rfl (by decide +kernel)
            case j6=>exact Z8e (K:=K) rfl (pv 1)
            case j7=>exact fun cl C ex s0 H0=>⟨Z0m (i:=1) Zlg rfl (Or.inl rfl),Z1d,Z0y (Z5c (K:=K) rfl) (pv 1) (pv 0) (fun _ _=>rfl)⟩
        case s7=>exact Z0l (Z1h (Z2s (Z06 GB hr1 (by rfl) W.mB W.B.kp W.bB .nil Z0g (Z0h (pv 1) Z01)) (Z2s (Z10 Z0s (by rfl) U.T.tup Z1n (Z0h (pv 8) Z01)) Z01)))
  case fin =>
   have hfl:=IsThs.len _ hfs
   rw[F0.len] at hfl
   refine⟨Nat.zero_le _,fun ra hra => ?_⟩
   have z1:=Z02 (o := .lst []) hra
   intro na hna
   have z2:=Z02 (o:=ntO P w na []) hna
   refine⟨Nat.zero_le _,fun ca hca => ?_⟩
   have z3:=Z02 (o := .lst []) hca
   have z13:=(z1.trans z2).trans z3
   refine⟨fun σ' H'=>∃wa,σ' = [some (.ref p),some (.ref ra),some (.ref na),some (.ref ca),some (.ref wa),none,none,none,none]/\StM P w H H' ra na ca wa (n+1) m [] [] [ts],?_,?_⟩
   ·refine⟨_,rfl,p,fs,rfl,.inr ⟨SqT.of (z13 _ _ hp),(by show 1<=sizeLine;decide),fun wa hwa=>⟨wa,rfl,?_⟩⟩⟩
    have z4:=Z02 (o := .lst [.ref p]) hwa
    have r3:upd (upd (upd H ra (.lst [])) na (ntO P w na [])) ca (.lst []) ra=some (.lst []):=z3 _ _ (z2 _ _ Z00)
    have n3:upd (upd (upd H ra (.lst [])) na (ntO P w na [])) ca (.lst []) na=some (ntO P w na []):=z3 _ _ Z00
    have c3:upd (upd (upd H ra (.lst [])) na (ntO P w na [])) ca (.lst []) ca=some (.lst []):=Z00
    refine⟨z13.trans z4,⟨Z0a (z2 _ _ Z00) hca,Z0a r3 hwa,Z0a c3 hwa⟩,⟨hra,Z1v z1 hna,Z1v (z1.trans z2) hca,Z1v z13 hwa⟩,⟨[],z4 _ _ r3,.nil⟩,⟨[],z4 _ _ c3,.nil⟩,⟨_,Z00,?_⟩,⟨[],z4 _ _ n3,rfl,rfl,fun q hq=>by cases hq⟩,(fun c hc=>by cases hc),List.nodup_nil,fun c hc => ?_⟩
    ·exact .cons (.tup (Z75 (z4 _ _ (z13 _ _ hp))) (Z4h (IsThs.kp (Kp.of (z13.trans z4)) hfs) (Zi0 F0))) .nil
    ·rw[List.mem_singleton] at hc;subst hc;exact F0
   clear z1 z2 z3 z13 hra hna hca
   rintro σ4 H4 ⟨wa,rfl,X4⟩
   have h0:=Z0p F0.len hm1
   refine Za0 (fun mm σ H'=>∃(R:List Th) (C W:List (List Th)) (o5 o6 o7:Option V),σ = [some (.ref p),some (.ref ra),some (.ref na),some (.ref ca),some (.ref wa),o5,o6,o7,none]/\StM P w H H' ra na ca wa (n+1) m R C W ∧
     (R++((acc (mP (n+1)) C W.reverse).1.map Z19).flatten=Z19 (mP (n+1) [] ts).1/\(acc (mP (n+1)) C W.reverse).2=(mP (n+1) [] ts).2)/\R.length+mu W<=5000/\C.length<=R.length/\(∀c∈W,∀t∈c,cnt t<=5000)/\mm=mu W)
    (mu [ts]) ⟨[],[],[ts],none,none,none,rfl,X4,⟨?_,rfl⟩,?_,Nat.le_refl _,fun c hc' t ht => ?_,rfl⟩ ?_ ?_
   ·show(Z19 (mP (n+1) [] ts).1 ++ [])=_
    exact List.append_nil _
   ·show 0+(cnt (ts.headD dT)+0)<=5000
    have:=hc _ h0
    omega
   ·rw[List.mem_singleton] at hc';subst hc';exact hc t ht
   ·clear X4
    rintro mm σ H2 ⟨R,C,W,o5,o6,o7,rfl,X,⟨e1,e2⟩,hb,hcl,hcw,rfl⟩
    obtain⟨wv,w1,w2⟩:=X.v
    have hWl:=Zi1 hm1 X.wf
    refine⟨_,rfl,_,.inl ⟨wv,SqL.of w1,rfl⟩,?_⟩
    cases hws:wv.isEmpty with
    | true =>
     have e:wv = []:=List.isEmpty_iff.mp hws
     subst e
     refine Z4l ?_
     have eW:W = []:=by
      have:=IsThs.len _ w2
      rw[List.length_map] at this
      exact List.eq_nil_of_length_eq_zero this.symm
     subst eW
     have e1:R ++ []=Z19 (mP (n+1) [] ts).1:=e1
     rw[List.append_nil] at e1
     have e2:C=(mP (n+1) [] ts).2:=e2
     obtain⟨rv,r1,r2⟩:=X.r
     obtain⟨cv,c1,c2⟩:=X.c
     have hcvl:=IsThs.len _ c2
     rw[List.length_map] at hcvl
     have hp2:=X.S _ _ hp
     have c2':=IsThs.kp (Kp.of to_sub) c2
     have col:∀{H3:Hp} {i:Nat} {x:V},Same H2 H3->cv[i]? = some x->∃(c:List Th) (a:Addr) (ws:List V),C[i]? = some c/\x = .ref a/\H3 a=some (.tup ws)/\IsThs H3 ws c:=fun {H3 i x} s3 hx=>by
      obtain⟨u,hu,hxu⟩:=Z0q _ (IsThs.kp (Kp.of s3) c2') hx
      rw[List.getElem?_map] at hu
      cases e:C[i]? with
      | none=>rw[e] at hu;cases hu
      | some t =>
       rw[e] at hu
       cases hu
       obtain⟨a,ws,rfl,h1,h2⟩:=Z1i hxu
       exact⟨t,a,ws,rfl,rfl,h1,h2⟩
     refine⟨_,rfl,p,fs,rfl,.inr (SqT.of hp2),(fs.length:Int),rfl,by omega,by omega,?_⟩
     rw[Int.toNat_natCast,hfl]
     refine Z3c (lo:=0) (n:=m) (fun j zs σc H'=>∃o,σc = [o,some (.ref ca)]/\Same H2 H'/\IsThs H' zs ((Z42 m C).take j)) ⟨none,rfl,Same.refl _,.nil⟩ ?_ ?_
     ·rintro j zs σc H3 hj ⟨o,rfl,s3,hzs⟩
      have hzl:=IsThs.len _ hzs
      have hrl:(Z42 m C).length=m:=by unfold Z42;rw[List.length_map,List.length_range]
      rw[List.length_take,hrl] at hzl
      refine⟨by omega,?_⟩
      refine⟨_,rfl,ca,rfl,⟨_,SqL.of (s3 _ _ c1)⟩,Z1q (K:=K) (a:=ca) (xs:=cv) (fun i us σd H4=>∃o,σd = [some (.int (0+(j:Int))),o]/\Same H3 H4/\IsThs H4 us ((C.take i).map fun c=>c.getD j dT))
       ⟨none,rfl,Same.refl _,.nil⟩ (fun i us σd H4 ⟨_,_,e,_⟩=>SqL.of (e _ _ (s3 _ _ c1))) ?_ ?_⟩
      ·rintro i x us σd H4 hx hi ⟨o4,rfl,s4,hus⟩
       obtain⟨c,a,ws,hci,rfl,h1,h2⟩:=col (s3.trans s4) hx
       have hcf:=(X.cf c (List.mem_of_getElem? hci)).len
       have hul:=IsThs.len _ hus
       rw[List.length_map,List.length_take] at hul
       have hwt:=IsThs.len _ h2
       have hjw:j<ws.length:=by omega
       obtain⟨u,hu1,hu2⟩:=Z0q _ h2 (List.getElem?_eq_getElem hjw)
       refine⟨by omega,_,rfl,_,rfl,a,ws,0+(j:Int),ws[j],rfl,rfl,SqT.of h1,by rw[Int.zero_add];exact Z2c (List.getElem?_eq_getElem hjw),nx hi ⟨_,rfl,s4,?_⟩⟩
       rw[List.take_add_one,hci,List.map_append]
       refine IsThs.app _ hus (.cons ?_ .nil)
       show IsTh H4 ws[j] (c.getD j dT)
       rw[List.getD_eq_getElem?_getD,hu1]
       exact hu2
      ·rintro us σd H4 ⟨o4,rfl,s4,hus⟩ l hl
       rw[List.take_of_length_le (by omega)] at hus
       have sl:=Z02 (o := .lst us) hl
       refine⟨l,us,rfl,.inl ⟨SqL.of Z00,fun l2 hl2 => ?_⟩⟩
       have sl2:=Z02 (o := .tup us) hl2
       have sA:=(s4.trans sl).trans sl2
       refine nx hj ⟨_,rfl,s3.trans sA,?_⟩
       have er:(Z42 m C)[j]? = some (.tup (C.map fun c=>c.getD j dT)):=by
        unfold Z42
        rw[List.getElem?_map,List.getElem?_range hj]
        rfl
       rw[List.take_add_one,er]
       exact IsThs.app _ (IsThs.kp (Kp.of sA) hzs) (.cons (.tup Z00 (IsThs.kp (Kp.of (sl.trans sl2)) hus)) .nil)
     ·rintro zs σc H3 ⟨o,rfl,s3,hzs⟩ l hl
      have hrl:(Z42 m C).length=m:=by unfold Z42;rw[List.length_map,List.length_range]
      rw[List.take_of_length_le (by omega)] at hzs
      have sl:=Z02 (o := .lst zs) hl
      have s3l:=s3.trans sl
      have G:=Z4i hm1 (n+1) [] ts List.nodup_nil F0
      refine⟨_,rfl,ra,rv,R,(mP (n+1) [] ts).1,rfl,s3l _ _ r1,IsThs.kp (Kp.of (to_sub.trans s3l)) r2,fun r hr' => ?_,?_,by omega,fun v H5 s5 hv => ?_⟩
      ·rw[e1] at hr'
       exact Zez (Z8g (n+1) G.pf r hr')
      ·rw[e1]
       exact Zey (n+1) G.pf []
      refine⟨_,rfl,l,zs,rfl,.inl ⟨SqL.of (s5 _ _ Z00),fun l2 hl2=>⟨(by show 2<=sizeLine;decide),fun l3 hl3 => ?_⟩⟩⟩
      have s6:=Z02 (o := .tup zs) hl2
      have s7:=Z02 (o := .tup [v,.ref l2]) hl3
      refine k _ _ ((((X.S.trans s3l).trans s5).trans s6).trans s7) ?_
      unfold Z8i
      rw[<- e2]
      exact .tup Z00 (.cons (IsTh.kp (Kp.of (s6.trans s7)) hv) (.cons (.tup (s7 _ _ Z00) (IsThs.kp (Kp.of (((sl.trans s5).trans s6).trans s7)) hzs)) .nil))
    | false =>
     have hne:wv ≠ []:=fun z=>by rw[z] at hws;cases hws
     obtain⟨wv',x,ts',t,rfl,eW,w3,w4⟩:=ths_last _ w2 hne
     obtain⟨W',l2,rfl,rfl,eL⟩:=List.map_eq_append_iff.mp eW
     obtain⟨c,rfl,rfl⟩:=List.map_eq_singleton_iff.mp eL
     refine Z71 ?_
     refine⟨_,rfl,.inl ⟨rfl,_,SqL.of w1⟩,wa,_,x,rfl,rfl,w1,(by rw[List.length_append];simp),?_⟩
     rw[List.dropLast_concat]
     have Fc:Fs (n+1) m c:=X.wf c (List.mem_append_right _ (List.mem_singleton.mpr rfl))
     have hcc:∀t∈c,cnt t<=5000:=hcw c (List.mem_append_right _ (List.mem_singleton.mpr rfl))
     have X3:=X.setW w3 (fun d hd=>X.wf d (List.mem_append_left _ hd))
     have w4':=IsTh.kp (Kp.of (Z4e (o := .lst wv') w1)) w4
     have w1':upd H2 wa (.lst wv') wa=some (.lst wv'):=Z00
     generalize upd H2 wa (.lst wv')=H3 at X3 w4' w1' ⊢
     clear X w1 w2 w3 w4 eW eL hws hne
     rw[List.reverse_append,List.reverse_singleton,List.singleton_append] at e1 e2
     rw[Z56] at hb
     have hb:R.length+(mu W'+(cnt (c.headD dT)+0))<=5000:=hb
     have hc0:=Z40 (Fc.pf _ (Z0p Fc.len hm1))
     obtain⟨a,vc,rfl,ha,hvc⟩:=Z1i w4'
     have ha3:=(Z5p ha).1
     have hvl:=IsThs.len _ hvc
     rw[Fc.len] at hvl
     have hlt:mu W'<mu (W' ++ [c]):=by
      rw[Z56]
      show mu W'<mu W'+(cnt (c.headD dT)+0)
      omega
     refine⟨_,rfl,a,vc,c,rfl,ha3,IsThs.kp (Kp.of to_sub) hvc,Fc.pf,fun t ht => ?_,by rw[Fc.len];exact hm1,by rw[Fc.len];omega,fun H5 s5=>⟨_,rfl,Z22 (fun ga => ?_) (fun ga => ?_)⟩⟩
     ·have:=Z6t _ (Fc.pf t ht)
      have:=hcc t ht
      omega
     ·have X5:=X3.same s5
      have ha5:=s5 _ _ ha3
      have hvc5:=IsThs.kp (Kp.of s5) (IsThs.kp (Kp.of to_sub) hvc)
      refine⟨_,rfl,a,vc,c,m,rfl,ha5,hvc5,Fc,ga,hm1,by omega,fun q ws H6 s6 hq0 hq hws => ?_⟩
      have X6:=X5.same s6
      obtain⟨w0,hd,el,hRw,hst⟩:=Zjk hm1 X6.cn Fc ga
      obtain⟨rv6,r6,_⟩:=X6.r
      obtain⟨v0,vr,rfl⟩:∃v0 vr,vc=v0::vr:=by
       cases vc with
       | nil=>simp at hvl;omega
       | cons v0 vr=>exact⟨v0,vr,rfl⟩
      obtain⟨t0,cr,rfl⟩:∃t0 cr,c=t0::cr:=by
       cases c with
       | nil=>have:=Fc.len;simp at this;omega
       | cons t0 cr=>exact⟨t0,cr,rfl⟩
      have el:Z23 t0 = .at (.str w0)::hd.map Th.at:=el
      obtain⟨xs0,e0,hxl⟩:∃xs,t0 = .tup xs/\xs.length<=1000000:=by
       obtain⟨w,hd,ks,rfl,_,h1,_,_,h5,_⟩:=Z3h (Fc.pf t0 (List.mem_cons_self ..)) (Fc.no t0 (List.mem_cons_self ..))
       exact⟨_,rfl,by rw[List.length_cons,List.length_append,List.length_map];omega⟩
      have hv0:IsTh H6 v0 (.tup xs0):=by
       rw[<- e0]
       cases hvc5 with
       | cons z _=>exact IsTh.kp (Kp.of s6) z
      have hwl:=IsThs.len _ hws
      rw[List.length_map] at hwl
      refine⟨_,rfl,.inl ⟨rfl,_,SqL.of r6⟩,_,rfl,a,v0::vr,0,v0,rfl,rfl,SqT.of (s6 _ _ ha5),Z1g _ _,H6,v0,xs0,rfl,Same.refl _,hv0,hxl,fun q2 ws2 H7 s7 hq2 hws2 => ?_⟩
      refine⟨_,rfl,q,ws,rfl,.inl (SqL.of (s7 _ _ hq)),(by show 2<=sizeLine;decide),fun q3 hq3 => ?_⟩
      have s8:=Z02 (o := .tup [.ref q2,.int (ws.length:Nat)]) hq3
      have X8:=(X6.same s7).same s8
      have hrow:IsTh (TO (upd H7 q3 (.tup [.ref q2,.int (ws.length:Nat)]))) (.ref q3) (rw0 w0 hd (Z1s (t0::cr)).length):=by
       refine Z54 (.tup Z00 (.cons (.tup (s8 _ _ hq2) ?_) (.cons ?_ .nil))) (Zaj (Zez hRw))
       ·have:Z2x xs0 = .at (.str w0)::hd.map Th.at:=by rw[<- el,e0];rfl
        rw[<- this]
        exact IsThs.kp (Kp.of (s7.trans s8)) hws2
       ·rw[hwl];exact .at rfl
      obtain⟨rv,r8,rl,hR⟩:=X8.addR
      have X9:=hR _ _ hrow
      have ne8:q≠ra:=fun z=>by rw[z] at hq0;obtain⟨rv',r5,_⟩:=X5.r;rw[r5] at hq0;cases hq0
      refine⟨ra,rv,.ref q3,rfl,rfl,r8,by omega,?_⟩
      have q9:upd (upd H7 q3 (.tup [.ref q2,.int (ws.length:Nat)])) ra (.lst (rv ++ [.ref q3])) q=some (.lst ws):=by rw[Z08 ne8];exact s8 _ _ (s7 _ _ hq)
      have w9:upd (upd H7 q3 (.tup [.ref q2,.int (ws.length:Nat)])) ra (.lst (rv ++ [.ref q3])) wa=some (.lst wv'):=by rw[Z08 X9.ne.2.1.symm];exact s8 _ _ (s7 _ _ (s6 _ _ (s5 _ _ w1')))
      have hws6:=Z4h hws (Z1c fun y hy=>by
       obtain⟨d,hd',rfl⟩:=List.mem_map.mp hy
       rw[plT]
       exact Zi0 (Z2e Fc ga hm1 d hd'))
      have hws9:=IsThs.kp (Kp.of ((Z2n (s7.trans s8)).trans (Z4e (o := .lst (rv ++ [.ref q3])) r8))) hws6
      generalize upd (upd H7 q3 (.tup [.ref q2,.int (ws.length:Nat)])) ra (.lst (rv ++ [.ref q3]))=H9 at X9 q9 w9 hws9 ⊢
      refine⟨_,rfl,.inl ⟨rfl,_,SqL.of w9⟩,_,rfl,_,rfl,rfl,q,ws,rfl,SqL.of q9,fun q4 hq4 => ?_⟩
      have s10:=Z02 (o := .lst ws.reverse) hq4
      have X10:=X9.same s10
      obtain⟨wv2,y1,y2⟩:=X10.v
      have ew:wv2=wv':=by
       have:=y1.symm.trans (s10 _ _ w9)
       injection this with this
       injection this
      subst ew
      have hyl:=IsThs.len _ y2
      rw[List.length_map] at hyl
      have hms:=Z8h Fc ga hm1
      have hWl':=Zi1 hm1 X10.wf
      have hsl:(Z1s (t0::cr)).length<=6:=by
       obtain⟨_,_,m0,e,h6,_⟩:=hRw
       have e:=congrArg (fun t:Th=>match t with | .tup [_,.at (.int i)]=>i | _=>0) e
       have e:((Z1s (t0::cr)).length:Int)=(m0:Int):=e
       omega
      refine⟨wa,q4,wv2,ws.reverse,rfl,rfl,s10 _ _ w9,Z00,by rw[List.length_reverse];omega,?_⟩
      refine⟨mu (W'++(Z1s (t0::cr)).reverse),?_,R ++ [rw0 w0 hd (Z1s (t0::cr)).length],C,W'++(Z1s (t0::cr)).reverse,_,_,_,rfl,X10.setW ?_ ?_,?_,?_,by rw[List.length_append];omega,?_,rfl⟩
      ·rw[Z56,Z56,Zhw]
       show mu W'+mu (Z1s (t0::cr))<mu W'+(cnt ((t0::cr).headD dT)+0)
       omega
      ·rw[List.map_append,List.map_reverse]
       exact IsThs.app _ y2 (Za3 _ (IsThs.kp (Kp.of (Z2n s10)) hws9))
      ·intro d hd'
       rcases List.mem_append.mp hd' with z | z
       ·exact X10.wf d z
       ·exact(Z2e Fc ga hm1 d (List.mem_reverse.mp z)).up
      ·rw[List.reverse_append,List.reverse_reverse,<- (hst R W'.reverse).1,<- (hst R W'.reverse).2]
       exact⟨e1,e2⟩
      ·rw[Z56,Zhw,List.length_append,List.length_singleton]
       omega
      ·intro d hd' t ht
       rcases List.mem_append.mp hd' with z | z
       ·exact hcw d (List.mem_append_left _ z) t ht
       ·have z:=List.mem_reverse.mp z
        unfold Z1s at z
        obtain⟨j,hj,rfl⟩:=List.mem_map.mp z
        obtain⟨u,hu,rfl⟩:=List.mem_map.mp ht
        rw[List.mem_range] at hj
        have hk:(Z15 ((t0::cr).headD dT)).length=(Z15 u).length:=congrArg Prod.snd (al_iff.mp ga _ (Z0p Fc.len hm1) _ hu)
        have:=Zf0 (Fc.pf u hu) (Fc.no u hu) (Z2g (ts:=Z15 u) (p:=j) (by omega))
        have:=hcc u hu
        omega
     ·have hal:al c=false:=by cases e:al c with | true=>exact absurd e ga | false=>rfl
      have X5:=X3.same s5
      have ha5:=s5 _ _ ha3
      have hvc5:=IsThs.kp (Kp.of s5) (IsThs.kp (Kp.of to_sub) hvc)
      obtain⟨kvs,n1,n2,n3,n4⟩:=X5.n
      obtain⟨cv,c1,c2⟩:=X5.c
      have hcvl:=IsThs.len _ c2
      rw[List.length_map] at hcvl
      have hkl:kvs.length=C.length:=by have:=congrArg List.length n2;rwa [List.length_map,List.length_map] at this
      have hget:=Zjj c C kvs 0 n2 n3 (fun d hd e=>Zji (X5.cf d hd) Fc e)
      refine⟨fun σ' H'=>∃kb H6,σ' = [some (.ref p),some (.ref ra),some (.ref na),some (.ref ca),some (.ref wa),some (.ref a),o6,some (.int ((C.idxOf c:Nat):Int)),none]/\Same H5 H6/\IsTh (TO H6) (.ref kb) (ntT (key c))/\((c∈C/\H'=H6)∨(c∉C/\H'=upd H6 na (ntO P w na (kvs ++ [(key c,kb,.int (C.length:Nat))])))),?_,?_⟩
      ·refine⟨_,rfl,na,kvs,rfl,n1,_,rfl,a,rfl,⟨_,SqT.of ha5⟩,Z2q (K:=K) (a:=a) (xs:=vc) (fun i ys σc H'=>∃o,σc = [o]/\Same H5 H'/\IsThs H' ys ((c.take i).map fun t => .tup (Z19 t)))
        ⟨none,rfl,Same.refl _,.nil⟩ (fun i ys σc H' ⟨_,_,e,_⟩=>SqT.of (e _ _ ha5)) ?_ ?_⟩
       ·rintro i x ys σc H' hx hi ⟨o,rfl,s6,hys⟩
        obtain⟨t,ht,hxt⟩:=Z0q _ (IsThs.kp (Kp.of s6) hvc5) hx
        have hmem:=List.mem_of_getElem? ht
        have hyl:=IsThs.len _ hys
        rw[List.length_map,List.length_take] at hyl
        have hs1:=Z6t _ (Fc.pf t hmem)
        have hs2:=hcc t hmem
        refine⟨by omega,_,rfl,x,t,rfl,hxt,PfT.ok (n+1) (Fc.pf t hmem),by omega,fun q ws H7 s7 hq0 hq hws=>⟨q,ws,rfl,.inl ⟨SqL.of hq,fun q2 hq2 => ?_⟩⟩⟩
        have s8:=Z02 (o := .tup ws) hq2
        refine nx hi ⟨_,rfl,s6.trans (s7.trans s8),?_⟩
        rw[List.take_add_one,ht,List.map_append]
        exact IsThs.app _ (IsThs.kp (Kp.of (s7.trans s8)) hys) (.cons (.tup Z00 (IsThs.kp (Kp.of s8) hws)) .nil)
       ·rintro ys σc H' ⟨o,rfl,s6,hys⟩ l hl
        rw[List.take_of_length_le (by rw[Fc.len];omega)] at hys
        have sl:=Z02 (o := .lst ys) hl
        refine⟨l,ys,rfl,.inl ⟨SqL.of Z00,fun kb hkb => ?_⟩⟩
        have sk:=Z02 (o := .tup ys) hkb
        have s5k:=(s6.trans sl).trans sk
        have hK:IsTh (upd (upd H' l (.lst ys)) kb (.tup ys)) (.ref kb) (ntT (key c)):=by
         rw[Z9r Fc]
         exact .tup Z00 (IsThs.kp (Kp.of (sl.trans sk)) hys)
        have hKT:IsTh (TO (upd (upd H' l (.lst ys)) kb (.tup ys))) (.ref kb) (ntT (key c)):=by
         refine Z54 hK ?_
         rw[Z9r Fc]
         exact Zhy Fc
        generalize upd (upd H' l (.lst ys)) kb (.tup ys)=H6 at s5k hK hKT ⊢
        refine⟨_,rfl,ca,cv,rfl,.inl (SqL.of (s5k _ _ c1)),kvs,key c,kb,s5k _ _ n1,rfl,hK,Zhz Fc,fun q hq=>⟨IsTh.kp (Kp.of (to_sub.trans s5k)) (n4 q hq).1,(n4 q hq).2⟩,by omega,fun v hv => ?_,fun hv => ?_⟩
        ·rw[hget] at hv
         by_cases hmem:c∈C
         ·rw[if_pos hmem,Nat.zero_add] at hv
          cases hv
          exact⟨kb,H6,rfl,s5k,hKT,.inl ⟨hmem,rfl⟩⟩
         ·rw[if_neg hmem] at hv
          cases hv
        ·rw[hget] at hv
         by_cases hmem:c∈C
         ·rw[if_pos hmem] at hv
          cases hv
         ·refine⟨kb,H6,?_,s5k,hKT,.inr ⟨hmem,by rw[hcvl];rfl⟩⟩
          rw[List.idxOf_eq_length hmem,<- hcvl]
          rfl
      rintro σ6 H6' ⟨kb,H6,rfl,s6,hkb,hcase⟩
      have X6:=X5.same s6
      refine⟨fun σ' H'=>σ' = [some (.ref p),some (.ref ra),some (.ref na),some (.ref ca),some (.ref wa),some (.ref a),o6,some (.int ((C.idxOf c:Nat):Int)),none]/\StM P w H H' ra na ca wa (n+1) m R (Z9o C c) W',?_,?_⟩
      ·rcases hcase with ⟨hmem,rfl⟩ | ⟨hmem,rfl⟩
       ·have hlt':C.idxOf c<C.length:=List.idxOf_lt_length_iff.mpr hmem
        refine⟨_,rfl,_,rfl,ca,cv,rfl,.inl (SqL.of (s6 _ _ c1)),rfl,_,rfl,Z22 (fun g => ?_) (fun _=>⟨rfl,?_⟩)⟩
        ·have g':=of_decide_eq_true g
         injection g' with g'
         omega
        ·unfold Z9o
         rw[if_pos hmem]
         exact X6
       ·have ei:=List.idxOf_eq_length hmem
        have nc:ca≠na:=Z1b c1 n1 (by intro q;cases q)
        have cc:upd H6 na (ntO P w na (kvs ++ [(key c,kb,.int (C.length:Nat))])) ca=some (.lst cv):=by rw[Z08 nc];exact s6 _ _ c1
        refine⟨_,rfl,_,rfl,ca,cv,rfl,.inl (SqL.of cc),rfl,_,rfl,Z22 (fun _ => ?_) (fun g=>absurd (decide_eq_true (by rw[ei,hcvl])) g)⟩
        refine⟨_,rfl,.inl ⟨rfl,_,SqL.of cc⟩,_,rfl,ca,cv,.ref a,rfl,rfl,cc,by omega,rfl,?_⟩
        have k6:=Kp.of (Z2n s6)
        have:=X6.addC (x := .ref a) (c:=c) (b:=kb) (s6 _ _ c1) (s6 _ _ n1) (IsThs.kp k6 c2) n2 n3 (fun q hq=>⟨IsTh.kp k6 (n4 q hq).1,(n4 q hq).2⟩) (IsTh.kp (Kp.of (Z2n (s5.trans s6))) w4') hkb Fc hmem
        unfold Z9o
        rw[if_neg hmem]
        exact this
      rintro σ7 H7 ⟨rfl,X7⟩
      obtain⟨rv7,r7,_⟩:=X7.r
      refine⟨_,rfl,.inl ⟨rfl,_,SqL.of r7⟩,_,rfl,(by show 2<=sizeLine;decide),fun q5 hq5=>⟨(by show 2<=sizeLine;decide),fun q6 hq6 => ?_⟩⟩
      have s8:=Z02 (o := .tup [.str "hole",.int ((C.idxOf c:Nat):Int)]) hq5
      have s9:=Z02 (o := .tup [.ref q5,.int 0]) hq6
      have X9:=(X7.same s8).same s9
      have hrow:IsTh (TO (upd (upd H7 q5 (.tup [.str "hole",.int ((C.idxOf c:Nat):Int)])) q6 (.tup [.ref q5,.int 0]))) (.ref q6) (rw0 "hole" [.int ((C.idxOf c:Nat):Int)] 0) :=
       .tup (Z75 Z00) (.cons (.tup (Z75 (s9 _ _ Z00)) (.cons (.at (by decide +kernel)) (.cons (.at rfl) .nil))) (.cons (.at rfl) .nil))
      obtain⟨rv,r9,rl,hR⟩:=X9.addR
      obtain⟨st1,st2⟩:=Zjl (n:=n) hal (C:=C) R W'.reverse
      have hpl:(Z9o C c).length<=C.length+1:=by
       unfold Z9o
       split
       ·omega
       ·rw[List.length_append,List.length_singleton];omega
      refine⟨ra,rv,.ref q6,rfl,rfl,r9,by omega,mu W',hlt,R ++ [rw0 "hole" [.int ((C.idxOf c:Nat):Int)] 0],Z9o C c,W',_,_,_,rfl,hR _ _ hrow,⟨?_,?_⟩,?_,?_,fun d hd=>hcw d (List.mem_append_left _ hd),rfl⟩
      ·rw[<- st1];exact e1
      ·rw[<- st2];exact e2
      ·rw[List.length_append,List.length_singleton];omega
      ·rw[List.length_append,List.length_singleton];omega
   ·rintro σ H Q Q' h ⟨x,e,b,t,q⟩
    exact⟨x,e,b,t,h _ _ q⟩
end
end K20
namespace L2
open PySem PySem.Spec PyProof.Rows
inductive rIndexL (n:Nat)(x:V)(vs:List V)(H:Hp)(Q:VK):Prop
 | mk (l b:Addr) (cvs:List V) (C:List (List Th)) (c:List Th) (j:Nat) (_:x = .ref l) (_:vs = [.ref b]) (_:H l=some (.lst cvs)) (_:IsThs H cvs (C.map Th.lst)) (_:IsTh H (.ref b) (.lst c)) (_:(∀d∈C,Z24 d=true/\dps d<=n)) (_:Z24 c=true) (_:dps c<=n) (_:C[j]? = some c) (_:(∀m,m<j->C[m]? ≠ some c)) (_:Q (.int (j:Nat)) H):rIndexL n x vs H Q
section
variable {X:Cx}{pins:List (Addr × Obj)}{σ:St}{H:Hp}{s:Shared}
theorem Z9s (I:Inv X pins σ H s){n:Nat}{A:Around}(hu:A.units+(n+1)<cLine){a b:Addr}{c d:List Th}(ha:IsTh H (.ref a) (.lst d))(hb:IsTh H (.ref b) (.lst c))(p1:Z24 d=true)(d1:dps d<=n)(p2:Z24 c=true)(d2:dps c<=n) :
  SeqAt.EqAt A s (.ref a) (.ref b) (Z1u (Z38 d) (Z38 c)):=by
 obtain⟨a',vs,e1,ha1,hvs⟩:=Z3d ha
 cases e1
 obtain⟨b',ws,e2,hb1,hws⟩:=Z3d hb
 cases e2
 have r:=Z32 (K:=X.K) hvs n p1 d1
 have r':=Z32 (K:=X.K) hws n p2 d2
 by_cases hab:a=b
 ·subst hab
  rw[ha1] at hb1
  cases hb1
  rw[Z5x I r r']
  exact SeqAt.EqAt.same _
 ·obtain⟨its,v1,pl,_⟩:=I.list (SqL.of ha1)
  obtain⟨its2,v2,pl2,_⟩:=I.list (SqL.of hb1)
  obtain⟨e1,e2⟩:=Zdw (A:=A.in1) I r r' v1 v2 (fun hx hy rx ry=>Z81 I n A.in1 (by show A.units+1+n<cLine;omega) hx hy rx ry)
  by_cases hs:its.length=its2.length
  ·rw[<- e2]
   have:(its.toArray.size==its2.toArray.size)=true:=by simp [hs]
   rw[this,Bool.and_true,show min its.toArray.size its2.toArray.size=its.toArray.size by simp [hs]]
   exact SeqAt.EqAt.of_refs hab (SeqAt.RcAt.lists pl.isList pl2.isList (by simp [hs]) (by omega) e1)
  ·rw[<- e2]
   have:(its.toArray.size==its2.toArray.size)=false:=by simpa using hs
   rw[this,Bool.and_false]
   exact SeqAt.EqAt.of_refs hab (SeqAt.RcAt.lists_lengths pl.isList pl2.isList (by simpa using hs) (by omega))
end
section
variable {X:Cx}
open Classical in
theorem Zf1 (n:Nat)(hu:X.A.units+(n+2)<cLine):MtR X "list.index" (rIndexL n):=by
 intro pins s σ H x vs v us Q I rx rv h
 obtain⟨l,b,cvs,C,c,j,rfl,rfl,hH,hC,hb,hpl,p2,d2,hj,hno,q⟩:=h
 cases rx
 obtain⟨u,rfl,ru⟩:=rv.one
 cases ru
 obtain⟨z,its,m0,r,hl,e⟩:=I.lstM hH
 have hCl:=IsThs.len _ hC
 rw[List.length_map] at hCl
 have hsz:sizeLine=16777216:=sizeLine_eq
 have val:∀(m:Nat) (hm:m<its.length),∃(a:Addr) (d:List Th),its[m] = .ref a/\C[m]? = some d/\IsTh H (.ref a) (.lst d)/\Z24 d=true/\dps d<=n:=fun m hm=>by
  have hm':m<cvs.length:=by omega
  obtain⟨t,ht,hx⟩:=Z0q _ hC (List.getElem?_eq_getElem hm')
  rw[List.getElem?_map] at ht
  cases ed:C[m]? with
  | none=>rw[ed] at ht;cases ht
  | some d =>
   rw[ed] at ht
   cases ht
   obtain⟨a,vs,ea,h1,h2⟩:=Z3d hx
   obtain⟨w,hw,rw'⟩:=r.get (List.getElem?_eq_getElem hm')
   rw[ea] at rw' hx
   rw[List.getElem?_eq_getElem hm] at hw
   cases rw'
   have hd:=hpl d (List.mem_of_getElem? ed)
   exact⟨a,d,Option.some.inj hw,rfl,hx,hd.1,hd.2⟩
 have jl:j<its.length:=by
  have:=(List.getElem?_eq_some_iff.mp hj).1
  omega
 let eq:Value->Bool:=fun y=>decide (∃k:Nat,its[k]? = some y/\C[k]? = some c)
 have uniq:∀{a:Addr} {d d':List Th},IsTh H (.ref a) (.lst d)->IsTh H (.ref a) (.lst d')->Z24 d=true->Z24 d'=true->dps d<=n->dps d'<=n->d=d':=fun {a d d'} h h' p p' k k'=>by
  obtain⟨a1,vs,e1,h1,h2⟩:=Z3d h
  cases e1
  obtain⟨a2,ws,e2,h3,h4⟩:=Z3d h'
  cases e2
  rw[h1] at h3
  cases h3
  exact(Z20 d d' p p').mp (Z5x I (Z32 (K:=X.K) h2 n p k) (Z32 (K:=X.K) h4 n p' k'))
 have eqv:∀(m:Nat) (hm:m<its.length) (a:Addr) (d:List Th),its[m] = .ref a->C[m]? = some d->IsTh H (.ref a) (.lst d)->Z24 d=true->dps d<=n->eq its[m]=Z1u (Z38 d) (Z38 c):=fun m hm a d h1 h2 h3 h4 h5=>by
  by_cases hd:d=c
  ·subst hd
   rw[(Z20 d d h4 h4).mpr rfl]
   exact decide_eq_true ⟨m,List.getElem?_eq_getElem hm,h2⟩
  ·have e1:Z1u (Z38 d) (Z38 c)=false:=by
    cases g:Z1u (Z38 d) (Z38 c) with
    | false=>rfl
    | true=>exact absurd ((Z20 d c h4 p2).mp g) hd
   rw[e1]
   refine decide_eq_false fun⟨k,k1,k2⟩=>hd ?_
   obtain⟨hk,hk2⟩:=List.getElem?_eq_some_iff.mp k1
   obtain⟨a',d',g1,g2,g3,g4,g5⟩:=val k hk
   rw[k2] at g2
   cases g2
   rw[hk2,h1] at g1
   cases g1
   exact uniq h3 g3 h4 g4 h5 g5
 refine call_meets F.slot_list_index ⟨_,e,rfl⟩ F.entry_list_index (F.args_list_index_2 _ _) (SeqAt.list_indexAt l its.toArray m0 none #[] (.ref b) eq j (by simpa using jl) (by omega) ?_ ?_) ⟨e,?_,?_⟩
 ·rw[List.getElem_toArray]
  exact decide_eq_true ⟨j,List.getElem?_eq_getElem jl,hj⟩
 ·intro m hm hmj
  rw[List.getElem_toArray]
  obtain⟨a,d,g1,g2,g3,g4,g5⟩:=val m (by simpa using hm)
  rw[eqv m (by simpa using hm) a d g1 g2 g3 g4 g5]
  cases g:Z1u (Z38 d) (Z38 c) with
  | false=>rfl
  | true =>
   rw[(Z20 d c g4 p2).mp g] at g2
   exact absurd g2 (hno m hmj)
 ·intro y hy
  obtain⟨m,hm,rfl⟩:=Array.mem_iff_getElem.mp hy
  rw[List.getElem_toArray]
  obtain⟨a,d,g1,g2,g3,g4,g5⟩:=val m (by simpa using hm)
  rw[eqv m (by simpa using hm) a d g1 g2 g3 g4 g5,g1]
  exact Z9s I (by show X.A.units+1+(n+1)<cLine;omega) g3 hb g4 g5 p2 d2
 ·exact⟨.int (j:Nat),H,I.tok _,⟨_,rfl⟩,q⟩
end
end L2
namespace K20
open PySem L2
theorem Z8j:∀a b:List Th,dps (a++b)=max (dps a) (dps b)
 | [],b=>by rw[dps];simp
 | x::a,b=>by rw[List.cons_append,dps,dps,Z8j a b];omega
theorem Z8k {k j:Nat}{A:Around}(r:Room k A)(h:j<=200):A.units+j<cLine:=by have:=r.un;omega
inductive spHeaded (N:Nat)(vs:List V)(H:Hp)(Q:VK)(E_3:XK):Prop
 | mk (a:Addr) (vs':List V) (ts:List Th) (m:Nat) (_:vs = [.ref a]) (_:H a=some (.lst vs')) (_:IsThs H vs' ts) (_:Fs N m ts) (_:1<=m) (_:m<=100) (_:∀H',Same H H'->Q (.bl (al ts)) H'):spHeaded N vs H Q E_3
theorem Zlh:∀(n:Nat) {t:Th},PfT n t->(hs t).length<=cnt t:=by
 intro n
 induction n with
 | zero=>intro t h;exact h.elim
 | succ n ih =>
  intro t h
  have h':=h
  obtain⟨w,hd,ks,rfl,h1,h2,h3,h4,h5,h6⟩:=h
  by_cases hw:w="hole"
  ·subst hw
   obtain⟨i,rfl,rfl⟩:=h4 rfl
   rw[Z1x]
   exact Z40 h'
  ·rw[Z6w hw,Z1k fun k hk=>(h6 k hk).isTup]
   have:∀l:List Th,(∀k∈l,PfT n k)->((l.map hs).flatten).length<=Z14 l:=by
    intro l
    induction l with
    | nil=>intro _;simp [Z14]
    | cons k l il =>
     intro hl
     rw[List.map_cons,List.flatten_cons,List.length_append,Z14]
     have:=ih (hl k (List.mem_cons_self ..))
     have:=il fun y hy=>hl y (List.mem_cons_of_mem _ hy)
     omega
   have:=this ks h6
   omega
theorem Zbv:∀(l:List Th) (k:Th),k∈l->cnt k<=Z14 l:=by
 intro l
 induction l with
 | nil=>intro k z;cases z
 | cons x l ih =>
  intro k z
  rw[Z14]
  rcases List.mem_cons.mp z with q | q
  ·rw[q];omega
  ·have:=ih k q;omega
theorem Z29:∀a b:List Th,Z14 (a++b)=Z14 a+Z14 b
 | [],b=>by rw[Z14];simp
 | x::a,b=>by rw[List.cons_append,Z14,Z14,Z29 a b];omega
section
variable {P:Program}{w:World}{K:PySem.W.Frag}{mg:Str->Option Value}{base:Heap}
theorem scHeaded:FnScope ["_law_forms","_law_inner","_law_other"] ["_law_forms"] (Z05 Z6j):=⟨rfl,rfl,rfl,by decide +kernel,rfl,by decide +kernel,by decide +kernel⟩
theorem Zf2 {f fP fW:Addr}{fd dP dW:FuncData}(F:Fun K "_law_headed" "_law_headed" Z6j f fd)(U:HW K mg fP fW dP dW)(n:Nat)(hn:n<=100):FnOk P w K mg base CX0 2 f fd ["_law_forms"] (spHeaded (n+1)):=by
 have GP:FnOk P w K mg base CX0 1 fP dP ["_law_e"] spLawParts:=Z1w U.P U.T U.KI
 have GW:FnOk P w K mg base CX0 1 fW dW ["_law_e","_law_inner"] spWith:=Z5j U.W U.T U.KI
 refine F.ok scHeaded (fun vs H Q E h => ?_) (fun cdv A outer s H vs Q E hr h => ?_)
 ·obtain⟨a,vs,ts,m,rfl,_⟩:=h
  rfl
 ·obtain⟨a,vs,ts,m,rfl,ha,hvs,F0,hm1,hm2,k⟩:=h
  have hsz:sizeLine=16777216:=sizeLine_eq
  have hr1:Room 1 _:=hr.mono (by decide)
  have hu:=Z8k hr (j:=n+1+1) (by omega)
  refine'⟨?tt,?body,?fin⟩
  case body =>
   refine' Z03 ?s1 (Z03 ?s2 (Z07 ?s3))
   case s1=>exact Z0c (i:=1) scHeaded.nd rfl (Or.inl rfl) (Z06 GP hr1 (by rfl) U.mP U.P.kp U.bP .nil Z0g (Z09 (Z0y Z11 (pv 0) Z04 (fun _ _=>rfl)) Z01))
   case s2 =>
    refine' Z4b PassesOwn.never rfl (Z2l (Z2f Z7x (pv 0) (Z2u Z04) Z35)) (Z0m (i:=2) scHeaded.nd rfl (Or.inl rfl)) (Z07 ?b)
    case b =>
     refine' Z17 ?c (Z07 (Z0l Z9w)) Z0k
     case c =>
      refine' PW.pt (Zc3 ?c1 (Z8n ?c2))
      case c1=>exact Z0f Zkd (Z0d Z0b (by rfl) U.T.len PySem.boot_len (Z2s (Z06 GP hr1 (by rfl) U.mP U.P.kp U.bP .nil Z0g (Z0h (pv 2) Z01)) Z01)) (Z0d Z0b (by rfl) U.T.len PySem.boot_len (Z0h (pv 1) Z01)) (Z0j _)
      case c2=>exact Z0f (Zim (K:=K) rfl (n+1) hu) (Z06 GW hr1 (by rfl) U.mW U.W.kp U.bW .nil Z0g (Z0h (pv 2) (Z0h (pv 1) Z01))) (Z0y Z11 (pv 0) Z04 (fun _ _=>rfl)) (Z0j _)
   case s3=>exact Z0l Z9w
  case fin =>
   have hvl:=IsThs.len _ hvs
   rw[F0.len] at hvl
   obtain⟨v0,vr,rfl⟩:∃v0 vr,vs=v0::vr:=by
    cases vs with
    | nil=>simp at hvl;omega
    | cons v0 vr=>exact⟨v0,vr,rfl⟩
   obtain⟨t0,tr,rfl⟩:∃t0 tr,ts=t0::tr:=by
    cases ts with
    | nil=>have:=F0.len;simp at this;omega
    | cons t0 tr=>exact⟨t0,tr,rfl⟩
   have shape:∀t∈t0::tr,∃(w0:Str) (xs:List Th),t = .tup (.at (.str w0)::xs)/\xs.length<=7/\Z1f xs=Z15 t:=fun t ht=>by
    obtain⟨w,hd,ks,rfl,_,h1,_,_,h5,h6,_,e,_⟩:=Z3h (F0.pf t ht) (F0.no t ht)
    refine⟨w,hd.map Th.at++ks,rfl,by rw[List.length_append,List.length_map];omega,?_⟩
    rw[e,Z3m fun k hk=>(h6 k hk).isTup]
   have hv0:IsTh H v0 t0:=by cases hvs with | cons z _=>exact z
   have hvr:IsThs H vr tr:=by cases hvs with | cons _ z=>exact z
   have m0:t0∈t0::tr:=List.mem_cons_self ..
   obtain⟨w0,xs0,e0,hx0,k0⟩:=shape t0 m0
   refine⟨_,rfl,a,_,0,v0,rfl,rfl,SqL.of ha,Z1g _ _,v0,w0,xs0,rfl,by rw[<- e0];exact hv0,by omega,fun q ws H1 s1 hq0 hq hws => ?_⟩
   rw[k0] at hws
   have hwl:=IsThs.len _ hws
   have ha1:=s1 _ _ ha
   refine⟨_,rfl,_,rfl,a,_,rfl,SqL.of ha1,fun c hc => ?_⟩
   have ecut:Z5v (v0::vr) (some 1) none=vr:=by
    unfold Z5v
    have e1:HT.sIx (v0::vr).length 0 (some 1)=min 1 (v0::vr).length:=rfl
    have e2:HT.sIx (v0::vr).length (v0::vr).length none=(v0::vr).length:=rfl
    rw[e1,e2,List.length_cons,show min 1 (vr.length+1)=1 by omega]
    simp
   rw[ecut]
   have sc:=Z02 (o := .lst vr) hc
   have s1c:=s1.trans sc
   have h1c:=s1c.trans (Same.refl _)
   refine⟨c,rfl,⟨_,SqL.of Z00⟩,Zat (K:=K) (a:=c) (xs:=vr) (fun i σ H'=>∃o,σ = [some (.ref a),some (.ref q),o]/\Same (upd H1 c (.lst vr)) H'/\∀u∈tr.take i,lkT u=lkT t0)
    ⟨none,rfl,Same.refl _,fun u hu=>by cases hu⟩ (fun i σ H' _ ⟨_,_,e,_⟩=>SqL.of (e _ _ Z00)) ?_ ?_⟩
   ·rintro i x σ H2 hx ⟨o,rfl,s2,hall⟩
    have sA:=s1c.trans s2
    obtain⟨u,hu,hxu⟩:=Z0q _ (IsThs.kp (Kp.of sA) hvr) hx
    have hum:=List.mem_cons_of_mem t0 (List.mem_of_getElem? hu)
    obtain⟨w1,xs1,e1,hx1,k1⟩:=shape u hum
    have fin:al (t0::tr)=false->∀H',Same H2 H'->Q (.bl false) H':=fun z H' s'=>by rw[<- z];exact k H' (sA.trans s')
    refine⟨_,rfl,x,w1,xs1,rfl,by rw[<- e1];exact hxu,by omega,fun q3 ws3 H3 s3 hq30 hq3 hws3=>⟨q3,ws3,rfl,.inl (SqL.of hq3),_,rfl,q,ws,rfl,.inl (SqL.of (s3 _ _ (s2 _ _ (sc _ _ hq)))),?_⟩⟩
    rw[k1] at hws3
    have hw3:=IsThs.len _ hws3
    have notal:lkT u≠lkT t0->al (t0::tr)=false:=fun z=>by
     cases e:al (t0::tr) with
     | false=>rfl
     | true=>exact absurd (al_iff.mp e u hum t0 m0) z
    refine⟨rfl,_,rfl,Z22 (fun g => ?_) (fun g => ?_)⟩
    ·refine Z71 (fin (notal fun z => ?_) _ s3)
     have z2:(Z15 u).length=(Z15 t0).length:=congrArg Prod.snd z
     rw[decide_eq_true (by rw[hw3,hwl,z2])] at g
     cases g
    ·have hlen:(Z15 u).length=(Z15 t0).length:=by
      by_cases z:V.int ((ws3.length:Nat):Int)=V.int ((ws.length:Nat):Int)
      ·injection z with z
       omega
      ·rw[decide_eq_false z] at g
       exact absurd rfl g
     have su:=Z8d (F0.pf u hum) (F0.no u hum)
     have s0:=Z8d (F0.pf t0 m0) (F0.no t0 m0)
     have elu:Z2x (.at (.str w1)::xs1)=Z23 u:=by rw[e1];rfl
     have plu:=PfT.pl (n+1) (F0.pf u hum)
     have pl0:=PfT.pl (n+1) (F0.pf t0 m0)
     have du:=PfT.dp (n+1) (F0.pf u hum)
     have d0:=PfT.dp (n+1) (F0.pf t0 m0)
     rw[su,plT,Z60,Bool.and_eq_true] at plu
     rw[s0,plT] at pl0
     have pl0':=pl0
     rw[Z60,Bool.and_eq_true] at pl0'
     rw[su,dp,Z8j] at du
     rw[s0,dp] at d0
     have d0':=d0
     rw[Z8j] at d0'
     have e00:Th.at (.str w0)::xs0=Z23 t0++Z15 t0:=by
      have:=e0.symm.trans s0
      injection this
     have h1u:(Th.at (.str w1)::xs1).length<=1000:=by rw[List.length_cons];omega
     have hk1000:(Z15 t0).length<=1000:=by
      have:=congrArg List.length e00
      rw[List.length_cons,List.length_append] at this
      omega
     have sq3:H3 q=some (.lst ws):=s3 _ _ (s2 _ _ (sc _ _ hq))
     refine⟨_,rfl,_,rfl,x,q,.at (.str w1)::xs1,Z15 t0,ws,rfl,by rw[<- e1];exact IsTh.kp (Kp.of s3) hxu,h1u,sq3,IsThs.kp (Kp.of ((sc.trans s2).trans s3)) hws,hk1000,fun p4 H4 s4 hp4 => ?_⟩
     rw[elu] at hp4
     have hv04:IsTh H4 v0 (.tup (Z23 t0++Z15 t0)):=by rw[<- s0];exact IsTh.kp (Kp.of ((sA.trans s3).trans s4)) hv0
     refine⟨_,rfl,a,_,0,v0,rfl,rfl,SqL.of (((sA.trans s3).trans s4) _ _ ha),Z1g _ _,Z23 u++Z15 t0,Z23 t0++Z15 t0,hp4,hv04,by rw[Z60,plu.1,pl0'.2];rfl,pl0,by rw[Z8j];omega,by omega,fun e => ?_,fun ne => ?_⟩
     ·refine⟨_,rfl,Z4l ⟨_,rfl,(s2.trans s3).trans s4,fun y hy => ?_⟩⟩
      rw[List.take_add_one,hu] at hy
      rcases List.mem_append.mp hy with z | z
      ·exact hall y z
      ·have z:y=u:=by simpa using z
       rw[z]
       unfold lkT
       rw[List.append_cancel_right e,hlen]
     ·refine⟨_,rfl,Z71 (fin (notal fun z=>ne ?_) _ (s3.trans s4))⟩
      rw[show Z23 u=Z23 t0 from congrArg Prod.fst z]
   ·rintro σ H2 ⟨o,rfl,s2,hall⟩
    have hl2:=IsThs.len _ hvr
    rw[hl2,List.take_of_length_le (Nat.le_refl _)] at hall
    have:al (t0::tr)=true:=by
     unfold al
     exact List.all_eq_true.mpr fun u hu=>decide_eq_true (hall u hu)
    show Q (.bl true) H2
    rw[<- this]
    exact k H2 (s1c.trans s2)
end
end K20
namespace L2
open PySem PySem.Spec PyProof.Rows
end L2
namespace K20
open PySem L2
theorem Zli {m:Nat}(hm:1<=m):∀(n:Nat) (C:List (List Th)) (ts:List Th),C.Nodup->Fs n m ts->cnt (mP n C ts).1<=cnt (ts.headD dT):=by
 intro n
 induction n with
 | zero=>intro C ts _ F;exact(F.pf _ (Z0p F.len hm)).elim
 | succ n ih =>
  intro C ts hC F
  have h0:=Z0p F.len hm
  unfold mP
  by_cases ha:al ts=true
  ·rw[if_pos ha]
   have hacc:∀(cs C:List (List Th)),C.Nodup->(∀c∈cs,Fs n m c)->Z14 (acc (mP n) C cs).1<=mu cs:=by
    intro cs
    induction cs with
    | nil=>intro C _ _;simp [acc,Z14]
    | cons c cs ihc =>
     intro C hC hf
     have G:=Z4i hm n C c hC (hf c (List.mem_cons_self ..))
     have a:=ih C c hC (hf c (List.mem_cons_self ..))
     have b:=ihc (mP n C c).2 G.nd fun x hx=>hf x (List.mem_cons_of_mem _ hx)
     show Z14 ((mP n C c).1::(acc (mP n) (mP n C c).2 cs).1)<=cnt (c.headD dT)+mu cs
     rw[Z14]
     omega
   have A:=Z8c (Z4i hm n) (Z1s ts) C hC (Z2e F ha hm)
   obtain⟨w,hd,ks,e0,hw,h1,h2,h3,h5,h6,h7,e1,e2⟩:=Z3h (F.pf _ h0) (F.no _ h0)
   have b:=hacc (Z1s ts) C hC (Z2e F ha hm)
   rw[Z8h F ha hm,e2]
   show cnt (nd w hd (acc (mP n) C (Z1s ts)).1)<=_
   rw[Z1k fun k hk=>(A.pf k hk).isTup]
   omega
  ·rw[if_neg ha]
   show cnt (hol _)<=_
   have:=Z40 (F.pf _ h0)
   unfold hol
   rw[Z1k (fun k hk=>by cases hk),Z14]
   omega
theorem Z7r:∀(xs l:List Nat) (x:Nat),x∈Z2j l xs↔x∈l∨x∈xs:=by
 intro xs
 induction xs with
 | nil=>intro l x;simp [Z2j]
 | cons y xs ih =>
  intro l x
  show x∈Z2j (Zfj l y) xs↔_
  rw[ih]
  unfold Zfj
  split
  ·next h =>
   constructor
   ·rintro(z | z)
    ·exact .inl z
    ·exact .inr (List.mem_cons_of_mem _ z)
   ·rintro(z | z)
    ·exact .inl z
    ·rcases List.mem_cons.mp z with q | q
     ·rw[q];exact .inl h
     ·exact .inr q
  ·rw[List.mem_append,List.mem_singleton,List.mem_cons]
   constructor
   ·rintro((z | z) | z)
    ·exact .inl z
    ·exact .inr (.inl z)
    ·exact .inr (.inr z)
   ·rintro(z | z | z)
    ·exact .inl (.inl z)
    ·exact .inl (.inr z)
    ·exact .inr z
theorem Zcx:∀(xs l:List Nat),(Z2j l xs).length<=l.length+xs.length:=by
 intro xs
 induction xs with
 | nil=>intro l;exact Nat.le_refl _
 | cons y xs ih =>
  intro l
  have:=ih (Zfj l y)
  have h2:(Zfj l y).length<=l.length+1:=by unfold Zfj;split <;> simp
  show(Z2j (Zfj l y) xs).length<=_
  rw[List.length_cons]
  omega
theorem Zlj {σ τ : Nat->Th}:∀(n:Nat) {t:Th},PfT n t->(∀i∈hs t,σ i = τ i)->fl σ t=fl τ t:=by
 intro n
 induction n with
 | zero=>intro t h;exact h.elim
 | succ n ih =>
  intro t h e
  obtain⟨w,hd,ks,rfl,h1,h2,h3,h4,h5,h6⟩:=h
  by_cases hw:w="hole"
  ·subst hw
   obtain⟨i,rfl,rfl⟩:=h4 rfl
   rw[Z1m,Z1m]
   exact e i (by rw[Z1x];exact List.mem_singleton.mpr rfl)
  ·rw[Z3f hw,Z3f hw]
   have:ks.map (fl σ)=ks.map (fl τ):=List.map_congr_left fun k hk=>ih (h6 k hk) fun i hi=>e i ((Z3t hw).mpr ⟨k,hk,hi⟩)
   rw[this]
structure Told (N m:Nat)(ts:List Th)(P:Th)(C:List (List Th)):Prop where
 pf:PfT N P
 cn:cnt P<=cnt (ts.headD dT)
 num:Z2j [] (hs P)=List.range C.length
 lt:∀i∈hs P,i<C.length
 few:C.length<=cnt P
 fill:∀p,p<m->fl (sg (C.map fun c=>c.getD p dT)) P=ts.getD p dT
 cf:∀c∈C,Fs N m c/\al c=false
 nd:C.Nodup
theorem Zno {N m:Nat}(hm:1<=m){ts:List Th}(F:Fs N m ts):Told N m ts (mP N [] ts).1 (mP N [] ts).2:=by
 have G:=Z4i hm N [] ts List.nodup_nil F
 have hn:Z2j [] (hs (mP N [] ts).1)=List.range (mP N [] ts).2.length:=G.num
 obtain⟨D,eD,kD⟩:=G.ex
 rw[List.nil_append] at eD
 have lt:∀i∈hs (mP N [] ts).1,i<(mP N [] ts).2.length:=fun i hi=>by
  have:=(Z7r (hs (mP N [] ts).1) [] i).mpr (.inr hi)
  rw[hn,List.mem_range] at this
  exact this
 refine⟨G.pf,Zli hm N [] ts List.nodup_nil F,hn,lt,?_,fun p hp => ?_,fun c hc => ?_,G.nd⟩
 ·have h1:=Zcx (hs (mP N [] ts).1) []
  rw[hn,List.length_range] at h1
  have h2:=Zlh N G.pf
  simp only [List.length_nil] at h1
  omega
 ·have:=G.fill [] p hp
  rw[List.append_nil] at this
  rw[<- this]
  refine Zlj N G.pf fun i hi => ?_
  have hi':=lt i hi
  unfold sg sgC
  rw[List.getD_eq_getElem?_getD,List.getElem?_map,List.getElem?_eq_getElem hi',List.getD_eq_getElem?_getD (l:=(mP N [] ts).2),List.getElem?_eq_getElem hi']
  rfl
 ·rw[eD] at hc
  exact kD c hc
theorem Zh4 {m p:Nat}{C:List (List Th)}(h:p<m):(Z42 m C)[p]? = some (.tup (C.map fun c=>c.getD p dT)):=by
 unfold Z42
 rw[List.getElem?_map,List.getElem?_range h]
 rfl
end K20
namespace L2
open PySem PySem.Spec PyProof.Rows
end L2
namespace K20
open PySem L2
def LfT (N:Nat)(u:Th):Prop:=PfT N u/\Z15 u = []/\hs u = []
inductive spLeaves (N:Nat)(vs:List V)(H:Hp)(Q:VK)(E_3:XK):Prop
 | mk (v:V) (t:Th) (_:vs = [v]) (_:IsTh H v t) (_:PfT N t) (_:hs t = []) (_:cnt t<=5000) (_:∀(p:Addr) (ws:List V) (ls:List Th) H',Same H H'->H' p=some (.lst ws)->IsThs H' ws ls->1<=ls.length->ls.length<=cnt t->(∀u∈ls,LfT N u)->Q (.ref p) H'):spLeaves N vs H Q E_3
inductive spLeafed (N M:Nat)(vs:List V)(H:Hp)(Q:VK)(E_3:XK):Prop
 | mk (v o x:V) (t u l:Th) (_:vs = [v,o,x]) (_:IsTh H v t) (_:PfT N t) (_:hs t = []) (_:IsTh H o u) (_:PfT M u) (_:IsTh H x l) (_:PfT 1 l) (_:cnt l=1) (_:hs l = []) (_:∀(v':V) (t':Th) H',Same H H'->IsTh H' v' t'->PfT N t'->hs t' = []->cnt t'<=cnt t->Q v' H'):spLeafed N M vs H Q E_3
theorem Zjn {N:Nat}{w:Str}{hd:List V}{ks:List Th}(hw:w≠"hole")(h:∀k∈ks,hs k = []):hs (nd w hd ks) = []:=by
 rw[Z6w hw]
 exact List.flatten_eq_nil_iff.mpr fun l hl=>by
  obtain⟨k,hk,rfl⟩:=List.mem_map.mp hl
  exact h k hk
section
variable {P:Program}{w:World}{K:PySem.W.Frag}{mg:Str->Option Value}{base:Heap}
theorem scLeaves:FnScope ["_law_b","_law_found","_law_one"] ["_law_b"] (Z05 Z6i):=⟨rfl,rfl,rfl,by decide +kernel,rfl,by decide +kernel,by decide +kernel⟩
theorem Zf3 {f fP:Addr}{fd dP:FuncData}(F:Fun K "_law_leaves" "_law_leaves" Z6i f fd)(b:Binds K fd ["_law_b"] [])(m:mg "_law_leaves"=some (.ref f))(T:TxtT mg)(KI:Kits K)
  (FP:Fun K "_law_parts" "_law_parts" Z2i fP dP) (bP:Binds K dP ["_law_e"] []) (mP:mg "_law_parts"=some (.ref fP)):∀N,FnOk P w K mg base CX0 (N+2) f fd ["_law_b"] (spLeaves N):=by
 have GP:FnOk P w K mg base CX0 1 fP dP ["_law_e"] spLawParts:=Z1w FP T KI
 intro N
 induction N with
 | zero =>
  refine F.ok scLeaves (fun vs H Q E h => ?_) (fun cdv A outer s H vs Q E hr h => ?_)
  ·obtain⟨v,t,rfl,_⟩:=h
   rfl
  ·obtain⟨v,t,rfl,_,h,_⟩:=h
   exact h.elim
 | succ N ih =>
  refine F.ok scLeaves (fun vs H Q E h => ?_) (fun cdv A outer s H vs Q E hr h => ?_)
  ·obtain⟨v,t,rfl,_⟩:=h
   rfl
  ·obtain⟨v,t,rfl,hv,pf,no,hc,k⟩:=h
   have hsz:sizeLine=16777216:=sizeLine_eq
   have hr1:Room 1 _:=hr.mono (by omega)
   have hu0:=hr.units0
   refine'⟨?tt,?body,?fin⟩
   case body =>
    refine' Z03 ?s1 (Z03 ?s2 (Z07 ?s3))
    case s1=>exact Z0c (i:=1) scLeaves.nd rfl (Or.inl rfl) (Z0n Zki (Z1p (Z0h (pv 0) Z01)) (Z10 Z8q (by rfl) T.int (by decide +kernel) (Z09 (Z3i (Zdz hu0) (Z06 GP hr1 (by rfl) mP FP.kp bP .nil Z0g (Z0h (pv 0) Z01)) (Z1p Z01) (Z0j _)) Z01)))
    case s2 =>
     refine' Z4b PassesOwn.never rfl (Z2l (Z06 GP hr1 (by rfl) mP FP.kp bP .nil Z0g (Z0h (pv 0) Z01))) (Z0m (i:=2) scLeaves.nd rfl (Or.inl rfl)) (Z07 ?b)
     case b=>exact Z0c (i:=1) scLeaves.nd rfl (Or.inl rfl) (Z0n Zay (pv 1) (Z06 ih hr (by rfl) m F.kp b .nil Z0g (Z0h (pv 2) Z01)))
    case s3=>exact Z0l (pv 1)
   case fin =>
    obtain⟨w0,hd,ks,et,hw,h1,h2,h3,h5,h6,h7,e1,e2⟩:=Z3h pf no
    subst et
    have nk:∀x∈ks,L2.isTup x=true:=fun x hx=>(h6 x hx).isTup
    have hvt:IsTh H v (.tup (.at (.str w0)::(hd.map Th.at++ks))):=hv
    have hl7:(hd.map Th.at++ks).length<=1000000:=by rw[List.length_append,List.length_map];omega
    have hct:cnt (nd w0 hd ks)=1+Z14 ks:=Z1k nk
    refine⟨_,rfl,(by show 1<=sizeLine;decide),fun q0 hq0 => ?_⟩
    have s0:=Z02 (o := .lst [v]) hq0
    refine⟨_,rfl,v,w0,hd.map Th.at++ks,rfl,IsTh.kp (Kp.of s0) hvt,hl7,fun q1 ws1 H1 s1 hq10 hq1 hws1=>⟨Nat.zero_le _,fun q2 hq2 => ?_⟩⟩
    rw[Z3m nk] at hws1
    have hw1:=IsThs.len _ hws1
    have s2:=Z02 (o := .lst []) hq2
    refine⟨q1,q2,ws1,rfl,rfl,SqL.of (s2 _ _ hq1),SqL.of Z00,.inr ⟨_,rfl,q0,_,[v],rfl,rfl,s2 _ _ (s1 _ _ Z00),by split <;> decide,by split <;> decide,by split <;> simp <;> omega,fun q3 hq3 => ?_⟩⟩
    have hrep:∃ls0:List Th,IsThs H (List.replicate (if ws1.isEmpty=true then (1:Int) else 0).toNat [v]).flatten ls0/\ls0.length<=1/\(ks = []->1<=ls0.length)/\∀u∈ls0,LfT (N+1) u:=by
     cases hks:ks with
     | nil =>
      have e:ws1 = []:=List.eq_nil_of_length_eq_zero (by rw[hw1,hks];rfl)
      subst e
      refine⟨[nd w0 hd ks],.cons hv .nil,Nat.le_refl _,fun _=>Nat.le_refl _,fun u hu => ?_⟩
      rw[List.mem_singleton] at hu
      subst hu
      exact⟨pf,by rw[e1,hks],no⟩
     | cons k0 kr =>
      have e:ws1.isEmpty=false:=by
       cases ws1 with
       | nil=>rw[hks] at hw1;cases hw1
       | cons _ _=>rfl
      rw[e]
      exact⟨[],.nil,Nat.zero_le _,fun z=>(by cases z),fun u hu=>(by cases hu)⟩
    obtain⟨ls0,hls0,hl0,hn0,ha0⟩:=hrep
    generalize (List.replicate (if ws1.isEmpty=true then (1:Int) else 0).toNat [v]).flatten=vs0 at hls0 ⊢
    have s3:=Z02 (o := .lst vs0) hq3
    have sA:=((s0.trans s1).trans s2).trans s3
    have q33:upd (upd H1 q2 (.lst [])) q3 (.lst vs0) q3=some (.lst vs0):=Z00
    generalize upd (upd H1 q2 (.lst [])) q3 (.lst vs0)=H3 at sA q33 ⊢
    refine⟨_,rfl,v,w0,hd.map Th.at++ks,rfl,IsTh.kp (Kp.of sA) hvt,hl7,fun q4 ws4 H4 s4 hq40 hq4 hws4 => ?_⟩
    rw[Z3m nk] at hws4
    have hw4:=IsThs.len _ hws4
    refine⟨q4,rfl,⟨_,SqL.of hq4⟩,Zat (K:=K) (a:=q4) (xs:=ws4) (fun i σ H'=>∃(fa:Addr) (ys:List V) (ls:List Th) (o:Option V),σ = [some v,some (.ref fa),o]/\Same H4 H'/\H' fa=some (.lst ys)/\IsThs H' ys ls/\ls.length<=1+Z14 (ks.take i)/\(1<=i∨ks = []->1<=ls.length)/\∀u∈ls,LfT (N+1) u)
     ⟨q3,vs0,ls0,none,rfl,Same.refl _,s4 _ _ q33,IsThs.kp (Kp.of (sA.trans s4)) hls0,by omega,fun z=>hn0 (z.resolve_left (by omega)),ha0⟩ (fun i σ H' _ ⟨_,_,_,_,_,e,_⟩=>SqL.of (e _ _ hq4)) ?_ ?_⟩
    ·rintro i x σ H5 hx ⟨fa,ys,ls,o,rfl,s5,hfa,hys,hl,hn,ha⟩
     obtain⟨u,hu,hxu⟩:=Z0q _ (IsThs.kp (Kp.of s5) hws4) hx
     have hum:=List.mem_of_getElem? hu
     have hcu:=Zbv ks u hum
     have htk:Z14 (ks.take (i+1))=Z14 (ks.take i)+cnt u:=by rw[List.take_add_one,hu,Z29];simp [Z14]
     have hti:Z14 (ks.take i)<=Z14 ks:=by
      have:=Z29 (ks.take i) (ks.drop i)
      rw[List.take_append_drop] at this
      omega
     have hyl:=IsThs.len _ hys
     refine⟨_,rfl,_,rfl,x,u,rfl,hxu,h6 u hum,h7 u hum,by omega,fun p6 ws6 ls6 H6 s6 hp6 hws6 l1 l2 a6 => ?_⟩
     have h6l:=IsThs.len _ hws6
     refine⟨fa,p6,ys,ws6,rfl,rfl,s6 _ _ hfa,hp6,by omega,fun q7 hq7 => ?_⟩
     have s7:=Z02 (o := .lst (ys++ws6)) hq7
     refine⟨q7,_,ls++ls6,_,rfl,(s5.trans s6).trans s7,Z00,IsThs.app _ (IsThs.kp (Kp.of (s6.trans s7)) hys) (IsThs.kp (Kp.of s7) hws6),by rw[List.length_append];omega,fun _=>by rw[List.length_append];omega,fun y hy => ?_⟩
     rcases List.mem_append.mp hy with z | z
     ·exact ha y z
     ·exact⟨(a6 y z).1.up,(a6 y z).2⟩
    ·rintro σ H5 ⟨fa,ys,ls,o,rfl,s5,hfa,hys,hl,hn,ha⟩
     rw[hw4,List.take_of_length_le (Nat.le_refl _)] at hl
     refine⟨_,rfl,k fa ys ls H5 ((sA.trans s4).trans s5) hfa hys (hn ?_) (by omega) ha⟩
     rw[hw4]
     cases ks with
     | nil=>exact .inr rfl
     | cons _ _=>exact .inl (by rw[List.length_cons];omega)
theorem Zbw:FnScope ["_law_b","_law_old","_law_new"] ["_law_b","_law_old","_law_new"] (Z05 Z5f):=⟨rfl,rfl,rfl,by decide +kernel,rfl,by decide +kernel,by decide +kernel⟩
theorem Zlk:(["_law_new","_law_old","_law_one"]:List Str).Nodup:=by decide +kernel
theorem Zf4 {f fP fW:Addr}{fd dP dW:FuncData}(F:Fun K "_law_leafed" "_law_leafed" Z5f f fd)(b:Binds K fd ["_law_b","_law_old","_law_new"] [])(m:mg "_law_leafed"=some (.ref f))(U:HW K mg fP fW dP dW)(M:Nat)(hM:M<=150) :
  ∀N,N<=M->FnOk P w K mg base CX0 (N+2) f fd ["_law_b","_law_old","_law_new"] (spLeafed N M):=by
 have GP:FnOk P w K mg base CX0 1 fP dP ["_law_e"] spLawParts:=Z1w U.P U.T U.KI
 have GW:FnOk P w K mg base CX0 1 fW dW ["_law_e","_law_inner"] spWith:=Z5j U.W U.T U.KI
 intro N
 induction N with
 | zero =>
  intro _
  refine F.ok Zbw (fun vs H Q E h => ?_) (fun cdv A outer s H vs Q E hr h => ?_)
  ·obtain⟨v,o,x,t,u,l,rfl,_⟩:=h
   rfl
  ·obtain⟨v,o,x,t,u,l,rfl,_,h,_⟩:=h
   exact h.elim
 | succ N ih =>
  intro hN
  have ih:=ih (by omega)
  refine F.ok Zbw (fun vs H Q E h => ?_) (fun cdv A outer s H vs Q E hr h => ?_)
  ·obtain⟨v,o,x,t,u,l,rfl,_⟩:=h
   rfl
  ·obtain⟨v,o,x,t,u,l,rfl,hv,pf,no,ho,pu,hx,pl,cl,nl,k⟩:=h
   have hsz:sizeLine=16777216:=sizeLine_eq
   have hr1:Room 1 _:=hr.mono (by omega)
   have hu:=Z8k hr (j:=M+1) (by omega)
   refine'⟨?tt,?body,?fin⟩
   case body =>
    refine' Z03 ?s1 (Z07 ?s2)
    case s1=>exact Z17 (Z0f (Ze3 (K:=K) rfl M hu) (pv 0) (pv 1) (Z0j _)) (Z07 (Z0l (pv 2))) Z0k
    case s2 =>
     refine' Z0l (Z06 GW hr1 (by rfl) U.mW U.W.kp U.bW .nil Z0g (Z0h (pv 0) (Z09 ?x Z01)))
     case x =>
      refine' Z1a (N' := ["_law_new","_law_old","_law_one"]) (src := [some 2,some 1,none]) ?k1 ?k5 ?k6 ?k7
      case k1=>rfl
      case k5=>exact Z0i (Z05 Z5f) rfl ["_law_b","_law_old","_law_new"] rfl (by decide +kernel)
      case k6=>exact Z2l (Z06 GP hr1 (by rfl) U.mP U.P.kp U.bP .nil Z0g (Z0h (pv 0) Z01))
      case k7=>exact fun cl C ex s0 H0=>⟨Z0m (i:=2) Zlk rfl (Or.inl rfl),Z1d,Z06 ih hr (by rfl) m F.kp b .nil Z0g (Z0h (pv 2) (Z0h (pv 1) (Z0h (pv 0) Z01)))⟩
   case fin =>
    obtain⟨w0,hd,ks,et,hw,h1,h2,h3,h5,h6,h7,e1,e2⟩:=Z3h pf no
    subst et
    have nk:∀x∈ks,L2.isTup x=true:=fun x hx=>(h6 x hx).isTup
    have hct:cnt (nd w0 hd ks)=1+Z14 ks:=Z1k nk
    have hl7:(hd.map Th.at++ks).length<=7:=by rw[List.length_append,List.length_map];omega
    obtain⟨us,eu⟩:∃us,u = .tup us:=by
     have:=pu.isTup
     cases u with
     | tup us=>exact⟨us,rfl⟩
     | _=>cases this
    subst eu
    have p1:=PfT.pl _ pf
    have p2:=PfT.pl _ pu
    have d1:=PfT.dp _ pf
    have d2:=PfT.dp _ pu
    unfold nd at p1 d1
    rw[plT] at p1 p2
    rw[dp] at d1 d2
    refine⟨_,rfl,_,rfl,.at (.str w0)::(hd.map Th.at++ks),us,hv,ho,p1,p2,by omega,by omega,fun _=>⟨_,rfl,Z71 ⟨_,rfl,k x l H (Same.refl _) hx (pl.le (by omega)) nl (by omega)⟩⟩,fun _=>⟨_,rfl,Z4l ?_⟩⟩
    refine⟨_,rfl,_,rfl,v,w0,hd.map Th.at++ks,rfl,hv,by omega,fun q ws H1 s1 hq0 hq hws => ?_⟩
    rw[Z3m nk] at hws
    have hwl:=IsThs.len _ hws
    refine⟨q,rfl,⟨_,SqL.of hq⟩,Z1q (K:=K) (a:=q) (xs:=ws) (fun i ys σc H'=>∃(o':Option V) (ls:List Th),σc = [some x,some o,o']/\Same H1 H'/\IsThs H' ys ls/\ls.length=i/\(∀y∈ls,PfT N y/\hs y = [])/\Z14 ls<=Z14 (ks.take i))
     ⟨none,[],rfl,Same.refl _,.nil,rfl,fun y hy=>(by cases hy),by simp [Z14]⟩ (fun i ys σc H' ⟨_,_,_,e,_⟩=>SqL.of (e _ _ hq)) ?_ ?_⟩
    ·rintro i y ys σc H2 hy hi ⟨o',ls,rfl,s2,hys,hll,hla,hlc⟩
     obtain⟨u2,hu2,hyu⟩:=Z0q _ (IsThs.kp (Kp.of s2) hws) hy
     have hum:=List.mem_of_getElem? hu2
     have hyl:=IsThs.len _ hys
     have s12:=s1.trans s2
     refine⟨by omega,_,rfl,_,rfl,_,rfl,y,o,x,u2,.tup us,l,rfl,hyu,h6 u2 hum,h7 u2 hum,IsTh.kp (Kp.of s12) ho,pu,IsTh.kp (Kp.of s12) hx,pl,cl,nl,fun v3 t3 H3 s3 hv3 pf3 no3 hc3=>nx hi ⟨_,ls ++ [t3],rfl,s2.trans s3,IsThs.app _ (IsThs.kp (Kp.of s3) hys) (.cons hv3 .nil),by rw[List.length_append,hll];rfl,fun z hz => ?_,?_⟩⟩
     ·rcases List.mem_append.mp hz with q | q
      ·exact hla z q
      ·rw[List.mem_singleton] at q;subst q;exact⟨pf3,no3⟩
     ·rw[List.take_add_one,hu2,Z29,Z29]
      show Z14 ls+Z14 [t3]<=Z14 (ks.take i)+Z14 [u2]
      rw[Z14,Z14,Z14,Z14]
      omega
    ·rintro ys σc H2 ⟨o',ls,rfl,s2,hys,hll,hla,hlc⟩ l2 hl2
     rw[hwl,List.take_of_length_le (Nat.le_refl _)] at hlc
     have s3:=Z02 (o := .lst ys) hl2
     have s13:=(s1.trans s2).trans s3
     have hll:ls.length=ks.length:=by rw[hll,hwl]
     refine⟨v,l2,.at (.str w0)::(hd.map Th.at++ks),ls,ys,rfl,IsTh.kp (Kp.of s13) hv,by rw[List.length_cons];omega,Z00,IsThs.kp (Kp.of s3) hys,by omega,fun p H4 s4 hp => ?_⟩
     rw[Z86 nk] at hp
     refine k _ _ H4 (s13.trans s4) hp ⟨w0,hd,ls,rfl,h1,h2,fun z=>⟨(h3 z).1,by rw[hll];exact(h3 z).2⟩,fun z=>absurd z hw,by omega,fun y hy=>(hla y hy).1⟩ (Zjn (N:=N) hw fun y hy=>(hla y hy).2) ?_
     rw[Z1k fun y hy=>((hla y hy).1).isTup]
     omega
end
def phi (r:Int):Int:=if r<=1 then 0 else r+18
inductive spKin (N:Nat)(vs:List V)(H:Hp)(Q:VK)(E_3:XK):Prop
 | mk (d l wd nm bg:Addr) (ns:List Int) (n:Nat) (r h s lt bb:Int) (T:List Str) (ts:List Th) (v:V) (t:Th) (_:vs = [.ref d,.ref wd,v,.int lt,.int bb]) (_:Cf H H d l wd nm bg ns n r h s T 3 ts) (_:(∀u∈ts,hs u = [])) (_:h<=0) (_:IsTh H v t) (_:PfT N t) (_:hs t = []) (_:n+1300*cnt t<=600000000000) (_:0<=lt) (_:0<=s) (_:lt+s+N+3<=1000) (_:∀(v':V) (t':Th) n' r' H',IsTh H' v' t'->PfT (N+6) t'->hs t' = []->(cnt t':Int)+phi r'<=cnt t+phi r->n'<=n+1300*cnt t->Cf H H' d l wd nm bg ns n' r' h s T 3 ts->Q v' H'):spKin N vs H Q E_3
theorem Zh5 {r r':Int}{c k:Nat}(h:Rm 3 r r' c)(hc:1<=c)(hk:1<=k):(c:Int)+phi r'<=k+phi r:=by
 obtain⟨h1,h2,h3⟩:=h
 unfold phi
 split
 ·split
  ·have:=h2 (by omega);omega
  ·have:=h3 (by omega);omega
 ·split
  ·omega
  ·omega
abbrev NK:List Str := ["_law_feed_here","_law_world_here","_law_b","_law_lets","_law_below","_law_way","_law_inner","_law_first"]
theorem Zll:(["_law_below","_law_feed_here","_law_lets","_law_part","_law_world_here"]:List Str).Nodup:=by decide +kernel
inductive MK (H:Hp)(d l wd nm bg:Addr)(ns:List Int)(n:Nat)(r h s lt bb wy:Int)(T:List Str)(ts:List Th)(N:Nat)(w0:Str)(ks:List Th)(j:Nat)(σ':St)(H':Hp):Prop
 | mk (ia:Addr) (iv:List V) (ks' kb:List Th) (vb:V) (hd':List V) (n':Nat) (_:σ' = [some (.ref d),some (.ref wd),some vb,some (.int lt),some (.int bb),some (.int wy),some (.ref ia),none]) (_:H' ia=some (.lst iv)) (_:IsThs H' iv ks') (_:(∀k∈ks',k∈ks)) (_:ks'.length<=ks.length) (_:Z14 ks'<=Z14 ks) (_:(w0="let"->ks'=ks/\hd' = [])) (_:IsTh H' vb (nd w0 hd' kb)) (_:hd'.length<=1) (_:(∀v∈hd',plT (.at v)=true)) (_:kb.length<=7) (_:(∀k∈kb,L2.isTup k=true)) (_:n'<=n+j) (_:Cf H H' d l wd nm bg ns n' r h s T 3 ts):MK H d l wd nm bg ns n r h s lt bb wy T ts N w0 ks j σ' H'
theorem Zh6 {H:Hp}{vb:V}{w:Str}{hd:List V}{kb:List Th}(h:IsTh H vb (nd w hd kb)):∃(a:Addr) (vs:List V),vb = .ref a/\H a=some (.tup (.str w::vs))/\IsThs H vs (hd.map Th.at++kb):=by
 obtain⟨a,vs,rfl,h1,h2⟩:=Z1i h
 cases h2 with
 | @cons v0 vr _ _ c0 cr =>
  obtain⟨rfl,_⟩:=Z4a c0
  exact⟨a,vr,rfl,h1,cr⟩
theorem Znp {H:Hp}{x:V}{vs:List V}{hd:List V}{kb:List Th}(h:IsThs H vs (hd.map Th.at++kb))(h1:hd.length<=1)(hk:kb.length<=7)(nk:∀k∈kb,L2.isTup k=true):∃kb',IsThs H (Z5v (x::vs) (some 2) none) kb'/\kb'.length<=7/\(∀k∈kb',L2.isTup k=true):=by
 have e:Z5v (x::vs) (some 2) none=vs.drop 1:=by
  unfold Z5v
  have e1:HT.sIx (x::vs).length 0 (some 2)=min 2 (x::vs).length:=rfl
  have e2:HT.sIx (x::vs).length (x::vs).length none=(x::vs).length:=rfl
  rw[e1,e2,List.length_cons]
  cases vs with
  | nil=>rfl
  | cons y ys =>
   rw[List.length_cons,show min 2 (ys.length+1+1)=2 by omega]
   simp
 rw[e]
 refine⟨(hd.map Th.at++kb).drop 1,Z62 _ h,?_,fun k hk' => ?_⟩
 ·rw[List.length_drop,List.length_append,List.length_map];omega
 ·cases hd with
  | nil=>exact nk k (List.mem_of_mem_drop hk')
  | cons z hd =>
   cases hd with
   | nil=>exact nk k hk'
   | cons _ _=>simp at h1
theorem Zn7 {iv:List V}:Z5v iv (some 1) none=iv.drop 1:=by
 unfold Z5v
 have e1:HT.sIx iv.length 0 (some 1)=min 1 iv.length:=rfl
 have e2:HT.sIx iv.length iv.length none=iv.length:=rfl
 rw[e1,e2]
 cases iv with
 | nil=>rfl
 | cons y ys=>rw[List.length_cons,show min 1 (ys.length+1)=1 by omega];simp
theorem MK.same {H:Hp}{d l wd nm bg:Addr}{ns:List Int}{n:Nat}{r h s lt bb wy:Int}{T:List Str}{ts:List Th}{N:Nat}{w0:Str}{ks:List Th}{j:Nat}{σ:St}{H1 H2:Hp}(M:MK H d l wd nm bg ns n r h s lt bb wy T ts N w0 ks j σ H1)(e:Same H1 H2):MK H d l wd nm bg ns n r h s lt bb wy T ts N w0 ks j σ H2:=by
 obtain⟨ia,iv,ks',kb,vb,hd',n',a1,a2,a3,a4,a5,a6,a7,a8,a9,a10,a11,a12,a13,a14⟩:=M
 exact⟨ia,iv,ks',kb,vb,hd',n',a1,e _ _ a2,IsThs.kp (Kp.of e) a3,a4,a5,a6,a7,IsTh.kp (Kp.of e) a8,a9,a10,a11,a12,a13,a14.same e⟩
theorem MK.le {H:Hp}{d l wd nm bg:Addr}{ns:List Int}{n:Nat}{r h s lt bb wy:Int}{T:List Str}{ts:List Th}{N:Nat}{w0:Str}{ks:List Th}{j j':Nat}{σ:St}{H1:Hp}(M:MK H d l wd nm bg ns n r h s lt bb wy T ts N w0 ks j σ H1)(e:j<=j'):MK H d l wd nm bg ns n r h s lt bb wy T ts N w0 ks j' σ H1:=by
 obtain⟨ia,iv,ks',kb,vb,hd',n',a1,a2,a3,a4,a5,a6,a7,a8,a9,a10,a11,a12,a13,a14⟩:=M
 exact⟨ia,iv,ks',kb,vb,hd',n',a1,a2,a3,a4,a5,a6,a7,a8,a9,a10,a11,a12,by omega,a14⟩
section
variable {P:Program}{w:World}{K:PySem.W.Frag}{mg:Str->Option Value}{base:Heap}
theorem scKin:FnScope NK ["_law_feed_here","_law_world_here","_law_b","_law_lets","_law_below"] (Z05 Zk4):=⟨rfl,rfl,rfl,by decide +kernel,rfl,by decide +kernel,by decide +kernel⟩
theorem Zlm {f fD fS fF fP fW:Addr}{fd dD dS dF dP dW:FuncData}(F:Fun K "_law_kin" "_law_kin" Zk4 f fd)(b:Binds K fd ["_law_feed_here","_law_world_here","_law_b","_law_lets","_law_below"] [])(m:mg "_law_kin"=some (.ref f))(U:Helpers K mg fD fS dD dS)(Z:HW K mg fP fW dP dW)(hmin:mg "min"=none)
  (GF:FnOk P w K mg base CX0 10 fF dF ["_law_feed_here","_law_world_here","_law_lets","_law_below"] (spForm 3 3)) (FF:Fun K "_law_form" "_law_form" Z9d fF dF) (bF:Binds K dF ["_law_feed_here","_law_world_here","_law_lets","_law_below"] []) (mF:mg "_law_form"=some (.ref fF)) :
  ∀N,FnOk P w K mg base CX0 (N+10) f fd ["_law_feed_here","_law_world_here","_law_b","_law_lets","_law_below"] (spKin N):=by
 have GD:FnOk P w K mg base CX0 1 fD dD ["_law_feed_here","_law_many"] spDraw:=Z41 U.D U.T
 have GP:FnOk P w K mg base CX0 1 fP dP ["_law_e"] spLawParts:=Z1w Z.P Z.T Z.KI
 have GW:FnOk P w K mg base CX0 1 fW dW ["_law_e","_law_inner"] spWith:=Z5j Z.W Z.T Z.KI
 intro N
 induction N with
 | zero =>
  refine F.ok scKin (fun vs H Q E h => ?_) (fun cdv A outer s H vs Q E hr h => ?_)
  ·obtain⟨d,l,wd,nm,bg,ns,n,r,h,s,lt,bb,T,ts,v,t,rfl,_⟩:=h
   rfl
  ·obtain⟨d,l,wd,nm,bg,ns,n,r,h,s,lt,bb,T,ts,v,t,rfl,_,_,_,_,h,_⟩:=h
   exact h.elim
 | succ N ih =>
  refine F.ok scKin (fun vs H Q E h => ?_) (fun cdv A outer s H vs Q E hr h => ?_)
  ·obtain⟨d,l,wd,nm,bg,ns,n,r,h,s,lt,bb,T,ts,v,t,rfl,_⟩:=h
   rfl
  ·obtain⟨d,l,wd,nm,bg,ns,n,r,h,sa,lt,bb,T,ts,v,t,rfl,C0,hts,hh,hv,pf,no,hn,hlt0,hs0,hls,k⟩:=h
   have hsz:sizeLine=16777216:=sizeLine_eq
   have hu:(_:Around).units+1<cLine:=Nat.lt_of_le_of_lt (Nat.add_le_add_left (by decide) _) hr.units
   have hr1:Room 1 _:=hr.mono (by omega)
   have hr10:Room 10 _:=hr.mono (by omega)
   refine'⟨?tt,?body,?fin⟩
   case body =>
    refine' Z03 ?s1 ?r1
    case s1=>exact Z0c (i:=5) scKin.nd rfl (Or.inl rfl) (Z06 GD hr1 (by rfl) U.mD U.D.kp U.bD .nil Z0g (Z0h (pv 0) (Z1r Z04 Z01)))
    case r1 =>
     refine' Z03 ?s2 ?r2
     case s2=>exact Z17 (Z0f Z1l (pv 5) Z04 (Z0j _)) (Z07 (Z0l (Z06 GF hr10 (by rfl) mF FF.kp bF .nil Z0g (Z0h (pv 0) (Z0h (pv 1) (Z0h (pv 3) (Z2s (Z0d (id:="min") (Z8p rfl) (by rfl) hmin (by decide +kernel) (Z1r Z04 (Z0h (pv 4) Z01))) Z01))))))) Z0k
     case r2 =>
      refine' Z03 ?s3 ?r3
      case s3=>exact Z0c (i:=6) scKin.nd rfl (Or.inl rfl) (Z06 GP hr1 (by rfl) Z.mP Z.P.kp Z.bP .nil Z0g (Z0h (pv 2) Z01))
      case r3 =>
       refine' Z0u ?s4 ?r4
       case s4 =>
        refine' Z17 ?c (Z07 ?e) Z0k
        case c=>exact(Z3u (Z0f Z1l (Z0y Z1z (pv 2) Z04 (fun _ _=>rfl)) Z0e (Z0j _)) (Z3u (Z0f Z1l (pv 5) Z04 (Z0j _)) (Z34 (Z0f Zd9 (Z0d Z0b (by rfl) Z.T.len PySem.boot_len (Z0h (pv 6) Z01)) Z04 (Z0j _))))).pt
        case e=>exact Z0c (i:=6) scKin.nd rfl (Or.inl rfl) (Z2f Z7x (pv 6) (Z2u Z04) Z35)
       case r4 =>
        refine' Z0u ?s5 ?r5
        case s5 =>
         refine' Z17 ?c (Z07 ?e) Z0k
         case c=>exact(Z3u (Z0f Z3b (Z0y Z1z (pv 2) Z04 (fun _ _=>rfl)) (Z1h (Z1r Z0e (Z1r Z0e Z01))) (by with_unfolding_all rfl)) (Z34 (Z0f Z1l (pv 5) Z04 (Z0j _)))).pt
         case e =>
          refine' Z0c (i:=2) scKin.nd rfl (Or.inl rfl) (Z0n Za2 (Z1h ?x) (Z2f Za1 (pv 2) (Z2u Z04) Z35))
          case x=>exact Z09 (Z0y Z1z (pv 2) Z04 (fun _ _=>rfl)) (Z09 (Z0y Z11 (Z12 hu (pv 1) Z0e (fun _ _=>rfl)) (Z06 GD hr1 (by rfl) U.mD U.D.kp U.bD .nil Z0g (Z0h (pv 0) (Z2s (Z0d Z0b (by rfl) Z.T.len PySem.boot_len (Z09 (Z12 hu (pv 1) Z0e (fun _ _=>rfl)) Z01)) Z01))) (fun _ _=>rfl)) Z01)
        case r5 =>
         refine' Z0u ?s6 ?r6
         case s6 =>
          refine' Z17 ?c (Z07 ?e) Z0k
          case c=>exact(Z3u (Z0f Z3b (Z0y Z1z (pv 2) Z04 (fun _ _=>rfl)) (Z1h (Z1r Z0e (Z1r Z0e Z01))) (by with_unfolding_all rfl)) (Z34 (Z0f Z1l (pv 5) Z04 (Z0j _)))).pt
          case e =>
           refine' Z0c (i:=2) scKin.nd rfl (Or.inl rfl) (Z0n Za2 (Z1h (Z09 (Z0y Z1z (pv 2) Z04 (fun _ _=>rfl)) (Z09 ?x Z01))) (Z2f Za1 (pv 2) (Z2u Z04) Z35))
           case x =>
            refine' Z0y Z11 (Z1p ?y) ?z (fun _ _=>rfl)
            case y=>exact Z09 (Z0y Z8w Z0e (Z06 GD hr1 (by rfl) U.mD U.D.kp U.bD .nil Z0g (Z0h (pv 0) (Z1r Z04 Z01))) (fun _ _=>rfl)) (Z2s (Z06 GD hr1 (by rfl) U.mD U.D.kp U.bD .nil Z0g (Z0h (pv 0) (Z1r Z04 Z01))) Z01)
            case z=>exact Z10 Z8q (by rfl) Z.T.int (by decide +kernel) (Z09 (Z3i Z1l (Z0y Z1z (pv 2) Z04 (fun _ _=>rfl)) Z0e (Z0j _)) Z01)
         case r6 =>
          refine' Z03 ?s7 (Z07 ?s8)
          case s7 =>
           refine' Z17 ?c (Z03 ?e1 (Z07 ?e2)) Z0k
           case c=>exact Z0f Z1l (Z0y Z1z (pv 2) Z04 (fun _ _=>rfl)) Z0e (Z0j _)
           case e1=>exact Z0c (i:=7) scKin.nd rfl (Or.inl rfl) (Z06 ih hr (by rfl) m F.kp b .nil Z0g (Z0h (pv 0) (Z0h (pv 1) (Z09 (Z0y Z11 (pv 6) Z04 (fun _ _=>rfl)) (Z0h (pv 3) (Z09 (Z0n Z2o (pv 4) Z04) Z01))))))
           case e2=>exact Z0l (Z1h (Z1r Z0e (Z0h (pv 7) (Z2s (Z06 ih hr (by rfl) m F.kp b .nil Z0g (Z0h (pv 0) (Z0h (pv 1) (Z09 (Z0y Z11 (pv 6) Z04 (fun _ _=>rfl)) (Z09 (Z0n Z25 (pv 3) Z04) (Z09 (Z0n Z2o (pv 4) Z04) Z01)))))) Z01))))
          case s8 =>
           refine' Z0l (Z06 GW hr1 (by rfl) Z.mW Z.W.kp Z.bW .nil Z0g (Z0h (pv 2) (Z09 ?x Z01)))
           case x =>
            refine' Z1a (N' := ["_law_below","_law_feed_here","_law_lets","_law_part","_law_world_here"]) (src := [some 4,some 0,some 3,none,some 1]) ?k1 ?k5 ?k6 ?k7
            case k1=>rfl
            case k5=>exact Z0i (Z05 Zk4) rfl NK rfl (by decide +kernel)
            case k6=>exact Z2l (pv 6)
            case k7=>exact fun cl C ex s0 H0=>⟨Z0m (i:=3) Zll rfl (Or.inl rfl),Z1d,Z06 ih hr (by rfl) m F.kp b .nil Z0g (Z0h (pv 1) (Z0h (pv 4) (Z0h (pv 3) (Z0h (pv 2) (Z09 (Z0n Z2o (pv 0) Z04) Z01)))))⟩
   case fin =>
    obtain⟨w0,hd,ks,et,hw,h1,h2,h3,h5,h6,h7,e1,e2⟩:=Z3h pf no
    subst et
    have nk:∀x∈ks,L2.isTup x=true:=fun x hx=>(h6 x hx).isTup
    have hct:cnt (nd w0 hd ks)=1+Z14 ks:=Z1k nk
    have hd3:cD 3=1290:=by decide +kernel
    rw[hct] at hn
    refine⟨_,rfl,d,l,ns,n,_,rfl,C0.F,by omega,by decide,by decide,fun wy n1 H1 _ _ hn1 F1 b1 => ?_⟩
    have C1:=C0.draw b1 F1
    have hv1:=IsTh.kp (C0.kp (But2.of b1)) hv
    refine⟨_,rfl,rfl,_,rfl,Z22 (fun g => ?_) (fun g => ?_)⟩
    ·refine⟨_,rfl,_,rfl,_,rfl,_,rfl,3,bb,rfl,d,l,wd,nm,bg,ns,n1,r,h,sa,lt,_,T,ts,rfl,⟨C1.F,C1.W,C1.N,C1.G,But2.refl _ _ _⟩,by omega,by omega,hlt0,hs0,by omega,by decide,by split <;> omega,by decide,fun v2 t2 n2 r2 H2 hv2 p2 rm2 hh2 hn2 C2 => ?_⟩
     refine k v2 t2 n2 r2 H2 hv2 (p2.le (by omega)) ?_ (Zh5 rm2 (Z40 p2) (by omega)) (by omega) ⟨C2.F,C2.W,C2.N,C2.G,C1.b2.trans C2.b2⟩
     cases e:hs t2 with
     | nil=>rfl
     | cons i il =>
      have:=hh2 hts i (by rw[e];exact List.mem_cons_self ..)
      omega
    refine⟨_,rfl,v,w0,hd.map Th.at++ks,rfl,hv1,by rw[List.length_append,List.length_map];omega,fun ia iv H2 s2 hia0 hia hiv => ?_⟩
    rw[Z3m nk] at hiv
    have C2:=C1.same s2
    have M0:MK H d l wd nm bg ns n r h sa lt bb wy T ts N w0 ks 1 [some (.ref d),some (.ref wd),some v,some (.int lt),some (.int bb),some (.int wy),some (.ref ia),none] H2 :=
     ⟨ia,iv,ks,ks,v,hd,n1,rfl,hia,hiv,fun k hk=>hk,Nat.le_refl _,Nat.le_refl _,fun z=>⟨rfl,(h3 z).1⟩,IsTh.kp (Kp.of s2) hv1,h1,h2,by omega,nk,hn1,C2⟩
    obtain⟨av,vr,rfl,hav,hvr⟩:=Zh6 (IsTh.kp (Kp.of s2) hv1)
    refine⟨MK H d l wd nm bg ns n r h sa lt bb wy T ts N w0 ks 1,?_,?_⟩
    ·refine⟨_,rfl,av,_,0,.str w0,rfl,rfl,SqT.of hav,Z1g _ _,rfl,_,rfl,Z22 (fun g1 => ?_) (fun g1=>Z4l M0)⟩
     refine⟨_,rfl,rfl,_,rfl,Z22 (fun g2 => ?_) (fun g2=>Z4l M0)⟩
     refine⟨_,rfl,ia,iv,rfl,.inl (SqL.of hia),_,_,rfl,rfl,_,rfl,Z22 (fun g3 => ?_) (fun g3=>M0)⟩
     refine⟨_,rfl,_,rfl,ia,iv,rfl,SqL.of hia,fun i2 hi2 => ?_⟩
     rw[Zn7]
     have s3:=Z02 (o := .lst (iv.drop 1)) hi2
     have hnl:w0≠"let":=fun z=>by
      have g':=of_decide_eq_true g1
      injection g' with g'
      rw[z] at g'
      exact absurd g' (by decide +kernel)
     refine⟨i2,iv.drop 1,ks.drop 1,ks,.ref av,hd,n1,rfl,Z00,IsThs.kp (Kp.of s3) (Z62 _ hiv),fun k hk=>List.mem_of_mem_drop hk,by rw[List.length_drop];omega,?_,fun z=>absurd z hnl,IsTh.kp (Kp.of (s2.trans s3)) hv1,h1,h2,by omega,nk,hn1,C2.same s3⟩
     have:=Z29 (ks.take 1) (ks.drop 1)
     rw[List.take_append_drop] at this
     omega
    clear M0 hiv hia hav hvr hv1 C2
    rintro σ3 H3 M3
    have chg:∀{j:Nat} {H4 H5:Hp} {ia:Addr} {iv:List V} {ks' kb:List Th} {a:Addr} {vr:List V} {hd':List V} {n4:Nat} {x:V} {q3 q4 q5:Addr} {vs2:List V},w0≠"let"->plT (.at x)=true->smallV x=true->H4 ia=some (.lst iv)->IsThs H4 iv ks'->(∀k∈ks',k∈ks)->ks'.length<=ks.length->Z14 ks'<=Z14 ks →
      Same H4 H5->H5 q5=some (.tup ([.str w0,x]++vs2))->∀kb':List Th,IsThs H5 vs2 kb'->kb'.length<=7->(∀k∈kb',L2.isTup k=true)->n4<=n+j->Cf H H5 d l wd nm bg ns n4 r h sa T 3 ts →
      MK H d l wd nm bg ns n r h sa lt bb wy T ts N w0 ks j [some (.ref d),some (.ref wd),some (.ref q5),some (.int lt),some (.int bb),some (.int wy),some (.ref ia),none] H5:=by
     intro j H4 H5 ia iv ks' kb a vr hd' n4 x q3 q4 q5 vs2 hnl hpx hsx i1 i2 i3 i4 i5 s5 hq5 kb' hkb hkl hkt hn4 C5
     refine⟨ia,iv,ks',kb',.ref q5,[x],n4,rfl,s5 _ _ i1,IsThs.kp (Kp.of s5) i2,i3,i4,i5,fun z=>absurd z hnl,.tup hq5 (.cons (.at ?_) (.cons (.at hsx) hkb)),Nat.le_refl _,fun y hy => ?_,hkl,hkt,hn4,C5⟩
     ·obtain⟨v0,hv0,hs0'⟩:∃v0,IsTh H v0 (.at (.str w0))/\True:=by
       obtain⟨a0,vs0,_,h0,h00⟩:=Z1i hv
       cases h00 with
       | cons c0 _=>exact⟨_,c0,trivial⟩
      exact(Z4a hv0).2
     ·rw[List.mem_singleton] at hy;subst hy;exact hpx
    refine⟨MK H d l wd nm bg ns n r h sa lt bb wy T ts N w0 ks 2,?_,?_⟩
    ·have M3':=M3
     obtain⟨ia,iv,ks',kb,vb,hd',n',rfl,a2,a3,a4,a5,a6,a7,a8,a9,a10,a11,a12,a13,C3⟩:=M3
     obtain⟨a,vr,rfl,ha,hvr⟩:=Zh6 a8
     refine⟨_,rfl,a,_,0,.str w0,rfl,rfl,SqT.of ha,Z1g _ _,(by show 2<=sizeLine;decide),fun q hq => ?_⟩
     have s4:=Z02 (o := .tup [.str "set",.str "call"]) hq
     have M4:=(M3'.same s4).le (j':=2) (by omega)
     refine⟨q,[.str "set",.str "call"],rfl,.inr (SqT.of Z00),rfl,rfl,_,rfl,Z22 (fun g1 => ?_) (fun g1=>Z4l M4)⟩
     refine⟨_,rfl,rfl,_,rfl,Z22 (fun g2 => ?_) (fun g2=>M4)⟩
     have hnl:w0≠"let":=fun z=>by
      subst z
      exact absurd g1 (by decide +kernel)
     have C4:=C3.same s4
     have hTl:=C4.N.l2
     have hT1:=C4.N.l1
     have lT:(T.map V.str).length=T.length:=List.length_map ..
     refine⟨_,rfl,a,_,0,.str w0,rfl,rfl,SqT.of (s4 _ _ ha),Z1g _ _,_,rfl,wd,.ref nm,rfl,Z3g C4.W,_,rfl,_,rfl,wd,.ref nm,rfl,Z3g C4.W,nm,_,rfl,.inl (SqL.of C4.N.a),d,l,ns,n',_,rfl,C4.F,by omega,by rw[lT];omega,by rw[lT];omega,fun x n5 H5 x0 x1 hn5 F5 b5 => ?_⟩
     have C5:=C4.draw b5 F5
     rw[lT] at x1
     obtain⟨vx,hvx,hat⟩:=Z3w (xs:=T.map V.str) (i:=x) x0 (by rw[lT];exact x1)
     obtain⟨nmx,hnmx,rfl⟩:=List.mem_map.mp hvx
     have ksl:=C4.kp (But2.of b5)
     refine⟨nm,T.map V.str,x,.str nmx,rfl,rfl,SqL.of C5.N.a,hat,(by show 2<=sizeLine;decide),fun q3 hq3 => ?_⟩
     have s6:=Z02 (o := .tup [.str w0,.str nmx]) hq3
     have ha6:=s6 _ _ (ksl _ _ (s4 _ _ ha) (by intro kvs z;cases z))
     refine⟨_,rfl,_,rfl,a,_,rfl,ha6,fun q4 H7 s7 hq4 => ?_⟩
     obtain⟨kb',b1',b2',b3'⟩:=Znp (x := .str w0) (IsThs.kp (Kp.of (s6.trans s7)) (IsThs.kp ksl (IsThs.kp (Kp.of s4) hvr))) a9 a11 a12
     have hbl:=IsThs.len _ b1'
     refine⟨q3,q4,[.str w0,.str nmx],_,rfl,rfl,s7 _ _ Z00,hq4,by show 2+_<=_;omega,fun q5 H8 s8 hq5 => ?_⟩
     have hnm:=C4.N.nm nmx hnmx
     have hsm:smallV (.str nmx)=true:=decide_eq_true (by have:=hnm.1.2;omega)
     exact chg (H4:=H5) (kb := []) (a:=a) (vr := []) (hd' := []) (x := .str nmx) (q3:=q3) (q4:=q4) hnl rfl hsm (ksl _ _ (s4 _ _ a2) (by intro kvs z;cases z)) (IsThs.kp ksl (IsThs.kp (Kp.of s4) a3)) a4 a5 a6 ((s6.trans s7).trans s8) hq5 kb' (IsThs.kp (Kp.of s8) b1') b2' b3' (by omega) (C5.same ((s6.trans s7).trans s8))
    clear M3
    rintro σ4 H4 M4
    refine⟨MK H d l wd nm bg ns n r h sa lt bb wy T ts N w0 ks 4,?_,?_⟩
    ·have M4':=M4
     obtain⟨ia,iv,ks',kb,vb,hd',n',rfl,a2,a3,a4,a5,a6,a7,a8,a9,a10,a11,a12,a13,C3⟩:=M4
     obtain⟨a,vr,rfl,ha,hvr⟩:=Zh6 a8
     refine⟨_,rfl,a,_,0,.str w0,rfl,rfl,SqT.of ha,Z1g _ _,(by show 2<=sizeLine;decide),fun q hq => ?_⟩
     have s4:=Z02 (o := .tup [.str "op",.str "again"]) hq
     have M5:=(M4'.same s4).le (j':=4) (by omega)
     refine⟨q,[.str "op",.str "again"],rfl,.inr (SqT.of Z00),rfl,rfl,_,rfl,Z22 (fun g1 => ?_) (fun g1=>Z4l M5)⟩
     refine⟨_,rfl,rfl,_,rfl,Z22 (fun g2 => ?_) (fun g2=>M5)⟩
     have hnl:w0≠"let":=fun z=>by
      subst z
      exact absurd g1 (by decide +kernel)
     have C4:=C3.same s4
     refine⟨_,rfl,a,_,0,.str w0,rfl,rfl,SqT.of (s4 _ _ ha),Z1g _ _,_,rfl,d,l,ns,n',_,rfl,C4.F,by omega,by decide,by decide,fun x n5 H5 x0 x1 hn5 F5 b5 => ?_⟩
     have C5:=C4.draw b5 F5
     obtain⟨c,_,hc⟩:=Z3w (xs:=("+-*/<=":Str).cps.toList) (i:=x) x0 (Int.lt_of_lt_of_le x1 (by decide +kernel))
     refine⟨"+-*/<=",x,c,rfl,rfl,(by decide +kernel),hc,_,rfl,d,l,ns,n5,_,rfl,C5.F,by omega,by decide,by decide,fun y n6 H6 y0 y1 hn6 F6 b6=>⟨(by show 2<=sizeLine;decide),fun q2 hq2 => ?_⟩⟩
     have C6:=C5.draw b6 F6
     have ksl:Kp (upd H4 q (.tup [.str "op",.str "again"])) H6:=fun c o e z=>(C5.kp (But2.of b6)) c o ((C4.kp (But2.of b5)) c o e z) z
     have s7:=Z02 (o := .lst [.str ⟨#[c]⟩,.int y]) hq2
     have ha7:=s7 _ _ (ksl _ _ (s4 _ _ ha) (by intro kvs z;cases z))
     refine⟨_,rfl,a,_,0,.str w0,rfl,rfl,SqT.of ha7,Z1g _ _,rfl,.inr ⟨_,rfl,?_⟩⟩
     have pick:∃vx:L2.V,atI [L2.V.str ⟨#[c]⟩,L2.V.int y] (if decide (L2.V.str w0=L2.V.str "again")=true then 1 else 0)=some vx/\plT (.at vx)=true/\smallV vx=true:=by
      split
      ·exact⟨.int y,rfl,rfl,rfl⟩
      ·exact⟨.str ⟨#[c]⟩,rfl,rfl,rfl⟩
     obtain⟨vx,hvx,hpl,hsm⟩:=pick
     refine⟨q2,_,_,vx,rfl,rfl,SqL.of Z00,hvx,(by show 2<=sizeLine;decide),fun q3 hq3 => ?_⟩
     have s8:=Z02 (o := .tup [.str w0,vx]) hq3
     refine⟨_,rfl,_,rfl,a,_,rfl,s8 _ _ ha7,fun q4 H9 s9 hq4 => ?_⟩
     obtain⟨kb',b1',b2',b3'⟩:=Znp (x := .str w0) (IsThs.kp (Kp.of ((s7.trans s8).trans s9)) (IsThs.kp ksl (IsThs.kp (Kp.of s4) hvr))) a9 a11 a12
     have hbl:=IsThs.len _ b1'
     refine⟨q3,q4,[.str w0,vx],_,rfl,rfl,s9 _ _ Z00,hq4,by show 2+_<=_;omega,fun q5 H10 s10 hq5 => ?_⟩
     have sE:=((s7.trans s8).trans s9).trans s10
     exact chg (H4:=H6) (kb := []) (a:=a) (vr := []) (hd' := []) (q3:=q3) (q4:=q4) hnl hpl hsm (ksl _ _ (s4 _ _ a2) (by intro kvs z;cases z)) (IsThs.kp ksl (IsThs.kp (Kp.of s4) a3)) a4 a5 a6 sE hq5 kb' (IsThs.kp (Kp.of s10) b1') b2' b3' (by omega) (C6.same sE)
    clear M4
    rintro σ5 H5 ⟨ia,iv,ks',kb,vb,hd',n',rfl,a2,a3,a4,a5,a6,a7,a8,a9,a10,a11,a12,a13,C5⟩
    obtain⟨a,vr,rfl,ha,hvr⟩:=Zh6 a8
    have hivl:=IsThs.len _ a3
    refine⟨_,rfl,a,_,0,.str w0,rfl,rfl,SqT.of ha,Z1g _ _,rfl,_,rfl,Z22 (fun g1 => ?_) (fun g1 => ?_)⟩
    ·have hwl:w0="let":=by
      have g':=of_decide_eq_true g1
      injection g'
     obtain⟨ek,_⟩:=a7 hwl
     have hk2:=(h3 hwl).2
     subst ek
     subst hwl
     obtain⟨v1,v2,rfl⟩:∃v1 v2,iv = [v1,v2]:=by
      match iv,hivl with
      | [v1,v2],_=>exact⟨v1,v2,rfl⟩
      | [],z=>rw[hk2] at z;cases z
      | [_],z=>rw[hk2] at z;cases z
      | _::_::_::_,z=>rw[hk2] at z;simp at z
     obtain⟨t1,t2,rfl⟩:∃t1 t2,ks' = [t1,t2]:=by
      match ks',hk2 with
      | [t1,t2],_=>exact⟨t1,t2,rfl⟩
     have hv12:IsTh H5 v1 t1/\IsTh H5 v2 t2:=by
      cases a3 with
      | cons z1 z2 =>
       cases z2 with
       | cons z3 _=>exact⟨z1,z3⟩
     have m1:t1 ∈ [t1,t2]:=List.mem_cons_self ..
     have m2:t2 ∈ [t1,t2]:=List.mem_cons_of_mem _ (List.mem_cons_self ..)
     have hcs:Z14 [t1,t2]=cnt t1+cnt t2:=by simp [Z14]
     rw[hcs] at hn hct
     refine⟨_,rfl,_,rfl,_,rfl,ia,_,0,v1,rfl,rfl,SqL.of a2,Z1g _ _,_,rfl,_,rfl,_,_,rfl,rfl,d,l,wd,nm,bg,ns,n',r,h,sa,lt,bb-1,T,ts,v1,t1,rfl,⟨C5.F,C5.W,C5.N,C5.G,But2.refl _ _ _⟩,hts,hh,hv12.1,h6 t1 m1,h7 t1 m1,by omega,hlt0,hs0,by omega,fun v6 t6 n6 r6 H6 hv6 p6 no6 c6 hn6 C6' => ?_⟩
     have C6:=C5.go C6'.b2 C6'.F C6'.W
     have k6:=C5.kp C6'.b2
     refine⟨_,rfl,_,rfl,_,rfl,_,rfl,ia,_,1,v2,rfl,rfl,SqL.of (k6 _ _ a2 (by intro kvs z;cases z)),rfl,_,rfl,_,_,rfl,rfl,_,rfl,_,_,rfl,rfl,d,l,wd,nm,bg,ns,n6,r6,h,sa,lt+1,bb-1,T,ts,v2,t2,rfl,⟨C6.F,C6.W,C6.N,C6.G,But2.refl _ _ _⟩,hts,hh,IsTh.kp k6 hv12.2,h6 t2 m2,h7 t2 m2,by omega,by omega,hs0,by omega,fun v7 t7 n7 r7 H7 hv7 p7 no7 c7 hn7 C7'=>⟨(by show 3<=sizeLine;decide),fun p hp => ?_⟩⟩
     have C7:=C6.go C7'.b2 C7'.F C7'.W
     have sp:=Z02 (o := .tup [.str "let",v6,v7]) hp
     have hv67:=IsTh.kp (C6.kp C7'.b2) hv6
     have nk':∀k ∈ [t6,t7],L2.isTup k=true:=fun k hk=>by
      simp only [List.mem_cons,List.not_mem_nil,or_false] at hk
      rcases hk with rfl | rfl
      ·exact p6.isTup
      ·exact p7.isTup
     refine k (.ref p) (nd "let" [] [t6,t7]) n7 r7 _ (.tup Z00 (.cons (.at (by decide +kernel)) (.cons (IsTh.kp (Kp.of sp) hv67) (.cons (IsTh.kp (Kp.of sp) hv7) .nil)))) ?_ (Zjn (N:=N) (by decide +kernel) fun y hy => ?_) ?_ (by rw[hct];omega) (C7.same sp)
     ·rw[Nat.add_right_comm]
      refine⟨"let",[],[t6,t7],rfl,Nat.zero_le _,fun v hv=>(by cases hv),fun _=>⟨rfl,rfl⟩,fun z=>absurd z (by decide +kernel),by show 2<=6;decide,fun k hk => ?_⟩
      simp only [List.mem_cons,List.not_mem_nil,or_false] at hk
      rcases hk with rfl | rfl
      ·exact p6
      ·exact p7
     ·simp only [List.mem_cons,List.not_mem_nil,or_false] at hy
      rcases hy with rfl | rfl
      ·exact no6
      ·exact no7
     ·rw[Z1k nk',hct]
      simp only [Z14]
      omega
    ·have hnl:w0≠"let":=fun z=>g1 (by rw[z];decide +kernel)
     refine⟨_,rfl,_,rfl,ia,rfl,⟨_,SqL.of a2⟩,Z1q (K:=K) (a:=ia) (xs:=iv) (fun i ys σc H'=>∃(o:Option L2.V) (cs:List Th) (n6:Nat) (r6:Int),σc = [some (.int bb),some (.ref d),some (.int lt),o,some (.ref wd)]/\IsThs H' ys cs/\cs.length=i/\(∀y∈cs,PfT (N+6) y/\hs y = [])/\(Z14 cs:Int)+phi r6<=Z14 (ks'.take i)+phi r/\n6<=n'+1300*Z14 (ks'.take i)/\Cf H5 H' d l wd nm bg ns n6 r6 h sa T 3 ts)
      ⟨none,[],n',r,rfl,.nil,rfl,fun y hy=>(by cases hy),by simp [Z14],by omega,⟨C5.F,C5.W,C5.N,C5.G,But2.refl _ _ _⟩⟩ (fun i ys σc H' ⟨_,_,_,_,_,_,_,_,_,_,C'⟩=>SqL.of (C5.kp C'.b2 _ _ a2 (by intro kvs z;cases z))) ?_ ?_⟩
     ·rintro i y ys σc H6 hy hi ⟨o,cs,n6,r6,rfl,hys,hcl,hca,hcc,hn6,C6⟩
      have k6:=C5.kp C6.b2
      obtain⟨u,hu,hyu⟩:=Z0q _ (IsThs.kp k6 a3) hy
      have hum:=a4 u (List.mem_of_getElem? hu)
      have hyl:=IsThs.len _ hys
      have htk:Z14 (ks'.take (i+1))=Z14 (ks'.take i)+cnt u:=by rw[List.take_add_one,hu,Z29];simp [Z14]
      have hti:Z14 (ks'.take (i+1))<=Z14 ks':=by
       have:=Z29 (ks'.take (i+1)) (ks'.drop (i+1))
       rw[List.take_append_drop] at this
       omega
      refine⟨by omega,_,rfl,_,rfl,_,rfl,_,rfl,_,rfl,_,_,rfl,rfl,d,l,wd,nm,bg,ns,n6,r6,h,sa,lt,bb-1,T,ts,y,u,rfl,⟨C6.F,C6.W,C6.N,C6.G,But2.refl _ _ _⟩,hts,hh,hyu,h6 u hum,h7 u hum,by omega,hlt0,hs0,by omega,fun v7 t7 n7 r7 H7 hv7 p7 no7 c7 hn7 C7'=>nx hi ⟨_,cs ++ [t7],n7,r7,rfl,IsThs.app _ (IsThs.kp (C6.kp C7'.b2) hys) (.cons hv7 .nil),by rw[List.length_append,hcl];rfl,fun z hz => ?_,?_,by omega,C6.go C7'.b2 C7'.F C7'.W⟩⟩
      ·rcases List.mem_append.mp hz with q | q
       ·exact hca z q
       ·rw[List.mem_singleton] at q;subst q;exact⟨p7,no7⟩
      ·rw[htk,Z29]
       have:Z14 [t7]=cnt t7:=by simp [Z14]
       omega
     ·rintro ys σc H6 ⟨o,cs,n6,r6,rfl,hys,hcl,hca,hcc,hn6,C6⟩ l2 hl2
      rw[hivl,List.take_of_length_le (Nat.le_refl _)] at hcc hn6
      have hcl:cs.length=ks'.length:=by rw[hcl,hivl]
      have s7:=Z02 (o := .lst ys) hl2
      have k6:=C5.kp C6.b2
      refine⟨.ref a,l2,.at (.str w0)::(hd'.map Th.at++kb),cs,ys,rfl,IsTh.kp (Kp.of s7) (IsTh.kp k6 a8),by rw[List.length_cons,List.length_append,List.length_map];omega,Z00,IsThs.kp (Kp.of s7) hys,by omega,fun p H8 s8 hp => ?_⟩
      rw[Z86 a12] at hp
      have hcn:cnt (nd w0 hd' cs)=1+Z14 cs:=Z1k fun y hy=>((hca y hy).1).isTup
      refine k _ (nd w0 hd' cs) n6 r6 H8 hp ?_ (Zjn (N:=N) hw fun y hy=>(hca y hy).2) (by rw[hcn,hct];omega) (by rw[hct];omega) ?_
      ·rw[Nat.add_right_comm]
       exact⟨w0,hd',cs,rfl,a9,a10,fun z=>absurd z hnl,fun z=>absurd z hw,by omega,fun y hy=>(hca y hy).1⟩
      ·have C8:=(C6.same s7).same s8
       exact⟨C8.F,C8.W,C8.N,C8.G,C5.b2.trans C8.b2⟩
end
inductive spU (NM:Nat)(sp:Nat->Sp)(vs:List V)(H:Hp)(Q:VK)(E:XK):Prop
 | mk (N:_) (_:N<=NM) (_:sp N vs H Q E):spU NM sp vs H Q E
theorem Znq {P:Program}{w:World}{K:PySem.W.Frag}{mg:Str->Option Value}{base:Heap}{f:Addr}{fd:FuncData}{ps:List Str}{sp:Nat->Sp}{NM R c:Nat}(hR:NM+c<=R)(G:∀N,N<=NM->FnOk P w K mg base CX0 (N+c) f fd ps (sp N)):FnOk P w K mg base CX0 R f fd ps (spU NM sp) :=
 ⟨fun vs H Q E ⟨N,hN,h⟩=>(G N hN).len vs H Q E h,fun A outer s H args us vs Q E hr he hb hv ⟨N,hN,h⟩=>(G N hN).run A outer s H args us vs Q E (hr.mono (by omega)) he hb hv h⟩
structure KdS (H0 H:Hp)(d l wd nm bg:Addr)(ns:List Int)(n:Nat)(bts:List Th):Prop where
 F:Feed H d l ns n
 B:But d H0 H
 W:∃r,H wd=some (.dK (Z0o nm r 0 0 bg))/\r<=24
 G:∃ws,H bg=some (.lst ws)/\IsThs (TO H) ws bts
 ok:∀t∈bts,PfT 3 t/\cnt t<=1000/\hs t = []
 fr:H0 wd=none/\H0 bg=none
 few:bts.length<=2
theorem Z70 {H H':Hp}(k:Kp H H'):Same (TO H) (TO H'):=fun c o e=>by
 obtain⟨h,vs,rfl⟩:=Z5p e
 exact Z75 (k _ _ h (by intro kvs z;cases z))
section
variable {H0 H H':Hp}{d l wd nm bg:Addr}{ns:List Int}{n n':Nat}{bts:List Th}{T:List Str}
theorem KdS.wne (X:KdS H0 H d l wd nm bg ns n bts):wd≠d:=by
 obtain⟨r,hw,_⟩:=X.W
 exact Z4y X.F hw
theorem KdS.bne (X:KdS H0 H d l wd nm bg ns n bts):bg≠d:=by
 obtain⟨ws,hb,_⟩:=X.G
 obtain⟨⟨z,hd⟩,_,_⟩:=X.F
 exact Z1b hb hd (by intro q;cases q)
theorem KdS.names (X:KdS H0 H d l wd nm bg ns n bts)(N:Nms H0 nm T)(F0:Feed H0 d l ns n'):Nms H nm T:=by
 obtain⟨⟨z,hd⟩,_,_⟩:=F0
 exact⟨X.B nm _ N.a (Z1b N.a hd (by intro q;cases q)),N.l1,N.l2,N.nm⟩
theorem KdS.same (X:KdS H0 H d l wd nm bg ns n bts)(s:Same H H'):KdS H0 H' d l wd nm bg ns n bts:=by
 obtain⟨r,hw,hr⟩:=X.W
 obtain⟨ws,hb,hws⟩:=X.G
 exact⟨X.F.same s,X.B.trans (But.of s),⟨r,s _ _ hw,hr⟩,⟨ws,s _ _ hb,IsThs.kp (Kp.of (Z2n s)) hws⟩,X.ok,X.fr,X.few⟩
theorem KdS.draw (X:KdS H0 H d l wd nm bg ns n bts)(b:But d H H')(F':Feed H' d l ns n'):KdS H0 H' d l wd nm bg ns n' bts:=by
 obtain⟨r,hw,hr⟩:=X.W
 obtain⟨ws,hb,hws⟩:=X.G
 exact⟨F',X.B.trans b,⟨r,b _ _ hw X.wne,hr⟩,⟨ws,b _ _ hb X.bne,IsThs.kp (Kp.of (Z70 (b.kp X.F))) hws⟩,X.ok,X.fr,X.few⟩
theorem KdS.other (X:KdS H0 H d l wd nm bg ns n bts){w2:Addr}{kv:List (Key × V)}(b:But2 d w2 H H')(F':Feed H' d l ns n')(h2:H0 w2=none)(hk:H w2=some (.dK kv))(hne:wd≠w2):KdS H0 H' d l wd nm bg ns n' bts:=by
 obtain⟨r,hw,hr⟩:=X.W
 obtain⟨ws,hb,hws⟩:=X.G
 obtain⟨⟨z,hd⟩,_,_⟩:=X.F
 have k:Kp H H':=fun a o e hk'=>b a o e (fun q=>by subst q;rw[hd] at e;cases e;exact hk' _ rfl) (fun q=>by subst q;rw[hk] at e;cases e;exact hk' _ rfl)
 refine⟨F',fun c o e hc=>b c o (X.B c o e hc) hc (Z0a e h2),⟨r,b _ _ hw X.wne hne,hr⟩,⟨ws,k _ _ hb (by intro q q2;cases q2),IsThs.kp (Kp.of (Z70 k)) hws⟩,X.ok,X.fr,X.few⟩
theorem KdS.used (X:KdS H0 H d l wd nm bg ns n bts){r':Int}(b:But2 d wd H H')(F':Feed H' d l ns n')(W':H' wd=some (.dK (Z0o nm r' 0 0 bg)))(hr':r'<=24):KdS H0 H' d l wd nm bg ns n' bts:=by
 obtain⟨r,hw,hr⟩:=X.W
 obtain⟨ws,hb,hws⟩:=X.G
 obtain⟨⟨z,hd⟩,_,_⟩:=X.F
 have k:Kp H H':=fun a o e hk'=>b a o e (fun q=>by subst q;rw[hd] at e;cases e;exact hk' _ rfl) (fun q=>by subst q;rw[hw] at e;cases e;exact hk' _ rfl)
 refine⟨F',fun c o e hc=>b c o (X.B c o e hc) hc (Z0a e X.fr.1),⟨r',W',hr'⟩,⟨ws,k _ _ hb (by intro q q2;cases q2),IsThs.kp (Kp.of (Z70 k)) hws⟩,X.ok,X.fr,X.few⟩
theorem KdS.addB (X:KdS H0 H d l wd nm bg ns n bts)(F0:Feed H0 d l ns n'):∃ws,H bg=some (.lst ws)/\ws.length=bts.length/\∀x t,IsTh (TO H) x t->PfT 3 t/\cnt t<=1000/\hs t = []->bts.length<=1->KdS H0 (upd H bg (.lst (ws ++ [x]))) d l wd nm bg ns n (bts ++ [t]):=by
 obtain⟨r,hw,hr⟩:=X.W
 obtain⟨ws,hb,hws⟩:=X.G
 refine⟨ws,hb,IsThs.len _ hws,fun x t hx ht hf => ?_⟩
 have k:=Kp.of (Z4e (o := .lst (ws ++ [x])) hb)
 have hl:l≠bg:=fun z=>by have:=F0.ls;rw[z,X.fr.2] at this;cases this
 obtain⟨⟨z,hd⟩,hls,hsz⟩:=X.F
 refine⟨⟨⟨z,by rw[Z08 X.bne.symm];exact hd⟩,by rw[Z08 hl];exact hls,hsz⟩,fun c o e hc=>by rw[Z08 (Z0a e X.fr.2)];exact X.B c o e hc,⟨r,by rw[Z08 (Z1b hw hb (by intro q;cases q))];exact hw,hr⟩,⟨_,Z00,IsThs.app _ (IsThs.kp k hws) (.cons (IsTh.kp k hx) .nil)⟩,fun y hy => ?_,X.fr,by rw[List.length_append,List.length_singleton];omega⟩
 rcases List.mem_append.mp hy with q | q
 ·exact X.ok y q
 ·rw[List.mem_singleton] at q;subst q;exact ht
theorem KdS.putL (X:KdS H0 H d l wd nm bg ns n bts)(F0:Feed H0 d l ns n'){fa:Addr}{fv fv':List V}(hfa:H fa=some (.lst fv))(h0:H0 fa=none)(hb:fa≠bg):KdS H0 (upd H fa (.lst fv')) d l wd nm bg ns n bts:=by
 obtain⟨r,hw,hr⟩:=X.W
 obtain⟨ws,hbg,hws⟩:=X.G
 have k:=Kp.of (Z4e (o := .lst fv') hfa)
 have hl:l≠fa:=fun z=>by have:=F0.ls;rw[z,h0] at this;cases this
 obtain⟨⟨z,hd⟩,hls,hsz⟩:=X.F
 exact⟨⟨⟨z,by rw[Z08 (Z1b hd hfa (by intro q;cases q))];exact hd⟩,by rw[Z08 hl];exact hls,hsz⟩,fun c o e hc=>by rw[Z08 (Z0a e h0)];exact X.B c o e hc,⟨r,by rw[Z08 (Z1b hw hfa (by intro q;cases q))];exact hw,hr⟩,⟨ws,by rw[Z08 hb.symm];exact hbg,IsThs.kp k hws⟩,X.ok,X.fr,X.few⟩
theorem KdS.cf (X:KdS H0 H d l wd nm bg ns n bts)(N:Nms H nm T):∃r,r<=24/\Cf H H d l wd nm bg ns n r 0 0 T 3 bts/\∀u∈bts,hs u = []:=by
 obtain⟨r,hw,hr⟩:=X.W
 obtain⟨ws,hb,hws⟩:=X.G
 have:=X.few
 exact⟨r,hr,⟨X.F,hw,N,⟨⟨ws,hb,IsThs.kp (Kp.of to_sub) hws⟩,by omega,fun t ht=>⟨(X.ok t ht).1,(X.ok t ht).2.1⟩⟩,But2.refl _ _ _⟩,fun u hu=>(X.ok u hu).2.2⟩
end
def NN (j:Nat):Nat:=9+6*j
theorem KdS.none {H0 H:Hp}{d l wd nm bg:Addr}{ns:List Int}{n:Nat}{bts:List Th}{a:Addr}(X:KdS H0 H d l wd nm bg ns n bts)(h:H a=none):H0 a=none:=by
 cases e:H0 a with
 | none=>rfl
 | some o =>
  exfalso
  by_cases hd:a=d
  ·obtain⟨⟨z,h2⟩,_,_⟩:=X.F
   rw[hd,h2] at h
   cases h
  ·rw[X.B a o e hd] at h
   cases h
theorem Zln (r:Int):0<=phi r:=by unfold phi;split <;> omega
theorem Zlo {r:Int}(h:r<=24):phi r<=42:=by unfold phi;split <;> omega
theorem Zjo {t:Th}(h:∀i∈hs t,((i:Nat):Int)<0):hs t = []:=by
 cases e:hs t with
 | nil=>rfl
 | cons i l =>
  have:=h i (by rw[e];exact List.mem_cons_self ..)
  omega
theorem Zjp {H:Hp}{w2 nm bg bg2:Addr}{r:Int}(h:H w2=some (.dK (Z0o nm r 0 0 bg2))):DPut H w2 (.str "bag") (.ref bg) (upd H w2 (.dK (Z0o nm r 0 0 bg))):=by
 have:=DPut.k (k:=Sum.inr "bag") (v := .ref bg) h (by show 5<sizeLine;decide)
 rw[show Z43 (Z0o nm r 0 0 bg2) (Sum.inr "bag") (.ref bg)=Z0o nm r 0 0 bg by with_unfolding_all rfl] at this
 exact this
structure FO (H0 H:Hp)(fa bg:Addr)(j:Nat)(fts:List Th):Prop where
 L:∃fv,H fa=some (.lst fv)/\IsThs (TO H) fv fts
 len:fts.length=j+1
 ok:∀t∈fts,PfT (NN j) t/\hs t = []/\cnt t<=131
 h0:cnt (fts.headD dT)<=60
 fr:H0 fa=none
 nb:fa≠bg
theorem FO.kp {H0 H H':Hp}{fa bg:Addr}{j:Nat}{fts:List Th}(O:FO H0 H fa bg j fts)(k:Kp H H'):FO H0 H' fa bg j fts:=by
 obtain⟨fv,h1,h2⟩:=O.L
 exact⟨⟨fv,k _ _ h1 (by intro q z;cases z),IsThs.kp (Kp.of (Z70 k)) h2⟩,O.len,O.ok,O.h0,O.fr,O.nb⟩
inductive spKindred (M:Nat)(vs:List V)(H:Hp)(Q:VK)(E_3:XK):Prop
 | mk (d l nm:Addr) (ns:List Int) (n:Nat) (T:List Str) (m:Int) (_:vs = [.ref d,.ref nm,.int m]) (_:Feed H d l ns n) (_:Nms H nm T) (_:n<=500000000000) (_:1<=m) (_:m<=M+1) (_:∀(p:Addr) (fv:List V) (fts:List Th) n' H',H' p=some (.lst fv)->IsThs H' fv fts->(fts.length:Int)=m->(∀t∈fts,PfT (NN M) t/\hs t = []/\cnt t<=131)->cnt (fts.headD dT)<=60->n'<=n+2000000*(M+1)->Feed H' d l ns n'->But d H H'->H p=none->Q (.ref p) H'):spKindred M vs H Q E_3
abbrev NKd:List Str := ["_law_feed_here","_law_names_here","_law_many","_law_world_here","_law_k","_law_found","_law_base","_law_more","_law_some","_law_leaf_here"]
section
variable {P:Program}{w:World}{K:PySem.W.Frag}{mg:Str->Option Value}{base:Heap}
structure HK (K:PySem.W.Frag)(mg:Str->Option Value)(fWd fF fN fK fLs fL fLd:Addr)(dWd dF dN dK dLs dL dLd:FuncData):Prop where
 Wd:Fun K "_law_world" "_law_world" Z9c fWd dWd
 bWd:Binds K dWd ["_law_names_here","_law_room","_law_holes","_law_astray"] []
 mWd:mg "_law_world"=some (.ref fWd)
 F:Fun K "_law_form" "_law_form" Z9d fF dF
 bF:Binds K dF ["_law_feed_here","_law_world_here","_law_lets","_law_below"] []
 mF:mg "_law_form"=some (.ref fF)
 N:Fun K "_law_nodes" "_law_nodes" Z6h fN dN
 bN:Binds K dN ["_law_e"] []
 mN:mg "_law_nodes"=some (.ref fN)
 Kn:Fun K "_law_kin" "_law_kin" Zk4 fK dK
 bK:Binds K dK ["_law_feed_here","_law_world_here","_law_b","_law_lets","_law_below"] []
 mK:mg "_law_kin"=some (.ref fK)
 Ls:Fun K "_law_leaves" "_law_leaves" Z6i fLs dLs
 bLs:Binds K dLs ["_law_b"] []
 mLs:mg "_law_leaves"=some (.ref fLs)
 Lf:Fun K "_law_leaf" "_law_leaf" Zck fL dL
 bLf:Binds K dL ["_law_feed_here","_law_world_here","_law_lets"] []
 mLf:mg "_law_leaf"=some (.ref fL)
 Ld:Fun K "_law_leafed" "_law_leafed" Z5f fLd dLd
 bLd:Binds K dLd ["_law_b","_law_old","_law_new"] []
 mLd:mg "_law_leafed"=some (.ref fLd)
 max:mg "max"=none
 min:mg "min"=none
theorem scKindred:FnScope NKd ["_law_feed_here","_law_names_here","_law_many"] (Z05 Z4s):=⟨rfl,rfl,rfl,by decide +kernel,rfl,by decide +kernel,by decide +kernel⟩
theorem Zcy {f fD fS fWd fF fN fK fLs fL fLd:Addr}{fd dD dS dWd dF dN dK dLs dL dLd:FuncData}(F:Fun K "_law_kindred" "_law_kindred" Z4s f fd)(U:Helpers K mg fD fS dD dS)(T0:TxtT mg)(Y:HK K mg fWd fF fN fK fLs fL fLd dWd dF dN dK dLs dL dLd)(M:Nat)(hM:M<=11)
  (GF0:FnOk P w K mg base CX0 7 fF dF ["_law_feed_here","_law_world_here","_law_lets","_law_below"] (spForm 0 3)) (GF6:FnOk P w K mg base CX0 13 fF dF ["_law_feed_here","_law_world_here","_law_lets","_law_below"] (spForm 3 6))
  (GN:FnOk P w K mg base CX0 (NN M+10) fN dN ["_law_e"] (spNodes (NN M))) (GK:FnOk P w K mg base CX0 (NN M+10) fK dK ["_law_feed_here","_law_world_here","_law_b","_law_lets","_law_below"] (spU (NN M) spKin))
  (GLs:FnOk P w K mg base CX0 (NN M+10) fLs dLs ["_law_b"] (spLeaves (NN M))) (GL:FnOk P w K mg base CX0 3 fL dL ["_law_feed_here","_law_world_here","_law_lets"] spLeaf) (GLd:FnOk P w K mg base CX0 (NN M+10) fLd dLd ["_law_b","_law_old","_law_new"] (spU (NN M) fun N=>spLeafed N (NN M))) :
  FnOk P w K mg base CX0 (NN M+11) f fd ["_law_feed_here","_law_names_here","_law_many"] (spKindred M):=by
 have GD:FnOk P w K mg base CX0 1 fD dD ["_law_feed_here","_law_many"] spDraw:=Z41 U.D U.T
 have GW:FnOk P w K mg base CX0 1 fWd dWd ["_law_names_here","_law_room","_law_holes","_law_astray"] spWorld:=Zgp Y.Wd
 refine F.ok scKindred (fun vs H Q E h => ?_) (fun cdv A outer s H vs Q E hr h => ?_)
 ·obtain⟨d,l,nm,ns,n,T,m,rfl,_⟩:=h
  rfl
 ·obtain⟨d,l,nm,ns,n,T,m,rfl,F0,N0,hn,hm1,hmM,k⟩:=h
  have hsz:sizeLine=16777216:=sizeLine_eq
  have hNM:NN M=9+6*M:=rfl
  have hu:(_:Around).units+1<cLine:=Nat.lt_of_le_of_lt (Nat.add_le_add_left (by decide) _) hr.units
  have hr1:Room 1 _:=hr.mono (by omega)
  have hr3:Room 3 _:=hr.mono (by omega)
  have hr7:Room 7 _:=hr.mono (by omega)
  have hr13:Room 13 _:=hr.mono (by omega)
  refine'⟨?tt,?body,?fin⟩
  case body =>
   refine' Z03 ?s1 ?r1
   case s1=>exact Z0c (i:=3) scKindred.nd rfl (Or.inl rfl) (Z06 GW hr1 (by rfl) Y.mWd Y.Wd.kp Y.bWd .nil Z0g (Z0h (pv 1) (Z1r Z04 (Z1r Z04 (Z1r Z04 Z01)))))
   case r1 =>
    refine' Z03 ?s2 ?r2
    case s2 =>
     refine' Z4b PassesOwn.never rfl (Z1o (by rfl) U.T.range (Z1r Z04 Z01)) (Z0m (i:=4) scKindred.nd rfl (Or.inl rfl)) (Z07 ?b)
     case b=>exact Z2k (Z59 PySem.F.plainAttrs_list PySem.F.slot_list_append PySem.F.type_list_append Z26 (Z12 hu (pv 3) Z0e (fun _ _=>rfl)) (Z2s (Z06 GF0 hr7 (by rfl) Y.mF Y.F.kp Y.bF .nil Z0g (Z0h (pv 0) (Z2s (Z06 GW hr1 (by rfl) Y.mWd Y.Wd.kp Y.bWd .nil Z0g (Z0h (pv 1) (Z1r Z04 (Z1r Z04 (Z1r Z04 Z01))))) (Z1r Z04 (Z1r Z04 Z01))))) Z01))
    case r2 =>
     refine' Z03 ?s3 (Z03 ?s4 (Z07 ?s5))
     case s3=>exact Z0c (i:=5) scKindred.nd rfl (Or.inl rfl) (Z1p (Z2s (Z06 GF6 hr13 (by rfl) Y.mF Y.F.kp Y.bF .nil Z0g (Z0h (pv 0) (Z0h (pv 3) (Z1r Z04 (Z1r Z04 Z01))))) Z01))
     case s5=>exact Z0l (pv 5)
     case s4 =>
      refine' Z4b PassesOwn.never rfl (Z1o (by rfl) U.T.range (Z09 (Z0n Z2o (pv 2) Z04) Z01)) (Z0m (i:=4) scKindred.nd rfl (Or.inl rfl)) ?blk
      case blk =>
       refine' Z03 ?b1 ?q1
       case b1=>exact Z0c (i:=6) scKindred.nd rfl (Or.inl rfl) (Z0y Z11 (pv 5) (Z06 GD hr1 (by rfl) U.mD U.D.kp U.bD .nil Z0g (Z0h (pv 0) (Z2s (Z0d Z0b (by rfl) T0.len PySem.boot_len (Z0h (pv 5) Z01)) Z01))) (fun _ _=>rfl))
       case q1 =>
        refine' Z03 ?b2 ?q2
        case b2=>exact Z0c (i:=7) scKindred.nd rfl (Or.inl rfl) (Z06 GW hr1 (by rfl) Y.mWd Y.Wd.kp Y.bWd .nil Z0g (Z0h (pv 1) (Z2s (Z0d (id:="max") (Zda rfl) (by rfl) Y.max (by decide +kernel) (Z1r Z04 (Z2s (Z0d (id:="min") (Z8p rfl) (by rfl) Y.min (by decide +kernel) (Z1r Z04 (Z09 (Z0n Z2o Z04 (Z06 GN hr (by rfl) Y.mN Y.N.kp Y.bN .nil Z0g (Z0h (pv 6) Z01))) Z01))) Z01))) (Z1r Z04 (Z1r Z04 Z01)))))
        case q2 =>
         refine' Z03 ?b3 ?q3
         case b3=>exact Z4f hu (pv 7) Z0e (Z12 hu (pv 3) Z0e (fun _ _=>rfl)) rfl
         case q3 =>
          refine' Z03 ?b4 ?q4
          case b4=>exact Z0c (i:=6) scKindred.nd rfl (Or.inl rfl) (Z06 GK hr (by rfl) Y.mK Y.Kn.kp Y.bK .nil Z0g (Z0h (pv 0) (Z0h (pv 7) (Z0h (pv 6) (Z1r Z04 (Z1r Z04 Z01))))))
          case q4 =>
           refine' Z0u ?b5 (Z07 ?b6)
           case b5 =>
            refine' Z17 ?c (Z03 ?e1 (Z03 ?e2 (Z07 ?e3))) Z0k
            case c=>exact Z0f Z1l (Z06 GD hr1 (by rfl) U.mD U.D.kp U.bD .nil Z0g (Z0h (pv 0) (Z1r Z04 Z01))) Z04 (Z0j _)
            case e1=>exact Z0c (i:=8) scKindred.nd rfl (Or.inl rfl) (Z06 GLs hr (by rfl) Y.mLs Y.Ls.kp Y.bLs .nil Z0g (Z0h (pv 6) Z01))
            case e2=>exact Z0c (i:=9) scKindred.nd rfl (Or.inl rfl) (Z06 GL hr3 (by rfl) Y.mLf Y.Lf.kp Y.bLf .nil Z0g (Z0h (pv 0) (Z2s (Z06 GW hr1 (by rfl) Y.mWd Y.Wd.kp Y.bWd .nil Z0g (Z0h (pv 1) (Z1r Z04 (Z1r Z04 (Z1r Z04 Z01))))) (Z1r Z04 Z01))))
            case e3=>exact Z0c (i:=6) scKindred.nd rfl (Or.inl rfl) (Z06 GLd hr (by rfl) Y.mLd Y.Ld.kp Y.bLd .nil Z0g (Z0h (pv 6) (Z09 (Z0y Z11 (pv 8) (Z06 GD hr1 (by rfl) U.mD U.D.kp U.bD .nil Z0g (Z0h (pv 0) (Z2s (Z0d Z0b (by rfl) T0.len PySem.boot_len (Z0h (pv 8) Z01)) Z01))) (fun _ _=>rfl)) (Z0h (pv 9) Z01))))
           case b6=>exact Z2k (Z59 PySem.F.plainAttrs_list PySem.F.slot_list_append PySem.F.type_list_append Z26 (pv 5) (Z0h (pv 6) Z01))
  case fin =>
   have hd3:cD 3=1290:=by decide +kernel
   have hd6:cD 6=279930:=by decide +kernel
   refine⟨_,rfl,nm,24,0,0,rfl,fun wd bg H1 s1 hwd hbg W1 B1 => ?_⟩
   have X1:KdS H H1 d l wd nm bg ns n []:=⟨F0.same s1,But.of s1,⟨24,W1,by decide⟩,⟨[],B1,.nil⟩,(fun t ht=>by cases ht),⟨hwd,hbg⟩,Nat.zero_le _⟩
   refine⟨2,rfl,by decide,by decide,Z2t (lo:=0) (n:=2) (fun i σ H'=>∃(n':Nat) (bts:List Th) (o:Option V),σ = [some (.ref d),some (.ref nm),some (.int m),some (.ref wd),o,none,none,none,none,none]/\KdS H H' d l wd nm bg ns n' bts/\bts.length=i/\n'<=n+1290*i)
    ⟨n,[],none,rfl,X1,rfl,by omega⟩ ?_ ?_⟩
   ·clear X1 W1 B1 s1
    rintro i σ H2 hi ⟨n2,bts,o,rfl,X2,hbl,hn2⟩
    obtain⟨r,hw,hr'⟩:=X2.W
    obtain⟨ws2,hb2,hws2⟩:=X2.G
    refine⟨_,rfl,wd,.ref bg,rfl,Z4x hw,.inl ⟨rfl,_,SqL.of hb2⟩,_,rfl,_,rfl,nm,8,0,0,rfl,fun w2 bg2 H3 s3 hw20 hbg20 W3 B3 => ?_⟩
    have X3:=X2.same s3
    have N3:=X3.names N0 F0
    have hne:wd≠w2:=Z0a hw hw20
    refine⟨d,l,w2,nm,bg2,ns,n2,8,0,0,0,3,T,[],rfl,⟨X3.F,W3,N3,⟨⟨[],B3,.nil⟩,by decide,fun t ht=>by cases ht⟩,But2.refl _ _ _⟩,by omega,by decide,by decide,by decide,by decide,by decide,by decide,by decide,fun v4 t4 n4 r4 H4 hv4 p4 rm4 hh4 hn4 C4 => ?_⟩
    have X4:=X3.other C4.b2 C4.F (X2.none hw20) W3 hne
    obtain⟨ws4,hb4,hl4,add⟩:=X4.addB F0
    obtain⟨rm1,rm2,rm3⟩:=rm4
    have no4:=Zjo (hh4 fun u hu=>by cases hu)
    refine⟨bg,ws4,v4,rfl,rfl,hb4,by omega,n4,bts ++ [t4],_,rfl,add v4 t4 (Z54 hv4 (PfT.pl _ p4)) ⟨p4,by omega,no4⟩ (by omega),by rw[List.length_append,hbl];rfl,by omega⟩
   clear X1 W1 B1 s1
   rintro σ H2 ⟨n2,bts,o,rfl,X2,hbl,hn2⟩
   obtain⟨r,hr',C2,hnb⟩:=X2.cf (X2.names N0 F0)
   refine⟨_,rfl,_,rfl,d,l,wd,nm,bg,ns,n2,r,0,0,0,6,T,bts,rfl,C2,by omega,by decide,by decide,by decide,by decide,by decide,by decide,by decide,fun v3 t3 n3 r3 H3 hv3 p3 rm3 hh3 hn3 C3=>⟨(by show 1<=sizeLine;decide),fun fa hfa => ?_⟩⟩
   obtain⟨rm1,rm2,rm3⟩:=rm3
   have hc3:=Z40 p3
   have X3:=X2.used C3.b2 C3.F C3.W (by omega)
   have s4:=Z02 (o := .lst [v3]) hfa
   have X4:=X3.same s4
   have O4:FO H (upd H3 fa (.lst [v3])) fa bg 0 [t3]:=⟨⟨_,Z00,IsThs.kp (Kp.of (Z2n s4)) (.cons (Z54 hv3 (PfT.pl _ p3)) .nil)⟩,rfl,fun t ht=>by
    rw[List.mem_singleton] at ht
    subst ht
    exact⟨p3,Zjo (hh3 hnb),by omega⟩,(show cnt t3<=60 by omega),X3.none hfa,fun z=>by
    obtain⟨_,h9,_⟩:=X3.G
    rw[<- z,hfa] at h9
    cases h9⟩
   generalize upd H3 fa (.lst [v3])=H4 at X4 O4 ⊢
   refine⟨_,rfl,_,_,rfl,rfl,m-1,rfl,by omega,by omega,Z2t (lo:=0) (n:=(m-1).toNat) (fun j σ H'=>∃(n':Nat) (fts:List Th) (o4 o6 o7 o8 o9:Option V),σ = [some (.ref d),some (.ref nm),some (.int m),some (.ref wd),o4,some (.ref fa),o6,o7,o8,o9]/\KdS H H' d l wd nm bg ns n' bts/\FO H H' fa bg j fts/\n'<=n+1000000+2000000*j)
    ⟨n3,[t3],_,none,none,none,none,rfl,X4,O4,by omega⟩ ?_ ?_⟩
   ·clear X4 O4 X3 C3 hv3 X2 C2
    rintro j σ H5 hj ⟨n5,fts,o4,o6,o7,o8,o9,rfl,X5,O5,hn5⟩
    obtain⟨fv,hfv,hfvs⟩:=O5.L
    have hfl:=IsThs.len _ hfvs
    have hol:=O5.len
    have hjM:j+1<=M:=by omega
    have hNj:NN (j+1)=NN j+6:=by unfold NN;omega
    have hNM1:NN (j+1)<=NN M:=by unfold NN;omega
    have hfad:fa≠d:=fun z=>by
     obtain⟨⟨z2,h2⟩,_,_⟩:=X5.F
     rw[z,h2] at hfv
     cases hfv
    refine⟨_,rfl,_,rfl,_,rfl,fa,fv,rfl,.inl (SqL.of hfv),d,l,ns,n5,_,rfl,X5.F,by omega,by omega,by omega,fun x n6 H6 x0 x1 hn6 F6 b6 => ?_⟩
    have X6:=X5.draw b6 F6
    have O6:=O5.kp (b6.kp X5.F)
    obtain⟨v6,hv6m,hat⟩:=Z3w (xs:=fv) (i:=x) x0 (by omega)
    obtain⟨i6,hi6⟩:=List.getElem?_of_mem hv6m
    have hfv6:=b6 _ _ hfv hfad
    obtain⟨t6,ht6,hvt6⟩:=Z0q _ (IsThs.kp (Kp.of (Z70 (b6.kp X5.F))) hfvs) hi6
    obtain⟨p6,no6,hc6⟩:=O5.ok t6 (List.mem_of_getElem? ht6)
    refine⟨fa,fv,x,v6,rfl,rfl,SqL.of hfv6,hat,?_⟩
    refine⟨_,rfl,_,rfl,v6,t6,rfl,IsTh.kp (Kp.of to_sub) hvt6,p6.le (by unfold NN;omega),fun H7 s7=>⟨_,_,rfl,rfl,24,_,rfl,0,_,rfl,nm,_,0,0,rfl,fun w2 bg2 H8 s8 hw20 hbg20 W8 B8 => ?_⟩⟩
    have hrr:∀q:Int,(if (if q<24 then q else 24)>0 then (if q<24 then q else 24) else 0)<=24:=fun q=>by split <;> split <;> omega
    have hr24:=hrr (90-(cnt t6:Int))
    have hr90:90<=cnt t6->(if (if (90-(cnt t6:Int))<24 then (90-(cnt t6:Int)) else 24)>0 then (if (90-(cnt t6:Int))<24 then (90-(cnt t6:Int)) else 24) else 0)<=0:=fun h=>by split <;> split <;> omega
    generalize (if (if (90-(cnt t6:Int))<24 then (90-(cnt t6:Int)) else 24)>0 then (if (90-(cnt t6:Int))<24 then (90-(cnt t6:Int)) else 24) else 0)=rr at W8 hr24 hr90
    have X8:=(X6.same s7).same s8
    have hw20':=(X6.same s7).none hw20
    obtain⟨r8,hw8,_⟩:=X8.W
    have hne:wd≠w2:=fun z=>by
     obtain⟨_,h9,_⟩:=(X6.same s7).W
     rw[z,hw20] at h9
     cases h9
    refine⟨_,rfl,wd,.ref bg,rfl,Z4x hw8,_,rfl,w2,_,rfl,Zjp W8,?_⟩
    have hdw2:d≠w2:=(Z4y X8.F W8).symm
    have F9:Feed (upd H8 w2 (.dK (Z0o nm rr 0 0 bg))) d l ns n6:=by
     obtain⟨⟨z,hd⟩,hls,hsz'⟩:=X8.F
     exact⟨⟨z,by rw[Z08 hdw2];exact hd⟩,by rw[Z08 (Z1b hls W8 (by intro q;cases q))];exact hls,hsz'⟩
    have X9:=X8.other (But2.upd (d:=d)) F9 hw20' W8 hne
    have W9:upd H8 w2 (.dK (Z0o nm rr 0 0 bg)) w2=some (.dK (Z0o nm rr 0 0 bg)):=Z00
    have k9:Kp H8 (upd H8 w2 (.dK (Z0o nm rr 0 0 bg))):=Zeg W8
    have k69:Kp H6 (upd H8 w2 (.dK (Z0o nm rr 0 0 bg))):=(Kp.of (s7.trans s8)).trans k9
    generalize upd H8 w2 (.dK (Z0o nm rr 0 0 bg))=H9 at X9 W9 k69
    have O9:=O6.kp k69
    have hvt9:=IsTh.kp (Kp.of (Z70 k69)) hvt6
    have N9:=X9.names N0 F0
    obtain⟨ws9,hb9,hws9⟩:=X9.G
    have hfew:=X9.few
    refine⟨_,rfl,_,rfl,_,rfl,NN j,by unfold NN;omega,d,l,w2,nm,bg,ns,n6,rr,0,0,0,9,T,bts,v6,t6,rfl,⟨X9.F,W9,N9,⟨⟨ws9,hb9,IsThs.kp (Kp.of to_sub) hws9⟩,by omega,fun t ht=>⟨(X9.ok t ht).1,(X9.ok t ht).2.1⟩⟩,But2.refl _ _ _⟩,hnb,by decide,IsTh.kp (Kp.of to_sub) hvt9,p6,no6,by omega,by decide,by decide,by unfold NN;omega,fun v10 t10 n10 r10 H10 hv10 p10 no10 c10 hn10 C10 => ?_⟩
    have X10:=X9.other C10.b2 C10.F hw20' W9 hne
    have k910:Kp H9 H10:=by
     obtain⟨⟨z,hd⟩,_,_⟩:=X9.F
     exact fun a o e hk'=>C10.b2 a o e (fun q=>by subst q;rw[hd] at e;cases e;exact hk' _ rfl) (fun q=>by subst q;rw[W9] at e;cases e;exact hk' _ rfl)
    have O10:=O9.kp k910
    have q1:=Zln r10
    have q2:=Zlo hr24
    have hc10:cnt t10<=131:=by
     by_cases h90:90<=cnt t6
     ·have q3:phi rr=0:=by
       have:=hr90 h90
       unfold phi
       split <;> omega
      omega
     ·omega
    have hv10T:=Z54 hv10 (PfT.pl _ p10)
    rw[<- hNj] at p10
    refine⟨fun σ' H'=>∃(v:V) (t:Th) (n':Nat) (o8 o9:Option V),σ' = [some (.ref d),some (.ref nm),some (.int m),some (.ref wd),some (.int (0+(j:Int))),some (.ref fa),some v,some (.ref w2),o8,o9]/\KdS H H' d l wd nm bg ns n' bts/\FO H H' fa bg j fts/\IsTh (TO H') v t/\PfT (NN (j+1)) t/\hs t = []/\cnt t<=131/\n'<=n10+10,?_,?_⟩
    ·refine⟨_,rfl,d,l,ns,n10,_,rfl,X10.F,by omega,by decide,by decide,fun y n11 H11 _ _ hn11 F11 b11=>⟨rfl,_,rfl,Z22 (fun g => ?_) (fun g=>⟨v10,t10,n11,_,_,rfl,X10.draw b11 F11,O10.kp (b11.kp X10.F),IsTh.kp (Kp.of (Z70 (b11.kp X10.F))) hv10T,p10,no10,hc10,by omega⟩)⟩⟩
     have X11:=X10.draw b11 F11
     have O11:=O10.kp (b11.kp X10.F)
     have hv11:=IsTh.kp (Kp.of (Z70 (b11.kp X10.F))) hv10T
     refine⟨_,rfl,v10,t10,rfl,IsTh.kp (Kp.of to_sub) hv11,p10.le hNM1,no10,by omega,fun p12 ws12 ls12 H12 s12 hp12 hws12 l1 l2 ha12 => ?_⟩
     have X12:=X11.same s12
     have hw12l:=IsThs.len _ hws12
     refine⟨_,rfl,_,rfl,nm,0,0,0,rfl,fun w3 bg3 H13 s13 hw30 hbg30 W13 B13 => ?_⟩
     have X13:=X12.same s13
     refine⟨d,l,w3,nm,bg3,ns,n11,0,0,0,0,T,rfl,X13.F,by omega,W13,X13.names N0 F0,by decide,by decide,fun v14 t14 n14 H14 hv14 lf14 hn14 F14 b14 => ?_⟩
     have X14:=X13.draw b14 F14
     have k14:=b14.kp X13.F
     have hp14:=k14 _ _ (s13 _ _ hp12) (by intro q z;cases z)
     refine⟨_,rfl,_,rfl,_,rfl,_,rfl,p12,ws12,rfl,.inl (SqL.of hp14),d,l,ns,n14,_,rfl,X14.F,by omega,by omega,by omega,fun z n15 H15 z0 z1 hn15 F15 b15 => ?_⟩
     have X15:=X14.draw b15 F15
     have k15:=b15.kp X14.F
     have k1215:Kp H12 H15:=((Kp.of s13).trans k14).trans k15
     obtain⟨vz,hvzm,hatz⟩:=Z3w (xs:=ws12) (i:=z) z0 (by omega)
     obtain⟨iz',hiz⟩:=List.getElem?_of_mem hvzm
     obtain⟨uz,huz,hvuz⟩:=Z0q _ (IsThs.kp k1215 hws12) hiz
     have luz:=ha12 uz (List.mem_of_getElem? huz)
     obtain⟨lf1,lf2,lf3,lf4⟩:=lf14
     refine⟨p12,ws12,z,vz,rfl,rfl,SqL.of (k15 _ _ hp14 (by intro q z;cases z)),hatz,_,rfl,NN (j+1),hNM1,v10,vz,v14,t10,uz,t14,rfl,IsTh.kp (Kp.of to_sub) (IsTh.kp (Kp.of (Z70 ((Kp.of s12).trans k1215))) hv11),p10,no10,hvuz,luz.1,IsTh.kp k15 hv14,lf1,lf2,Zjo lf4,fun v16 t16 H16 s16 hv16 p16 no16 c16 => ?_⟩
     exact⟨v16,t16,n15,_,_,rfl,X15.same s16,(O11.kp ((Kp.of s12).trans k1215)).kp (Kp.of s16),Z54 hv16 (PfT.pl _ p16),p16,no16,by omega,by omega⟩
    rintro σ' H11 ⟨v,t,n11,o8',o9',rfl,X11,O11,hvt,pt,not,hct,hn11⟩
    obtain⟨fv11,h11,hf11⟩:=O11.L
    have hfl11:=IsThs.len _ hf11
    have hol11:=O11.len
    have kT:=Kp.of (Z4e (o := .lst (fv11 ++ [v])) h11)
    refine⟨_,rfl,.inl ⟨rfl,_,SqL.of h11⟩,_,rfl,fa,fv11,v,rfl,rfl,h11,by omega,n11,fts ++ [t],_,_,_,_,_,rfl,?_,?_,by omega⟩
    ·exact X11.putL F0 h11 O11.fr O11.nb
    ·refine⟨⟨_,Z00,IsThs.app _ (IsThs.kp kT hf11) (.cons (IsTh.kp kT hvt) .nil)⟩,by rw[List.length_append,hol11];rfl,fun y hy => ?_,(by have h60:=O11.h0;cases fts with | nil=>cases hol11 | cons _ _=>exact h60),O11.fr,O11.nb⟩
     rcases List.mem_append.mp hy with q | q
     ·obtain⟨a1,a2,a3⟩:=O11.ok y q
      exact⟨a1.le (by omega),a2,by omega⟩
     ·rw[List.mem_singleton] at q;subst q;exact⟨pt,not,hct⟩
   ·clear X4 O4 X3 C3 hv3 X2 C2
    rintro σ H5 ⟨n5,fts,o4,o6,o7,o8,o9,rfl,X5,O5,hn5⟩
    obtain⟨fv,hfv,hfvs⟩:=O5.L
    have hol:=O5.len
    have hjm:(m-1).toNat<=M:=by omega
    refine⟨_,rfl,k fa fv fts n5 H5 hfv (IsThs.kp (Kp.of to_sub) hfvs) (by omega) (fun t ht => ?_) O5.h0 (by omega) X5.F X5.B O5.fr⟩
    obtain⟨a1,a2,a3⟩:=O5.ok t ht
    exact⟨a1.le (by unfold NN;omega),a2,by omega⟩
end
end K20
namespace L2
open PySem PySem.Spec PyProof.Rows
end L2
namespace K20
open PySem L2
theorem Zh7:∀{l:List Th} {k:Th},k∈l->cnt k<=Z14 l:=fun h=>Zbv _ _ h
theorem Zlp {σ:Nat->Th}(hσ:Tps σ):∀(n:Nat) {t:Th},PfT n t->∀i∈hs t,cnt (σ i)<=cnt (fl σ t):=by
 intro n
 induction n with
 | zero=>intro t h;exact h.elim
 | succ n ih =>
  intro t h i hi
  obtain⟨w,hd,ks,rfl,h1,h2,h3,h4,h5,h6⟩:=h
  by_cases hw:w="hole"
  ·subst hw
   obtain⟨j,rfl,rfl⟩:=h4 rfl
   rw[Z1x,List.mem_singleton] at hi
   rw[Z1m,hi]
   exact Nat.le_refl _
  ·obtain⟨k,hk,hik⟩:=(Z3t hw).mp hi
   rw[Z3f hw,Z1k fun k hk => ?_]
   ·have a:=ih (h6 k hk) i hik
    have b:=Zh7 (List.mem_map.mpr ⟨k,hk,rfl⟩:fl σ k∈ks.map (fl σ))
    omega
   ·obtain⟨y,hy,rfl⟩:=List.mem_map.mp hk
    exact Zef hσ (h6 y hy)
theorem Zf5 {b:Nat}:∀(l:List Th),(∀x∈l,Th.sz x<=b)->szs l<=l.length*b:=by
 intro l
 induction l with
 | nil=>intro _;rw[szs];exact Nat.zero_le _
 | cons x l ih =>
  intro h
  have a:=h x (List.mem_cons_self ..)
  have c:=ih fun y hy=>h y (List.mem_cons_of_mem _ hy)
  rw[szs,List.length_cons,Nat.succ_mul]
  omega
theorem Told.small {N m:Nat}{ts:List Th}{P:Th}{C:List (List Th)}(T:Told N m ts P C)(hl:ts.length=m){B:Nat}(hB:∀t∈ts,cnt t<=B){p:Nat}(hp:p<m):∀c∈C,cnt (c.getD p dT)<=B:=by
 intro c hc
 obtain⟨i,hi⟩:=List.getElem?_of_mem hc
 have hlt:i<C.length:=(List.getElem?_eq_some_iff.mp hi).1
 have hin:i∈hs P:=by
  have h1:i∈Z2j [] (hs P):=by rw[T.num];exact List.mem_range.mpr hlt
  rcases(Z7r (hs P) [] i).mp h1 with z | z
  ·cases z
  ·exact z
 have tp:Tps (sg (C.map fun c=>c.getD p dT)):=Zl2 fun t ht=>by
  obtain⟨d,hd,rfl⟩:=List.mem_map.mp ht
  have F:=(T.cf d hd).1
  exact(F.pf _ (Z2g (by rw[F.len];exact hp))).isTup
 have h:=Zlp tp N T.pf i hin
 rw[T.fill p hp] at h
 have e:sg (C.map fun c=>c.getD p dT) i=c.getD p dT:=by
  unfold sg
  rw[List.getD_eq_getElem?_getD,List.getElem?_map,hi]
  rfl
 rw[e] at h
 exact Nat.le_trans h (hB _ (Z2g (by rw[hl];exact hp)))
structure Sm (N:Nat)(t:Th):Prop where
 pl:plT t=true
 dp:L2.dp t<=N+3
 sz:Th.sz t<=1000000
theorem Zjq {N m:Nat}(hm:1<=m){ts:List Th}(F:Fs N m ts){B:Nat}(hB:∀t∈ts,cnt t<=B)(hs:2+3*B+m*(1+B*(3*B))<=1000000):Sm N (Z8i N m ts):=by
 have T:=Zno hm F
 unfold Z8i
 have hP:cnt (mP N [] ts).1<=B:=Nat.le_trans T.cn (hB _ (Z0p F.len hm))
 generalize (mP N [] ts).1=P at T hP ⊢
 generalize (mP N [] ts).2=C at T ⊢
 have hC:C.length<=B:=Nat.le_trans T.few hP
 have hcol:∀p,p<m->∀x∈C.map (fun c=>c.getD p dT),PfT N x/\cnt x<=B:=fun p hp x hx=>by
  obtain⟨c,hc,rfl⟩:=List.mem_map.mp hx
  have Fc:=(T.cf c hc).1
  exact⟨Fc.pf _ (Z2g (by rw[Fc.len];exact hp)),T.small F.len hB hp c hc⟩
 have hrow:∀x∈Z42 m C,plT x=true/\L2.dp x<=N+1/\Th.sz x<=1+B*(3*B):=fun x hx=>by
  unfold Z42 at hx
  obtain⟨p,hp,rfl⟩:=List.mem_map.mp hx
  rw[List.mem_range] at hp
  refine⟨?_,?_,?_⟩
  ·rw[plT]
   exact Z1c fun x hx=>PfT.pl _ (hcol p hp x hx).1
  ·rw[L2.dp]
   have:=Z3z (n:=N) fun x hx=>PfT.dp _ (hcol p hp x hx).1
   omega
  ·rw[Th.sz]
   have h1:=Zf5 (b:=3*B) (C.map fun c=>c.getD p dT) fun x hx=>by
    obtain⟨a,b⟩:=hcol p hp x hx
    have:=Z6t N a
    omega
   rw[List.length_map] at h1
   have h2:=Nat.mul_le_mul_right (3*B) hC
   omega
 refine⟨?_,?_,?_⟩
 ·rw[plT,Z24,Z24,Z24,plT,PfT.pl _ T.pf,Z1c fun x hx=>(hrow x hx).1]
  rfl
 ·rw[L2.dp,dps,dps,dps,L2.dp]
  have h1:=PfT.dp _ T.pf
  have h2:=Z3z (n:=N+1) fun x hx=>(hrow x hx).2.1
  omega
 ·rw[Th.sz,szs,szs,szs,Th.sz]
  have h1:=Z6t N T.pf
  have h2:=Zf5 (b:=1+B*(3*B)) (Z42 m C) fun x hx=>(hrow x hx).2.2
  have h3:(Z42 m C).length=m:=by unfold Z42;rw[List.length_map,List.length_range]
  rw[h3] at h2
  omega
theorem Fs.le {n N m:Nat}{ts:List Th}(F:Fs n m ts)(h:n<=N):Fs N m ts:=⟨F.len,fun t ht=>(F.pf t ht).le h,F.no⟩
def Cmp (N m:Nat)(g:List Th->Th):Prop:=∀ts,Fs N m ts->al ts=true->g ts = .tup (Z23 (ts.headD dT)++(Z1s ts).map g)
def Dwn (N m:Nat)(Q:List Th->Prop):Prop:=∀ts,Fs N m ts->al ts=true->Q ts->∀c∈Z1s ts,Q c
structure LG (N n m:Nat)(C:List (List Th))(ts:List Th)(L:Th)(C':List (List Th)):Prop where
 ex:∃D,C'=C++D/\∀c∈D,Fs N m c
 pf:PfT n L
 hl:∀i∈hs L,i<C'.length
 hm:∀i,C.length<=i->i<C'.length->i∈hs L
 fill:∀g,Cmp N m g->∀R,fl (fun i=>g ((C'++R).getD i [])) L=g ts
 sub:∀Q,Dwn N m Q->Q ts->(∀c∈C,Q c)->∀c∈C',Q c
 cn:cnt L<=cnt (ts.headD dT)
structure LGA (N n m:Nat)(C:List (List Th))(cs:List (List Th))(ks:List Th)(C':List (List Th)):Prop where
 ex:∃D,C'=C++D/\∀c∈D,Fs N m c
 len:ks.length=cs.length
 pf:∀k∈ks,PfT n k
 hl:∀k∈ks,∀i∈hs k,i<C'.length
 hm:∀i,C.length<=i->i<C'.length->∃k∈ks,i∈hs k
 fill:∀g,Cmp N m g->∀R,ks.map (fl (fun i=>g ((C'++R).getD i [])))=cs.map g
 sub:∀Q,Dwn N m Q->(∀c∈cs,Q c)->(∀c∈C,Q c)->∀c∈C',Q c
 cn:Z14 ks<=mu cs
theorem Zf6 (i:Nat):cnt (hol i)=1:=by
 unfold hol
 rw[Z1k fun k hk=>by cases hk]
 simp [Z14]
theorem Zf7 {N n m i:Nat}{C C':List (List Th)}{ts:List Th}(hn:1<=n)(hm1:1<=m)(F:Fs N m ts)(hi:C'[i]? = some ts)(ex:∃D,C'=C++D/\(∀c∈D,c=ts)/\∀j,C.length<=j->j<C'.length->j=i):LG N n m C ts (hol i) C':=by
 obtain⟨D,eD,hD,hj⟩:=ex
 have hlt:i<C'.length:=(List.getElem?_eq_some_iff.mp hi).1
 refine⟨⟨D,eD,fun c hc=>by rw[hD c hc];exact F⟩,(Z9i i).le hn,fun j h => ?_,fun j h1 h2 => ?_,fun g _ R => ?_,fun Q _ q qC c hc => ?_,?_⟩
 ·rw[(Zbl i j).mp h];exact hlt
 ·exact(Zbl i j).mpr (hj j h1 h2)
 ·unfold hol
  rw[Z1m,List.getD_eq_getElem?_getD,List.getElem?_append_left hlt,hi]
  rfl
 ·rw[eD] at hc
  rcases List.mem_append.mp hc with z | z
  ·exact qC c z
  ·rw[hD c z];exact q
 ·rw[Zf6]
  exact Z40 (F.pf _ (Z0p F.len hm1))
theorem Zbx {N n m:Nat}{C:List (List Th)}{ts:List Th}(hn:1<=n)(hm1:1<=m)(F:Fs N m ts):LG N n m C ts (hol C.length) (C ++ [ts]) :=
 Zf7 hn hm1 F (by rw[List.getElem?_append_right (Nat.le_refl _),Nat.sub_self];rfl) ⟨[ts],rfl,fun c hc=>List.mem_singleton.mp hc,fun j h1 h2=>by rw[List.length_append,List.length_singleton] at h2;omega⟩
theorem Zi2 {N n m i:Nat}{C:List (List Th)}{ts:List Th}(hn:1<=n)(hm1:1<=m)(F:Fs N m ts)(hi:C[i]? = some ts):LG N n m C ts (hol i) C :=
 Zf7 hn hm1 F hi ⟨[],(List.append_nil C).symm,(fun c hc=>by cases hc),fun j h1 h2=>by omega⟩
theorem Zjr {N n m:Nat}{C:List (List Th)}:LGA N n m C [] [] C :=
 ⟨⟨[],(List.append_nil C).symm,fun c hc=>by cases hc⟩,rfl,(fun k hk=>by cases hk),(fun k hk=>by cases hk),(fun i h1 h2=>by omega),fun _ _ _=>rfl,fun Q _ _ h=>h,Nat.le_refl _⟩
theorem Zh8 {N n m:Nat}{C C1 C2 cs:List (List Th)}{ks:List Th}{c:List Th}{k:Th}(A:LGA N n m C cs ks C1)(B:LG N n m C1 c k C2):LGA N n m C (cs ++ [c]) (ks ++ [k]) C2:=by
 obtain⟨D1,e1,f1⟩:=A.ex
 obtain⟨D2,e2,f2⟩:=B.ex
 have hle:C1.length<=C2.length:=by rw[e2,List.length_append];omega
 refine⟨⟨D1++D2,by rw[e2,e1,List.append_assoc],fun x hx => ?_⟩,by rw[List.length_append,List.length_append,A.len];rfl,fun x hx => ?_,fun x hx i hi => ?_,fun i h1 h2 => ?_,fun g hg R => ?_,fun Q hQ hc hC => ?_,?_⟩
 ·rcases List.mem_append.mp hx with z | z
  ·exact f1 x z
  ·exact f2 x z
 ·rcases List.mem_append.mp hx with z | z
  ·exact A.pf x z
  ·rw[List.mem_singleton.mp z];exact B.pf
 ·rcases List.mem_append.mp hx with z | z
  ·have:=A.hl x z i hi;omega
  ·rw[List.mem_singleton.mp z] at hi;exact B.hl i hi
 ·by_cases h:i<C1.length
  ·obtain⟨x,hx,hi⟩:=A.hm i h1 h
   exact⟨x,List.mem_append.mpr (.inl hx),hi⟩
  ·exact⟨k,List.mem_append.mpr (.inr (List.mem_singleton.mpr rfl)),B.hm i (by omega) h2⟩
 ·rw[List.map_append,List.map_append]
  have a:=A.fill g hg (D2++R)
  rw[<- List.append_assoc,<- e2] at a
  rw[a]
  show cs.map g ++ [fl _ k]=cs.map g ++ [g c]
  rw[B.fill g hg R]
 ·exact B.sub Q hQ (hc c (List.mem_append.mpr (.inr (List.mem_singleton.mpr rfl)))) (A.sub Q hQ (fun x hx=>hc x (List.mem_append.mpr (.inl hx))) hC)
 ·have a:=A.cn
  have b:=B.cn
  rw[Z6r,Z56]
  have:mu [c]=cnt (c.headD dT):=by unfold mu;simp
  omega
theorem Zjs {N n m:Nat}(hm1:1<=m)(hN:n+1<=N){C C':List (List Th)}{ts ks:List Th}(F:Fs (n+1) m ts)(ha:al ts=true)(A:LGA N n m C (Z1s ts) ks C'):LG N (n+1) m C ts (.tup (Z23 (ts.headD dT)++ks)) C':=by
 have h0:=Z0p F.len hm1
 obtain⟨w,hd,k0,e0,hw,h1,h2,h3,h5,h6,h7,e1,e2⟩:=Z3h (F.pf _ h0) (F.no _ h0)
 have hl:=Z55 F ha h0 hm1
 rw[e1] at hl
 have hkl:ks.length=k0.length:=by rw[A.len,hl]
 have en:Th.tup (Z23 (ts.headD dT)++ks)=nd w hd ks:=by rw[e2];rfl
 have FN:=F.le hN
 refine⟨A.ex,?_,fun i hi => ?_,fun i h1' h2' => ?_,fun g hg R => ?_,fun Q hQ q qC=>A.sub Q hQ (hQ ts FN ha q) qC,?_⟩
 ·rw[en]
  exact⟨w,hd,ks,rfl,h1,h2,fun z=>⟨(h3 z).1,by rw[hkl];exact(h3 z).2⟩,fun z=>absurd z hw,by omega,A.pf⟩
 ·rw[en] at hi
  obtain⟨k,hk,hik⟩:=(Z3t hw).mp hi
  exact A.hl k hk i hik
 ·rw[en]
  exact(Z3t hw).mpr (A.hm i h1' h2')
 ·rw[en,Z3f hw,A.fill g hg R,hg ts FN ha,e2]
  rfl
 ·rw[en,Z1k fun k hk=>(A.pf k hk).isTup]
  have a:=A.cn
  have b:=Z8h F ha hm1
  omega
def qE:Nat->List (List Th)->List Th->Th
 | 0,_,_=>hol 0
 | n+1,E,ts=>if al ts=true then .tup (Z23 (ts.headD dT)++(Z1s ts).map (qE n E)) else hol (E.idxOf ts)
theorem Zf8 {C R:List (List Th)}{ts:List Th}(h:ts∈C):(C++R).idxOf ts=C.idxOf ts:=by
 rw[List.idxOf_append,if_pos h]
theorem Zn8 {m:Nat}(hm:1<=m):∀(n:Nat) (C:List (List Th)) (ts:List Th),Fs n m ts->(∃D,(mP n C ts).2=C++D)/\∀R,(mP n C ts).1=qE n ((mP n C ts).2++R) ts:=by
 intro n
 induction n with
 | zero=>intro C ts F;exact(F.pf _ (Z0p F.len hm)).elim
 | succ n ih =>
  intro C ts F
  have hacc:∀(cs C:List (List Th)),(∀c∈cs,Fs n m c)->(∃D,(acc (mP n) C cs).2=C++D)/\∀R,(acc (mP n) C cs).1=cs.map (qE n ((acc (mP n) C cs).2++R)):=by
   intro cs
   induction cs with
   | nil=>intro C _;exact⟨⟨[],(List.append_nil C).symm⟩,fun _=>rfl⟩
   | cons c cs ihc =>
    intro C hf
    obtain⟨⟨D1,e1⟩,q1⟩:=ih C c (hf c (List.mem_cons_self ..))
    obtain⟨⟨D2,e2⟩,q2⟩:=ihc (mP n C c).2 fun x hx=>hf x (List.mem_cons_of_mem _ hx)
    refine⟨⟨D1++D2,?_⟩,fun R => ?_⟩
    ·show(acc (mP n) (mP n C c).2 cs).2=_
     rw[e2,e1,List.append_assoc]
    ·show(mP n C c).1::(acc (mP n) (mP n C c).2 cs).1=qE n ((acc (mP n) (mP n C c).2 cs).2++R) c::cs.map (qE n ((acc (mP n) (mP n C c).2 cs).2++R))
     rw[<- q2 R,e2,List.append_assoc,<- q1 (D2++R)]
  unfold mP
  by_cases ha:al ts=true
  ·rw[if_pos ha]
   obtain⟨d,q⟩:=hacc (Z1s ts) C (Z2e F ha hm)
   refine⟨d,fun R => ?_⟩
   show Th.tup (Z23 (ts.headD dT)++(acc (mP n) C (Z1s ts)).1)=_
   rw[q R]
   unfold qE
   rw[if_pos ha]
  ·rw[if_neg ha]
   refine⟨?_,fun R => ?_⟩
   ·show ∃D,Z9o C ts=C++D
    unfold Z9o
    split
    ·exact⟨[],(List.append_nil C).symm⟩
    ·exact⟨[ts],rfl⟩
   ·show hol (C.idxOf ts)=_
    unfold qE
    rw[if_neg ha]
    show hol (C.idxOf ts)=hol ((Z9o C ts++R).idxOf ts)
    unfold Z9o
    by_cases h:ts∈C
    ·rw[if_pos h,Zf8 h]
    ·rw[if_neg h,Zf8 (List.mem_append.mpr (.inr (List.mem_singleton.mpr rfl))),List.idxOf_append,if_neg h,List.idxOf_eq_length h]
     simp
theorem Zn9 {m:Nat}(hm:1<=m)(E:List (List Th)):∀(n:Nat) (ts:List Th),Fs n m ts->qE (n+1) E ts=qE n E ts:=by
 intro n
 induction n with
 | zero=>intro ts F;exact(F.pf _ (Z0p F.len hm)).elim
 | succ n ih =>
  intro ts F
  unfold qE
  by_cases ha:al ts=true
  ·rw[if_pos ha,if_pos ha]
   refine congrArg (fun z=>Th.tup (Z23 (ts.headD dT)++z)) (List.map_congr_left fun c hc => ?_)
   exact ih c (Z2e F ha hm c hc)
  ·rw[if_neg ha,if_neg ha]
theorem Zi3 {m N:Nat}(hm:1<=m)(E:List (List Th)):Cmp (N+1) m (qE (N+1) E):=by
 intro ts F ha
 have e:qE (N+1) E ts = .tup (Z23 (ts.headD dT)++(Z1s ts).map (qE N E)):=by
  show(if al ts=true then _ else _)=_
  rw[if_pos ha]
 rw[e]
 refine congrArg (fun z=>Th.tup (Z23 (ts.headD dT)++z)) (List.map_congr_left fun c hc => ?_)
 exact(Zn9 hm E N c (Z2e F ha hm c hc)).symm
theorem Zi4 {m N p:Nat}(hm:1<=m)(hp:p<m):Cmp (N+1) m (fun c=>c.getD p dT):=by
 intro ts F ha
 rw[Zak F ha hp]
 have hx:=Z2g (ts:=ts) (p:=p) (by rw[F.len];exact hp)
 have el:Z23 (ts.getD p dT)=Z23 (ts.headD dT):=congrArg Prod.fst (al_iff.mp ha _ hx _ (Z0p F.len hm))
 have es:=Z8d (F.pf _ hx) (F.no _ hx)
 rw[<- el]
 exact es
theorem Zh9 {m N:Nat}(hm:1<=m){ts:List Th}{L:Th}{D:List (List Th)}(F:Fs (N+1) m ts)(G:LG (N+1) (N+1) m [] ts L D) :
  fl (fun i=>qE (N+1) (mP (N+1) [] ts).2 (D.getD i [])) L=(mP (N+1) [] ts).1 ∧
  (∀p,p<m->fl (fun i=>(D.getD i []).getD p dT) L=ts.getD p dT) ∧
  (∀c∈D,∀p,p<m->fl (sgC (mP (N+1) [] ts).2 p) (qE (N+1) (mP (N+1) [] ts).2 c)=c.getD p dT)/\∀i,i∈hs L↔i<D.length:=by
 have hq:=(Zn8 hm (N+1) [] ts F).2 []
 rw[List.append_nil] at hq
 have gd:=Z4i hm (N+1) [] ts List.nodup_nil F
 have hfill:=fun p hp=>gd.fill [] p hp
 rw[List.append_nil] at hfill
 generalize (mP (N+1) [] ts).2=E at hq hfill ⊢
 generalize (mP (N+1) [] ts).1=P at hq hfill ⊢
 subst hq
 refine⟨?_,fun p hp => ?_,?_,fun i=>⟨G.hl i,fun h=>G.hm i (Nat.zero_le _) h⟩⟩
 ·have:=G.fill _ (Zi3 hm E) []
  rw[List.append_nil] at this
  exact this
 ·have:=G.fill _ (Zi4 hm hp) []
  rw[List.append_nil] at this
  exact this
 ·refine G.sub (fun c=>∀p,p<m->fl (sgC E p) (qE (N+1) E c)=c.getD p dT) (fun us Fu ha q c hc p hp => ?_) hfill (fun c hc=>by cases hc)
  have h:=q p hp
  rw[Zi3 hm E us Fu ha] at h
  have h0:=Z0p Fu.len hm
  obtain⟨w,hd,k0,e0,hw,h1,h2,h3,h5,h6,h7,e1,e2⟩:=Z3h (Fu.pf _ h0) (Fu.no _ h0)
  have e3:=Zi4 hm hp us Fu ha
  have h':fl (sgC E p) (nd w hd ((Z1s us).map (qE (N+1) E)))=nd w hd ((Z1s us).map fun c=>c.getD p dT):=by
   have a:Th.tup (Z23 (us.headD dT)++(Z1s us).map (qE (N+1) E))=nd w hd ((Z1s us).map (qE (N+1) E)):=by rw[e2];rfl
   have b:Th.tup (Z23 (us.headD dT)++(Z1s us).map fun c=>c.getD p dT)=nd w hd ((Z1s us).map fun c=>c.getD p dT):=by rw[e2];rfl
   rw[a] at h
   rw[h,<- b]
   exact e3
  rw[Z3f hw,List.map_map] at h'
  have h4:(Z1s us).map (fl (sgC E p)∘qE (N+1) E)=(Z1s us).map fun c=>c.getD p dT:=by
   unfold nd at h'
   injection h' with h'
   injection h' with _ h'
   exact List.append_cancel_left h'
  exact List.map_inj_left.mp h4 c hc
def lk (t:Th):List Th × Nat:=match t with
 | .tup xs=>(Z2x xs,(Z1f xs).length)
 | _=>([],0)
inductive spAlike (N:Nat)(vs:List V)(H:Hp)(Q:VK)(E_3:XK):Prop
 | mk (p:Addr) (v1 v2:V) (t1 t2:Th) (_:vs = [.ref p]) (_:H p=some (.tup [v1,v2])) (_:Fm H v1 N t1) (_:Fm H v2 N t2) (_:∀H',Same H H'->(lk t1=lk t2->Q (.bl true) H')/\(lk t1≠lk t2->Q (.bl false) H')):spAlike N vs H Q E_3
theorem Zi5 (t:Th):lk t=lkT t:=by cases t <;> rfl
section
variable {P:Program}{w:World}{K:PySem.W.Frag}{mg:Str->Option Value}{base:Heap}
theorem Zf9 {f fP fH fS:Addr}{fd dP dH dS:FuncData}(F:Fun K "headed_alike" "headed_alike" Z5m f fd)(U:HT K mg fP fH fS dP dH dS)(hall:mg "all"=none)(N:Nat):FnOk P w K mg base CX0 2 f fd ["forms"] (spAlike N) :=
 (Zbq F U hall N).imp fun vs H Q E ⟨p,v1,v2,t1,t2,e,hp,f1,f2,q⟩=>⟨p,[v1,v2],[t1,t2],e,hp,.cons f1.is (.cons f2.is .nil),(fun t ht=>by
  rcases List.mem_cons.mp ht with z | z
  ·rw[z];exact f1.pf
  ·rw[List.mem_singleton.mp z];exact f2.pf),(fun t ht=>by
  rcases List.mem_cons.mp ht with z | z
  ·rw[z];exact f1.sz
  ·rw[List.mem_singleton.mp z];exact f2.sz),(by show 1<=2;decide),(by show 2<=1000;decide),fun H' s=>by
  obtain⟨q1,q2⟩:=q H' s
  rw[Zi5,Zi5] at q1 q2
  have e:al [t1,t2]=decide (lkT t2=lkT t1):=by
   show(decide (lkT t2=lkT t1)&&true)=_
   rw[Bool.and_true]
  rw[e]
  by_cases z:lkT t1=lkT t2
  ·rw[decide_eq_true z.symm];exact q1 z
  ·rw[decide_eq_false fun y=>z y.symm];exact q2 z⟩
end
theorem Zha {w:Str}{hd:List V}{ks:List Th}(h:∀k∈ks,L2.isTup k=true):lk (nd w hd ks)=(.at (.str w)::hd.map Th.at,ks.length):=by
 unfold nd lk
 dsimp only
 rw[Z2y h,Z2d h]
theorem Zfa {σ:Nat->Th}:∀{as bs:List Th},as.length=bs.length->(as.map (fl σ)=bs↔∀e∈as.zip bs,fl σ e.1=e.2):=by
 intro as
 induction as with
 | nil =>
  intro bs h
  cases bs with
  | nil=>simp
  | cons=>simp at h
 | cons a as ih =>
  intro bs h
  cases bs with
  | nil=>simp at h
  | cons b bs =>
   rw[List.map_cons,List.zip_cons_cons]
   have:=ih (bs:=bs) (by simpa using h)
   constructor
   ·intro z e he
    injection z with z1 z2
    rcases List.mem_cons.mp he with rfl | he
    ·exact z1
    ·exact this.mp z2 e he
   ·intro z
    rw[z (a,b) (List.mem_cons_self ..),this.mpr fun e he=>z e (List.mem_cons_of_mem _ he)]
theorem Zjt {σ:Nat->Th}(hσ:Tps σ){n m:Nat}{w w':Str}{hd hd':List V}{ks ks':List Th}(hw:w≠"hole")(h:∀k∈ks,PfT n k)(h':∀k∈ks',PfT m k) :
  fl σ (nd w hd ks)=nd w' hd' ks'↔(lk (nd w hd ks)=lk (nd w' hd' ks')/\∀e∈ks.zip ks',fl σ e.1=e.2):=by
 have k1:∀k∈ks,L2.isTup k=true:=fun k hk=>(h k hk).isTup
 have k2:∀k∈ks',L2.isTup k=true:=fun k hk=>(h' k hk).isTup
 have k3:∀k∈ks.map (fl σ),L2.isTup k=true:=fun k hk=>by
  obtain⟨y,hy,rfl⟩:=List.mem_map.mp hk
  exact Zef hσ (h y hy)
 rw[Z3f hw,Zha k1,Zha k2]
 constructor
 ·intro e
  obtain⟨rfl,rfl,e3⟩:=Zks k3 k2 e
  have hl:ks.length=ks'.length:=by rw[<- e3,List.length_map]
  exact⟨by rw[hl],(Zfa hl).mp e3⟩
 ·rintro⟨e1,e2⟩
  injection e1 with e1 e3
  injection e1 with e1 e4
  injection e1 with e1
  injection e1 with e1
  rw[e1,Zad e4,(Zfa e3).mpr e2]
def pp (e:Th × Th):Th := .tup [e.1,e.2]
theorem Zhb {H:Hp}{ws:List V}{st:List (Th × Th)}(h:IsThs H ws (st.map pp))(hne:ws ≠ []):∃ws' st' t u a vt vu,ws=ws' ++ [.ref a]/\st=st' ++ [(t,u)]/\IsThs H ws' (st'.map pp)/\H a=some (.tup [vt,vu])/\IsTh H vt t/\IsTh H vu u:=by
 obtain⟨ws',y,us',u,e1,e2,h1,h2⟩:=ths_last ws h hne
 have hn:st ≠ []:=fun z=>by
  subst z
  have:=congrArg List.length e2
  simp at this
 obtain⟨st',x,rfl⟩:∃st' x,st=st' ++ [x]:=⟨st.dropLast,st.getLast hn,(List.dropLast_concat_getLast hn).symm⟩
 have e3:(st' ++ [x]).map pp=st'.map pp ++ [pp x]:=by simp
 rw[e3] at e2
 obtain⟨e5,e6⟩:=List.append_inj' e2 rfl
 have e6':pp x=u:=by simpa using e6
 subst e6' e5
 obtain⟨a,vs,rfl,ha,hvs⟩:=Z1i h2
 cases hvs with
 | cons c1 c2 =>
  cases c2 with
  | cons c3 c4 =>
   cases c4
   exact⟨ws',st',x.1,x.2,a,_,_,e1,rfl,h1,ha,c1,c3⟩
structure DD (H:Hp)(N:Nat)(ks:List Nat)(g:Nat->Th)(kvs kvs2:List (Key × V)):Prop where
 k1:kvs.map (·.1)=ks.map fun(i:Nat)=>(Sum.inl (i:Int):Key)
 k2:kvs2.map (·.1)=ks.map fun(i:Nat)=>(Sum.inl (i:Int):Key)
 nd:ks.Nodup
 at1:∀i∈ks,PfT N (g i)/\(∃v,Z37 kvs (.inl (i:Int))=some v/\IsTh H v (g i))/\∃v,Z37 kvs2 (.inl (i:Int))=some v/\IsTh H v (.lst (Z19 (g i)))
theorem DD.kp {H H':Hp}{N:Nat}{ks:List Nat}{g:Nat->Th}{kvs kvs2:List (Key × V)}(k:Kp H H')(d:DD H N ks g kvs kvs2):DD H' N ks g kvs kvs2 :=
 ⟨d.k1,d.k2,d.nd,fun i hi=>let ⟨a,⟨v,b,c⟩,⟨u,d,e⟩⟩:=d.at1 i hi;⟨a,⟨v,b,IsTh.kp k c⟩,⟨u,d,IsTh.kp k e⟩⟩⟩
theorem Zfb {ks:List Nat}{i:Nat}(h:(Sum.inl (i:Int):Key)∈ks.map fun(j:Nat)=>(Sum.inl (j:Int):Key)):i∈ks:=by
 obtain⟨j,hj,e⟩:=List.mem_map.mp h
 have:j=i:=by injection e with e;omega
 rw[<- this]
 exact hj
theorem DD.no {H:Hp}{N:Nat}{ks:List Nat}{g:Nat->Th}{kvs kvs2:List (Key × V)}(d:DD H N ks g kvs kvs2){i:Nat}(h:i∉ks):Z37 kvs (.inl (i:Int))=none/\Z37 kvs2 (.inl (i:Int))=none:=by
 constructor
 ·cases e:Z37 kvs (.inl (i:Int)) with
  | none=>rfl
  | some v=>exact absurd (Zfb (by rw[<- d.k1];exact Zdt e)) h
 ·cases e:Z37 kvs2 (.inl (i:Int)) with
  | none=>rfl
  | some v=>exact absurd (Zfb (by rw[<- d.k2];exact Zdt e)) h
theorem Zhc {kvs:List (Key × V)}{k:Key}{v u:V}(h:Z37 kvs k=some u):(Z43 kvs k v).map (·.1)=kvs.map (·.1):=by
 unfold Z43
 rw[if_pos (by rw[Z3j,h];rfl),List.map_map]
 refine List.map_congr_left fun x _ => ?_
 show(if x.1=k then (x.1,v) else x).1=x.1
 split <;> rfl
theorem DD.again {H:Hp}{N:Nat}{ks:List Nat}{g:Nat->Th}{kvs kvs2:List (Key × V)}(d:DD H N ks g kvs kvs2){i:Nat}(h:i∈ks){v:V}(hv:IsTh H v (g i)):DD H N ks g (Z43 kvs (.inl (i:Int)) v) kvs2:=by
 obtain⟨a,⟨u,b,c⟩,d2⟩:=d.at1 i h
 refine⟨by rw[Zhc b];exact d.k1,d.k2,d.nd,fun j hj => ?_⟩
 obtain⟨a',⟨u',b',c'⟩,d'⟩:=d.at1 j hj
 refine⟨a',?_,d'⟩
 rw[Z7z]
 by_cases e:j=i
 ·subst e
  rw[if_pos rfl]
  exact⟨v,rfl,hv⟩
 ·rw[if_neg (fun z=>e (by injection z with z;omega))]
  exact⟨u',b',c'⟩
theorem DD.more {H:Hp}{N:Nat}{ks:List Nat}{g:Nat->Th}{kvs kvs2:List (Key × V)}(d:DD H N ks g kvs kvs2){i:Nat}(h:i∉ks){v u:V}{t:Th}(hp:PfT N t)(hv:IsTh H v t)(hu:IsTh H u (.lst (Z19 t))) :
  DD H N (ks ++ [i]) (fun j=>if j=i then t else g j) (Z43 kvs (.inl (i:Int)) v) (Z43 kvs2 (.inl (i:Int)) u):=by
 obtain⟨n1,n2⟩:=d.no h
 refine⟨?_,?_,?_,fun j hj => ?_⟩
 ·rw[Zb0 v n1,List.map_append,List.map_append,d.k1];rfl
 ·rw[Zb0 u n2,List.map_append,List.map_append,d.k2];rfl
 ·rw[List.nodup_append]
  refine⟨d.nd,by simp,fun a ha b hb => ?_⟩
  rw[List.mem_singleton] at hb
  subst hb
  exact fun z=>h (z▸ha)
 ·rw[Z7z,Z7z]
  by_cases e:j=i
  ·subst e
   rw[if_pos rfl,if_pos rfl,if_pos rfl]
   exact⟨hp,⟨v,rfl,hv⟩,⟨u,rfl,hu⟩⟩
  ·have hne:¬ (Sum.inl (j:Int):Key)=Sum.inl (i:Int):=fun z=>e (by injection z with z;omega)
   rw[if_neg hne,if_neg hne,if_neg e]
   exact d.at1 j (by
    rcases List.mem_append.mp hj with z | z
    ·exact z
    ·exact absurd (List.mem_singleton.mp z) e)
theorem Zi6 {a b:Addr}{H H':Hp}(k:Kp H H'):Kp (off a b H) (off a b H'):=fun c o e n=>by
 unfold off at e ⊢
 split at e
 ·cases e
 ·next h=>rw[if_neg h];exact k c o e n
inductive spGot (N:Nat)(vs:List V)(H:Hp)(Q:VK)(E_3:XK):Prop
 | mk (v1 v2:V) (p f:Th) (m:Nat) (_:vs = [v1,v2]) (_:Fm H v1 N p) (_:Fm H v2 N f) (_:m<64) (_:(∀i,i∈hs p↔i<m)) (_:((∀ σ,Tps σ->fl σ p≠f)->∀H',Same H H'->Q .non H')) (_:∀ σ,Tps σ->fl σ p=f->∀(a:Addr) (ws:List V) H',Same H H'->H' a=some (.tup ws)->IsThs H' ws ((List.range m).map σ)->Q (.ref a) H'):spGot N vs H Q E_3
theorem Zlq {H:Hp}:∀(vs:List V) (ts:List Th),vs.length=ts.length->(∀(j:Nat) (v:V) (t:Th),vs[j]? = some v->ts[j]? = some t->IsTh H v t)->IsThs H vs ts:=by
 intro vs
 induction vs with
 | nil=>intro ts h _;rw[List.eq_nil_of_length_eq_zero h.symm];exact .nil
 | cons v vs ih =>
  intro ts h k
  match ts,h with
  | t::ts,h=>exact .cons (k 0 v t rfl rfl) (ih ts (by simpa using h) fun j u x hu hx=>k (j+1) u x (by simpa using hu) (by simpa using hx))
mutual
theorem Zi7:∀t:Th,cnt t<=Th.sz t
 | .tup xs=>by rw[cnt,Th.sz];have:=Zfc xs;omega
 | .at _=>by simp [cnt]
 | .lst _=>by simp [cnt]
theorem Zfc:∀ts:List Th,Z14 ts<=szs ts
 | []=>by simp [Z14]
 | x::xs=>by rw[Z14,szs];have:=Zi7 x;have:=Zfc xs;omega
end
def msr:List (Th × Th)->Nat
 | []=>0
 | e::r=>cnt e.1+msr r
theorem Z8l:∀a b:List (Th × Th),msr (a++b)=msr a+msr b:=by
 intro a
 induction a with
 | nil=>intro b;simp [msr]
 | cons x a ih=>intro b;rw[List.cons_append,msr,msr,ih];omega
theorem Zju:∀{as bs:List Th},as.length=bs.length->msr (as.zip bs)=Z14 as:=by
 intro as
 induction as with
 | nil=>intro bs _;simp [msr,Z14]
 | cons a as ih =>
  intro bs h
  cases bs with
  | nil=>simp at h
  | cons b bs=>rw[List.zip_cons_cons,msr,Z14,ih (by simpa using h)]
def Zhd (N:Nat)(e:Th × Th):Prop:=PfT N e.1/\PfT N e.2/\Th.sz e.1<=100000/\Th.sz e.2<=100000
theorem Zjv {N:Nat}:∀st:List (Th × Th),(∀e∈st,Zhd N e)->st.length<=msr st:=by
 intro st
 induction st with
 | nil=>intro _;exact Nat.zero_le _
 | cons x st ih =>
  intro h
  have h1:=ih fun e he=>h e (List.mem_cons_of_mem _ he)
  have h2:=Z40 (h x (List.mem_cons_self ..)).1
  rw[msr,List.length_cons]
  omega
theorem Zlr {n:Nat}{t:Th}(h:PfT n t):plT (Zeb t)=true/\dp (Zeb t)<=2:=by
 have hh:∃xs,t = .tup xs/\Z24 (Z2x xs)=true/\dps (Z2x xs)<=0:=by
  cases n with
  | zero=>exact h.elim
  | succ n =>
   obtain⟨w,hd,ks,rfl,h1,h2,h3,h4,h5,h6⟩:=h
   refine⟨_,rfl,?_,?_⟩
   ·rw[Z2y fun k hk=>(h6 k hk).isTup,Z24,Z1c (a:=hd.map Th.at) fun x hx => ?_,plT]
    ·rfl
    ·obtain⟨v,hv,rfl⟩:=List.mem_map.mp hx
     exact h2 v hv
   ·rw[Z2y fun k hk=>(h6 k hk).isTup]
    refine Z3z fun x hx => ?_
    rcases List.mem_cons.mp hx with rfl | hx
    ·rw[L2.dp];exact Nat.zero_le _
    ·obtain⟨v,_,rfl⟩:=List.mem_map.mp hx
     rw[L2.dp];exact Nat.zero_le _
 obtain⟨xs,rfl,a,b⟩:=hh
 unfold Zeb
 dsimp only
 constructor
 ·simp [plT,Z24,a]
 ·rw[L2.dp,dps,L2.dp,dps,L2.dp,dps]
  omega
theorem Zby:∀(n:Nat) {t:Th},PfT n t->∀x∈Z19 t,plT x=true/\dp x<=2:=by
 intro n
 induction n with
 | zero=>intro t h;exact h.elim
 | succ n ih =>
  intro t h x hx
  have hr:=Zlr h
  obtain⟨w,hd,ks,rfl,h1,h2,h3,h4,h5,h6⟩:=h
  unfold nd at hx hr
  rw[Z4u,Z2d fun k hk=>(h6 k hk).isTup] at hx
  rcases List.mem_cons.mp hx with rfl | hx
  ·exact hr
  ·obtain⟨l,hl,hx⟩:=List.mem_flatten.mp hx
   obtain⟨k,hk,rfl⟩:=List.mem_map.mp hl
   exact ih (h6 k hk) x hx
theorem Zbz {n:Nat}{t:Th}(h:PfT n t):Z24 (Z19 t)=true/\dps (Z19 t)<=2:=⟨Z1c fun x hx=>(Zby n h x hx).1,Z3z fun x hx=>(Zby n h x hx).2⟩
mutual
theorem Zls {H:Hp}{a:Addr}{xs:List V}(h:H a=some (.lst xs)):∀{v:V} {t:Th},IsTh H v t->plT t=true->IsTh (off a a H) v t
 | _,_,.at f,_ => .at f
 | _,_,.tup e r,p=>by
  rw[plT] at p
  have hn:=Z1b e h (by intro q;cases q)
  exact .tup (Z21 e hn hn) (Zao h r p)
 | _,_,.lst e r,p=>by rw[plT] at p;cases p
theorem Zao {H:Hp}{a:Addr}{xs:List V}(h:H a=some (.lst xs)):∀{vs:List V} {ts:List Th},IsThs H vs ts->Z24 ts=true->IsThs (off a a H) vs ts
 | _,_,.nil,_ => .nil
 | _,_,.cons e r,p=>by
  rw[Z24,Bool.and_eq_true] at p
  exact .cons (Zls h e p.1) (Zao h r p.2)
end
theorem few {ks:List Nat}{m:Nat}(nd:ks.Nodup)(h:∀i∈ks,i<m):ks.length<=m:=by
 have p:ks.Perm ((List.range m).filter fun i=>decide (i∈ks)):=(List.perm_ext_iff_of_nodup nd (List.nodup_range.filter _)).mpr fun i=>by
  rw[List.mem_filter,List.mem_range,decide_eq_true_eq]
  exact⟨fun z=>⟨h i z,z⟩,fun z=>z.2⟩
 rw[p.length_eq]
 have:=List.length_filter_le (fun i=>decide (i∈ks)) (List.range m)
 rw[List.length_range] at this
 exact this
theorem Zna:(["found","number"]:List Str).Nodup:=by decide +kernel
section
variable {P:Program}{w:World}{K:PySem.W.Frag}{mg:Str->Option Value}{base:Heap}
structure HG (K:PySem.W.Frag)(mg:Str->Option Value)(fF fA:Addr)(dF dA:FuncData):Prop where
 F:Fun K "flat" "flat" Za9 fF dF
 bF:Binds K dF ["tree"] []
 mF:mg "flat"=some (.ref fF)
 A:Fun K "headed_alike" "headed_alike" Z5m fA dA
 bA:Binds K dA ["forms"] []
 mA:mg "headed_alike"=some (.ref fA)
 all:mg "all"=none
 lst:mg "list"=none
 zip:mg "zip"=none
 srt:mg "sorted"=none
theorem scGot:FnScope ["pattern","other","found","kept","waiting","here","form","rows"] ["pattern","other"] (Z05 Zk3):=⟨rfl,rfl,rfl,by decide +kernel,rfl,by decide +kernel,by decide +kernel⟩
theorem Zlt {f fP fH fS fF fA:Addr}{fd dP dH dS dF dA:FuncData}(F:Fun K "got" "got" Zk3 f fd)(U:HT K mg fP fH fS dP dH dS)(W:HG K mg fF fA dF dA)(N:Nat):FnOk P w K mg base CX0 4 f fd ["pattern","other"] (spGot N):=by
 have GP:FnOk P w K mg base CX0 1 fP dP ["e"] spParts:=Z4t U.P U.T U.KI
 have GF:FnOk P w K mg base CX0 3 fF dF ["tree"] (spFlat N):=Zed W.F U N
 have GA:FnOk P w K mg base CX0 2 fA dA ["forms"] (spAlike N):=Zf9 W.A U W.all N
 refine F.ok scGot (fun vs H Q E h => ?_) (fun cdv A outer s H vs Q E hr h => ?_)
 ·obtain⟨v1,v2,p,f,m,rfl,_⟩:=h
  rfl
 ·obtain⟨v1,v2,p,f,m,rfl,f1,f2,hm,hh,k1,k2⟩:=h
  have hsz:sizeLine=16777216:=sizeLine_eq
  have hr1:Room 1 _:=hr.mono (by decide)
  have hr2:Room 2 _:=hr.mono (by decide)
  have hr3:Room 3 _:=hr.mono (by decide)
  have hu:(_:Around).units+(2+1)<cLine:=Nat.lt_of_le_of_lt (Nat.add_le_add_left (by decide) _) hr.units
  have hu1:(_:Around).units+1<cLine:=Nat.lt_of_le_of_lt (Nat.add_le_add_left (by decide) _) hr.units
  refine'⟨?tt,?body,?fin⟩
  case body =>
   refine' Z03 ?s1 ?r1
   case s1=>exact Z0c (i:=2) scGot.nd rfl (Or.inr rfl) Zb2
   case r1 =>
    refine' Z03 ?s2 ?r2
    case s2=>exact Z0c (i:=3) scGot.nd rfl (Or.inl rfl) Zb2
    case r2 =>
     refine' Z0u ?s3 ?r3
     case s3=>exact Z0c (i:=4) scGot.nd rfl (Or.inl rfl) (Z1p (Zfw (Z1h (Z0h (pv 0) (Z0h (pv 1) Z01))) Z01))
     case r3 =>
      refine' Z03 ?s4 (Z07 ?s5)
      case s4 =>
       refine' Z5u PassesOwn.never ?c (Z03 ?b1 (Z07 ?b2))
       case c=>exact Z7t (pv 4) (fun _=>rfl)
       case b1=>exact Zhj (Zdi PySem.F.plainAttrs_list PySem.F.slot_list_pop PySem.F.type_list_pop Zdj (pv 4)) (Zas rfl (Z2z (Z0m (i:=5) scGot.nd rfl (Or.inl rfl)) (Z2z (Z0m (i:=6) scGot.nd rfl (Or.inl rfl)) Z7s)))
       case b2 =>
        refine' Z17 ?d (Z03 ?c1 (Z03 ?c2 (Z07 ?c3))) (Z07 ?e1)
        case d=>exact Z0f Z1l (Z0y Z1z (pv 5) Z04 (fun _ _=>rfl)) Z0e (Z0j _)
        case c1=>exact Z0c (i:=7) scGot.nd rfl (Or.inl rfl) (Z06 GF hr3 (by rfl) W.mF W.F.kp W.bF .nil Z0g (Z0h (pv 6) Z01))
        case c2 =>
         refine' Z17 ?e (Z07 ?g) Z0k
         case e=>exact Z0f (Zin (K:=K) rfl 2 hu) (Zg5 (pv 3) (Z0y Z1z (pv 5) Z04 (fun _ _=>rfl)) (pv 7) ⟨rfl,rfl,rfl,rfl⟩) (pv 7) (Z0j _)
         case g=>exact Z0l Zd2
        case c3=>exact Z4f hu1 (pv 2) (Z0y Z1z (pv 5) Z04 (fun _ _=>rfl)) (pv 6) rfl
        case e1 =>
         refine' Z17 ?e2 (Z07 ?g2) (Z07 ?g3)
         case e2=>exact Z3p (Z06 GA hr2 (by rfl) W.mA W.A.kp W.bA .nil Z0g (Zfw (Z1h (Z0h (pv 5) (Z0h (pv 6) Z01))) Z01))
         case g2 =>
          refine' Z2k ?m
          case m =>
           refine' Z59 PySem.F.plainAttrs_list PySem.F.slot_list_extend PySem.F.type_list_extend Z67 (pv 4) ?a
           case a =>
            refine' Z09 ?z Z01
            case z=>exact Zir rfl (by rfl) W.lst (by rfl) W.zip (Z2s (Z06 GP hr1 (by rfl) U.mP U.P.kp U.bP .nil Z0g (Z0h (pv 5) Z01)) (Z2s (Z06 GP hr1 (by rfl) U.mP U.P.kp U.bP .nil Z0g (Z0h (pv 6) Z01)) Z01))
         case g3=>exact Z0l Zd2
      case s5 =>
       refine' Z0l ?r
       case r =>
        refine' Z10 Z0s (by rfl) U.T.tup (by decide +kernel) ?a2
        case a2 =>
         refine' Z09 ?c4 Z01
         case c4 =>
          refine' Z1a (N' := ["found","number"]) (src := [some 2,none]) ?k1 ?k5 ?k6 ?k7
          case k1=>rfl
          case k5=>exact Z0i (Z05 Zk3) rfl ["pattern","other","found","kept","waiting","here","form","rows"] rfl (by decide +kernel)
          case k6=>exact Z2l (Z0d (Z5q rfl) (by rfl) W.srt (by decide +kernel) (Z0h (pv 2) Z01))
          case k7 =>
           intro cl C ex s0 H0
           exact⟨Z0m (i:=1) Zna rfl (Or.inl rfl),Z1d,Z12 hu1 (pv 0) (pv 1) (fun _ _=>rfl)⟩
  case fin =>
   refine fun fa hfa=>fun ka hka=>⟨fun σ' H'=>∃wa p0,σ' = [some v1,some v2,some (.ref fa),some (.ref ka),some (.ref wa),none,none,none]/\H wa=none/\fa≠ka/\Same H H'/\H' fa=some (.dK [])/\H' ka=some (.dK [])/\H' wa=some (.lst [.ref p0])/\H' p0=some (.tup [v1,v2]),?_,?_⟩
   ·refine⟨_,rfl,_,rfl,(by show 2<=sizeLine;decide),fun p0 hp0=>⟨(by show 1<=sizeLine;decide),fun wa hwa => ?_⟩⟩
    have z1:=Z02 (o := .dK []) hfa
    have z2:=Z02 (o := .dK []) hka
    have z3:=Z02 (o := .tup [v1,v2]) hp0
    have z4:=Z02 (o := .lst [.ref p0]) hwa
    have za:=(z1.trans z2).trans z3
    refine⟨wa,p0,rfl,Z1v za hwa,fun z => ?_,za.trans z4,z4 _ _ (z3 _ _ (z2 _ _ Z00)),z4 _ _ (z3 _ _ Z00),Z00,z4 _ _ Z00⟩
    rw[<- z,Z00] at hka
    cases hka
   have hka0:H ka=none:=Z1v (Z02 hfa) hka
   rintro σ0 H1 ⟨wa,p0,rfl,hwa,hfk,s1,F1,K1,W1,P1⟩
   refine Za0 (fun mm σ H'=>∃(ws:List V) (st:List (Th × Th)) (ks:List Nat) (g:Nat->Th) (kvs kvs2:List (Key × V)) (o5 o6 o7:Option V),σ = [some v1,some v2,some (.ref fa),some (.ref ka),some (.ref wa),o5,o6,o7]/\Same H H' ∧
     H' wa=some (.lst ws)/\IsThs (off wa wa H') ws (st.map pp)/\(∀e∈st,Zhd N e)/\H' fa=some (.dK kvs)/\H' ka=some (.dK kvs2)/\DD (off wa wa H') N ks g kvs kvs2 ∧
     (∀ σ,Tps σ->(fl σ p=f↔((∀i∈ks,σ i=g i)/\∀e∈st,fl σ e.1=e.2)))/\(∀i,i∈hs p↔(i∈ks∨∃e∈st,i∈hs e.1))/\msr st<=100000/\mm=msr st)
    (msr [(p,f)]) ⟨[.ref p0],[(p,f)],[],fun _ => .tup [],[],[],none,none,none,rfl,s1,W1,?_,?_,F1,K1,⟨rfl,rfl,List.nodup_nil,fun i hi=>by cases hi⟩,?_,?_,?_,rfl⟩ ?_ ?_
   ·have hpw:p0≠wa:=Z1b P1 W1 (by intro q;cases q)
    exact .cons (.tup (Z21 P1 hpw hpw) (.cons (IsTh.kp (Kp.of (Ze9 s1 hwa hwa)) f1.is) (.cons (IsTh.kp (Kp.of (Ze9 s1 hwa hwa)) f2.is) .nil))) .nil
   ·intro e he
    rw[List.mem_singleton] at he
    subst he
    exact⟨f1.pf,f2.pf,f1.sz,f2.sz⟩
   ·intro σ _
    simp
   ·intro i
    simp
   ·have:=Zi7 p
    have:=f1.sz
    simp only [msr]
    omega
   ·rintro mm σ H2 ⟨ws,st,ks,g,kvs,kvs2,o5,o6,o7,rfl,s2,W2,hst,hall,F2,K2,dd,hsol,hhs,hms,rfl⟩
    refine⟨_,rfl,_,.inl ⟨ws,SqL.of W2,rfl⟩,?_⟩
    cases hws:ws.isEmpty with
    | true =>
     have e:ws = []:=List.isEmpty_iff.mp hws
     subst e
     refine Z4l ?_
     have est:st = []:=by
      have:=IsThs.len _ hst
      rw[List.length_map] at this
      exact List.eq_nil_of_length_eq_zero this.symm
     subst est
     have hin:∀i,i∈ks↔i<m:=fun i=>by
      rw[<- hh i,hhs i]
      simp
     have hs2:Tps (fun i=>if i∈ks then g i else .tup []):=fun i=>by
      show L2.isTup (if i∈ks then g i else .tup [])=true
      split
      ·next h=>exact(dd.at1 i h).1.isTup
      ·rfl
     have hso:fl (fun i=>if i∈ks then g i else .tup []) p=f:=(hsol _ hs2).mpr ⟨fun i hi=>by show(if i∈ks then g i else .tup [])=g i;rw[if_pos hi],fun e he=>by cases he⟩
     have hkl:ks.length<64:=by
      have p1:ks.Perm (List.range m):=(List.perm_ext_iff_of_nodup dd.nd List.nodup_range).mpr fun i=>by rw[hin,List.mem_range]
      rw[p1.length_eq,List.length_range]
      exact hm
     refine⟨_,rfl,fa,kvs,ks.map fun(i:Nat)=>(i:Int),rfl,F2,by rw[dd.k1,List.map_map];rfl,by rw[List.length_map];exact hkl,fun ns l pm srt hl=>⟨l,rfl,⟨_,SqL.of Z00⟩,?_⟩⟩
     have ens:=Z9h dd.nd hin pm srt
     subst ens
     have sl:=Z02 (o := .lst (((List.range m).map fun(i:Nat)=>(i:Int)).map V.int)) hl
     refine Z1q (K:=K) (a:=l) (xs:=((List.range m).map fun(i:Nat)=>(i:Int)).map V.int) (fun i ys σc H'=>∃o,σc = [some (.ref fa),o]/\H'=upd H2 l (.lst (((List.range m).map fun(i:Nat)=>(i:Int)).map V.int))/\ys.length=i/\IsThs H2 ys ((List.range i).map fun i=>if i∈ks then g i else .tup []))
      ⟨none,rfl,rfl,rfl,.nil⟩ (fun i ys σc H' ⟨_,_,e,_⟩=>by rw[e];exact SqL.of Z00) ?_ ?_
     ·rintro i x ys σc H' hx hi ⟨o,rfl,rfl,hyl,hys⟩
      have hi':i<m:=by simpa using hi
      have ex:x = .int (i:Nat):=by
       rw[List.getElem?_map,List.getElem?_map,List.getElem?_range hi'] at hx
       cases hx
       rfl
      subst ex
      have hik:=(hin i).mpr hi'
      obtain⟨_,⟨v,hv,hvt⟩,_⟩:=dd.at1 i hik
      refine⟨by omega,_,rfl,_,rfl,fa,v,rfl,?_,nx hi ⟨_,rfl,rfl,by rw[List.length_append,hyl];rfl,?_⟩⟩
      ·have hd:=DGet.k (k := .inl ((i:Nat):Int)) (sl _ _ F2)
       rw[hv] at hd
       exact hd
      ·rw[List.range_succ,List.map_append]
       refine IsThs.app _ hys (.cons ?_ .nil)
       show IsTh H2 v (if i∈ks then g i else .tup [])
       rw[if_pos hik]
       exact IsTh.kp (Kp.of off_sub) hvt
     ·rintro ys σc H' ⟨o,rfl,rfl,hyl,hys⟩ l2 hl2
      have hyl':ys.length=m:=by simpa using hyl
      have s3:=Z02 (o := .lst ys) hl2
      refine⟨l2,_,rfl,.inl ⟨SqL.of Z00,fun q hq => ?_⟩⟩
      have s4:=Z02 (o := .tup ys) hq
      have sA:=(sl.trans s3).trans s4
      refine k2 _ hs2 hso q ys _ (s2.trans sA) Z00 (IsThs.kp (Kp.of sA) ?_)
      have e2:(((List.range m).map fun(i:Nat)=>(i:Int)).map V.int).length=m:=by simp
      rw[e2] at hys
      exact hys
    | false =>
     have hne:ws ≠ []:=fun z=>by rw[z] at hws;cases hws
     obtain⟨ws',st',t,u,a,vt,vu,rfl,rfl,hst',ha,hvt,hvu⟩:=Zhb hst hne
     refine Z71 ?_
     refine⟨_,rfl,.inl ⟨rfl,_,SqL.of W2⟩,wa,_,.ref a,rfl,rfl,W2,(by rw[List.length_append];simp),?_⟩
     rw[List.dropLast_concat]
     obtain⟨pt,pu,zt,zu⟩:=hall (t,u) (List.mem_append_right _ (List.mem_singleton.mpr rfl))
     have hall':∀x∈st',Zhd N x:=fun x hx=>hall x (List.mem_append_left _ hx)
     have hat:upd H2 wa (.lst ws') a=some (.tup [vt,vu]):=by
      have h1:=off_sub _ _ ha
      rw[Z08 (Z1b h1 W2 (by intro q;cases q))]
      exact h1
     refine⟨a,[vt,vu],rfl,SqT.of hat,rfl,_,_,rfl,_,_,rfl,rfl,?_⟩
     have eo:off wa wa (upd H2 wa (.lst ws'))=off wa wa H2:=Z5y
     have Wx:upd H2 wa (.lst ws') wa=some (.lst ws'):=Z00
     have Fx:upd H2 wa (.lst ws') fa=some (.dK kvs):=by rw[Z08 (Z1b F2 W2 (by intro q;cases q))];exact F2
     have Kx:upd H2 wa (.lst ws') ka=some (.dK kvs2):=by rw[Z08 (Z1b K2 W2 (by intro q;cases q))];exact K2
     have sx:Same H (upd H2 wa (.lst ws')):=fun b ob e=>by rw[Z08 (Z0a e hwa)];exact s2 b ob e
     rw[<- eo] at hst' dd hvt hvu
     generalize upd H2 wa (.lst ws')=H3 at Wx Fx Kx sx hst' dd hvt hvu ⊢
     clear hst ha hat W2 F2 K2 s2 eo
     have hms':msr st'+cnt t<=100000:=by rw[Z8l] at hms;simpa [msr] using hms
     cases N with
     | zero=>exact pt.elim
     | succ N' =>
     have pt0:=pt
     obtain⟨w0,hd,kt,rfl,t1,t2,t3,t4,t5,t6⟩:=pt0
     obtain⟨an,vns,evn,han,hvns⟩:=Z1i hvt
     have han3:=off_sub _ _ han
     subst evn
     cases hvns with
     | @cons vh vr _ _ c1 c2 =>
      obtain⟨rfl,_⟩:=Z4a c1
      refine⟨_,rfl,an,_,0,.str w0,rfl,rfl,SqT.of han3,Z1g _ _,rfl,_,rfl,Z22 (fun g2 => ?_) (fun g2 => ?_)⟩
      ·have hw0:w0="hole":=by
        have g':=of_decide_eq_true g2
        injection g'
       subst hw0
       obtain⟨i,rfl,rfl⟩:=t4 rfl
       have ehs:hs (nd "hole" [.int (i:Nat)] []) = [i]:=Z1x
       have efl:∀ σ:Nat->Th,fl σ (nd "hole" [.int (i:Nat)] [])=σ i:=fun σ=>Z1m
       have hct:1<=cnt (nd "hole" [.int (i:Nat)] []):=Z40 pt
       have hlt:msr st'<msr (st' ++ [(nd "hole" [.int (i:Nat)] [],u)]):=by
        rw[Z8l]
        show msr st'<msr st'+(cnt (nd "hole" [.int (i:Nat)] [])+0)
        omega
       cases c2 with
       | @cons vi vr2 _ _ c3 c4 =>
        cases c4
        obtain⟨rfl,_⟩:=Z4a c3
        refine⟨_,rfl,vu,u,rfl,IsTh.kp (Kp.of off_sub) hvu,pu.ok,zu,fun r rs H4 s4 hr0 hr4 hrs => ?_⟩
        have hrw:r≠wa:=fun z=>by rw[z,Wx] at hr0;cases hr0
        have o4:=Z0x (a:=wa) (b:=wa) s4
        obtain⟨fp1,fp2⟩:=Zbz pu
        have dd4:=dd.kp (Kp.of o4)
        have W4:=s4 _ _ Wx
        have F4:=s4 _ _ Fx
        have K4:=s4 _ _ Kx
        have an4:=s4 _ _ han3
        have hvu4:=IsTh.kp (Kp.of o4) hvu
        have hst4:=IsThs.kp (Kp.of o4) hst'
        have sx4:=sx.trans s4
        have hrl4:IsTh (off wa wa H4) (.ref r) (.lst (Z19 u)):=by
         refine .lst (Z21 hr4 hrw hrw) (Zao W4 hrs fp1)
        clear hrs hst' dd hvt hvu o4
        have hkl:kvs2.length<sizeLine:=by
         have e2:=congrArg List.length dd4.k2
         rw[List.length_map,List.length_map] at e2
         have e3:ks.length<=m:=few dd4.nd fun i hi=>(hh i).mp ((hhs i).mpr (.inl hi))
         omega
        refine⟨_,rfl,ka,rfl,.inl ⟨_,.inl K4⟩,_,rfl,an,_,1,.int (i:Nat),rfl,rfl,SqT.of an4,Z5g _ _ _,_,rfl,kvs2,.inl ((i:Nat):Int),K4,rfl,hkl,fun v2' hv2 => ?_,fun hn2 => ?_⟩
        ·have hik:i∈ks:=by
          by_cases z:i∈ks
          ·exact z
          ·rw[(dd4.no z).2] at hv2
           cases hv2
         obtain⟨pg,⟨va,ea,ta⟩,⟨vb,eb,tb⟩⟩:=dd4.at1 i hik
         rw[eb] at hv2
         cases hv2
         obtain⟨gp1,gp2⟩:=Zbz pg
         refine⟨_,rfl,Z19 (g i),Z19 u,IsTh.kp (Kp.of off_sub) tb,IsTh.kp (Kp.of off_sub) hrl4,gp1,fp1,gp2,fp2,fun e=>⟨_,rfl,Z4l ?_⟩,fun ne=>⟨_,rfl,Z71 ?_⟩⟩
         ·have egu:g i=u:=Ziu pg pu e
          refine⟨_,rfl,_,rfl,_,rfl,an,_,1,.int (i:Nat),rfl,rfl,SqT.of an4,Z5g _ _ _,fa,_,rfl,DPut.k (k := .inl ((i:Nat):Int)) F4 ?_,?_⟩
          ·have e2:=congrArg List.length dd4.k1
           rw[List.length_map,List.length_map] at e2
           have e3:ks.length<=m:=few dd4.nd fun i hi=>(hh i).mp ((hhs i).mpr (.inl hi))
           omega
          ·have kp:=Zi6 (a:=wa) (b:=wa) (Zeg (kvs':=Z43 kvs (.inl ((i:Nat):Int)) vu) F4)
           refine⟨msr st',hlt,ws',st',ks,g,_,kvs2,_,_,_,rfl,?_,?_,IsThs.kp kp hst4,hall',Z00,?_,(dd4.again hik (by rw[egu];exact hvu4)).kp kp,?_,?_,by omega,rfl⟩
           ·intro b ob e2
            rw[Z08 (Z0a e2 hfa)]
            exact sx4 _ _ e2
           ·rw[Z08 (Z1b W4 F4 (by intro q;cases q))]
            exact W4
           ·rw[Z08 hfk.symm]
            exact K4
           ·intro σ hσ
            rw[hsol σ hσ]
            constructor
            ·rintro⟨q1,q2⟩
             exact⟨q1,fun e he=>q2 e (List.mem_append_left _ he)⟩
            ·rintro⟨q1,q2⟩
             refine⟨q1,fun e he => ?_⟩
             rcases List.mem_append.mp he with z | z
             ·exact q2 e z
             ·rw[List.mem_singleton] at z
              subst z
              show fl σ (nd "hole" [.int (i:Nat)] [])=u
              rw[efl,q1 i hik,egu]
           ·intro j
            rw[hhs j]
            constructor
            ·rintro(z | ⟨e,he,z⟩)
             ·exact .inl z
             ·rcases List.mem_append.mp he with y | y
              ·exact .inr ⟨e,y,z⟩
              ·rw[List.mem_singleton] at y
               subst y
               have z':j∈hs (nd "hole" [.int (i:Nat)] []):=z
               rw[ehs,List.mem_singleton] at z'
               rw[z']
               exact .inl hik
            ·rintro(z | ⟨e,he,z⟩)
             ·exact .inl z
             ·exact .inr ⟨e,List.mem_append_left _ he,z⟩
         ·refine k1 (fun σ hσ hf => ?_) _ sx4
          obtain⟨q1,q2⟩:=(hsol σ hσ).mp hf
          have q3:=q2 (nd "hole" [.int (i:Nat)] [],u) (List.mem_append_right _ (List.mem_singleton.mpr rfl))
          rw[efl,q1 i hik] at q3
          exact ne (by rw[q3])
        ·have hik:i∉ks:=fun z=>by
          obtain⟨_,_,⟨vb,eb,_⟩⟩:=dd4.at1 i z
          rw[eb] at hn2
          cases hn2
         have kp1:=Zeg (kvs':=Z43 kvs2 (.inl ((i:Nat):Int)) (.ref r)) K4
         have F5:upd H4 ka (.dK (Z43 kvs2 (.inl ((i:Nat):Int)) (.ref r))) fa=some (.dK kvs):=by rw[Z08 hfk];exact F4
         have an5:=kp1 _ _ an4 (by intro kvs q;cases q)
         have W5:=kp1 _ _ W4 (by intro kvs q;cases q)
         have hrl5:=IsTh.kp (kp1.trans (Kp.refl _)) (IsTh.kp (Kp.of off_sub) hrl4)
         refine⟨_,rfl,Z19 u,Z19 u,hrl5,hrl5,fp1,fp1,fp2,fp2,fun e=>⟨_,rfl,Z4l ?_⟩,fun ne=>absurd rfl ne⟩
         refine⟨_,rfl,_,rfl,_,rfl,an,_,1,.int (i:Nat),rfl,rfl,SqT.of an5,Z5g _ _ _,fa,_,rfl,DPut.k (k := .inl ((i:Nat):Int)) F5 ?_,?_⟩
         ·have e2:=congrArg List.length dd4.k1
          rw[List.length_map,List.length_map] at e2
          have e3:ks.length<=m:=few dd4.nd fun i hi=>(hh i).mp ((hhs i).mpr (.inl hi))
          omega
         ·have kp2:=kp1.trans (Zeg (kvs':=Z43 kvs (.inl ((i:Nat):Int)) vu) F5)
          have kp:=Zi6 (a:=wa) (b:=wa) kp2
          refine⟨msr st',hlt,ws',st',ks ++ [i],_,_,_,_,_,_,rfl,?_,?_,IsThs.kp kp hst4,hall',Z00,?_,(dd4.more hik pu hvu4 hrl4).kp kp,?_,?_,by omega,rfl⟩
          ·intro b ob e2
           rw[Z08 (Z0a e2 hfa),Z08 (Z0a e2 hka0)]
           exact sx4 _ _ e2
          ·rw[Z08 (Z1b W5 F5 (by intro q;cases q))]
           exact W5
          ·rw[Z08 hfk.symm,Z00]
          ·intro σ hσ
           rw[hsol σ hσ]
           constructor
           ·rintro⟨q1,q2⟩
            refine⟨fun j hj => ?_,fun e he=>q2 e (List.mem_append_left _ he)⟩
            have q3:=q2 (nd "hole" [.int (i:Nat)] [],u) (List.mem_append_right _ (List.mem_singleton.mpr rfl))
            rw[efl] at q3
            show σ j=if j=i then u else g j
            by_cases z:j=i
            ·rw[if_pos z,z];exact q3
            ·rw[if_neg z]
             rcases List.mem_append.mp hj with y | y
             ·exact q1 j y
             ·exact absurd (List.mem_singleton.mp y) z
           ·rintro⟨q1,q2⟩
            refine⟨fun j hj => ?_,fun e he => ?_⟩
            ·have q3:σ j=if j=i then u else g j:=q1 j (List.mem_append_left _ hj)
             rw[if_neg (fun(z:j=i)=>hik (z▸hj))] at q3
             exact q3
            ·rcases List.mem_append.mp he with z | z
             ·exact q2 e z
             ·rw[List.mem_singleton] at z
              subst z
              show fl σ (nd "hole" [.int (i:Nat)] [])=u
              have q3:σ i=if i=i then u else g i:=q1 i (List.mem_append_right _ (List.mem_singleton.mpr rfl))
              rw[if_pos rfl] at q3
              rw[efl,q3]
          ·intro j
           rw[hhs j]
           constructor
           ·rintro(z | ⟨e,he,z⟩)
            ·exact .inl (List.mem_append_left _ z)
            ·rcases List.mem_append.mp he with y | y
             ·exact .inr ⟨e,y,z⟩
             ·rw[List.mem_singleton] at y
              subst y
              have z':j∈hs (nd "hole" [.int (i:Nat)] []):=z
              rw[ehs] at z'
              exact .inl (List.mem_append_right _ z')
           ·rintro(z | ⟨e,he,z⟩)
            ·rcases List.mem_append.mp z with y | y
             ·exact .inl y
             ·exact .inr ⟨_,List.mem_append_right _ (List.mem_singleton.mpr rfl),by show j∈hs (nd "hole" [.int (i:Nat)] []);rw[ehs];exact y⟩
            ·exact .inr ⟨e,List.mem_append_left _ he,z⟩
      ·have hw0:w0≠"hole":=fun z=>g2 (by rw[z];decide +kernel)
       have pu0:=pu
       obtain⟨w1,hd1,ku,rfl,u1,u2,u3,u4,u5,u6⟩:=pu0
       have nt:∀k∈kt,L2.isTup k=true:=fun k hk=>(t6 k hk).isTup
       have nu:∀k∈ku,L2.isTup k=true:=fun k hk=>(u6 k hk).isTup
       have hfn:∀ σ,Tps σ->(fl σ (nd w0 hd kt)=nd w1 hd1 ku↔(lk (nd w0 hd kt)=lk (nd w1 hd1 ku)/\∀e∈kt.zip ku,fl σ e.1=e.2)):=fun σ hσ=>Zjt hσ hw0 t6 u6
       refine⟨_,rfl,_,rfl,(by show 2<=sizeLine;decide),fun q hq => ?_⟩
       have sq:=Z02 (o := .tup [.ref an,vu]) hq
       refine⟨q,.ref an,vu,nd w0 hd kt,nd w1 hd1 ku,rfl,Z00,⟨IsTh.kp (Kp.of (off_sub.trans sq)) hvt,pt,zt⟩,⟨IsTh.kp (Kp.of (off_sub.trans sq)) hvu,pu,zu⟩,fun H4 s4=>⟨fun el=>⟨_,rfl,Z71 ?_⟩,fun nl=>⟨_,rfl,Z4l ?_⟩⟩⟩
       ·have sA:=sq.trans s4
        have oA:=Z0x (a:=wa) (b:=wa) sA
        have W4:=sA _ _ Wx
        have hvt4:=IsTh.kp (Kp.of oA) hvt
        have hvu4:=IsTh.kp (Kp.of oA) hvu
        have lkl:kt.length=ku.length:=by
         rw[Zha nt,Zha nu] at el
         exact congrArg Prod.snd el
        have lim:∀{w:Str} {hd:List V} {ks:List Th},hd.length<=1->ks.length<=6->(Th.at (.str w)::(hd.map Th.at++ks)).length<=1000000:=fun {w hd ks} a b=>by
         rw[List.length_cons,List.length_append,List.length_map];omega
        refine⟨_,rfl,.inl ⟨rfl,_,SqL.of W4⟩,_,rfl,off wa wa H4,.ref an,_,rfl,off_sub,hvt4,lim t1 t5,fun p1 ws1 H5 s5 hp5 hw5 => ?_⟩
        refine⟨_,rfl,off wa wa H4,vu,_,rfl,off_sub.trans s5,hvu4,lim u1 u5,fun p2 ws2 H6 s6 hp6 hw6 => ?_⟩
        rw[Z2d nt] at hw5
        rw[Z2d nu] at hw6
        have l1:=IsThs.len _ hw5
        have l2:=IsThs.len _ hw6
        refine⟨p1,p2,ws1,ws2,rfl,SqT.of (s6 _ _ hp5),SqT.of hp6,by omega,fun l H7 hl7 zp => ?_⟩
        have s7:Same H6 H7:=fun b o e=>zp.same b o (Z0a e hl7) e
        have sB:=(s5.trans s6).trans s7
        have oB:=Z0x (a:=wa) (b:=wa) sB
        have W7:=sB _ _ W4
        obtain⟨ps,pl,hl,pj⟩:=zp.ps
        have hnew:∀x∈st'++kt.zip ku,Zhd (N'+1) x:=fun x hx=>by
         rcases List.mem_append.mp hx with z | z
         ·exact hall' x z
         ·have z1:=(List.of_mem_zip z).1
          have z2:=(List.of_mem_zip z).2
          refine⟨(t6 _ z1).up,(u6 _ z2).up,?_,?_⟩
          ·have y1:=Zb9 (Th.at (.str w0)::(hd.map Th.at++kt)) x.1 (List.mem_cons_of_mem _ (List.mem_append_right _ z1))
           have y2:Th.sz (nd w0 hd kt)=1+szs (Th.at (.str w0)::(hd.map Th.at++kt)):=by unfold nd;rw[Th.sz]
           have y3:Th.sz (nd w0 hd kt)<=100000:=zt
           omega
          ·have y1:=Zb9 (Th.at (.str w1)::(hd1.map Th.at++ku)) x.2 (List.mem_cons_of_mem _ (List.mem_append_right _ z2))
           have y2:Th.sz (nd w1 hd1 ku)=1+szs (Th.at (.str w1)::(hd1.map Th.at++ku)):=by unfold nd;rw[Th.sz]
           have y3:Th.sz (nd w1 hd1 ku)<=100000:=zu
           omega
        have ecn:cnt (nd w0 hd kt)=1+Z14 kt:=by
         unfold nd
         rw[cnt,Z99,Z2d nt]
        have emz:msr (st'++kt.zip ku)=msr st'+Z14 kt:=by rw[Z8l,Zju lkl]
        have hlen:=Zjv _ hnew
        rw[List.length_append,List.length_zip,lkl,Nat.min_self] at hlen
        have hwl:=IsThs.len _ hst'
        rw[List.length_map] at hwl
        refine⟨wa,l,ws',ps.map V.ref,rfl,rfl,W7,hl,by rw[List.length_map,pl];omega,?_⟩
        have eo:off wa wa (upd H7 wa (.lst (ws'++ps.map V.ref)))=off wa wa H7:=Z5y
        refine⟨msr (st'++kt.zip ku),?_,ws'++ps.map V.ref,st'++kt.zip ku,ks,g,kvs,kvs2,_,_,_,rfl,?_,Z00,?_,hnew,?_,?_,?_,?_,?_,by omega,rfl⟩
        ·rw[emz,Z8l]
         show msr st'+Z14 kt<msr st'+(cnt (nd w0 hd kt)+0)
         omega
        ·intro b ob e
         rw[Z08 (Z0a e hwa)]
         exact sB _ _ (sA _ _ (sx _ _ e))
        ·rw[eo,List.map_append]
         refine IsThs.app _ (IsThs.kp (Kp.of oB) (IsThs.kp (Kp.of oA) hst')) (Zlq _ _ ?_ fun j v t hv ht => ?_)
         ·rw[List.length_map,List.length_map,List.length_zip,pl];omega
         ·rw[List.getElem?_map] at hv ht
          obtain⟨pa,hpa,rfl⟩:∃pa,ps[j]? = some pa/\V.ref pa=v:=by
           cases e:ps[j]? with
           | none=>rw[e] at hv;cases hv
           | some pa=>rw[e] at hv;exact⟨pa,rfl,by simpa using hv⟩
          obtain⟨e2,he2,rfl⟩:∃e2,(kt.zip ku)[j]? = some e2/\pp e2=t:=by
           cases e:(kt.zip ku)[j]? with
           | none=>rw[e] at ht;cases ht
           | some e2=>rw[e] at ht;exact⟨e2,rfl,by simpa using ht⟩
          obtain⟨_,x,y,hx,hy,hpt⟩:=pj j pa hpa
          obtain⟨a1,a2,a3⟩:=Z0q _ hw5 hx
          obtain⟨b1,b2,b3⟩:=Z0q _ hw6 hy
          have e3:=List.getElem?_zip_eq_some.mp he2
          rw[a2] at e3
          rw[b2] at e3
          have e4:a1=e2.1:=by simpa using e3.1
          have e5:b1=e2.2:=by simpa using e3.2
          have hpw:pa≠wa:=Z1b hpt W7 (by intro q;cases q)
          refine .tup (Z21 hpt hpw hpw) (.cons ?_ (.cons ?_ .nil))
          ·rw[<- e4];exact IsTh.kp (Kp.of oB) a3
          ·rw[<- e5];exact IsTh.kp (Kp.of oB) b3
        ·have:=sB _ _ (sA _ _ Fx)
         rw[Z08 (Z1b this W7 (by intro q;cases q))]
         exact this
        ·have:=sB _ _ (sA _ _ Kx)
         rw[Z08 (Z1b this W7 (by intro q;cases q))]
         exact this
        ·rw[eo]
         exact(dd.kp (Kp.of oA)).kp (Kp.of oB)
        ·intro σ hσ
         rw[hsol σ hσ]
         constructor
         ·rintro⟨q1,q2⟩
          refine⟨q1,fun e he => ?_⟩
          rcases List.mem_append.mp he with z | z
          ·exact q2 e (List.mem_append_left _ z)
          ·exact((hfn σ hσ).mp (q2 (nd w0 hd kt,nd w1 hd1 ku) (List.mem_append_right _ (List.mem_singleton.mpr rfl)))).2 e z
         ·rintro⟨q1,q2⟩
          refine⟨q1,fun e he => ?_⟩
          rcases List.mem_append.mp he with z | z
          ·exact q2 e (List.mem_append_left _ z)
          ·rw[List.mem_singleton] at z
           subst z
           exact(hfn σ hσ).mpr ⟨el,fun e he=>q2 e (List.mem_append_right _ he)⟩
        ·intro j
         rw[hhs j]
         constructor
         ·rintro(z | ⟨e,he,z⟩)
          ·exact .inl z
          ·rcases List.mem_append.mp he with y | y
           ·exact .inr ⟨e,List.mem_append_left _ y,z⟩
           ·rw[List.mem_singleton] at y
            subst y
            obtain⟨k,hk,hj⟩:=(Z3t hw0).mp z
            obtain⟨n,hn⟩:=List.getElem?_of_mem hk
            have hnl:n<kt.length:=(List.getElem?_eq_some_iff.mp hn).1
            refine .inr ⟨(k,ku[n]'(by omega)),List.mem_append_right _ ?_,hj⟩
            refine List.mem_of_getElem? (i:=n) (List.getElem?_zip_eq_some.mpr ⟨hn,List.getElem?_eq_getElem (by omega)⟩)
         ·rintro(z | ⟨e,he,z⟩)
          ·exact .inl z
          ·rcases List.mem_append.mp he with y | y
           ·exact .inr ⟨e,List.mem_append_left _ y,z⟩
           ·exact .inr ⟨_,List.mem_append_right _ (List.mem_singleton.mpr rfl),(Z3t hw0).mpr ⟨e.1,(List.of_mem_zip y).1,z⟩⟩
       ·refine k1 (fun σ hσ hf => ?_) _ (sx.trans (sq.trans s4))
        obtain⟨q1,q2⟩:=(hsol σ hσ).mp hf
        have q3:=q2 (nd w0 hd kt,nd w1 hd1 ku) (List.mem_append_right _ (List.mem_singleton.mpr rfl))
        exact nl ((hfn σ hσ).mp q3).1
   ·rintro σ H1 Q1 Q2 hq ⟨u1,e1,b1,e2,q⟩
    exact⟨u1,e1,b1,e2,hq _ _ q⟩
end
theorem Zc0 {σ τ : Nat->Th}:∀(n:Nat) {t:Th},PfT n t->(∀i∈hs t,σ i = τ i)->fl σ t=fl τ t:=by
 intro n
 induction n with
 | zero=>intro t h;exact h.elim
 | succ n ih =>
  intro t h e
  obtain⟨w,hd,ks,rfl,h1,h2,h3,h4,h5,h6⟩:=h
  by_cases hw:w="hole"
  ·subst hw
   obtain⟨i,rfl,rfl⟩:=h4 rfl
   rw[Z1m,Z1m]
   exact e i (by rw[Z1x];exact List.mem_singleton.mpr rfl)
  ·rw[Z3f hw,Z3f hw]
   refine congrArg (nd w hd) (List.map_congr_left fun k hk=>ih (h6 k hk) fun i hi=>e i ((Z3t hw).mpr ⟨k,hk,hi⟩))
theorem Zlu {σ:Nat->Th}{j:Nat}:∀(n:Nat) {t:Th},PfT n t->(j∈hs (fl σ t)↔∃i∈hs t,j∈hs (σ i)):=by
 intro n
 induction n with
 | zero=>intro t h;exact h.elim
 | succ n ih =>
  intro t h
  obtain⟨w,hd,ks,rfl,h1,h2,h3,h4,h5,h6⟩:=h
  by_cases hw:w="hole"
  ·subst hw
   obtain⟨i,rfl,rfl⟩:=h4 rfl
   rw[Z1m,Z1x]
   simp
  ·rw[Z3f hw,Z3t hw]
   constructor
   ·rintro⟨k,hk,hj⟩
    obtain⟨y,hy,rfl⟩:=List.mem_map.mp hk
    obtain⟨i,hi,h⟩:=(ih (h6 y hy)).mp hj
    exact⟨i,(Z3t hw).mpr ⟨y,hy,hi⟩,h⟩
   ·rintro⟨i,hi,h⟩
    obtain⟨y,hy,hi⟩:=(Z3t hw).mp hi
    exact⟨_,List.mem_map.mpr ⟨y,hy,rfl⟩,(ih (h6 y hy)).mpr ⟨i,hi,h⟩⟩
inductive spTurned (N:Nat)(vs:List V)(H:Hp)(Q:VK)(E_3:XK):Prop
 | mk (v:V) (m:Nat) (t:Th) (_:vs = [v,.int (m:Nat)]) (_:IsTh H v t) (_:PfT N t) (_:(∀i∈hs t,i<m)) (_:∀(v':V) H',Same H H'->IsTh H' v' (fl (fun i=>hol (m-1-i)) t)->Q v' H'):spTurned N vs H Q E_3
theorem Znb:(["_law_many","_law_one"]:List Str).Nodup:=by decide +kernel
section
variable {P:Program}{w:World}{K:PySem.W.Frag}{mg:Str->Option Value}{base:Heap}
theorem Zc1:FnScope ["_law_b","_law_many"] ["_law_b","_law_many"] (Z05 Z5e):=⟨rfl,rfl,rfl,by decide +kernel,rfl,by decide +kernel,by decide +kernel⟩
theorem Zfd {f fP fW:Addr}{fd dP dW:FuncData}(F:Fun K "_law_turned_about" "_law_turned_about" Z5e f fd)(b:Binds K fd ["_law_b","_law_many"] [])(m:mg "_law_turned_about"=some (.ref f))(U:HW K mg fP fW dP dW):∀N,FnOk P w K mg base CX0 (N+2) f fd ["_law_b","_law_many"] (spTurned N):=by
 have GP:FnOk P w K mg base CX0 1 fP dP ["_law_e"] spLawParts:=Z1w U.P U.T U.KI
 have GW:FnOk P w K mg base CX0 1 fW dW ["_law_e","_law_inner"] spWith:=Z5j U.W U.T U.KI
 intro N
 induction N with
 | zero =>
  refine F.ok Zc1 (fun vs H Q E h => ?_) (fun cdv A outer s H vs Q E hr h => ?_)
  ·obtain⟨v,m,t,rfl,_⟩:=h
   rfl
  ·obtain⟨v,m,t,rfl,_,h,_⟩:=h
   exact h.elim
 | succ N ih =>
  refine F.ok Zc1 (fun vs H Q E h => ?_) (fun cdv A outer s H vs Q E hr h => ?_)
  ·obtain⟨v,m,t,rfl,_⟩:=h
   rfl
  ·obtain⟨v,mm,t,rfl,hv,hD,hin,k⟩:=h
   have hsz:sizeLine=16777216:=sizeLine_eq
   have hr1:Room 1 _:=hr.mono (by omega)
   refine'⟨?tt,?body,?fin⟩
   case body =>
    refine' Z03 ?s1 (Z07 ?s2)
    case s1 =>
     refine' Z17 ?c (Z07 ?b) Z0k
     case c=>exact Z0f Z1l (Z0y Z1z (pv 0) Z04 (fun _ _=>rfl)) Z0e (Z0j _)
     case b =>
      refine' Z0l ?r0
      case r0 =>
       refine' Z1h ?a0
       case a0=>exact Z1r Z0e (Z09 (Z0n Z2o (Z0n Z2o (pv 1) Z04) (Z0y Z1z (pv 0) Z04 (fun _ _=>rfl))) Z01)
    case s2 =>
     refine' Z0l ?r
     case r =>
      refine' Z06 GW hr1 (by rfl) U.mW U.W.kp U.bW .nil Z0g ?a
      case a =>
       refine' Z0h (pv 0) ?a2
       case a2 =>
        refine' Z09 ?c Z01
        case c =>
         refine' Z1a (N' := ["_law_many","_law_one"]) (src := [some 1,none]) ?k1 ?k5 ?k6 ?k7
         case k1=>rfl
         case k5=>exact Z0i (Z05 Z5e) rfl ["_law_b","_law_many"] rfl (by decide +kernel)
         case k6=>exact Z2l (Z06 GP hr1 (by rfl) U.mP U.P.kp U.bP .nil Z0g (Z0h (pv 0) Z01))
         case k7=>exact fun cl C ex s0 H0=>⟨Z0m (i:=1) Znb rfl (Or.inl rfl),Z1d,Z06 ih hr (by rfl) m F.kp b .nil Z0g (Z0h (pv 1) (Z0h (pv 0) Z01))⟩
   case fin =>
    obtain⟨w0,hd,ks,rfl,h1,h2,h3,h4,h5,h6⟩:=hD
    have nk:∀k∈ks,L2.isTup k=true:=fun k hk=>(h6 k hk).isTup
    obtain⟨an,vns,rfl,han,hvns⟩:=Z1i hv
    cases hvns with
    | @cons vh vr _ _ c1 c2 =>
     obtain⟨rfl,_⟩:=Z4a c1
     refine⟨_,rfl,an,_,0,.str w0,rfl,rfl,SqT.of han,Z1g _ _,rfl,_,rfl,Z22 (fun g2 => ?_) (fun g2 => ?_)⟩
     ·have hw0:w0="hole":=by
       have g':=of_decide_eq_true g2
       injection g'
      subst hw0
      obtain⟨i,rfl,rfl⟩:=h4 rfl
      cases c2 with
      | @cons vi vr2 _ _ c3 c4 =>
       cases c4
       obtain⟨rfl,_⟩:=Z4a c3
       have hi:i<mm:=hin i (by rw[Z1x];exact List.mem_singleton.mpr rfl)
       refine⟨_,rfl,_,_,rfl,rfl,_,rfl,an,_,1,.int (i:Nat),rfl,rfl,SqT.of han,Z5g _ _ _,_,_,rfl,rfl,(by show 2<=sizeLine;decide),fun p hp => ?_⟩
       refine k _ _ (Z02 hp) ?_
       rw[Z1m]
       refine Z5n ?_
       rw[Z00]
       show some (HO.tup [.str "hole",.int (((mm:Nat):Int)-1-((i:Nat):Int))])=_
       rw[show((mm:Nat):Int)-1-((i:Nat):Int)=((mm-1-i:Nat):Int) by omega]
     ·have hw0:w0≠"hole":=fun z=>g2 (by rw[z];decide +kernel)
      refine⟨_,rfl,_,rfl,.ref an,w0,hd.map Th.at++ks,rfl,hv,by rw[List.length_append,List.length_map];omega,fun p ps H1 s1 hp0 hp hps => ?_⟩
      rw[Z3m nk] at hps
      have hl:=IsThs.len _ hps
      refine⟨p,rfl,⟨_,SqL.of hp⟩,Z1q (K:=K) (a:=p) (xs:=ps) (fun i ys σc H'=>∃(o:Option V),σc = [some (.int (mm:Nat)),o]/\ys.length=i/\IsThs H' ys ((ks.take i).map (fl fun i=>hol (mm-1-i)))/\Same H1 H')
       ⟨none,rfl,rfl,by rw[List.take_zero];exact .nil,Same.refl _⟩ (fun i ys σc H' ⟨_,_,_,_,e⟩=>SqL.of (e _ _ hp)) ?_ ?_⟩
      ·rintro i x ys σc H' hx hi ⟨o,rfl,hyl,hys,s2⟩
       obtain⟨t,ht,hxt⟩:=Z0q _ hps hx
       have htk:=List.mem_of_getElem? ht
       refine⟨by omega,?_⟩
       refine⟨_,rfl,_,rfl,x,mm,t,rfl,IsTh.kp (Kp.of s2) hxt,h6 t htk,fun j hj=>hin j ((Z3t hw0).mpr ⟨t,htk,hj⟩),fun v' H2 s3 hv'=>nx hi ⟨_,rfl,by rw[List.length_append,hyl];rfl,?_,s2.trans s3⟩⟩
       rw[List.take_add_one,ht,List.map_append]
       exact IsThs.app _ (IsThs.kp (Kp.of s3) hys) (.cons hv' .nil)
      ·rintro ys σc H' ⟨o,rfl,hyl,hys,s2⟩ q hq
       rw[List.take_of_length_le (by omega)] at hys
       have sq:=Z02 (o := .lst ys) hq
       have sA:=(s1.trans s2).trans sq
       refine⟨.ref an,q,_,_,ys,rfl,IsTh.kp (Kp.of sA) hv,by rw[List.length_cons,List.length_append,List.length_map];omega,Z00,IsThs.kp (Kp.of sq) hys,by rw[List.length_map];omega,fun r H3 s3 hr3 => ?_⟩
       rw[Z86 nk] at hr3
       refine k _ _ (sA.trans s3) ?_
       rw[Z3f hw0]
       exact hr3
end
end K20
namespace L2
open PySem PySem.Spec PyProof.Rows
inductive rInL (n:Nat)(x:V)(y:V)(H:Hp)(Q:VK):Prop
 | mk (l b:Addr) (cvs:List V) (C:List (List Th)) (c:List Th) (_:y = .ref l) (_:x = .ref b) (_:H l=some (.lst cvs)) (_:IsThs H cvs (C.map Th.lst)) (_:IsTh H (.ref b) (.lst c)) (_:(∀d∈C,Z24 d=true/\dps d<=n)) (_:Z24 c=true) (_:dps c<=n) (_:∀k:Bool,(k=true↔c∈C)->Q (.bl k) H):rInL n x y H Q
section
variable {X:Cx}
open Classical in
theorem Zlv (n:Nat)(hu:X.A.units+(n+2)<cLine):OpR X (compareOp .In) (rInL n):=by
 intro pins s σ H x y v u Q I rx ry h
 obtain⟨l,b,cvs,C,c,rfl,rfl,hH,hC,hb,hpl,p2,d2,q⟩:=h
 cases rx
 cases ry
 obtain⟨its,r,pl,_⟩:=I.list (SqL.of hH)
 have hl:cvs.length=its.length:=r.length
 have hCl:=IsThs.len _ hC
 rw[List.length_map] at hCl
 have hsz:sizeLine=16777216:=sizeLine_eq
 have val:∀(m:Nat) (hm:m<its.length),∃(a:Addr) (d:List Th),its[m] = .ref a/\C[m]? = some d/\IsTh H (.ref a) (.lst d)/\Z24 d=true/\dps d<=n:=fun m hm=>by
  have hm':m<cvs.length:=by omega
  obtain⟨t,ht,hx⟩:=Z0q _ hC (List.getElem?_eq_getElem hm')
  rw[List.getElem?_map] at ht
  cases ed:C[m]? with
  | none=>rw[ed] at ht;cases ht
  | some d =>
   rw[ed] at ht
   cases ht
   obtain⟨a,vs,ea,h1,h2⟩:=Z3d hx
   obtain⟨w,hw,rw'⟩:=r.get (List.getElem?_eq_getElem hm')
   rw[ea] at rw' hx
   rw[List.getElem?_eq_getElem hm] at hw
   cases rw'
   have hd:=hpl d (List.mem_of_getElem? ed)
   exact⟨a,d,Option.some.inj hw,rfl,hx,hd.1,hd.2⟩
 let eq:Value->Bool:=fun y=>decide (∃k:Nat,its[k]? = some y/\C[k]? = some c)
 have uniq:∀{a:Addr} {d d':List Th},IsTh H (.ref a) (.lst d)->IsTh H (.ref a) (.lst d')->Z24 d=true->Z24 d'=true->dps d<=n->dps d'<=n->d=d':=fun {a d d'} h h' p p' k k'=>by
  obtain⟨a1,vs,e1,h1,h2⟩:=Z3d h
  cases e1
  obtain⟨a2,ws,e2,h3,h4⟩:=Z3d h'
  cases e2
  rw[h1] at h3
  cases h3
  exact(Z20 d d' p p').mp (Z5x I (Z32 (K:=X.K) h2 n p k) (Z32 (K:=X.K) h4 n p' k'))
 have eqv:∀(m:Nat) (hm:m<its.length) (a:Addr) (d:List Th),its[m] = .ref a->C[m]? = some d->IsTh H (.ref a) (.lst d)->Z24 d=true->dps d<=n->eq its[m]=Z1u (Z38 d) (Z38 c):=fun m hm a d h1 h2 h3 h4 h5=>by
  by_cases hd:d=c
  ·subst hd
   rw[(Z20 d d h4 h4).mpr rfl]
   exact decide_eq_true ⟨m,List.getElem?_eq_getElem hm,h2⟩
  ·have e1:Z1u (Z38 d) (Z38 c)=false:=by
    cases g:Z1u (Z38 d) (Z38 c) with
    | false=>rfl
    | true=>exact absurd ((Z20 d c h4 p2).mp g) hd
   rw[e1]
   refine decide_eq_false fun⟨k,k1,k2⟩=>hd ?_
   obtain⟨hk,hk2⟩:=List.getElem?_eq_some_iff.mp k1
   obtain⟨a',d',g1,g2,g3,g4,g5⟩:=val k hk
   rw[k2] at g2
   cases g2
   rw[hk2,h1] at g1
   cases g1
   exact uniq h3 g3 h4 g4 h5 g5
 refine SeqAt.in_listAt eq (let ⟨o,n,h1,h2,_,h4⟩:=pl;⟨o,h1,h2,n,h4⟩) (fun y hy => ?_) ⟨.bl _,H,I,rfl,q _ ?_⟩
 ·obtain⟨m,hm,rfl⟩:=Array.mem_iff_getElem.mp hy
  rw[List.getElem_toArray]
  obtain⟨a,d,g1,g2,g3,g4,g5⟩:=val m (by simpa using hm)
  rw[eqv m (by simpa using hm) a d g1 g2 g3 g4 g5,g1]
  exact Z9s I (by first | (show X.A.units+1+(n+1)<cLine;omega) | (show X.A.units+(n+1)<cLine;omega)) g3 hb g4 g5 p2 d2
 ·rw[List.any_toArray,List.any_eq_true]
  constructor
  ·rintro⟨y,hy,e⟩
   obtain⟨k,k1,k2⟩:=of_decide_eq_true e
   exact List.mem_of_getElem? k2
  ·intro hc
   obtain⟨m,hm⟩:=List.getElem?_of_mem hc
   have hml:m<its.length:=by
    have:=(List.getElem?_eq_some_iff.mp hm).1
    omega
   exact⟨its[m],List.getElem_mem hml,decide_eq_true ⟨m,List.getElem?_eq_getElem hml,hm⟩⟩
end
end L2
namespace K20
open PySem L2
inductive spLess (N m n:Nat)(vs:List V)(H:Hp)(Q:VK)(E_3:XK):Prop
 | mk (d l fa ca:Addr) (ns:List Int) (k:Nat) (ts:List Th) (cvs:List V) (C:List (List Th)) (_:vs = [.ref d,.ref fa,.ref ca]) (_:Feed H d l ns k) (_:l≠ca) (_:k+2*cnt (ts.headD dT)<=700000000000) (_:IsTh (off d ca H) (.ref fa) (.lst ts)) (_:Fs n m ts) (_:H ca=some (.lst cvs)) (_:IsThs (off d ca H) cvs (C.map Th.lst)) (_:(∀c∈C,Fs N m c)) (_:C.length+cnt (ts.headD dT)<=10000) (_:∀(v:V) (L:Th) (cvs':List V) (C':List (List Th)) (k':Nat) H',IsTh (off d ca H') v L->LG N n m C ts L C'->H' ca=some (.lst cvs')->IsThs (off d ca H') cvs' (C'.map Th.lst)->k'<=k+2*cnt (ts.headD dT)->C'.length<=C.length+cnt (ts.headD dT)->Feed H' d l ns k'->But2 d ca H H'->Q v H'):spLess N m n vs H Q E_3
theorem Z0z {d c:Addr}{H H':Hp}(b:But2 d c H H'):Same (off d c H) (off d c H'):=fun a o e=>by
 by_cases h:a=d∨a=c
 ·have:off d c H a=none:=if_pos h
  rw[this] at e
  cases e
 ·exact Z21 (b a o (off_sub a o e) (fun z=>h (.inl z)) (fun z=>h (.inr z))) (fun z=>h (.inl z)) (fun z=>h (.inr z))
theorem Z9t {ts:List Th}:∀(C:List (List Th)) (q:Nat),q<C.idxOf ts->C[q]? ≠ some ts:=by
 intro C
 induction C with
 | nil=>intro q h;cases h
 | cons c C ih =>
  intro q h
  rw[List.idxOf_cons] at h
  by_cases e:(c==ts)=true
  ·rw[e] at h;cases h
  ·have e':(c==ts)=false:=by cases z:(c==ts) with | true=>exact absurd z e | false=>rfl
   rw[e'] at h
   cases q with
   | zero =>
    intro z
    rw[List.getElem?_cons_zero] at z
    exact e (beq_iff_eq.mpr (Option.some.inj z))
   | succ q =>
    rw[List.getElem?_cons_succ]
    exact ih q (by simpa using h)
theorem Zlw {d c:Addr}{H:Hp}{kv:List (Key × V)}{xs:List V}(h1:H d=some (.dK kv))(h2:H c=some (.lst xs)):Same (TO H) (off d c H):=fun a o e=>by
 obtain⟨h,vs,rfl⟩:=Z5p e
 exact Z21 h (Z1b h h1 (by intro q;cases q)) (Z1b h h2 (by intro q;cases q))
theorem Feed.off {H:Hp}{d l c:Addr}{ns:List Int}{n:Nat}{xs:List V}(F:Feed H d l ns n)(h2:H c=some (.lst xs)):Same (TO H) (K20.off d c H):=by
 obtain⟨⟨z,h1⟩,_,_⟩:=F
 exact Zlw h1 h2
theorem Z57 {n m:Nat}{ts:List Th}(F:Fs n m ts):Z24 ts=true/\dps ts<=n:=⟨Z1c fun t ht=>PfT.pl _ (F.pf t ht),Z3z fun t ht=>PfT.dp n (F.pf t ht)⟩
abbrev Zjw:List Str := ["_law_feed_here","_law_forms","_law_columns","_law_rows"]
abbrev Zo7:Scope:=⟨.function,[(".0",.local),("_law_at",.cell),("_law_less",.globalImplicit),("_law_columns",.cell),("_law_feed_here",.cell),("_law_rows",.cell)],false,false,[]⟩
theorem Znc:(["_law_at","_law_columns","_law_feed_here","_law_rows"]:List Str).Nodup:=by decide +kernel
theorem Znd:(["_law_at","_law_row"]:List Str).Nodup:=by decide +kernel
theorem Zne:(["_law_one"]:List Str).Nodup:=by decide +kernel
section
variable {P:Program}{w:World}{K:PySem.W.Frag}{mg:Str->Option Value}{base:Heap}
theorem scLess:FnScope Zjw ["_law_feed_here","_law_forms","_law_columns"] (Z05 Zab):=⟨rfl,rfl,rfl,by decide +kernel,rfl,by decide +kernel,by decide +kernel⟩
theorem Zjx {f fD fS fH fP fW:Addr}{fd dD dS dH dP dW:FuncData}(F:Fun K "_law_less" "_law_less" Zab f fd)(b:Binds K fd ["_law_feed_here","_law_forms","_law_columns"] [])(mf:mg "_law_less"=some (.ref f))(U:Helpers K mg fD fS dD dS)(T0:TxtT mg)(Z:HW K mg fP fW dP dW)
  (FH:Fun K "_law_headed" "_law_headed" Z6j fH dH) (bH:Binds K dH ["_law_forms"] []) (mH:mg "_law_headed"=some (.ref fH)) (N m:Nat) (hN:N<=100) (hm1:1<=m) (hm2:m<=20) :
  ∀n,n<=N->FnOk P w K mg base CX0 (n+2) f fd ["_law_feed_here","_law_forms","_law_columns"] (spLess N m n):=by
 have GD:FnOk P w K mg base CX0 1 fD dD ["_law_feed_here","_law_many"] spDraw:=Z41 U.D U.T
 have GP:FnOk P w K mg base CX0 1 fP dP ["_law_e"] spLawParts:=Z1w Z.P Z.T Z.KI
 have GW:FnOk P w K mg base CX0 1 fW dW ["_law_e","_law_inner"] spWith:=Z5j Z.W Z.T Z.KI
 intro n
 induction n with
 | zero =>
  intro _
  refine F.ok scLess (fun vs H Q E h => ?_) (fun cdv A outer s H vs Q E hr h => ?_)
  ·obtain⟨d,l,fa,ca,ns,k,ts,cvs,C,rfl,_⟩:=h
   rfl
  ·obtain⟨d,l,fa,ca,ns,k,ts,cvs,C,rfl,_,_,_,_,F0,_⟩:=h
   exact(F0.pf _ (Z0p F0.len hm1)).elim
 | succ n ih =>
  intro hn
  have GL:=ih (by omega)
  have GH:FnOk P w K mg base CX0 2 fH dH ["_law_forms"] (spHeaded (n+1)):=Zf2 FH Z n (by omega)
  refine F.ok scLess (fun vs H Q E h => ?_) (fun cdv A outer s H vs Q E hr h => ?_)
  ·obtain⟨d,l,fa,ca,ns,k,ts,cvs,C,rfl,_⟩:=h
   rfl
  ·obtain⟨d,l,fa,ca,ns,kk,ts,cvs,C,rfl,F0,hlc,hkk,hfa,Ft,hca,hcv,hC,hCl,k⟩:=h
   have hsz:sizeLine=16777216:=sizeLine_eq
   have hr1:Room 1 _:=hr.mono (by omega)
   have hr2:Room 2 _:=hr.mono (by omega)
   have hu:=Z8k hr (j:=N+2) (by omega)
   refine'⟨?tt,?body,?fin⟩
   case body =>
    refine' Z0u ?s1 (Z03 ?s2 (Z07 ?s3))
    case s1 =>
     refine' Z17 ?c (Z03 ?e1 (Z03 ?e2 (Z07 ?e3))) Z0k
     case c =>
      refine' PW.pt (Zc3 ?c1 (Z8n ?c2))
      case c1=>exact Z76 (Z3p (Z06 GH hr2 (by rfl) mH FH.kp bH .nil Z0g (Z0h (pv 1) Z01)))
      case c2=>exact Z0f Z1l (Z06 GD hr1 (by rfl) U.mD U.D.kp U.bD .nil Z0g (Z0h (pv 0) (Z1r Z04 Z01))) Z04 (Z0j _)
     case e1 =>
      refine' Z17 ?d (Z07 ?g) Z0k
      case d =>
       refine' PW.pt (Z3u ?d1 (Z34 ?d2))
       case d1=>exact Z0f (Zlv N hu) (pv 1) (pv 2) (by with_unfolding_all rfl)
       case d2=>exact Z0f Z1l (Z06 GD hr1 (by rfl) U.mD U.D.kp U.bD .nil Z0g (Z0h (pv 0) (Z1r Z04 Z01))) Z04 (Z0j _)
      case g=>exact Z0l (Z1h (Z1r Z0e (Z2s (Z59 PySem.F.plainAttrs_list PySem.F.slot_list_index PySem.F.type_list_index (Zf1 N hu) (pv 2) (Z0h (pv 1) Z01)) Z01)))
     case e2=>exact Z2k (Z59 PySem.F.plainAttrs_list PySem.F.slot_list_append PySem.F.type_list_append Z26 (pv 2) (Z0h (pv 1) Z01))
     case e3=>exact Z0l (Z1h (Z1r Z0e (Z09 (Z0n Z2o (Z0d Z0b (by rfl) T0.len PySem.boot_len (Z0h (pv 2) Z01)) Z04) Z01)))
    case s2 =>
     refine' Z0c (i:=3) scLess.nd rfl (Or.inr rfl) (Z1a (N' := ["_law_one"]) (src := [none]) ?k1 ?k5 ?k6 ?k7)
     case k1=>rfl
     case k5=>exact Z0i (Z05 Zab) rfl Zjw rfl (by decide +kernel)
     case k6=>exact Z2l (pv 1)
     case k7=>exact fun cl C ex s0 H0=>⟨Z0m (i:=0) Zne rfl (Or.inl rfl),Z1d,Z06 GP hr1 (by rfl) Z.mP Z.P.kp Z.bP .nil Z0g (Z0h (pv 0) Z01)⟩
    case s3 =>
     refine' Z0l (Z06 GW hr1 (by rfl) Z.mW Z.W.kp Z.bW .nil Z0g (Z09 (Z0y Z11 (pv 1) Z04 (fun _ _=>rfl)) (Z09 ?x Z01)))
     case x =>
      refine' Zbr (z:="_law_at") (N' := ["_law_at","_law_columns","_law_feed_here","_law_rows"]) (src := [none,some 2,some 0,some 3]) ?k1 ?k5 ?k6 ?k7
      case k1=>rfl
      case k5=>exact Z3n (Z05 Zab) rfl Zjw rfl (fun _ _=>rfl) (fun _=>rfl) (by decide +kernel)
      case k6=>exact Z1o (by rfl) U.T.range (Z2s (Z0d Z0b (by rfl) T0.len PySem.boot_len (Z09 (Z0y Z11 (pv 3) Z04 (fun _ _=>rfl)) Z01)) Z01)
      case k7 =>
       intro cl C ex s0 H0
       refine'⟨?g1,?g2,?g3⟩
       case g1=>exact Z0m (i:=0) Znc rfl (Or.inr rfl)
       case g2=>exact Z1d
       case g3 =>
        refine' Z06 GL hr (by rfl) mf F.kp b .nil Z0g (Z0h (pv 2) (Z09 ?c (Z0h (pv 1) Z01)))
        case c =>
         refine' Z1a (N' := ["_law_at","_law_row"]) (src := [some 0,none]) ?j1 ?j5 ?j6 ?j7
         case j1=>rfl
         case j5=>exact Z0i Zo7 rfl ["_law_at","_law_columns","_law_feed_here","_law_rows"] rfl (by decide +kernel)
         case j6=>exact Z8e (K:=K) rfl (pv 3)
         case j7=>exact fun cl C ex s0 H0=>⟨Z0m (i:=1) Znd rfl (Or.inl rfl),Z1d,Z0y (Zb7 (K:=K) rfl) (pv 1) (pv 0) (fun _ _=>rfl)⟩
   case fin =>
    obtain⟨fa',fv,e1,hfa1,hfv⟩:=Z3d hfa
    cases e1
    have hfaH:=off_sub _ _ hfa1
    have hfvH:=IsThs.kp (Kp.of off_sub) hfv
    have hc1:1<=cnt (ts.headD dT):=Z40 (Ft.pf _ (Z0p Ft.len hm1))
    have FtN:Fs N m ts:=Ft.le hn
    have hcl:=IsThs.len _ hcv
    rw[List.length_map] at hcl
    have hplC:∀d∈C,Z24 d=true/\dps d<=N:=fun d hd=>Z57 (hC d hd)
    refine⟨fun σ' H'=>σ' = [some (.ref d),some (.ref fa),some (.ref ca),none]/\al ts=true/\∃k',k'<=kk+1/\Feed H' d l ns k'/\But d H H',?_,?_⟩
    ·refine⟨_,rfl,fa,fv,ts,m,rfl,hfaH,hfvH,Ft,hm1,by omega,fun H1 s1=>⟨_,rfl,?_⟩⟩
     have F1:=F0.same s1
     have b1:But d H H1:=But.of s1
     cases ha:al ts with
     | false =>
      refine Z71 (Z71 ?_)
      have cax:=F0.lst b1 hca
      refine⟨_,rfl,_,rfl,ca,fa,cvs,C,ts,rfl,rfl,cax,IsThs.kp (Kp.of ((Z0z (But2.of b1)).trans off_sub)) hcv,IsTh.kp (Kp.of ((Z0z (But2.of b1)).trans off_sub)) hfa,hplC,(Z57 FtN).1,(Z57 FtN).2,fun kb hkb=>⟨_,rfl,?_⟩⟩
      cases kb with
      | false =>
       refine Z4l (Z4l ?_)
       have cay:=F0.lst b1 hca
       refine⟨_,rfl,.inl ⟨rfl,_,SqL.of cay⟩,_,rfl,ca,cvs,.ref fa,rfl,rfl,cay,by omega,?_⟩
       have hcs:upd H1 ca (.lst (cvs ++ [.ref fa])) ca=some (.lst (cvs ++ [.ref fa])):=Z00
       have bY:But2 d ca H (upd H1 ca (.lst (cvs ++ [.ref fa]))):=(But2.of b1).trans But2.upd
       have FY:Feed (upd H1 ca (.lst (cvs ++ [.ref fa]))) d l ns kk:=by
        obtain⟨⟨z,h1⟩,h2,h3⟩:=F1
        exact⟨⟨z,by rw[Z08 (Z1b h1 cay (by intro q;cases q))];exact h1⟩,by rw[Z08 hlc];exact h2,h3⟩
       generalize upd H1 ca (.lst (cvs ++ [.ref fa]))=HY at hcs bY FY ⊢
       refine⟨_,rfl,ca,_,rfl,.inl (SqL.of hcs),_,_,rfl,rfl,(by show 2<=sizeLine;decide),fun p hp => ?_⟩
       have ei:((cvs ++ [V.ref fa]).length:Int)-1=(C.length:Nat):=by rw[List.length_append,List.length_singleton];omega
       dsimp only
       rw[ei]
       have sp:=Z02 (o := .tup [.str "hole",.int (C.length:Nat)]) hp
       have bp:But2 d ca H _:=bY.trans (But2.same sp)
       have hpd:p≠d:=fun z=>by obtain⟨⟨z2,h2⟩,_,_⟩:=FY;rw[z,h2] at hp;cases hp
       have hpc:p≠ca:=fun z=>by rw[z,hcs] at hp;cases hp
       refine k (.ref p) (hol C.length) (cvs ++ [.ref fa]) (C ++ [ts]) kk _ (Z5n (Z21 Z00 hpd hpc)) (Zbx (by omega) hm1 FtN) (sp _ _ hcs) ?_ (by omega) (by rw[List.length_append,List.length_singleton];omega) (FY.same sp) bp
       rw[List.map_append]
       exact IsThs.app _ (IsThs.kp (Kp.of (Z0z bp)) hcv) (.cons (IsTh.kp (Kp.of (Z0z bp)) hfa) .nil)
      | true =>
       refine Z71 ?_
       refine⟨_,rfl,d,l,ns,kk,_,rfl,F1,by omega,by decide,by decide,fun r2 k2 H2 _ _ hk2 F2 b2=>⟨rfl,_,rfl,?_⟩⟩
       have bb2:=b1.trans b2
       refine Z22 (fun g => ?_) (fun g => ?_)
       ·
        have cay:=F0.lst bb2 hca
        have hmem:=hkb.mp rfl
        have hj:C[C.idxOf ts]? = some ts:=by rw[List.getElem?_eq_getElem (List.idxOf_lt_length_iff.mpr hmem),List.getElem_idxOf]
        refine⟨_,rfl,.inl ⟨rfl,_,SqL.of cay⟩,_,rfl,ca,fa,cvs,C,ts,C.idxOf ts,rfl,rfl,cay,IsThs.kp (Kp.of ((Z0z (But2.of bb2)).trans off_sub)) hcv,IsTh.kp (Kp.of ((Z0z (But2.of bb2)).trans off_sub)) hfa,hplC,(Z57 FtN).1,(Z57 FtN).2,hj,fun q hq e => ?_,(by show 2<=sizeLine;decide),fun p hp => ?_⟩
        ·exact Z9t C q hq e
        ·have sp:=Z02 (o := .tup [.str "hole",.int (C.idxOf ts:Nat)]) hp
         have bp:But2 d ca H _:=(But2.of bb2).trans (But2.same sp)
         have hpd:p≠d:=fun z=>by obtain⟨⟨z2,h2⟩,_,_⟩:=F2;rw[z,h2] at hp;cases hp
         have hpc:p≠ca:=fun z=>by rw[z,cay] at hp;cases hp
         exact k (.ref p) (hol (C.idxOf ts)) cvs C k2 _ (Z5n (Z21 Z00 hpd hpc)) (Zi2 (by omega) hm1 FtN hj) (sp _ _ cay) (IsThs.kp (Kp.of (Z0z bp)) hcv) (by omega) (by omega) (F2.same sp) bp
       ·
        have cay:=F0.lst bb2 hca
        refine⟨_,rfl,.inl ⟨rfl,_,SqL.of cay⟩,_,rfl,ca,cvs,.ref fa,rfl,rfl,cay,by omega,?_⟩
        have hcs:upd H2 ca (.lst (cvs ++ [.ref fa])) ca=some (.lst (cvs ++ [.ref fa])):=Z00
        have bY:But2 d ca H (upd H2 ca (.lst (cvs ++ [.ref fa]))):=(But2.of bb2).trans But2.upd
        have FY:Feed (upd H2 ca (.lst (cvs ++ [.ref fa]))) d l ns k2:=by
         obtain⟨⟨z,h1⟩,h2,h3⟩:=F2
         exact⟨⟨z,by rw[Z08 (Z1b h1 cay (by intro q;cases q))];exact h1⟩,by rw[Z08 hlc];exact h2,h3⟩
        generalize upd H2 ca (.lst (cvs ++ [.ref fa]))=HY at hcs bY FY ⊢
        refine⟨_,rfl,ca,_,rfl,.inl (SqL.of hcs),_,_,rfl,rfl,(by show 2<=sizeLine;decide),fun p hp => ?_⟩
        have ei:((cvs ++ [V.ref fa]).length:Int)-1=(C.length:Nat):=by rw[List.length_append,List.length_singleton];omega
        dsimp only
        rw[ei]
        have sp:=Z02 (o := .tup [.str "hole",.int (C.length:Nat)]) hp
        have bp:But2 d ca H _:=bY.trans (But2.same sp)
        have hpd:p≠d:=fun z=>by obtain⟨⟨z2,h2⟩,_,_⟩:=FY;rw[z,h2] at hp;cases hp
        have hpc:p≠ca:=fun z=>by rw[z,hcs] at hp;cases hp
        refine k (.ref p) (hol C.length) (cvs ++ [.ref fa]) (C ++ [ts]) k2 _ (Z5n (Z21 Z00 hpd hpc)) (Zbx (by omega) hm1 FtN) (sp _ _ hcs) ?_ (by omega) (by rw[List.length_append,List.length_singleton];omega) (FY.same sp) bp
        rw[List.map_append]
        exact IsThs.app _ (IsThs.kp (Kp.of (Z0z bp)) hcv) (.cons (IsTh.kp (Kp.of (Z0z bp)) hfa) .nil)
     | true =>
      refine Z4l ?_
      refine⟨_,rfl,d,l,ns,kk,_,rfl,F1,by omega,by decide,by decide,fun r3 k3 H3 _ _ hk3 F3 b3=>⟨rfl,_,rfl,?_⟩⟩
      have bb3:=b1.trans b3
      refine Z22 (fun g => ?_) (fun g => ?_)
      ·
       have cax:=F0.lst bb3 hca
       refine⟨_,rfl,_,rfl,ca,fa,cvs,C,ts,rfl,rfl,cax,IsThs.kp (Kp.of ((Z0z (But2.of bb3)).trans off_sub)) hcv,IsTh.kp (Kp.of ((Z0z (But2.of bb3)).trans off_sub)) hfa,hplC,(Z57 FtN).1,(Z57 FtN).2,fun kb hkb=>⟨_,rfl,?_⟩⟩
       cases kb with
       | false =>
        refine Z4l (Z4l ?_)
        have cay:=F0.lst bb3 hca
        refine⟨_,rfl,.inl ⟨rfl,_,SqL.of cay⟩,_,rfl,ca,cvs,.ref fa,rfl,rfl,cay,by omega,?_⟩
        have hcs:upd H3 ca (.lst (cvs ++ [.ref fa])) ca=some (.lst (cvs ++ [.ref fa])):=Z00
        have bY:But2 d ca H (upd H3 ca (.lst (cvs ++ [.ref fa]))):=(But2.of bb3).trans But2.upd
        have FY:Feed (upd H3 ca (.lst (cvs ++ [.ref fa]))) d l ns k3:=by
         obtain⟨⟨z,h1⟩,h2,h3⟩:=F3
         exact⟨⟨z,by rw[Z08 (Z1b h1 cay (by intro q;cases q))];exact h1⟩,by rw[Z08 hlc];exact h2,h3⟩
        generalize upd H3 ca (.lst (cvs ++ [.ref fa]))=HY at hcs bY FY ⊢
        refine⟨_,rfl,ca,_,rfl,.inl (SqL.of hcs),_,_,rfl,rfl,(by show 2<=sizeLine;decide),fun p hp => ?_⟩
        have ei:((cvs ++ [V.ref fa]).length:Int)-1=(C.length:Nat):=by rw[List.length_append,List.length_singleton];omega
        dsimp only
        rw[ei]
        have sp:=Z02 (o := .tup [.str "hole",.int (C.length:Nat)]) hp
        have bp:But2 d ca H _:=bY.trans (But2.same sp)
        have hpd:p≠d:=fun z=>by obtain⟨⟨z2,h2⟩,_,_⟩:=FY;rw[z,h2] at hp;cases hp
        have hpc:p≠ca:=fun z=>by rw[z,hcs] at hp;cases hp
        refine k (.ref p) (hol C.length) (cvs ++ [.ref fa]) (C ++ [ts]) k3 _ (Z5n (Z21 Z00 hpd hpc)) (Zbx (by omega) hm1 FtN) (sp _ _ hcs) ?_ (by omega) (by rw[List.length_append,List.length_singleton];omega) (FY.same sp) bp
        rw[List.map_append]
        exact IsThs.app _ (IsThs.kp (Kp.of (Z0z bp)) hcv) (.cons (IsTh.kp (Kp.of (Z0z bp)) hfa) .nil)
       | true =>
        refine Z71 ?_
        refine⟨_,rfl,d,l,ns,k3,_,rfl,F3,by omega,by decide,by decide,fun r4 k4 H4 _ _ hk4 F4 b4=>⟨rfl,_,rfl,?_⟩⟩
        have bb4:=bb3.trans b4
        refine Z22 (fun g => ?_) (fun g => ?_)
        ·
         have cay:=F0.lst bb4 hca
         have hmem:=hkb.mp rfl
         have hj:C[C.idxOf ts]? = some ts:=by rw[List.getElem?_eq_getElem (List.idxOf_lt_length_iff.mpr hmem),List.getElem_idxOf]
         refine⟨_,rfl,.inl ⟨rfl,_,SqL.of cay⟩,_,rfl,ca,fa,cvs,C,ts,C.idxOf ts,rfl,rfl,cay,IsThs.kp (Kp.of ((Z0z (But2.of bb4)).trans off_sub)) hcv,IsTh.kp (Kp.of ((Z0z (But2.of bb4)).trans off_sub)) hfa,hplC,(Z57 FtN).1,(Z57 FtN).2,hj,fun q hq e => ?_,(by show 2<=sizeLine;decide),fun p hp => ?_⟩
         ·exact Z9t C q hq e
         ·have sp:=Z02 (o := .tup [.str "hole",.int (C.idxOf ts:Nat)]) hp
          have bp:But2 d ca H _:=(But2.of bb4).trans (But2.same sp)
          have hpd:p≠d:=fun z=>by obtain⟨⟨z2,h2⟩,_,_⟩:=F4;rw[z,h2] at hp;cases hp
          have hpc:p≠ca:=fun z=>by rw[z,cay] at hp;cases hp
          exact k (.ref p) (hol (C.idxOf ts)) cvs C k4 _ (Z5n (Z21 Z00 hpd hpc)) (Zi2 (by omega) hm1 FtN hj) (sp _ _ cay) (IsThs.kp (Kp.of (Z0z bp)) hcv) (by omega) (by omega) (F4.same sp) bp
        ·
         have cay:=F0.lst bb4 hca
         refine⟨_,rfl,.inl ⟨rfl,_,SqL.of cay⟩,_,rfl,ca,cvs,.ref fa,rfl,rfl,cay,by omega,?_⟩
         have hcs:upd H4 ca (.lst (cvs ++ [.ref fa])) ca=some (.lst (cvs ++ [.ref fa])):=Z00
         have bY:But2 d ca H (upd H4 ca (.lst (cvs ++ [.ref fa]))):=(But2.of bb4).trans But2.upd
         have FY:Feed (upd H4 ca (.lst (cvs ++ [.ref fa]))) d l ns k4:=by
          obtain⟨⟨z,h1⟩,h2,h3⟩:=F4
          exact⟨⟨z,by rw[Z08 (Z1b h1 cay (by intro q;cases q))];exact h1⟩,by rw[Z08 hlc];exact h2,h3⟩
         generalize upd H4 ca (.lst (cvs ++ [.ref fa]))=HY at hcs bY FY ⊢
         refine⟨_,rfl,ca,_,rfl,.inl (SqL.of hcs),_,_,rfl,rfl,(by show 2<=sizeLine;decide),fun p hp => ?_⟩
         have ei:((cvs ++ [V.ref fa]).length:Int)-1=(C.length:Nat):=by rw[List.length_append,List.length_singleton];omega
         dsimp only
         rw[ei]
         have sp:=Z02 (o := .tup [.str "hole",.int (C.length:Nat)]) hp
         have bp:But2 d ca H _:=bY.trans (But2.same sp)
         have hpd:p≠d:=fun z=>by obtain⟨⟨z2,h2⟩,_,_⟩:=FY;rw[z,h2] at hp;cases hp
         have hpc:p≠ca:=fun z=>by rw[z,hcs] at hp;cases hp
         refine k (.ref p) (hol C.length) (cvs ++ [.ref fa]) (C ++ [ts]) k4 _ (Z5n (Z21 Z00 hpd hpc)) (Zbx (by omega) hm1 FtN) (sp _ _ hcs) ?_ (by omega) (by rw[List.length_append,List.length_singleton];omega) (FY.same sp) bp
         rw[List.map_append]
         exact IsThs.app _ (IsThs.kp (Kp.of (Z0z bp)) hcv) (.cons (IsTh.kp (Kp.of (Z0z bp)) hfa) .nil)
      ·exact⟨rfl,rfl,k3,by omega,F3,bb3⟩
    ·rintro σ5 H5 ⟨rfl,ha,k5,hk5,F5,b5⟩
     have ca5:=F0.lst b5 hca
     have fa5:=F0.lst b5 hfaH
     have so5:=Z0z (But2.of (e:=ca) b5)
     have fv5:=IsThs.kp (Kp.of so5) hfv
     have fvH5:=IsThs.kp (Kp.of off_sub) fv5
     have hfvl:=IsThs.len _ hfv
     rw[Ft.len] at hfvl
     refine⟨_,rfl,fa,rfl,⟨_,SqL.of fa5⟩,Z1q (K:=K) (a:=fa) (xs:=fv) (fun i ys σc H'=>∃o,σc = [o]/\Same H5 H'/\IsThs (off d ca H') ys ((ts.take i).map fun u=>Th.lst (Z15 u))) ⟨none,rfl,Same.refl _,.nil⟩ (fun i ys σc H' ⟨_,_,e,_⟩=>SqL.of (e _ _ fa5)) ?_ ?_⟩
     ·rintro i x ys σc H6 hx hi ⟨o,rfl,s6,hys⟩
      obtain⟨t,ht,hxt⟩:=Z0q _ fvH5 hx
      have htm:=List.mem_of_getElem? ht
      obtain⟨w0,hd,ks,rfl,hw,g1,g2,g3,g5,g6,g7,ek,el⟩:=Z3h (Ft.pf t htm) (Ft.no t htm)
      have hyl:=IsThs.len _ hys
      rw[List.length_map,List.length_take] at hyl
      refine⟨by omega,_,rfl,x,w0,hd.map Th.at++ks,rfl,IsTh.kp (Kp.of s6) hxt,by rw[List.length_append,List.length_map];omega,fun p ws H7 s7 hp0 hp hws=>nx hi ⟨_,rfl,s6.trans s7,?_⟩⟩
      have kt:∀k∈ks,L2.isTup k=true:=fun k hk=>(g6 k hk).isTup
      rw[Z3m kt] at hws
      have F7:=F5.same (s6.trans s7)
      have c7:=(s6.trans s7) _ _ ca5
      have hpd:p≠d:=fun z=>by obtain⟨⟨z2,h2⟩,_,_⟩:=F5.same s6;rw[z,h2] at hp0;cases hp0
      have hpc:p≠ca:=fun z=>by rw[z,s6 _ _ ca5] at hp0;cases hp0
      rw[List.take_add_one,ht,List.map_append]
      refine IsThs.app _ (IsThs.kp (Kp.of (Z0x s7)) hys) (.cons ?_ .nil)
      show IsTh (off d ca H7) (.ref p) (.lst (Z15 (nd w0 hd ks)))
      rw[ek]
      exact .lst (Z21 hp hpd hpc) (IsThs.kp (Kp.of (F7.off c7)) (Z4h hws (Z1c fun k hk=>PfT.pl _ (g6 k hk))))
     rintro ys σc H6 ⟨o,rfl,s6,hys⟩ ra hra0
     rw[List.take_of_length_le (by rw[Ft.len];omega)] at hys
     have sra:=Z02 (o := .lst ys) hra0
     have s7:=s6.trans sra
     have ys7:=IsThs.kp (Kp.of (Z0x sra)) hys
     have ra7:upd H6 ra (.lst ys) ra=some (.lst ys):=Z00
     have rac:ra≠ca:=fun z=>by rw[z,s6 _ _ ca5] at hra0;cases hra0
     have rad:ra≠d:=fun z=>by obtain⟨⟨z2,h2⟩,_,_⟩:=F5.same s6;rw[z,h2] at hra0;cases hra0
     generalize upd H6 ra (.lst ys)=H7 at s7 ys7 ra7 ⊢
     clear sra hys hra0 s6
     have F7:=F5.same s7
     have ca7:=s7 _ _ ca5
     have fa7:=s7 _ _ fa5
     have fv7:=IsThs.kp (Kp.of (Z0x s7)) fv5
     have cv7:=IsThs.kp (Kp.of (so5.trans (Z0x s7))) hcv
     have b7:But2 d ca H H7:=(But2.of b5).trans (But2.same s7)
     have hysl:=IsThs.len _ ys7
     rw[List.length_map,Ft.len] at hysl
     have klen:∀t∈ts,(Z15 t).length=(Z1s ts).length:=fun t ht=>(Z55 Ft ha ht hm1).symm
     have row:∀{X:Hp} {i:Nat} {x:V},Same (off d ca H7) (off d ca X)->ys[i]? = some x->∃t a ws,ts[i]? = some t/\x = .ref a/\X a=some (.lst ws)/\IsThs (off d ca X) ws (Z15 t):=fun {X i x} sx hx=>by
      obtain⟨u,hu,hxu⟩:=Z0q _ (IsThs.kp (Kp.of sx) ys7) hx
      rw[List.getElem?_map] at hu
      cases e:ts[i]? with
      | none=>rw[e] at hu;cases hu
      | some t =>
       rw[e] at hu
       cases hu
       obtain⟨a,ws,rfl,h1,h2⟩:=Z3d hxu
       exact⟨t,a,ws,rfl,rfl,off_sub _ _ h1,h2⟩
     obtain⟨v0,fr,efv⟩:∃v0 fr,fv=v0::fr:=by
      cases fv with
      | nil=>simp at hfvl;omega
      | cons x0 yr=>exact⟨x0,yr,rfl⟩
     obtain⟨y0,yr,eys⟩:∃x0 yr,ys=x0::yr:=by
      cases ys with
      | nil=>simp at hysl;omega
      | cons x0 yr=>exact⟨x0,yr,rfl⟩
     obtain⟨t0,a0,ws0,ht0,ey0,h0,hw0⟩:=row (Same.refl _) (i:=0) (x:=y0) (by rw[eys];rfl)
     have ht0m:=List.mem_of_getElem? ht0
     have hk0:=klen t0 ht0m
     have hwl:=IsThs.len _ hw0
     obtain⟨w0,hd,ks0,et0,hw,g1,g2,g3,g5,g6,g7,ek,el⟩:=Z3h (Ft.pf t0 ht0m) (Ft.no t0 ht0m)
     have hk6:(Z1s ts).length<=6:=by rw[<- hk0,ek];exact g5
     have hmu:=Z8h Ft ha hm1
     refine⟨_,rfl,fa,fv,0,v0,rfl,rfl,SqL.of fa7,(by rw[efv];exact Z1g _ _),?_⟩
     refine⟨_,rfl,ra,ys,0,y0,rfl,rfl,SqL.of ra7,(by rw[eys];exact Z1g _ _),a0,ws0,by rw[ey0],.inl (SqL.of h0),(ws0.length:Int),rfl,by omega,by omega,?_⟩
     rw[Int.toNat_natCast,hwl,hk0]
     refine Z3c (lo:=0) (n:=(Z1s ts).length) (fun j zs σc H'=>∃o ks cvs' C' k',σc = [o,some (.ref ca),some (.ref d),some (.ref ra)]/\IsThs (off d ca H') zs ks/\LGA N n m C ((Z1s ts).take j) ks C'/\H' ca=some (.lst cvs')/\IsThs (off d ca H') cvs' (C'.map Th.lst)/\k'<=k5+2*mu ((Z1s ts).take j)/\C'.length<=C.length+mu ((Z1s ts).take j)/\Feed H' d l ns k'/\But2 d ca H7 H')
      ⟨none,[],cvs,C,k5,rfl,.nil,Zjr,ca7,cv7,by omega,by omega,F7,But2.refl _ _ _⟩ ?_ ?_
     ·rintro j zs σc H8 hj ⟨o,ks,cvs',C',k8,rfl,hzs,A8,ca8,cv8,hk8,hC8,F8,b8⟩
      have hzl:=IsThs.len _ hzs
      have hAl:=A8.len
      rw[List.length_take] at hAl
      have so8:=Z0z b8
      have ra8:H8 ra=some (.lst ys):=b8 _ _ ra7 rad rac
      obtain⟨cj,hcj⟩:∃c,(Z1s ts)[j]? = some c:=⟨_,List.getElem?_eq_getElem hj⟩
      have hmj:mu ((Z1s ts).take (j+1))=mu ((Z1s ts).take j)+cnt (cj.headD dT):=by
       rw[List.take_add_one,hcj,Z56]
       show _+mu [cj]=_
       unfold mu
       simp
      have hmle:mu ((Z1s ts).take (j+1))<=mu (Z1s ts):=by
       have e:=congrArg mu (List.take_append_drop (j+1) (Z1s ts))
       rw[Z56] at e
       omega
      refine⟨by omega,_,rfl,_,rfl,ra,rfl,⟨_,SqL.of ra8⟩,Z1q (K:=K) (a:=ra) (xs:=ys) (fun i us σd H9=>∃o,σd = [some (.int (0+(j:Int))),o]/\Same H8 H9/\IsThs (off d ca H9) us ((ts.take i).map fun u=>(Z15 u).getD j dT)) ⟨none,rfl,Same.refl _,.nil⟩ (fun i us σd H9 ⟨_,_,e,_⟩=>SqL.of (e _ _ ra8)) ?_ ?_⟩
      ·rintro i x us σd H9 hx hi ⟨o9,rfl,s9,hus⟩
       obtain⟨t,a,ws,ht,rfl,h1,h2⟩:=row (so8.trans (Z0x s9)) hx
       have hkt:=klen t (List.mem_of_getElem? ht)
       have hul:=IsThs.len _ hus
       rw[List.length_map,List.length_take] at hul
       have hwt:=IsThs.len _ h2
       have hjw:j<ws.length:=by omega
       obtain⟨u,hu1,hu2⟩:=Z0q _ h2 (List.getElem?_eq_getElem hjw)
       refine⟨by omega,_,rfl,_,rfl,a,ws,0+(j:Int),ws[j],rfl,rfl,SqL.of h1,by rw[Int.zero_add];exact Z2c (List.getElem?_eq_getElem hjw),nx hi ⟨_,rfl,s9,?_⟩⟩
       rw[List.take_add_one,ht,List.map_append]
       refine IsThs.app _ hus (.cons ?_ .nil)
       show IsTh (off d ca H9) ws[j] ((Z15 t).getD j dT)
       rw[List.getD_eq_getElem?_getD,hu1]
       exact hu2
      ·rintro us σd H9 ⟨o9,rfl,s9,hus⟩ la hla0
       rw[List.take_of_length_le (by rw[Ft.len];omega)] at hus
       have sla:=Z02 (o := .lst us) hla0
       have s10:=s9.trans sla
       have hlad:la≠d:=fun z=>by obtain⟨⟨z2,h2⟩,_,_⟩:=F8.same s9;rw[z,h2] at hla0;cases hla0
       have hlac:la≠ca:=fun z=>by rw[z,s9 _ _ ca8] at hla0;cases hla0
       have la10:upd H9 la (.lst us) la=some (.lst us):=Z00
       have us10:=IsThs.kp (Kp.of (Z0x sla)) hus
       generalize upd H9 la (.lst us)=H10 at s10 la10 us10 ⊢
       have ecj:(ts.map fun u=>(Z15 u).getD j dT)=cj:=by
        have:=Zbs hj
        rw[hcj] at this
        exact(Option.some.inj this).symm
       rw[ecj] at us10
       have Fcj:=Z2e Ft ha hm1 cj (List.mem_of_getElem? hcj)
       obtain⟨D,eD,fD⟩:=A8.ex
       refine⟨_,rfl,d,l,la,ca,ns,k8,cj,cvs',C',rfl,F8.same s10,hlc,by omega,.lst (Z21 la10 hlad hlac) us10,Fcj,s10 _ _ ca8,IsThs.kp (Kp.of (Z0x s10)) cv8,(fun c hc => ?_),by omega,fun v L cvs2 C2 k2 H11 hv G hc2 hcv2 hk2 hC2 F11 b11=>nx hj ⟨_,ks ++ [L],cvs2,C2,k2,rfl,?_,?_,hc2,hcv2,by omega,by omega,F11,b8.trans ((But2.same s10).trans b11)⟩⟩
       ·rw[eD] at hc
        rcases List.mem_append.mp hc with z | z
        ·exact hC c z
        ·exact fD c z
       ·exact IsThs.app _ (IsThs.kp (Kp.of ((Z0x s10).trans (Z0z b11))) hzs) (.cons hv .nil)
       ·rw[List.take_add_one,hcj]
        exact Zh8 A8 G
     ·rintro zs σc H8 ⟨o,ks,cvs',C',k8,rfl,hzs,A8,ca8,cv8,hk8,hC8,F8,b8⟩ za hza0
      rw[List.take_of_length_le (Nat.le_refl _)] at A8 hk8 hC8
      have sza:=Z02 (o := .lst zs) hza0
      have hza:upd H8 za (.lst zs) za=some (.lst zs):=Z00
      generalize upd H8 za (.lst zs)=H9 at sza hza ⊢
      have so9:=(Z0z b8).trans (Z0x sza)
      have hv0:IsTh H9 v0 t0:=by
       obtain⟨u,hu,hx⟩:=Z0q (i:=0) (v:=v0) _ (IsThs.kp (Kp.of so9) fv7) (by rw[efv];rfl)
       rw[ht0] at hu
       cases hu
       exact IsTh.kp (Kp.of off_sub) hx
      have hkl:=A8.len
      have e0:ts.headD dT=t0:=by
       cases ts with
       | nil=>cases ht0
       | cons a r=>exact Option.some.inj ht0
      rw[et0] at hv0
      refine⟨v0,za,.at (.str w0)::(hd.map Th.at++ks0),ks,zs,rfl,hv0,by rw[List.length_cons,List.length_append,List.length_map];omega,hza,IsThs.kp (Kp.of ((Z0x sza).trans off_sub)) hzs,by omega,fun p H10 s10 hp => ?_⟩
      have G:=Zjs hm1 hn Ft ha A8
      have s910:=sza.trans s10
      have eL:Th.tup (Z2x (.at (.str w0)::(hd.map Th.at++ks0))++ks) = .tup (Z23 (ts.headD dT)++ks):=by rw[e0,et0];rfl
      rw[eL] at hp
      have F10:=F8.same s910
      have c10:=s910 _ _ ca8
      exact k (.ref p) _ cvs' C' k8 H10 (IsTh.kp (Kp.of (F10.off c10)) (Z54 hp (PfT.pl _ G.pf))) G c10 (IsThs.kp (Kp.of (Z0x s910)) cv8) (by omega) (by omega) F10 ((b7.trans b8).trans (But2.same s910))
end
theorem Zfe:∀(n:Nat) {t:Th},PfT n t->6*(hs t).length<=5*cnt t+1:=by
 intro n
 induction n with
 | zero=>intro t h;exact h.elim
 | succ n ih =>
  intro t h
  obtain⟨w,hd,ks,rfl,h1,h2,h3,h4,h5,h6⟩:=h
  by_cases hw:w="hole"
  ·subst hw
   obtain⟨j,rfl,rfl⟩:=h4 rfl
   rw[Z1x,Z1k fun k hk=>by cases hk]
   simp [Z14]
  ·rw[Z6w hw,Z1k fun k hk=>(h6 k hk).isTup]
   have:∀ks:List Th,(∀k∈ks,PfT n k)->6*((ks.map hs).flatten).length<=5*Z14 ks+ks.length:=by
    intro ks
    induction ks with
    | nil=>intro _;exact Nat.le_refl _
    | cons k ks ihk =>
     intro hk
     have a:=ih (hk k (List.mem_cons_self ..))
     have b:=ihk fun x hx=>hk x (List.mem_cons_of_mem _ hx)
     rw[List.map_cons,List.flatten_cons,List.length_append,Z14,List.length_cons]
     omega
   have:=this ks h6
   omega
theorem Zlx:∀(k:Nat) (l:List Nat),(∀i,i<k->i∈l)->k<=l.length:=by
 intro k
 induction k with
 | zero=>intro l _;exact Nat.zero_le _
 | succ k ih =>
  intro l h
  have hk:=h k (Nat.lt_succ_self k)
  have:=ih (l.erase k) fun i hi=>(List.mem_erase_of_ne (by omega)).mpr (h i (by omega))
  rw[List.length_erase_of_mem hk] at this
  have:=List.length_pos_of_mem hk
  omega
theorem Zhe {n k B:Nat}{t:Th}(h:PfT n t)(hk:∀i,i<k->i∈hs t)(hB:cnt t<=B):6*k<=5*B+1:=by
 have a:=Zlx k (hs t) hk
 have b:=Zfe n h
 omega
theorem Znf {σ τ : Nat->Th}:∀(n:Nat) {t:Th},PfT n t->fl σ (fl τ t)=fl (fun i=>fl σ (τ i)) t:=by
 intro n
 induction n with
 | zero=>intro t h;exact h.elim
 | succ n ih =>
  intro t h
  obtain⟨w,hd,ks,rfl,h1,h2,h3,h4,h5,h6⟩:=h
  by_cases hw:w="hole"
  ·subst hw
   obtain⟨j,rfl,rfl⟩:=h4 rfl
   rw[Z1m,Z1m]
  ·rw[Z3f hw,Z3f hw,Z3f hw,List.map_map]
   exact congrArg (nd w hd) (List.map_congr_left fun k hk=>ih (h6 k hk))
structure Pat (N m:Nat)(E:List (List Th))(P L:Th)(D:List (List Th)):Prop where
 pf:PfT (N+1) L
 cn:cnt L<=131
 hh:∀i,i∈hs L↔i<D.length
 few:D.length<64
 got:fl (fun i=>qE N E (D.getD i [])) L=P
 fs:∀c∈D,Fs N m c
 col:∀c∈D,∀p,p<m->fl (sgC E p) (qE N E c)=c.getD p dT
theorem Zhf {m N:Nat}(hm:1<=m){ts:List Th}{L:Th}{D:List (List Th)}(F:Fs (N+1) m ts)(hc:∀t∈ts,cnt t<=131)(h0:cnt (ts.headD dT)<=60)(G:LG (N+1) (N+1) m [] ts L D):Pat (N+1) m (mP (N+1) [] ts).2 (mP (N+1) [] ts).1 L D:=by
 obtain⟨g1,g2,g3,g4⟩:=Zh9 hm F G
 have cl:cnt L<=131:=Nat.le_trans G.cn (hc _ (Z0p F.len hm))
 obtain⟨D',eD,fD⟩:=G.ex
 rw[List.nil_append] at eD
 refine⟨G.pf.up,cl,g4,?_,g1,fun c hc=>fD c (eD▸hc),g3⟩
 have:=Zhe G.pf (fun i hi=>(g4 i).mpr hi) (Nat.le_trans G.cn h0)
 omega
theorem Zhg {m:Nat}:∀(n:Nat) {t:Th},PfT n t->cnt (fl (fun i=>hol (m-1-i)) t)=cnt t:=fun n t h=>Zl1 (fun i=>rfl) n h fun i _=>Zf6 _
theorem PfT.turn {τ : Nat->Nat}:∀(n:Nat) {t:Th},PfT n t->PfT n (fl (fun i=>hol (τ i)) t):=by
 intro n
 induction n with
 | zero=>intro t h;exact h.elim
 | succ n ih =>
  intro t h
  obtain⟨w,hd,ks,rfl,h1,h2,h3,h4,h5,h6⟩:=h
  by_cases hw:w="hole"
  ·subst hw
   obtain⟨j,rfl,rfl⟩:=h4 rfl
   rw[Z1m]
   exact(Z9i _).le (by omega)
  ·rw[Z3f hw]
   refine⟨w,hd,_,rfl,h1,h2,fun z=>⟨(h3 z).1,by rw[List.length_map];exact(h3 z).2⟩,fun z=>absurd z hw,by rw[List.length_map];exact h5,fun k hk => ?_⟩
   obtain⟨y,hy,rfl⟩:=List.mem_map.mp hk
   exact ih (h6 y hy)
theorem Pat.turn {N m:Nat}{E:List (List Th)}{P L:Th}{D:List (List Th)}(X:Pat N m E P L D):Pat N m E P (fl (fun i=>hol (D.length-1-i)) L) D.reverse:=by
 refine⟨X.pf.turn,by rw[Zhg _ X.pf];exact X.cn,fun i => ?_,by rw[List.length_reverse];exact X.few,?_,fun c hc=>X.fs c (List.mem_reverse.mp hc),fun c hc=>X.col c (List.mem_reverse.mp hc)⟩
 ·rw[Zlu _ X.pf,List.length_reverse]
  constructor
  ·rintro⟨j,hj,hi⟩
   have:=(X.hh j).mp hj
   rw[(Zbl _ _).mp hi]
   omega
  ·intro hi
   exact⟨D.length-1-i,(X.hh _).mpr (by omega),(Zbl _ _).mpr (by omega)⟩
 ·rw[Znf _ X.pf,<- X.got]
  refine Zc0 _ X.pf fun i hi => ?_
  have hi':=(X.hh i).mp hi
  unfold hol
  rw[Z1m]
  refine congrArg (qE N E) ?_
  rw[List.getD_eq_getElem?_getD,List.getD_eq_getElem?_getD,List.getElem?_reverse (by omega),show D.length-1-(D.length-1-i)=i by omega]
theorem Zly {σ τ : Nat->Th}:∀(n:Nat) {t:Th},PfT n t->fl σ t=fl τ t->∀i∈hs t,σ i = τ i:=by
 intro n
 induction n with
 | zero=>intro t h;exact h.elim
 | succ n ih =>
  intro t h e i hi
  obtain⟨w,hd,ks,rfl,h1,h2,h3,h4,h5,h6⟩:=h
  by_cases ew:w="hole"
  ·subst ew
   obtain⟨j,rfl,rfl⟩:=h4 rfl
   rw[Z1m,Z1m] at e
   rw[Z1x,List.mem_singleton] at hi
   rw[hi]
   exact e
  ·obtain⟨k,hk,hik⟩:=(Z3t ew).mp hi
   rw[Z3f ew,Z3f ew] at e
   unfold nd at e
   injection e with e
   injection e with e1 e2
   have e3:=List.append_cancel_left e2
   have:=List.map_inj_left.mp e3 k hk
   exact ih (h6 k hk) this i hik
theorem Zlz:∀(n:Nat) (E:List (List Th)) (ts:List Th),L2.isTup (qE n E ts)=true:=by
 intro n E ts
 cases n with
 | zero=>rfl
 | succ n =>
  unfold qE
  split
  ·rfl
  ·rfl
theorem Zm0 (n:Nat)(E D:List (List Th)):Tps (fun i=>qE n E (D.getD i [])):=fun i=>Zlz _ _ _
theorem Zm1 (E:List (List Th))(p:Nat):sg (E.map fun c=>c.getD p dT)=sgC E p:=by
 funext i
 unfold sg sgC
 rw[List.getD_eq_getElem?_getD,List.getElem?_map,List.getD_eq_getElem?_getD (l:=E)]
 cases E[i]? with
 | none=>rfl
 | some c=>rfl
theorem Pat.hole {N m:Nat}{E:List (List Th)}{P L:Th}{D:List (List Th)}(X:Pat N m E P L D)(hP:∀i∈hs P,i<E.length){j:Nat}(hj:j<D.length):∀i∈hs (qE N E (D.getD j [])),i<E.length:=fun i hi=>by
 refine hP i ?_
 rw[<- X.got]
 exact(Zlu _ X.pf).mpr ⟨j,(X.hh j).mpr hj,hi⟩
theorem Pat.only {N m:Nat}{E:List (List Th)}{P L:Th}{D:List (List Th)}(X:Pat N m E P L D){σ:Nat->Th}(e:fl σ L=P):(List.range D.length).map σ=D.map (qE N E):=by
 apply List.ext_getElem?
 intro i
 rw[List.getElem?_map,List.getElem?_map]
 by_cases hi:i<D.length
 ·rw[List.getElem?_range hi,List.getElem?_eq_getElem hi]
  show some (σ i)=some (qE N E D[i])
  have:=Zly _ X.pf (e.trans X.got.symm) i ((X.hh i).mpr hi)
  rw[this]
  show some (qE N E (D.getD i []))=_
  rw[List.getD_eq_getElem?_getD,List.getElem?_eq_getElem hi]
  rfl
 ·rw[List.getElem?_eq_none (by rw[List.length_range];omega),List.getElem?_eq_none (by omega)]
  rfl
theorem Pat.back {N m:Nat}{E:List (List Th)}{P L:Th}{D:List (List Th)}(X:Pat N m E P L D):fl (sg (D.map (qE N E))) L=P:=by
 rw[<- X.got]
 refine Zc0 _ X.pf fun i hi => ?_
 have hi':=(X.hh i).mp hi
 unfold sg
 rw[List.getD_eq_getElem?_getD,List.getElem?_map,List.getD_eq_getElem?_getD,List.getElem?_eq_getElem hi']
 rfl
theorem Zng {m:Nat}(hm:1<=m)(E:List (List Th)):∀(n:Nat) (ts:List Th),Fs n m ts->PfT n (qE n E ts):=by
 intro n
 induction n with
 | zero=>intro ts F;exact(F.pf _ (Z0p F.len hm)).elim
 | succ n ih =>
  intro ts F
  unfold qE
  by_cases ha:al ts=true
  ·rw[if_pos ha]
   have h0:=Z0p F.len hm
   obtain⟨w,hd,k0,e0,hw,h1,h2,h3,h5,h6,h7,e1,e2⟩:=Z3h (F.pf _ h0) (F.no _ h0)
   have hl:=Z55 F ha h0 hm
   rw[e1] at hl
   have en:Th.tup (Z23 (ts.headD dT)++(Z1s ts).map (qE n E))=nd w hd ((Z1s ts).map (qE n E)):=by rw[e2];rfl
   rw[en]
   refine⟨w,hd,_,rfl,h1,h2,fun z=>⟨(h3 z).1,by rw[List.length_map,hl];exact(h3 z).2⟩,fun z=>absurd z hw,by rw[List.length_map];omega,fun k hk => ?_⟩
   obtain⟨c,hc,rfl⟩:=List.mem_map.mp hk
   exact ih c (Z2e F ha hm c hc)
  ·rw[if_neg ha]
   exact(Z9i _).le (by omega)
theorem Zhh {m N n B:Nat}(hm:1<=m){ts:List Th}{L:Th}{D:List (List Th)}(hc:∀t∈ts,cnt t<=B)(G:LG (N+1) n m [] ts L D):∀c∈D,∀t∈c,cnt t<=B:=by
 refine G.sub (fun c=>∀t∈c,cnt t<=B) (fun us Fu ha q c hcs t ht => ?_) hc (fun c hc=>by cases hc)
 unfold Z1s at hcs
 obtain⟨i,hi,rfl⟩:=List.mem_map.mp hcs
 obtain⟨u,hu,rfl⟩:=List.mem_map.mp ht
 rw[List.mem_range] at hi
 have hl:(Z15 (us.headD dT)).length=(Z15 u).length:=congrArg Prod.snd (al_iff.mp ha _ (Z0p Fu.len hm) _ hu)
 have hk:(Z15 u).getD i dT∈Z15 u:=Z2g (by omega)
 have:=Zf0 (Fu.pf u hu) (Fu.no u hu) hk
 have:=q u hu
 omega
theorem Zm2 {N m p B:Nat}{D:List (List Th)}(hp:p<m)(fs:∀c∈D,Fs N m c)(hc:∀c∈D,∀t∈c,cnt t<=B)(hs:1+D.length*(3*B)<=1000000):Sm N (.tup (D.map fun c=>c.getD p dT)):=by
 have hcol:∀x∈D.map (fun c=>c.getD p dT),PfT N x/\cnt x<=B:=fun x hx=>by
  obtain⟨c,hcD,rfl⟩:=List.mem_map.mp hx
  have Fc:=fs c hcD
  have hm:=Z2g (ts:=c) (p:=p) (by rw[Fc.len];exact hp)
  exact⟨Fc.pf _ hm,hc c hcD _ hm⟩
 refine⟨?_,?_,?_⟩
 ·rw[plT]
  exact Z1c fun x hx=>PfT.pl _ (hcol x hx).1
 ·rw[L2.dp]
  have:=Z3z (n:=N) fun x hx=>PfT.dp _ (hcol x hx).1
  omega
 ·rw[Th.sz]
  have h1:=Zf5 (b:=3*B) (D.map fun c=>c.getD p dT) fun x hx=>by
   obtain⟨a,b⟩:=hcol x hx
   have:=Z6t N a
   omega
  rw[List.length_map] at h1
  omega
inductive spLaw (K:PySem.W.Frag)(vs:List V)(H:Hp)(Q:VK)(E_3:XK):Prop
 | mk (a:Addr) (ns:List Int) (_:vs = [.ref a]) (_:SqL K H a (ns.map V.int)) (_:ns.length<=63) (_:∀H',Q (.bl true) H'):spLaw K vs H Q E_3
def Zff:List V := [.int 2,.int 3,.int 1,.int 2,.int 4,.int 5]
structure LB (H:Hp)(d l nm fa:Addr)(ns:List Int)(n:Nat)(T:List Str)(fv:List V)(fts:List Th)(u:V)(t:Th):Prop where
 F:Feed H d l ns n
 N:Nms H nm T
 a:H fa=some (.lst fv)
 th:IsThs (TO H) fv fts
 u:IsTh (TO H) u t
section
variable {H H':Hp}{d l nm fa:Addr}{ns:List Int}{n n':Nat}{T:List Str}{fv:List V}{fts:List Th}{u:V}{t:Th}
theorem LB.same (X:LB H d l nm fa ns n T fv fts u t)(s:Same H H'):LB H' d l nm fa ns n T fv fts u t:=⟨X.F.same s,X.N.kp (Kp.of s),s _ _ X.a,IsThs.kp (Kp.of (Z2n s)) X.th,IsTh.kp (Kp.of (Z2n s)) X.u⟩
theorem LB.draw (X:LB H d l nm fa ns n T fv fts u t)(b:But d H H')(F':Feed H' d l ns n'):LB H' d l nm fa ns n' T fv fts u t :=
 have k:=b.kp X.F
 ⟨F',X.N.kp k,k _ _ X.a (by intro q z;cases z),IsThs.kp (Kp.of (Z70 k)) X.th,IsTh.kp (Kp.of (Z70 k)) X.u⟩
theorem LB.ths (X:LB H d l nm fa ns n T fv fts u t):IsThs H fv fts:=IsThs.kp (Kp.of to_sub) X.th
theorem LB.tu (X:LB H d l nm fa ns n T fv fts u t):IsTh H u t:=IsTh.kp (Kp.of to_sub) X.u
end
theorem Zjy {H H':Hp}{d c:Addr}{kv:List (Key × V)}{xs:List V}(b:But2 d c H H')(h1:H d=some (.dK kv))(h2:H c=some (.lst xs)):Same (TO H) (TO H'):=fun a o e=>by
 obtain⟨h,vs,rfl⟩:=Z5p e
 exact Z75 (b _ _ h (Z1b h h1 (by intro q;cases q)) (Z1b h h2 (by intro q;cases q)))
theorem LB.but2 {H H':Hp}{d l nm fa c:Addr}{ns:List Int}{n n':Nat}{T:List Str}{fv xs:List V}{fts:List Th}{u:V}{t:Th}(X:LB H d l nm fa ns n T fv fts u t)(b:But2 d c H H')(F':Feed H' d l ns n')(h:H c=some (.lst xs))(hn:c≠nm)(hf:c≠fa):LB H' d l nm fa ns n' T fv fts u t:=by
 obtain⟨⟨z,hd⟩,hls,hsz⟩:=X.F
 have s:=Zjy b hd h
 exact⟨F',⟨b _ _ X.N.a (Z1b X.N.a hd (by intro q;cases q)) hn.symm,X.N.l1,X.N.l2,X.N.nm⟩,b _ _ X.a (Z1b X.a hd (by intro q;cases q)) hf.symm,IsThs.kp (Kp.of s) X.th,IsTh.kp (Kp.of s) X.u⟩
structure PC (H:Hp)(m:Nat)(E:List (List Th))(P:Th)(v:V)(L:Th)(ca:Addr)(D:List (List Th)):Prop where
 X:Pat 33 m E P L D
 v:IsTh H v L
 c:∃cvs,H ca=some (.lst cvs)/\IsThs H cvs (D.map Th.lst)
 cc:∀c∈D,∀t∈c,cnt t<=131
theorem PC.kp {H H':Hp}{m:Nat}{E:List (List Th)}{P:Th}{v:V}{L:Th}{ca:Addr}{D:List (List Th)}(Y:PC H m E P v L ca D)(k:Kp H H'):PC H' m E P v L ca D:=by
 obtain⟨cvs,h1,h2⟩:=Y.c
 exact⟨Y.X,IsTh.kp k Y.v,⟨cvs,k _ _ h1 (by intro q z;cases z),IsThs.kp k h2⟩,Y.cc⟩
theorem Zjz {H:Hp}{u:V}{N m:Nat}{ts:List Th}(h:IsTh H u (Z8i N m ts)):∃(ua:Addr) (x1:V) (ra:Addr) (rvs:List V),u = .ref ua/\H ua=some (.tup [x1,.ref ra])/\IsTh H x1 (mP N [] ts).1/\H ra=some (.tup rvs)/\IsThs H rvs (Z42 m (mP N [] ts).2):=by
 unfold Z8i at h
 obtain⟨ua,us,rfl,hua,hus⟩:=Z1i h
 cases hus with
 | @cons x1 r1 _ _ hx1 hr1' =>
  cases hr1' with
  | @cons x2 r2 _ _ hx2 hr2' =>
   cases hr2'
   obtain⟨ra,rs,rfl,hra,hrs⟩:=Z1i hx2
   exact⟨ua,x1,ra,rs,rfl,hua,hx1,hra,hrs⟩
section
variable {P:Program}{w:World}{K:PySem.W.Frag}{mg:Str->Option Value}{base:Heap}
abbrev Zm7:List Str := ["_law_script","_law_feed_here","_law_names_here","_law_k","_law_forms","_law_told","_law_j","_law_columns","_law_pattern","_law_found","_law_at","_law_row"]
theorem scLaw:FnScope Zm7 ["_law_script"] (Z05 Zfi):=⟨rfl,rfl,rfl,by decide +kernel,rfl,by decide +kernel,by decide +kernel⟩
theorem Znh:(["_law_at","_law_one","_law_told"]:List Str).Nodup:=by decide +kernel
theorem Zm3:(["_law_at","_law_column"]:List Str).Nodup:=by decide +kernel
theorem Zm4 {f fF fN fD fS fKd fMs fSa fLs fTu fGo fFi:Addr}{fd dF dN dD dS dKd dMs dSa dLs dTu dGo dFi:FuncData}(F:Fun K "law" "law" Zfi f fd)(U:Helpers K mg fD fS dD dS)(T0:TxtT mg)(KI:Kits K)
  (FF:Fun K "_law_feed" "_law_feed" Ze6 fF dF) (bF:Binds K dF ["_law_script"] []) (mF:mg "_law_feed"=some (.ref fF))
  (GN:FnOk P w K mg base CX0 3 fN dN ["_law_feed_here","_law_many"] spNames) (FN:Fun K "_law_names" "_law_names" Z9b fN dN) (bN:Binds K dN ["_law_feed_here","_law_many"] []) (mN:mg "_law_names"=some (.ref fN))
  (GK:FnOk P w K mg base CX0 44 fKd dKd ["_law_feed_here","_law_names_here","_law_many"] (spKindred 4)) (FK:Fun K "_law_kindred" "_law_kindred" Z4s fKd dKd) (bK:Binds K dKd ["_law_feed_here","_law_names_here","_law_many"] []) (mK:mg "_law_kindred"=some (.ref fKd))
  (GM:FnOk P w K mg base CX0 4 fMs dMs ["forms"] (spMost 33)) (FM:Fun K "most_shared" "most_shared" Zaa fMs dMs) (bM:Binds K dMs ["forms"] []) (mM:mg "most_shared"=some (.ref fMs))
  (GS:FnOk P w K mg base CX0 41 fSa dSa ["_law_found","_law_due"] (spSame 40)) (FS:Fun K "_law_same" "_law_same" Zcj fSa dSa) (bS:Binds K dSa ["_law_found","_law_due"] []) (mS:mg "_law_same"=some (.ref fSa))
  (GL:FnOk P w K mg base CX0 35 fLs dLs ["_law_feed_here","_law_forms","_law_columns"] (fun vs H Q E=>∃m,1<=m/\m<=20/\spLess 33 m 33 vs H Q E)) (FL:Fun K "_law_less" "_law_less" Zab fLs dLs) (bL:Binds K dLs ["_law_feed_here","_law_forms","_law_columns"] []) (mL:mg "_law_less"=some (.ref fLs))
  (GT:FnOk P w K mg base CX0 36 fTu dTu ["_law_b","_law_many"] (spTurned 34)) (FT:Fun K "_law_turned_about" "_law_turned_about" Z5e fTu dTu) (bT:Binds K dTu ["_law_b","_law_many"] []) (mT:mg "_law_turned_about"=some (.ref fTu))
  (GG:FnOk P w K mg base CX0 4 fGo dGo ["pattern","other"] (spGot 34)) (FG:Fun K "got" "got" Zk3 fGo dGo) (bG:Binds K dGo ["pattern","other"] []) (mG:mg "got"=some (.ref fGo))
  (GI:FnOk P w K mg base CX0 36 fFi dFi ["_law_b","_law_fillings"] (spFill 34)) (FI:Fun K "_law_fill" "_law_fill" Zcl fFi dFi) (bI:Binds K dFi ["_law_b","_law_fillings"] []) (mI:mg "_law_fill"=some (.ref fFi)) :
  FnOk P w K mg base CX0 45 f fd ["_law_script"] (spLaw K):=by
 have GF:FnOk P w K mg base CX0 1 fF dF ["_law_script"] (spFeed K):=Ziy FF U.T
 have GD:FnOk P w K mg base CX0 1 fD dD ["_law_feed_here","_law_many"] spDraw:=Z41 U.D U.T
 refine F.ok scLaw (fun vs H Q E h => ?_) (fun cdv A outer s H vs Q E hr h => ?_)
 ·obtain⟨a,ns,rfl,_⟩:=h
  rfl
 ·obtain⟨a,ns,rfl,hS,hlen,k⟩:=h
  have hsz:sizeLine=16777216:=sizeLine_eq
  have hr1:Room 1 _:=hr.mono (by decide)
  have hr3:Room 3 _:=hr.mono (by decide)
  have hr4:Room 4 _:=hr.mono (by decide)
  have hr35:Room 35 _:=hr.mono (by decide)
  have hr36:Room 36 _:=hr.mono (by decide)
  have hr41:Room 41 _:=hr.mono (by decide)
  have hr44:Room 44 _:=hr.mono (by decide)
  refine'⟨?tt,?body,?fin⟩
  case body =>
   refine' Z03 ?s1 ?r1
   case s1=>exact Z0c (i:=1) scLaw.nd rfl (Or.inl rfl) (Z06 GF hr1 (by rfl) mF FF.kp bF .nil Z0g (Z0h (pv 0) Z01))
   case r1 =>
    refine' Z03 ?s2 ?r2
    case s2=>exact Z0c (i:=2) scLaw.nd rfl (Or.inl rfl) (Z06 GN hr3 (by rfl) mN FN.kp bN .nil Z0g (Z0h (pv 1) (Z1r Z04 Z01)))
    case r2 =>
     refine' Z03 ?s3 (Z07 ?s4)
     case s4=>exact Z0l Z9w
     case s3 =>
      refine' Z4b PassesOwn.never rfl (Z1o (by rfl) U.T.range (Z1r Z04 Z01)) (Z0m (i:=3) scLaw.nd rfl (Or.inl rfl)) ?blk
      case blk =>
       refine' Z03 ?b1 (Z03 ?b2 (Z07 ?b3))
       case b1 =>
        refine' Z0c (i:=4) scLaw.nd rfl (Or.inl rfl) (Z06 GK hr44 (by rfl) mK FK.kp bK .nil Z0g (Z0h (pv 1) (Z0h (pv 2) (Z09 ?m Z01))))
        case m =>
         refine' Z0y Z11 ?l (Z06 GD hr1 (by rfl) U.mD U.D.kp U.bD .nil Z0g (Z0h (pv 1) (Z1r Z04 Z01))) (fun _ _=>rfl)
         case l=>exact @Z3x ((Zhl CX0 P w K mg base Zm7 "law" (Z05 Zfi) f cdv A outer s H E).nox) _ Zff (by decide +kernel)
       case b2=>exact Z0c (i:=5) scLaw.nd rfl (Or.inr rfl) (Z06 GM hr4 (by rfl) mM FM.kp bM .nil Z0g (Z2s (Z10 Z0s (by rfl) T0.tup Z1n (Z0h (pv 4) Z01)) Z01))
       case b3 =>
        refine' Z4b PassesOwn.never rfl (Z1o (by rfl) U.T.range (Z1r Z04 Z01)) (Z0m (i:=6) scLaw.nd rfl (Or.inl rfl)) ?blk2
        case blk2 =>
         refine' Z03 ?c1 (Z03 ?c2 (Z0u ?c3 (Z03 ?c4 (Z03 ?c5 (Z0u ?c6 (Z07 ?c7))))))
         case c1=>exact Z0c (i:=7) scLaw.nd rfl (Or.inl rfl) (Z1p Z01)
         case c2=>exact Z0c (i:=8) scLaw.nd rfl (Or.inl rfl) (Z06 GL hr35 (by rfl) mL FL.kp bL .nil Z0g (Z0h (pv 1) (Z0h (pv 4) (Z0h (pv 7) Z01))))
         case c3 =>
          refine' Z17 ?c (Z03 ?e1 (Z07 ?e2)) Z0k
          case c=>exact Z0f Z1l (Z06 GD hr1 (by rfl) U.mD U.D.kp U.bD .nil Z0g (Z0h (pv 1) (Z1r Z04 Z01))) Z04 (Z0j _)
          case e1=>exact Z0c (i:=8) scLaw.nd rfl (Or.inl rfl) (Z06 GT hr36 (by rfl) mT FT.kp bT .nil Z0g (Z0h (pv 8) (Z2s (Z0d Z0b (by rfl) T0.len PySem.boot_len (Z0h (pv 7) Z01)) Z01)))
          case e2=>exact Z0c (i:=7) scLaw.nd rfl (Or.inl rfl) (Zb6 (pv 7) (Zfp Zau Z04))
         case c4=>exact Z0c (i:=9) scLaw.nd rfl (Or.inl rfl) (Z06 GG hr4 (by rfl) mG FG.kp bG .nil Z0g (Z0h (pv 8) (Z09 (Z0y Z1z (pv 5) Z04 (fun _ _=>rfl)) Z01)))
         case c5 =>
          refine' Z17 ?c (Z07 (Z0l Z9w)) Z0k
          case c =>
           refine' PW.pt (Zc3 ?c1 (Z8n ?c2))
           case c1=>exact Z76 (Z3p (Z0d Z1e (by rfl) T0.isi (by decide +kernel) (Z0h (pv 9) (Z0h (Z2b (v := .ty "tuple") (by rfl) T0.tup (by decide +kernel) rfl) Z01))))
           case c2=>exact Z0f Zkd (Z0d Z0b (by rfl) T0.len PySem.boot_len (Z0h (pv 9) Z01)) (Z0d Z0b (by rfl) T0.len PySem.boot_len (Z0h (pv 7) Z01)) (Z0j _)
         case c6=>exact Z17 (Z76 (Z3p (Z06 GS hr41 (by rfl) mS FS.kp bS .nil Z0g (Z2s (Z06 GI hr36 (by rfl) mI FI.kp bI .nil Z0g (Z0h (pv 8) (Z0h (pv 9) Z01))) (Z09 (Z0y Z1z (pv 5) Z04 (fun _ _=>rfl)) Z01))))) (Z07 (Z0l Z9w)) Z0k
         case c7 =>
          refine' Z4b PassesOwn.never rfl (Z1o (by rfl) U.T.range (Z2s (Z0d Z0b (by rfl) T0.len PySem.boot_len (Z0h (pv 4) Z01)) Z01)) (Z0m (i:=10) scLaw.nd rfl (Or.inr rfl)) (Z03 ?d1 (Z07 ?d2))
          case d1 =>
           refine' Z0c (i:=11) scLaw.nd rfl (Or.inl rfl) (Z10 Z0s (by rfl) T0.tup Z1n (Z09 ?comp Z01))
           case comp =>
            refine' Z1a (N' := ["_law_at","_law_one","_law_told"]) (src := [some 10,none,some 5]) ?k1 ?k5 ?k6 ?k7
            case k1=>rfl
            case k5=>exact Z0i (Z05 Zfi) rfl Zm7 rfl (by decide +kernel)
            case k6=>exact Z4j (pv 9)
            case k7=>exact fun cl C ex s0 H0=>⟨Z0m (i:=1) Znh rfl (Or.inl rfl),Z1d,Z06 GI hr36 (by rfl) mI FI.kp bI .nil Z0g (Z0h (pv 1) (Z09 (Z0y (Z5c (K:=K) rfl) (Z0y (Z5c (K:=K) rfl) (pv 2) Z04 (fun _ _=>rfl)) (pv 0) (fun _ _=>rfl)) Z01))⟩
          case d2 =>
           refine' Z17 (Z76 (Z3p (Z06 GS hr41 (by rfl) mS FS.kp bS .nil Z0g (Z0h (pv 11) (Z2s (Z10 Z0s (by rfl) T0.tup Z1n (Z09 ?comp Z01)) Z01))))) (Z07 (Z0l Z9w)) Z0k
           case comp =>
            refine' Z1a (N' := ["_law_at","_law_column"]) (src := [some 10,none]) ?k1 ?k5 ?k6 ?k7
            case k1=>rfl
            case k5=>exact Z0i (Z05 Zfi) rfl Zm7 rfl (by decide +kernel)
            case k6=>exact Z2l (pv 7)
            case k7=>exact fun cl C ex s0 H0=>⟨Z0m (i:=1) Zm3 rfl (Or.inl rfl),Z1d,Z0y (Zb7 (K:=K) rfl) (pv 1) (pv 0) (fun _ _=>rfl)⟩
  case fin =>
   refine⟨_,rfl,a,ns,rfl,hS,hlen,fun d l H1 F1 hd1 s1 => ?_⟩
   refine⟨_,rfl,d,l,ns,0,3,rfl,F1,Nat.zero_le _,by decide,by decide,fun nm T n1 H2 hnm L2 hT hTn hn1 F2 b2 => ?_⟩
   have N2:Nms H2 nm T:=⟨L2,by omega,by omega,hTn⟩
   have hn1:n1<=24:=hn1
   refine⟨2,rfl,by decide,by decide,Z2t (lo:=0) (n:=2) (fun i σ H'=>∃(n':Nat) (o3 o4 o5 o6 o7 o8 o9 o10 o11:Option V),σ = [some (.ref a),some (.ref d),some (.ref nm),o3,o4,o5,o6,o7,o8,o9,o10,o11]/\n'<=24+i*100000000/\Feed H' d l ns n'/\Nms H' nm T)
    ⟨n1,none,none,none,none,none,none,none,none,none,rfl,Nat.le_trans hn1 (Nat.le_add_right _ _),F2,N2⟩ ?_ ?_⟩
   ·rintro i σ H3 hi ⟨n3,o3,o4,o5,o6,o7,o8,o9,o10,o11,rfl,hn3,F3,N3⟩
    have hb3:n3<=200000024:=by omega
    have hq3:n3+50000000<=24+(i+1)*100000000:=by omega
    refine⟨_,rfl,_,rfl,(by show 6<=sizeLine;decide),fun q hq => ?_⟩
    have sQ:=Z02 (o := .lst Zff) hq
    have F4:=F3.same sQ
    refine⟨_,rfl,d,l,ns,n3,_,rfl,F4,by omega,by decide,by decide,fun x n5 H5 x0 x1 hn5 F5 b5 => ?_⟩
    obtain⟨y,hy,hat⟩:=Z3w (xs:=Zff) (i:=x) x0 x1
    have hz:∃z:Int,y = .int z/\1<=z/\z<=5:=by
     unfold Zff at hy
     simp only [List.mem_cons,List.not_mem_nil,or_false] at hy
     rcases hy with rfl | rfl | rfl | rfl | rfl | rfl <;> exact⟨_,rfl,by decide,by decide⟩
    obtain⟨z,rfl,z1,z2⟩:=hz
    refine⟨q,Zff,x,.int z,rfl,rfl,SqL.of (F4.lst b5 Z00),hat,?_⟩
    have N5:=(N3.kp (Kp.of sQ)).kp (b5.kp F4)
    refine⟨d,l,nm,ns,n5,T,z,rfl,F5,N5,by omega,z1,by omega,fun fa fv fts n6 H6 hfa hfv hfl hok h60 hn6 F6 b6 hfa0 => ?_⟩
    have N6:=N5.kp (b6.kp F5)
    have hFs:Fs 33 fts.length fts:=⟨rfl,fun t ht=>(hok t ht).1,fun t ht=>(hok t ht).2.1⟩
    have hcs:∀t∈fts,cnt t<=131:=fun t ht=>(hok t ht).2.2
    have hm1:1<=fts.length:=by omega
    have hm2:fts.length<=5:=by omega
    have hn6':n6<=n3+30000000:=by omega
    clear hok hfl hn6 hn5 N5 F5 F4 hat sQ hq b5 b6 z1 z2 hfa0
    refine⟨_,rfl,fa,fv,rfl,.inl ⟨SqL.of hfa,fun q2 hq2 => ?_⟩⟩
    have s7:=Z02 (o := .tup fv) hq2
    refine⟨q2,fv,fts,fts.length,rfl,Z00,IsThs.kp (Kp.of s7) hfv,hFs,hm1,by omega,fun t ht=>Nat.le_trans (hcs t ht) (by decide),fun u H8 s8 hu8 => ?_⟩
    have sm8:=Zjq hm1 hFs hcs (by omega)
    have s78:=s7.trans s8
    have X8:LB H8 d l nm fa ns n6 T fv fts u (Z8i 33 fts.length fts):=⟨F6.same s78,N6.kp (Kp.of s78),s78 _ _ hfa,IsThs.kp (Kp.of (Z2n s78)) (Z4h hfv (Z1c fun t ht=>PfT.pl _ (hFs.pf t ht))),Z54 hu8 sm8.pl⟩
    have TT:=Zno hm1 hFs
    have hPc:cnt (mP 33 [] fts).1<=131:=Nat.le_trans TT.cn (hcs _ (Z0p rfl hm1))
    clear F6 N6 hfa hfv hu8 s78 s8 s7 hq2 sm8
    refine⟨4,rfl,by decide,by decide,Z2t (lo:=0) (n:=4) (fun j σ H'=>∃(n':Nat) (o6 o7 o8 o9 o10 o11:Option V),σ = [some (.ref a),some (.ref d),some (.ref nm),some (.int (0+i)),some (.ref fa),some u,o6,o7,o8,o9,o10,o11]/\n'<=n6+j*1000/\LB H' d l nm fa ns n' T fv fts u (Z8i 33 fts.length fts))
     ⟨n6,o6,o7,o8,o9,o10,o11,rfl,by omega,X8⟩ ?_ ?_⟩
    ·clear X8
     rintro j σ H9 hj ⟨n9,o6,o7,o8,o9,o10,o11,rfl,hn9,X9⟩
     have hn9':n9<=n6+3000:=by omega
     refine⟨Nat.zero_le _,fun ca hca => ?_⟩
     have sC:=Z02 (o := .lst []) hca
     have X10:=X9.same sC
     have ca10:upd H9 ca (.lst []) ca=some (.lst []):=Z00
     have hc1:ca≠l:=(Z0a X9.F.ls hca).symm
     have hc2:ca≠nm:=(Z0a X9.N.a hca).symm
     have hc3:ca≠fa:=(Z0a X9.a hca).symm
     generalize upd H9 ca (.lst [])=H10 at X10 ca10 ⊢
     have hcd:fa≠d:=by
      obtain⟨⟨z,hd⟩,_,_⟩:=X10.F
      exact Z1b X10.a hd (by intro q;cases q)
     have hh131:=hcs _ (Z0p (ts:=fts) rfl hm1)
     refine⟨_,rfl,_,rfl,_,rfl,fts.length,hm1,by omega,d,l,fa,ca,ns,n9,fts,[],[],rfl,X10.F,hc1.symm,by omega,.lst (Z21 X10.a hcd hc3.symm) (IsThs.kp (Kp.of (X10.F.off ca10)) X10.th),hFs,ca10,.nil,(fun c hc=>by cases hc),by rw[List.length_nil];omega,fun v L cvs D n11 H11 hv G hc11 hcv11 hn11 hD11 F11 b11 => ?_⟩
     have X11:=X10.but2 b11 F11 ca10 hc2 hc3
     have Y11:PC H11 fts.length (mP 33 [] fts).2 (mP 33 [] fts).1 v L ca D:=⟨Zhf hm1 hFs hcs h60 G,IsTh.kp (Kp.of off_sub) hv,⟨cvs,hc11,IsThs.kp (Kp.of off_sub) hcv11⟩,Zhh hm1 hcs G⟩
     have hn11':n11<=n9+262:=by omega
     clear X9 X10 ca10 G hv hc11 hcv11 b11 sC
     refine⟨fun σ' H'=>∃(n':Nat) (v:V) (L:Th) (ca:Addr) (D:List (List Th)),σ' = [some (.ref a),some (.ref d),some (.ref nm),some (.int (0+i)),some (.ref fa),some u,some (.int (0+j)),some (.ref ca),some v,o9,o10,o11]/\n'<=n9+300/\LB H' d l nm fa ns n' T fv fts u (Z8i 33 fts.length fts)/\PC H' fts.length (mP 33 [] fts).2 (mP 33 [] fts).1 v L ca D,?_,?_⟩
     ·refine⟨_,rfl,d,l,ns,n11,_,rfl,X11.F,by omega,by decide,by decide,fun y n12 H12 _ _ hn12 F12 b12=>⟨rfl,_,rfl,?_⟩⟩
      have X12:=X11.draw b12 F12
      have Y12:=Y11.kp (b12.kp X11.F)
      refine Z22 (fun g => ?_) (fun g=>⟨n12,v,L,ca,D,rfl,by omega,X12,Y12⟩)
      obtain⟨cv,hc12,hcv12⟩:=Y12.c
      have hcl:=IsThs.len _ hcv12
      rw[List.length_map] at hcl
      refine⟨_,rfl,_,rfl,ca,cv,rfl,.inl (SqL.of hc12),v,cv.length,L,rfl,Y12.v,Y12.X.pf,fun i hi=>by rw[hcl];exact(Y12.X.hh i).mp hi,fun v' H13 s13 hv13 => ?_⟩
      rw[hcl] at hv13
      refine⟨_,rfl,_,rfl,rfl,ca,cv,rfl,SqL.of (s13 _ _ hc12),fun q4 hq4 => ?_⟩
      have s14:=Z02 (o := .lst cv.reverse) hq4
      have sA:=s13.trans s14
      refine⟨n12,v',_,q4,D.reverse,rfl,by omega,X12.same sA,⟨Y12.X.turn,IsTh.kp (Kp.of s14) hv13,⟨cv.reverse,Z00,?_⟩,fun c hc=>Y12.cc c (List.mem_reverse.mp hc)⟩⟩
      rw[List.map_reverse]
      exact Zh3 _ (IsThs.kp (Kp.of sA) hcv12)
     clear X11 Y11 F11 hn11' hn11 hD11
     rintro σ15 H15 ⟨n15,v,L,ca,D,rfl,hn15,X15,Y15⟩
     obtain⟨ua,x1,ra,rvs,rfl,hua,hx1,hra,hrv⟩:=Zjz X15.tu
     have Z:=Y15.X
     have hPf:=TT.pf
     have hPlt:=TT.lt
     have hPsz:=Z6t 33 hPf
     have hLsz:=Z6t 34 Z.pf
     have hLc:=Z.cn
     have hDf:=Z.few
     refine⟨_,rfl,_,rfl,ua,_,0,x1,rfl,rfl,SqT.of hua,rfl,v,x1,L,(mP 33 [] fts).1,D.length,rfl,⟨Y15.v,Z.pf,by omega⟩,⟨hx1,hPf.up,by omega⟩,Z.few,Z.hh,fun no=>absurd Z.got (no _ (Zm0 _ _ _)),fun σ hσ e ga ws H16 s16 hga hws => ?_⟩
     rw[Z.only e] at hws
     have X16:=X15.same s16
     have Y16:=Y15.kp (Kp.of s16)
     obtain⟨cv,hc16,hcv16⟩:=Y16.c
     have hcl:=IsThs.len _ hcv16
     rw[List.length_map] at hcl
     have hwl:=IsThs.len _ hws
     rw[List.length_map] at hwl
     have hgt:IsTh H16 (.ref ga) (.tup (D.map (qE 33 (mP 33 [] fts).2))) := .tup hga hws
     refine⟨_,rfl,_,_,_,_,rfl,Z4m hgt,KI.tup hgt,_,rfl,Z4l ?_⟩
     refine⟨_,rfl,ga,ws,rfl,.inr (SqT.of hga),_,rfl,ca,cv,rfl,.inl (SqL.of hc16),rfl,_,rfl,Z22 (fun g => ?_) (fun _ => ?_)⟩
     ·rw[decide_eq_true (by rw[hwl,hcl])] at g
      cases g
     have sP:Sm 33 (mP 33 [] fts).1:=⟨PfT.pl _ hPf,by have:=PfT.dp _ hPf;omega,by omega⟩
     refine⟨fun σ' H'=>σ' = [some (.ref a),some (.ref d),some (.ref nm),some (.int (0+i)),some (.ref fa),some (.ref ua),some (.int (0+j)),some (.ref ca),some v,some (.ref ga),o10,o11]/\Same H16 H',?_,?_⟩
     ·refine⟨_,rfl,_,rfl,v,ga,L,ws,D.map (qE 33 (mP 33 [] fts).2),rfl,Y16.v,Z.pf,.inl hga,hws,fun i hi=>by rw[List.length_map];exact(Z.hh i).mp hi,fun v' H17 s17 hv17 => ?_⟩
      rw[Z.back] at hv17
      have sA:=s16.trans s17
      refine⟨_,rfl,ua,_,0,x1,rfl,rfl,SqT.of (sA _ _ hua),rfl,v',x1,_,rfl,hv17,IsTh.kp (Kp.of sA) hx1,sP.pl,Nat.lt_of_le_of_lt sP.dp (by decide),sP.sz,fun H18 s18=>⟨_,rfl,Z4l ⟨rfl,s17.trans s18⟩⟩⟩
     rintro σ17 H17 ⟨rfl,s17⟩
     have hfvl:=IsThs.len _ X16.ths
     have hrvl:=IsThs.len _ hrv
     unfold Z42 at hrvl
     rw[List.length_map,List.length_range] at hrvl
     refine⟨_,rfl,fa,fv,rfl,.inl (SqL.of (s17 _ _ X16.a)),(fv.length:Int),rfl,by omega,by omega,?_⟩
     rw[Int.toNat_natCast]
     refine Z2t (lo:=0) (n:=fv.length) (fun q σ H'=>∃(o10 o11:Option V),σ = [some (.ref a),some (.ref d),some (.ref nm),some (.int (0+i)),some (.ref fa),some (.ref ua),some (.int (0+j)),some (.ref ca),some v,some (.ref ga),o10,o11]/\Same H16 H') ⟨o10,o11,rfl,s17⟩ ?_ ?_
     ·rintro q σ H18 hq ⟨o10,o11,rfl,s18⟩
      have hqm:q<fts.length:=by omega
      have hqr:q<rvs.length:=by omega
      obtain⟨y,hy1,hy2⟩:=Z0q _ hrv (List.getElem?_eq_getElem hqr)
      rw[Zh4 hqm] at hy1
      cases hy1
      obtain⟨ya,yws,ey,hya,hyws⟩:=Z1i hy2
      have hatr:atI rvs (0+(q:Int))=some (.ref ya):=by rw[Int.zero_add,<- ey];exact Z2c (List.getElem?_eq_getElem hqr)
      have sm:=Zm2 (p:=q) hqm Z.fs Y15.cc (by have:=Nat.mul_le_mul_right (3*131) (Nat.le_of_lt hDf);omega)
      refine⟨_,rfl,ga,rfl,⟨_,SqT.of (s18 _ _ hga)⟩,Z2q (K:=K) (a:=ga) (xs:=ws) (fun i ys σc H'=>∃o,σc = [some (.int (0+(q:Int))),o,some (.ref ua)]/\Same H18 H'/\IsThs H' ys ((D.take i).map fun c=>c.getD q dT)) ⟨none,rfl,Same.refl _,.nil⟩ (fun i ys σc H' ⟨_,_,e,_⟩=>SqT.of (e _ _ (s18 _ _ hga))) ?_ ?_⟩
      ·rintro p x ys σc H19 hx hp ⟨o,rfl,s19,hys⟩
       have sB:=(s16.trans s18).trans s19
       have hpD:p<D.length:=by omega
       obtain⟨t,ht,hxt⟩:=Z0q _ (IsThs.kp (Kp.of (s18.trans s19)) hws) hx
       rw[List.getElem?_map,List.getElem?_eq_getElem hpD] at ht
       cases ht
       have hcD:D[p]∈D:=List.getElem_mem hpD
       have hyl:=IsThs.len _ hys
       rw[List.length_map,List.length_take] at hyl
       refine⟨by omega,_,rfl,_,rfl,ua,_,1,.ref ra,rfl,rfl,SqT.of (sB _ _ hua),rfl,_,rfl,ra,rvs,0+(q:Int),.ref ya,rfl,rfl,SqT.of (sB _ _ hra),hatr,x,ya,qE 33 (mP 33 [] fts).2 D[p],yws,_,rfl,hxt,(Zng hm1 _ 33 _ (Z.fs _ hcD)).up,.inl (sB _ _ hya),IsThs.kp (Kp.of sB) hyws,fun r hr => ?_,fun v' H20 s20 hv20=>nx hp ⟨_,rfl,s19.trans s20,?_⟩⟩
       ·rw[List.length_map]
        have:=Z.hole hPlt hpD
        rw[List.getD_eq_getElem?_getD,List.getElem?_eq_getElem hpD] at this
        exact this r hr
       ·rw[Zm1,Z.col _ hcD q hqm] at hv20
        rw[List.take_add_one,List.getElem?_eq_getElem hpD,List.map_append]
        exact IsThs.app _ (IsThs.kp (Kp.of s20) hys) (.cons hv20 .nil)
      ·rintro ys σc H19 ⟨o,rfl,s19,hys⟩ la hla
       rw[List.take_of_length_le (by omega)] at hys
       have sl:=Z02 (o := .lst ys) hla
       refine⟨la,ys,rfl,.inl ⟨SqL.of Z00,fun q2 hq2 => ?_⟩⟩
       have sm2:=Z02 (o := .tup ys) hq2
       have s20:=(s18.trans s19).trans (sl.trans sm2)
       have hq20:IsTh _ (.ref q2) (.tup (D.map fun c=>c.getD q dT)) := .tup (Z00 (H:=upd H19 la (.lst ys)) (a:=q2)) (IsThs.kp (Kp.of (sl.trans sm2)) hys)
       generalize upd (upd H19 la (.lst ys)) q2 (.tup ys)=H20 at s20 hq20 ⊢
       refine⟨_,rfl,_,rfl,ca,rfl,⟨_,SqL.of (s20 _ _ hc16)⟩,Z1q (K:=K) (a:=ca) (xs:=cv) (fun i zs σc H'=>∃o,σc = [some (.int (0+(q:Int))),o]/\Same H20 H'/\IsThs H' zs ((D.take i).map fun c=>c.getD q dT)) ⟨none,rfl,Same.refl _,.nil⟩ (fun i ys σc H' ⟨_,_,e,_⟩=>SqL.of (e _ _ (s20 _ _ hc16))) ?_ ?_⟩
       ·rintro p x zs σc H21 hx hp ⟨o,rfl,s21,hzs⟩
        have hpD:p<D.length:=by omega
        obtain⟨t,ht,hxt⟩:=Z0q _ (IsThs.kp (Kp.of (s20.trans s21)) hcv16) hx
        rw[List.getElem?_map,List.getElem?_eq_getElem hpD] at ht
        cases ht
        obtain⟨xa,xs,rfl,h1,h2⟩:=Z3d hxt
        have hxl:=IsThs.len _ h2
        rw[(Z.fs _ (List.getElem_mem hpD)).len] at hxl
        have hqx:q<xs.length:=by omega
        obtain⟨w',hw1,hw2⟩:=Z0q _ h2 (List.getElem?_eq_getElem hqx)
        have hzl:=IsThs.len _ hzs
        rw[List.length_map,List.length_take] at hzl
        refine⟨by omega,_,rfl,_,rfl,xa,xs,0+(q:Int),xs[q],rfl,rfl,SqL.of h1,by rw[Int.zero_add];exact Z2c (List.getElem?_eq_getElem hqx),nx hp ⟨_,rfl,s21,?_⟩⟩
        rw[List.take_add_one,List.getElem?_eq_getElem hpD,List.map_append]
        refine IsThs.app _ hzs (.cons ?_ .nil)
        show IsTh H21 xs[q] (D[p].getD q dT)
        rw[List.getD_eq_getElem?_getD,hw1]
        exact hw2
       ·rintro zs σc H21 ⟨o,rfl,s21,hzs⟩ lb hlb
        rw[List.take_of_length_le (by omega)] at hzs
        have sl2:=Z02 (o := .lst zs) hlb
        refine⟨lb,zs,rfl,.inl ⟨SqL.of Z00,fun q5 hq5 => ?_⟩⟩
        have sl3:=Z02 (o := .tup zs) hq5
        have sC:=s21.trans (sl2.trans sl3)
        refine⟨.ref q2,.ref q5,_,rfl,IsTh.kp (Kp.of sC) hq20,.tup Z00 (IsThs.kp (Kp.of (sl2.trans sl3)) hzs),sm.pl,Nat.lt_of_le_of_lt sm.dp (by decide),sm.sz,fun H22 s22=>⟨_,rfl,Z4l ⟨_,_,rfl,s20.trans (sC.trans s22)⟩⟩⟩
     ·rintro σ H18 ⟨o10,o11,rfl,s18⟩
      exact⟨n15,_,_,_,_,_,_,rfl,by omega,X16.same s18⟩
    ·clear X8
     rintro σ H9 ⟨n9,o6,o7,o8,o9,o10,o11,rfl,hn9,X9⟩
     exact⟨n9,_,_,_,_,_,_,_,_,_,rfl,by omega,X9.F,X9.N⟩
   ·rintro σ H3 ⟨n3,o3,o4,o5,o6,o7,o8,o9,o10,o11,rfl,hn3,F3,N3⟩
    exact k H3
end
theorem Z2a {P:List Value->Prop}(h:∀a,P [a]):∀us:List Value,us.length=1->P us
 | [a],_=>h a
theorem Z3o {P:List Value->Prop}(h:∀a b,P [a,b]):∀us:List Value,us.length=2->P us
 | [a,b],_=>h a b
theorem Z8m {P:List Value->Prop}(h:∀a b c,P [a,b,c]):∀us:List Value,us.length=3->P us
 | [a,b,c],_=>h a b c
theorem Zfg {P:List Value->Prop}(h:∀a b c d,P [a,b,c,d]):∀us:List Value,us.length=4->P us
 | [a,b,c,d],_=>h a b c d
theorem Zk0 {P:List Value->Prop}(h:∀a b c d e,P [a,b,c,d,e]):∀us:List Value,us.length=5->P us
 | [a,b,c,d,e],_=>h a b c d e
theorem Zhi {P:Program}{w:World}{K:PySem.W.Frag}{mg:Str->Option Value}{base:Heap}{f:Addr}{fd:FuncData}{ps:List Str}{R:Nat}{sp:Nat->Sp}(G:∀m,1<=m->m<=20->FnOk P w K mg base CX0 R f fd ps (sp m)):FnOk P w K mg base CX0 R f fd ps (fun vs H Q E=>∃m,1<=m/\m<=20/\sp m vs H Q E) :=
 ⟨fun vs H Q E ⟨m,h1,h2,h⟩=>(G m h1 h2).len vs H Q E h,fun A outer s H args us vs Q E hr he hb hv ⟨m,h1,h2,h⟩=>(G m h1 h2).run A outer s H args us vs Q E hr he hb hv h⟩
theorem Zk1 {K:PySem.W.Frag}(kt_NoneType_int:PySem.W.kitOne K (.type "NoneType") (.type "int")=some false)(kt_bool_int:PySem.W.kitOne K (.type "bool") (.type "int")=some true)(kt_int_int:PySem.W.kitOne K (.type "int") (.type "int")=some true)(kt_str_int:PySem.W.kitOne K (.type "str") (.type "int")=some false)(kt_tuple_int:PySem.W.kitOne K (.type "tuple") (.type "int")=some false)(kt_list_int:PySem.W.kitOne K (.type "list") (.type "int")=some false)(kt_NoneType_bool:PySem.W.kitOne K (.type "NoneType") (.type "bool")=some false)(kt_bool_bool:PySem.W.kitOne K (.type "bool") (.type "bool")=some true)(kt_int_bool:PySem.W.kitOne K (.type "int") (.type "bool")=some false)(kt_str_bool:PySem.W.kitOne K (.type "str") (.type "bool")=some false)(kt_tuple_bool:PySem.W.kitOne K (.type "tuple") (.type "bool")=some false)(kt_list_bool:PySem.W.kitOne K (.type "list") (.type "bool")=some false)(kt_NoneType_tuple:PySem.W.kitOne K (.type "NoneType") (.type "tuple")=some false)(kt_bool_tuple:PySem.W.kitOne K (.type "bool") (.type "tuple")=some false)(kt_int_tuple:PySem.W.kitOne K (.type "int") (.type "tuple")=some false)(kt_str_tuple:PySem.W.kitOne K (.type "str") (.type "tuple")=some false)(kt_tuple_tuple:PySem.W.kitOne K (.type "tuple") (.type "tuple")=some true)(kt_list_tuple:PySem.W.kitOne K (.type "list") (.type "tuple")=some false):Kits K:=by
 refine⟨?i,?b,?t⟩
 case i =>
  intro H v t h
  cases h with
  | «at» f =>
   cases v with
   | non=>exact kt_NoneType_int
   | bl b=>exact kt_bool_int
   | int i=>exact kt_int_int
   | str x=>exact kt_str_int
   | _=>exact absurd (show false=true from f) Bool.false_ne_true
  | tup e r=>exact kt_tuple_int
  | lst e r=>exact kt_list_int
 case b =>
  intro H v t h
  cases h with
  | «at» f =>
   cases v with
   | non=>exact kt_NoneType_bool
   | bl b=>exact kt_bool_bool
   | int i=>exact kt_int_bool
   | str x=>exact kt_str_bool
   | _=>exact absurd (show false=true from f) Bool.false_ne_true
  | tup e r=>exact kt_tuple_bool
  | lst e r=>exact kt_list_bool
 case t =>
  intro H v t h
  cases h with
  | «at» f =>
   cases v with
   | non=>exact kt_NoneType_tuple
   | bl b=>exact kt_bool_tuple
   | int i=>exact kt_int_tuple
   | str x=>exact kt_str_tuple
   | _=>exact absurd (show false=true from f) Bool.false_ne_true
  | tup e r=>exact kt_tuple_tuple
  | lst e r=>exact kt_list_tuple
abbrev hA (K:PySem.W.Frag)(n:Str)(f:Addr):Prop:=PySem.W.nsIn K mainGlobals n=some (some (.ref f))
abbrev hL (K:PySem.W.Frag)(n:Str)(S:Stmt)(f:Addr)(oc:Value)(od:Option Addr)(kV dc pm:Value)(an:Option Addr)(cd ct:Value)(sl:Array (Option Value)):Prop:=K.lookup f=some ⟨oc,od,.func (PySem.W.fnOf n n (Z0t S) (Z0r S) (Z05 S) .none kV dc pm an cd ct),sl⟩
abbrev hC (K:PySem.W.Frag)(cd:Value)(n:Str):Prop:=PySem.W.codeIn K cd n=true
abbrev hP (K:PySem.W.Frag)(f:Addr):Prop:=PySem.W.keepIn K (.ref f)=true
abbrev hZ (K:PySem.W.Frag)(n:Str):Prop:=PySem.W.nsIn K mainGlobals n=some none
abbrev hI (K:PySem.W.Frag)(a b:String)(v:Bool):Prop:=PySem.W.kitOne K (.type a) (.type b)=some v
theorem all_mk {l:PySem.W.OpenLaw}{w:World}{K:PySem.W.Frag}{h:Heap}{mg:Str->Option Value}{fa f0 f1 f2 f3 f4 f5 f6 f7 f8 f9 f10 f11 f12 f13 f14 f15 f16 f17 f18 f19 f20 f21 f22 f23 f24 f25 f26 f27 f28 f29 f30:Addr}(X:K.In h)(G:h.Ns mainGlobals mg)(hfa:mg "law"=some (.ref fa))
  {od0 an0 od1 an1 od2 an2 od3 an3 od4 an4 od5 an5 od6 an6 od7 an7 od8 an8 od9 an9 od10 an10 od11 an11 od12 an12 od13 an13 od14 an14 od15 an15 od16 an16 od17 an17 od18 an18 od19 an19 od20 an20 od21 an21 od22 an22 od23 an23 od24 an24 od25 an25 od26 an26 od27 an27 od28 an28 od29 an29 od30 an30:Option Addr} {sl0 sl1 sl2 sl3 sl4 sl5 sl6 sl7 sl8 sl9 sl10 sl11 sl12 sl13 sl14 sl15 sl16 sl17 sl18 sl19 sl20 sl21 sl22 sl23 sl24 sl25 sl26 sl27 sl28 sl29 sl30:Array (Option Value)} {oc0 kV0 dc0 pm0 cd0 ct0 oc1 kV1 dc1 pm1 cd1 ct1 oc2 kV2 dc2 pm2 cd2 ct2 oc3 kV3 dc3 pm3 cd3 ct3 oc4 kV4 dc4 pm4 cd4 ct4 oc5 kV5 dc5 pm5 cd5 ct5 oc6 kV6 dc6 pm6 cd6 ct6 oc7 kV7 dc7 pm7 cd7 ct7 oc8 kV8 dc8 pm8 cd8 ct8 oc9 kV9 dc9 pm9 cd9 ct9 oc10 kV10 dc10 pm10 cd10 ct10 oc11 kV11 dc11 pm11 cd11 ct11 oc12 kV12 dc12 pm12 cd12 ct12 oc13 kV13 dc13 pm13 cd13 ct13 oc14 kV14 dc14 pm14 cd14 ct14 oc15 kV15 dc15 pm15 cd15 ct15 oc16 kV16 dc16 pm16 cd16 ct16 oc17 kV17 dc17 pm17 cd17 ct17 oc18 kV18 dc18 pm18 cd18 ct18 oc19 kV19 dc19 pm19 cd19 ct19 oc20 kV20 dc20 pm20 cd20 ct20 oc21 kV21 dc21 pm21 cd21 ct21 oc22 kV22 dc22 pm22 cd22 ct22 oc23 kV23 dc23 pm23 cd23 ct23 oc24 kV24 dc24 pm24 cd24 ct24 oc25 kV25 dc25 pm25 cd25 ct25 oc26 kV26 dc26 pm26 cd26 ct26 oc27 kV27 dc27 pm27 cd27 ct27 oc28 kV28 dc28 pm28 cd28 ct28 oc29 kV29 dc29 pm29 cd29 ct29 oc30 kV30 dc30 pm30 cd30 ct30:Value} {tkN tkO tkC:Tok}
  (a0:hA K "head" f0) (l0:hL K "head" Zch f0 oc0 od0 kV0 dc0 pm0 an0 cd0 ct0 sl0) (c0:hC K cd0 "head") (k0:hP K f0)
  (a1:hA K "parts" f1) (l1:hL K "parts" Z6g f1 oc1 od1 kV1 dc1 pm1 an1 cd1 ct1 sl1) (c1:hC K cd1 "parts") (k1:hP K f1)
  (a2:hA K "steps" f2) (l2:hL K "steps" Z7i f2 oc2 od2 kV2 dc2 pm2 an2 cd2 ct2 sl2) (c2:hC K cd2 "steps") (k2:hP K f2)
  (a3:hA K "flat" f3) (l3:hL K "flat" Za9 f3 oc3 od3 kV3 dc3 pm3 an3 cd3 ct3 sl3) (c3:hC K cd3 "flat") (k3:hP K f3)
  (a4:hA K "built" f4) (l4:hL K "built" Z9a f4 oc4 od4 kV4 dc4 pm4 an4 cd4 ct4 sl4) (c4:hC K cd4 "built") (k4:hP K f4)
  (a5:hA K "headed_alike" f5) (l5:hL K "headed_alike" Z5m f5 oc5 od5 kV5 dc5 pm5 an5 cd5 ct5 sl5) (c5:hC K cd5 "headed_alike") (k5:hP K f5)
  (a6:hA K "got" f6) (l6:hL K "got" Zk3 f6 oc6 od6 kV6 dc6 pm6 an6 cd6 ct6 sl6) (c6:hC K cd6 "got") (k6:hP K f6)
  (a7:hA K "parts_together" f7) (l7:hL K "parts_together" Z2w f7 oc7 od7 kV7 dc7 pm7 an7 cd7 ct7 sl7) (c7:hC K cd7 "parts_together") (k7:hP K f7)
  (a8:hA K "most_shared" f8) (l8:hL K "most_shared" Zaa f8 oc8 od8 kV8 dc8 pm8 an8 cd8 ct8 sl8) (c8:hC K cd8 "most_shared") (k8:hP K f8)
  (a9:hA K "_law_feed" f9) (l9:hL K "_law_feed" Ze6 f9 oc9 od9 kV9 dc9 pm9 an9 cd9 ct9 sl9) (c9:hC K cd9 "_law_feed") (k9:hP K f9)
  (a10:hA K "_law_draw" f10) (l10:hL K "_law_draw" Ze7 f10 oc10 od10 kV10 dc10 pm10 an10 cd10 ct10 sl10) (c10:hC K cd10 "_law_draw") (k10:hP K f10)
  (a11:hA K "_law_value" f11) (l11:hL K "_law_value" Z3y f11 oc11 od11 kV11 dc11 pm11 an11 cd11 ct11 sl11) (c11:hC K cd11 "_law_value") (k11:hP K f11)
  (a12:hA K "_law_spelled" f12) (l12:hL K "_law_spelled" Z4r f12 oc12 od12 kV12 dc12 pm12 an12 cd12 ct12 sl12) (c12:hC K cd12 "_law_spelled") (k12:hP K f12)
  (a13:hA K "_law_name" f13) (l13:hL K "_law_name" Ze8 f13 oc13 od13 kV13 dc13 pm13 an13 cd13 ct13 sl13) (c13:hC K cd13 "_law_name") (k13:hP K f13)
  (a14:hA K "_law_names" f14) (l14:hL K "_law_names" Z9b f14 oc14 od14 kV14 dc14 pm14 an14 cd14 ct14 sl14) (c14:hC K cd14 "_law_names") (k14:hP K f14)
  (a15:hA K "_law_parts" f15) (l15:hL K "_law_parts" Z2i f15 oc15 od15 kV15 dc15 pm15 an15 cd15 ct15 sl15) (c15:hC K cd15 "_law_parts") (k15:hP K f15)
  (a16:hA K "_law_with" f16) (l16:hL K "_law_with" Zci f16 oc16 od16 kV16 dc16 pm16 an16 cd16 ct16 sl16) (c16:hC K cd16 "_law_with") (k16:hP K f16)
  (a17:hA K "_law_nodes" f17) (l17:hL K "_law_nodes" Z6h f17 oc17 od17 kV17 dc17 pm17 an17 cd17 ct17 sl17) (c17:hC K cd17 "_law_nodes") (k17:hP K f17)
  (a18:hA K "_law_same" f18) (l18:hL K "_law_same" Zcj f18 oc18 od18 kV18 dc18 pm18 an18 cd18 ct18 sl18) (c18:hC K cd18 "_law_same") (k18:hP K f18)
  (a19:hA K "_law_world" f19) (l19:hL K "_law_world" Z9c f19 oc19 od19 kV19 dc19 pm19 an19 cd19 ct19 sl19) (c19:hC K cd19 "_law_world") (k19:hP K f19)
  (a20:hA K "_law_leaf" f20) (l20:hL K "_law_leaf" Zck f20 oc20 od20 kV20 dc20 pm20 an20 cd20 ct20 sl20) (c20:hC K cd20 "_law_leaf") (k20:hP K f20)
  (a21:hA K "_law_form" f21) (l21:hL K "_law_form" Z9d f21 oc21 od21 kV21 dc21 pm21 an21 cd21 ct21 sl21) (c21:hC K cd21 "_law_form") (k21:hP K f21)
  (a22:hA K "_law_turned_about" f22) (l22:hL K "_law_turned_about" Z5e f22 oc22 od22 kV22 dc22 pm22 an22 cd22 ct22 sl22) (c22:hC K cd22 "_law_turned_about") (k22:hP K f22)
  (a23:hA K "_law_fill" f23) (l23:hL K "_law_fill" Zcl f23 oc23 od23 kV23 dc23 pm23 an23 cd23 ct23 sl23) (c23:hC K cd23 "_law_fill") (k23:hP K f23)
  (a24:hA K "_law_kin" f24) (l24:hL K "_law_kin" Zk4 f24 oc24 od24 kV24 dc24 pm24 an24 cd24 ct24 sl24) (c24:hC K cd24 "_law_kin") (k24:hP K f24)
  (a25:hA K "_law_leaves" f25) (l25:hL K "_law_leaves" Z6i f25 oc25 od25 kV25 dc25 pm25 an25 cd25 ct25 sl25) (c25:hC K cd25 "_law_leaves") (k25:hP K f25)
  (a26:hA K "_law_leafed" f26) (l26:hL K "_law_leafed" Z5f f26 oc26 od26 kV26 dc26 pm26 an26 cd26 ct26 sl26) (c26:hC K cd26 "_law_leafed") (k26:hP K f26)
  (a27:hA K "_law_kindred" f27) (l27:hL K "_law_kindred" Z4s f27 oc27 od27 kV27 dc27 pm27 an27 cd27 ct27 sl27) (c27:hC K cd27 "_law_kindred") (k27:hP K f27)
  (a28:hA K "_law_headed" f28) (l28:hL K "_law_headed" Z6j f28 oc28 od28 kV28 dc28 pm28 an28 cd28 ct28 sl28) (c28:hC K cd28 "_law_headed") (k28:hP K f28)
  (a29:hA K "_law_less" f29) (l29:hL K "_law_less" Zab f29 oc29 od29 kV29 dc29 pm29 an29 cd29 ct29 sl29) (c29:hC K cd29 "_law_less") (k29:hP K f29)
  (a30:hA K "law" f30) (l30:hL K "law" Zfi f30 oc30 od30 kV30 dc30 pm30 an30 cd30 ct30 sl30) (c30:hC K cd30 "law") (k30:hP K f30)
  (q_isinstance:hZ K "isinstance")
  (q_int:hZ K "int")
  (q_bool:hZ K "bool")
  (q_str:hZ K "str")
  (q_tuple:hZ K "tuple")
  (q_len:hZ K "len")
  (q_list:hZ K "list")
  (q_range:hZ K "range")
  (q_sum:hZ K "sum")
  (q_all:hZ K "all")
  (q_any:hZ K "any")
  (q_reversed:hZ K "reversed")
  (q_max:hZ K "max")
  (q_min:hZ K "min")
  (q_zip:hZ K "zip")
  (q_sorted:hZ K "sorted")
  (gN:PySem.W.nsIn K mainGlobals "NODE"=some (some (.str "node" tkN)))
  (gO:PySem.W.nsIn K mainGlobals "OPENED"=some (some (.str "opened" tkO)))
  (gC:PySem.W.nsIn K mainGlobals "CLOSED"=some (some (.str "closed" tkC)))
  (kt_NoneType_int:hI K "NoneType" "int" false)
  (kt_bool_int:hI K "bool" "int" true)
  (kt_int_int:hI K "int" "int" true)
  (kt_str_int:hI K "str" "int" false)
  (kt_tuple_int:hI K "tuple" "int" false)
  (kt_list_int:hI K "list" "int" false)
  (kt_NoneType_bool:hI K "NoneType" "bool" false)
  (kt_bool_bool:hI K "bool" "bool" true)
  (kt_int_bool:hI K "int" "bool" false)
  (kt_str_bool:hI K "str" "bool" false)
  (kt_tuple_bool:hI K "tuple" "bool" false)
  (kt_list_bool:hI K "list" "bool" false)
  (kt_NoneType_tuple:hI K "NoneType" "tuple" false)
  (kt_bool_tuple:hI K "bool" "tuple" false)
  (kt_int_tuple:hI K "int" "tuple" false)
  (kt_str_tuple:hI K "str" "tuple" false)
  (kt_tuple_tuple:hI K "tuple" "tuple" true)
  (kt_list_tuple:hI K "list" "tuple" false)
  (kt_int_str:hI K "int" "str" false)
  (kt_str_str:hI K "str" "str" true) :
  ∃fd:FuncData,(∀(s:Shared) (v:Value),BindsTo s fd ⟨[v],[]⟩ [("_law_script",v)])/\∀base:Heap,K.In base->base.Ns mainGlobals mg->FnOk l.prog w K mg base CX0 45 fa fd ["_law_script"] (spLaw K):=by
 have e:=hfa.symm.trans (PySem.W.mg_of X G a30)
 cases e
 have F0:=Z18 (st:=Zch) l0 c0 k0
 have b0:=F0.binds (ps := ["node"]) fun _ _ _ _ _ _=>Z2a fun _=>rfl
 have m0:=PySem.W.mg_of X G a0
 have F1:=Z18 (st:=Z6g) l1 c1 k1
 have b1:=F1.binds (ps := ["e"]) fun _ _ _ _ _ _=>Z2a fun _=>rfl
 have m1:=PySem.W.mg_of X G a1
 have F2:=Z18 (st:=Z7i) l2 c2 k2
 have b2:=F2.binds (ps := ["tree"]) fun _ _ _ _ _ _=>Z2a fun _=>rfl
 have m2:=PySem.W.mg_of X G a2
 have F3:=Z18 (st:=Za9) l3 c3 k3
 have b3:=F3.binds (ps := ["tree"]) fun _ _ _ _ _ _=>Z2a fun _=>rfl
 have m3:=PySem.W.mg_of X G a3
 have F4:=Z18 (st:=Z9a) l4 c4 k4
 have b4:=F4.binds (ps := ["rows"]) fun _ _ _ _ _ _=>Z2a fun _=>rfl
 have m4:=PySem.W.mg_of X G a4
 have F5:=Z18 (st:=Z5m) l5 c5 k5
 have b5:=F5.binds (ps := ["forms"]) fun _ _ _ _ _ _=>Z2a fun _=>rfl
 have m5:=PySem.W.mg_of X G a5
 have F6:=Z18 (st:=Zk3) l6 c6 k6
 have b6:=F6.binds (ps := ["pattern","other"]) fun _ _ _ _ _ _=>Z3o fun _ _=>rfl
 have m6:=PySem.W.mg_of X G a6
 have F7:=Z18 (st:=Z2w) l7 c7 k7
 have b7:=F7.binds (ps := ["forms"]) fun _ _ _ _ _ _=>Z2a fun _=>rfl
 have m7:=PySem.W.mg_of X G a7
 have F8:=Z18 (st:=Zaa) l8 c8 k8
 have b8:=F8.binds (ps := ["forms"]) fun _ _ _ _ _ _=>Z2a fun _=>rfl
 have m8:=PySem.W.mg_of X G a8
 have F9:=Z18 (st:=Ze6) l9 c9 k9
 have b9:=F9.binds (ps := ["_law_script"]) fun _ _ _ _ _ _=>Z2a fun _=>rfl
 have m9:=PySem.W.mg_of X G a9
 have F10:=Z18 (st:=Ze7) l10 c10 k10
 have b10:=F10.binds (ps := ["_law_feed_here","_law_many"]) fun _ _ _ _ _ _=>Z3o fun _ _=>rfl
 have m10:=PySem.W.mg_of X G a10
 have F11:=Z18 (st:=Z3y) l11 c11 k11
 have b11:=F11.binds (ps := ["_law_feed_here"]) fun _ _ _ _ _ _=>Z2a fun _=>rfl
 have m11:=PySem.W.mg_of X G a11
 have F12:=Z18 (st:=Z4r) l12 c12 k12
 have b12:=F12.binds (ps := ["_law_number","_law_long"]) fun _ _ _ _ _ _=>Z3o fun _ _=>rfl
 have m12:=PySem.W.mg_of X G a12
 have F13:=Z18 (st:=Ze8) l13 c13 k13
 have b13:=F13.binds (ps := ["_law_feed_here","_law_taken"]) fun _ _ _ _ _ _=>Z3o fun _ _=>rfl
 have m13:=PySem.W.mg_of X G a13
 have F14:=Z18 (st:=Z9b) l14 c14 k14
 have b14:=F14.binds (ps := ["_law_feed_here","_law_many"]) fun _ _ _ _ _ _=>Z3o fun _ _=>rfl
 have m14:=PySem.W.mg_of X G a14
 have F15:=Z18 (st:=Z2i) l15 c15 k15
 have b15:=F15.binds (ps := ["_law_e"]) fun _ _ _ _ _ _=>Z2a fun _=>rfl
 have m15:=PySem.W.mg_of X G a15
 have F16:=Z18 (st:=Zci) l16 c16 k16
 have b16:=F16.binds (ps := ["_law_e","_law_inner"]) fun _ _ _ _ _ _=>Z3o fun _ _=>rfl
 have m16:=PySem.W.mg_of X G a16
 have F17:=Z18 (st:=Z6h) l17 c17 k17
 have b17:=F17.binds (ps := ["_law_e"]) fun _ _ _ _ _ _=>Z2a fun _=>rfl
 have m17:=PySem.W.mg_of X G a17
 have F18:=Z18 (st:=Zcj) l18 c18 k18
 have b18:=F18.binds (ps := ["_law_found","_law_due"]) fun _ _ _ _ _ _=>Z3o fun _ _=>rfl
 have m18:=PySem.W.mg_of X G a18
 have F19:=Z18 (st:=Z9c) l19 c19 k19
 have b19:=F19.binds (ps := ["_law_names_here","_law_room","_law_holes","_law_astray"]) fun _ _ _ _ _ _=>Zfg fun _ _ _ _=>rfl
 have m19:=PySem.W.mg_of X G a19
 have F20:=Z18 (st:=Zck) l20 c20 k20
 have b20:=F20.binds (ps := ["_law_feed_here","_law_world_here","_law_lets"]) fun _ _ _ _ _ _=>Z8m fun _ _ _=>rfl
 have m20:=PySem.W.mg_of X G a20
 have F21:=Z18 (st:=Z9d) l21 c21 k21
 have b21:=F21.binds (ps := ["_law_feed_here","_law_world_here","_law_lets","_law_below"]) fun _ _ _ _ _ _=>Zfg fun _ _ _ _=>rfl
 have m21:=PySem.W.mg_of X G a21
 have F22:=Z18 (st:=Z5e) l22 c22 k22
 have b22:=F22.binds (ps := ["_law_b","_law_many"]) fun _ _ _ _ _ _=>Z3o fun _ _=>rfl
 have m22:=PySem.W.mg_of X G a22
 have F23:=Z18 (st:=Zcl) l23 c23 k23
 have b23:=F23.binds (ps := ["_law_b","_law_fillings"]) fun _ _ _ _ _ _=>Z3o fun _ _=>rfl
 have m23:=PySem.W.mg_of X G a23
 have F24:=Z18 (st:=Zk4) l24 c24 k24
 have b24:=F24.binds (ps := ["_law_feed_here","_law_world_here","_law_b","_law_lets","_law_below"]) fun _ _ _ _ _ _=>Zk0 fun _ _ _ _ _=>rfl
 have m24:=PySem.W.mg_of X G a24
 have F25:=Z18 (st:=Z6i) l25 c25 k25
 have b25:=F25.binds (ps := ["_law_b"]) fun _ _ _ _ _ _=>Z2a fun _=>rfl
 have m25:=PySem.W.mg_of X G a25
 have F26:=Z18 (st:=Z5f) l26 c26 k26
 have b26:=F26.binds (ps := ["_law_b","_law_old","_law_new"]) fun _ _ _ _ _ _=>Z8m fun _ _ _=>rfl
 have m26:=PySem.W.mg_of X G a26
 have F27:=Z18 (st:=Z4s) l27 c27 k27
 have b27:=F27.binds (ps := ["_law_feed_here","_law_names_here","_law_many"]) fun _ _ _ _ _ _=>Z8m fun _ _ _=>rfl
 have m27:=PySem.W.mg_of X G a27
 have F28:=Z18 (st:=Z6j) l28 c28 k28
 have b28:=F28.binds (ps := ["_law_forms"]) fun _ _ _ _ _ _=>Z2a fun _=>rfl
 have m28:=PySem.W.mg_of X G a28
 have F29:=Z18 (st:=Zab) l29 c29 k29
 have b29:=F29.binds (ps := ["_law_feed_here","_law_forms","_law_columns"]) fun _ _ _ _ _ _=>Z8m fun _ _ _=>rfl
 have m29:=PySem.W.mg_of X G a29
 have F30:=Z18 (st:=Zfi) l30 c30 k30
 have z_isinstance:=PySem.W.mg_none_of X G q_isinstance
 have z_int:=PySem.W.mg_none_of X G q_int
 have z_bool:=PySem.W.mg_none_of X G q_bool
 have z_str:=PySem.W.mg_none_of X G q_str
 have z_tuple:=PySem.W.mg_none_of X G q_tuple
 have z_len:=PySem.W.mg_none_of X G q_len
 have z_list:=PySem.W.mg_none_of X G q_list
 have z_range:=PySem.W.mg_none_of X G q_range
 have z_sum:=PySem.W.mg_none_of X G q_sum
 have z_all:=PySem.W.mg_none_of X G q_all
 have z_any:=PySem.W.mg_none_of X G q_any
 have z_reversed:=PySem.W.mg_none_of X G q_reversed
 have z_max:=PySem.W.mg_none_of X G q_max
 have z_min:=PySem.W.mg_none_of X G q_min
 have z_zip:=PySem.W.mg_none_of X G q_zip
 have z_sorted:=PySem.W.mg_none_of X G q_sorted
 have T0:Txt0 mg:=⟨z_len,z_list,z_range⟩
 have T:TxtT mg:=⟨z_isinstance,z_int,z_bool,z_tuple,z_len⟩
 have TA:TxtA mg:=⟨z_str,z_all,z_any,z_range⟩
 have KI:Kits K:=Zk1 kt_NoneType_int kt_bool_int kt_int_int kt_str_int kt_tuple_int kt_list_int kt_NoneType_bool kt_bool_bool kt_int_bool kt_str_bool kt_tuple_bool kt_list_bool kt_NoneType_tuple kt_bool_tuple kt_int_tuple kt_str_tuple kt_tuple_tuple kt_list_tuple
 have KT:KS K:=⟨kt_int_str,kt_str_str⟩
 have TD:TxtD mg:=⟨⟨_,PySem.W.mg_of X G gN⟩,⟨_,PySem.W.mg_of X G gO⟩,⟨_,PySem.W.mg_of X G gC⟩⟩
 have U:Helpers K mg f10 f12 _ _:=⟨T0,F10,b10,m10,F12,b12,m12⟩
 have HTT:HT K mg f1 f0 f2 _ _ _:=⟨T,TD,KI,F1,b1,m1,F0,b0,m0,F2,b2,m2⟩
 have HMM:HM K mg f3 f5 f7 f4 _ _ _ _:=⟨F3,b3,m3,F5,b5,m5,F7,b7,m7,F4,b4,m4,z_all,z_reversed,z_range⟩
 have HWW:HW K mg f15 f16 _ _:=⟨T,KI,F15,b15,m15,F16,b16,m16⟩
 have HGG:HG K mg f3 f5 _ _:=⟨F3,b3,m3,F5,b5,m5,z_all,z_list,z_zip,z_sorted⟩
 have HKK:HK K mg f19 f21 f17 f24 f25 f20 f26 _ _ _ _ _ _ _:=⟨F19,b19,m19,F21,b21,m21,F17,b17,m17,F24,b24,m24,F25,b25,m25,F20,b20,m20,F26,b26,m26,z_max,z_min⟩
 refine⟨PySem.W.fnOf "law" "law" (Z0t Zfi) (Z0r Zfi) (Z05 Zfi) .none kV30 dc30 pm30 an30 cd30 ct30,fun s v => .of_eq rfl,fun base _ _ => ?_⟩
 have GNo:=Zgm (P:=l.prog) (w:=w) (base:=base) F17 b17 m17 T KI z_sum F15 b15 m15
 have GLf:=Zj6 (P:=l.prog) (w:=w) (base:=base) F20 U F11 b11 m11
 have GX:=fun B N=>Zja (P:=l.prog) (w:=w) (base:=base) F21 b21 m21 U T GLf F20 b20 m20 GNo F17 b17 m17 B N
 have GN:=Zgk (P:=l.prog) (w:=w) (base:=base) F14 U F13 b13 m13
 have GK:=Znq (NM:=NN 4) (R:=NN 4+10) (c:=10) (Nat.le_refl _) fun N _=>Zlm (P:=l.prog) (w:=w) (base:=base) F24 b24 m24 U HWW z_min (GX 3 3) F21 b21 m21 N
 have GLd:=Znq (sp:=fun N=>spLeafed N (NN 4)) (NM:=NN 4) (R:=NN 4+10) (c:=2) (by decide) fun N hN=>Zf4 (P:=l.prog) (w:=w) (base:=base) F26 b26 m26 HWW (NN 4) (by decide) N hN
 have GLs:=(Zf3 (P:=l.prog) (w:=w) (base:=base) F25 b25 m25 T KI F15 b15 m15 (NN 4)).mono (by decide:NN 4+2<=NN 4+10)
 have GNd:=(GNo (NN 4)).mono (by decide:NN 4+2<=NN 4+10)
 have GKd:=Zcy (P:=l.prog) (w:=w) (base:=base) F27 U T HKK 4 (by decide) (GX 0 3) (GX 3 6) GNd GK GLs GLf GLd
 have GSa:=Zj3 (P:=l.prog) (w:=w) (base:=base) F18 b18 m18 T TA KI KT
 have GLs':FnOk l.prog w K mg base CX0 35 f29 _ ["_law_feed_here","_law_forms","_law_columns"] (fun vs H Q E=>∃m,1<=m/\m<=20/\spLess 33 m 33 vs H Q E):=Zhi fun m h1 h2=>Zjx F29 b29 m29 U T HWW F28 b28 m28 33 m (by decide) h1 h2 33 (Nat.le_refl _)
 have GMs:=Zjm (P:=l.prog) (w:=w) (base:=base) F8 HTT HMM 32
 exact Zm4 F30 U T KI F9 b9 m9 GN F14 b14 m14 GKd F27 b27 m27 GMs F8 b8 m8 (GSa 40) F18 b18 m18 GLs' F29 b29 m29 (Zfd F22 b22 m22 HWW 34) F22 b22 m22 (Zlt F6 HTT HGG 34) F6 b6 m6 (Zj1 F23 b23 m23 HWW 34) F23 b23 m23
theorem walk {l:PySem.W.OpenLaw}{q:Program}{loose:List Str}{XP:(Str->Option Value)->Heap->Prop}{YP:World->Heap->Prop}{d:DefRec}{K:Params->PySem.W.Frag}(hn:l.most=some 63)(hdf:d.params.defaults = [])
  (hY:∀(w:World) (h:Heap),YP w h->(K w.params).In h)
  (F:∀(w:World) (mg:Str->Option Value) (fa:Addr) (h:Heap),(K w.params).In h->h.Ns mainGlobals mg->mg d.name=some (.ref fa) →
   ∃fd:FuncData,(∀(s:Shared) (u:Value),BindsTo s fd ⟨[u],[]⟩ [("_law_script",u)])/\∀base:Heap,(K w.params).In base->base.Ns mainGlobals mg->FnOk l.prog w (K w.params) mg base CX0 45 fa fd ["_law_script"] (spLaw (K w.params))) :
  PySem.W.WalkO q loose XP YP l.row.toRowW d [] (fun f vs=>PySem.call f vs) :=
 L2.walk_of (n:=63) (k:=45) (x:="_law_script") (CX:=fun _=>CX0) (sp:=fun w=>spLaw (K w.params)) hn (by decide) hdf ⟨rfl,rfl,by decide,by decide⟩ hY F (fun _ _ a ns hl _ hS=>⟨a,ns,rfl,hS,hl,fun _=>rfl⟩) fun _ _ _ _ _ z=>z
end K20
open PySem PySem.W PyProof.Rows
set_option maxRecDepth 100000 in
set_option maxHeartbeats 0 in
theorem PySem.Challenge.cw_likepieces_k20_whole_each_other_is_got_holds : PySem.Challenge.rw_likepieces_k20_whole_each_other_is_got.Holds := by
 w_on
 refine holds_law K20.hdS fun sd => ?_
 refine holds_open (q:=K20.hdQ) (loose:=K20.hdL) (Yf:=K20.hdH.obs) (Ya:=K20.hdH.val)
  (XP:=XL K20.hdQ []) (YP:=InK K20.hdK) (N:=K20.hdN) K20.hdT K20.hdH.of
  K20.hdH.keeps (fun s e=>xl_of s (Bool.and_eq_true_iff.mp e).1) XL.keeps (by rfl) (by rfl)
  (by rfl) (fun s e=>recFacts_of (Bool.and_eq_true_iff.mp e).2) (by rfl) sd (by decide +kernel)
  ⟨rfl,rfl,rfl,rfl,rfl,by decide +kernel⟩ ?hw ?hc
 (case hw=>w_witness2)
 k_fill
 refine K20.walk (l:=PySem.Challenge.rw_likepieces_k20_whole_each_other_is_got) rfl rfl (K:=K20.hdK) (fun w h Y=>Y) ?F
 case F =>
  intro w mg fa h KX G hmg
  refine' K20.all_mk KX G hmg ?a0 ?l0 ?c0 ?k0 ?a1 ?l1 ?c1 ?k1 ?a2 ?l2 ?c2 ?k2 ?a3 ?l3 ?c3 ?k3 ?a4 ?l4 ?c4 ?k4 ?a5 ?l5 ?c5 ?k5 ?a6 ?l6 ?c6 ?k6 ?a7 ?l7 ?c7 ?k7 ?a8 ?l8 ?c8 ?k8 ?a9 ?l9 ?c9 ?k9 ?a10 ?l10 ?c10 ?k10 ?a11 ?l11 ?c11 ?k11 ?a12 ?l12 ?c12 ?k12 ?a13 ?l13 ?c13 ?k13 ?a14 ?l14 ?c14 ?k14 ?a15 ?l15 ?c15 ?k15 ?a16 ?l16 ?c16 ?k16 ?a17 ?l17 ?c17 ?k17 ?a18 ?l18 ?c18 ?k18 ?a19 ?l19 ?c19 ?k19 ?a20 ?l20 ?c20 ?k20 ?a21 ?l21 ?c21 ?k21 ?a22 ?l22 ?c22 ?k22 ?a23 ?l23 ?c23 ?k23 ?a24 ?l24 ?c24 ?k24 ?a25 ?l25 ?c25 ?k25 ?a26 ?l26 ?c26 ?k26 ?a27 ?l27 ?c27 ?k27 ?a28 ?l28 ?c28 ?k28 ?a29 ?l29 ?c29 ?k29 ?a30 ?l30 ?c30 ?k30 ?q_isinstance ?q_int ?q_bool ?q_str ?q_tuple ?q_len ?q_list ?q_range ?q_sum ?q_all ?q_any ?q_reversed ?q_max ?q_min ?q_zip ?q_sorted ?gN ?gO ?gC ?kt_NoneType_int ?kt_bool_int ?kt_int_int ?kt_str_int ?kt_tuple_int ?kt_list_int ?kt_NoneType_bool ?kt_bool_bool ?kt_int_bool ?kt_str_bool ?kt_tuple_bool ?kt_list_bool ?kt_NoneType_tuple ?kt_bool_tuple ?kt_int_tuple ?kt_str_tuple ?kt_tuple_tuple ?kt_list_tuple ?kt_int_str ?kt_str_str
  all_goals first | unfold K20.hA | unfold K20.hL | unfold K20.hC | unfold K20.hP | unfold K20.hZ | unfold K20.hI | skip
  (case a0 | l0 | c0 | k0 | a1 | l1 | c1 | k1 | a2 | l2 | c2 | k2 | a3 | l3 | c3 | k3 | a4 | l4 | c4 | k4 | a5 | l5 | c5 | k5 | a6 | l6 | c6 | k6 | a7 | l7 | c7 | k7 | a8 | l8 | c8 | k8 | a9 | l9 | c9 | k9 | a10 | l10 | c10 | k10 | a11 | l11 | c11 | k11 | a12 | l12 | c12 | k12 | a13 | l13 | c13 | k13 | a14 | l14 | c14 | k14 | a15 | l15 | c15 | k15 | a16 | l16 | c16 | k16 | a17 | l17 | c17 | k17 | a18 | l18 | c18 | k18 | a19 | l19 | c19 | k19 | a20 | l20 | c20 | k20 | a21 | l21 | c21 | k21 | a22 | l22 | c22 | k22 | a23 | l23 | c23 | k23 | a24 | l24 | c24 | k24 | a25 | l25 | c25 | k25 | a26 | l26 | c26 | k26 | a27 | l27 | c27 | k27 | a28 | l28 | c28 | k28 | a29 | l29 | c29 | k29 | a30 | l30 | c30 | k30 | q_isinstance | q_int | q_bool | q_str | q_tuple | q_len | q_list | q_range | q_sum | q_all | q_any | q_reversed | q_max | q_min | q_zip | q_sorted | gN | gO | gC=>k_is)
  (case kt_NoneType_int | kt_bool_int | kt_int_int | kt_str_int | kt_tuple_int | kt_list_int | kt_NoneType_bool | kt_bool_bool | kt_int_bool | kt_str_bool | kt_tuple_bool | kt_list_bool | kt_NoneType_tuple | kt_bool_tuple | kt_int_tuple | kt_str_tuple | kt_tuple_tuple | kt_list_tuple | kt_int_str | kt_str_str=>first | k_is | rfl | decide)
