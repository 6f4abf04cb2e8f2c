import PyProof.Rows.All
import Wide.All
import OpenK.AllK
import Wide.FinOn
import Lean
import PyProof.EqAt
import PyProof.EqKinds
import PyProof.TupleCall
import PyProof.NeKinds
import PyProof.Rows.SortStr
import PyProof.Rows.SeqMore
import PyProof.Rows.CatFin
import PyProof.MeetsStr
import PyProof.Rows.SumAny
import PyProof.Rows.SortShell
import PyProof.Rows.SetFrom
import PyProof.DictWalks
import PyProof.Rows.SortReads
import KE.KDictSum
import PyProof.ZipIter
import PyProof.Rows.ZipGen
import PyProof.TupleOfGen
import PyProof.TupleOfStr
import KE.KIsAll
import PyProof.Rows.StrJoin2
import PyProof.AttrMissSeq
import KE.KDictOf
import PySem.Challenge.RW_likepieces_k50_programs_the_same
import PyProof.Rows.Range3
import PyProof.Rows.ReprOcc
import PyProof.Rows.StrAscii
import PyProof.ReprBulk
import PyProof.ReprText
noncomputable section
open List (all_cons all_eq_true any_cons append_assoc append_nil cons_append contains_iff_mem drop_eq_getElem_cons drop_eq_nil_of_le drop_zero eq_nil_of_length_eq_zero filterMap_cons filter_append filter_cons filter_eq_nil_iff filter_eq_self flatMap_cons flatten_cons foldl_cons forIn_cons getElem_mem isEmpty_cons length_append length_cons length_drop length_map length_nil length_pos_iff length_range length_reverse length_take length_zip lookup_cons map_append map_cons map_drop map_map map_nil map_take mem_append mem_append_left mem_append_right mem_cons mem_cons_of_mem mem_cons_self mem_filter mem_filterMap mem_map mem_of_getElem? mem_of_mem_drop mem_of_mem_take mem_range mem_reverse mem_singleton nil_append nodup_append nodup_cons nodup_nil not_mem_nil of_mem_zip replicate_succ reverse_cons set_set size_toArray take_of_length_le)
set_option Elab.async false
set_option linter.all false
set_option maxRecDepth 100000
set_option maxHeartbeats 4000000
def S5:=@Bool.and_eq_true
def S6:=@PySem.wpAny_bind
def S7:=@PySem.Heap.get?_push_of_some
def Ta.{u,v}:=@List.length_map.{u,v}
def Tb.{u}:=@List.mem_cons_of_mem.{u}
def Td.{u}:=@List.getElem?_eq_getElem.{u}
def Te.{u}:=@List.mem_cons_self.{u}
def Tf:=@Nat.le_refl
def Tg.{u}:=@List.length_append.{u}
def Ti.{u}:=@List.size_toArray.{u}
def Tj:=@PySem.wpAny_pure
def Tn.{u}:=@List.getElem?_eq_some_iff.{u}
def To:=@PySem.Heap.lt_size
def Tp.{u}:=@if_neg.{u}
def Tq:=@Bool.false_ne_true
def Ts.{u}:=@List.mem_cons.{u}
def Tt.{u}:=@if_pos.{u}
def Tu:=@PySem.Heap.get?_push_size
def Tw.{u}:=@Option.some.inj.{u}
def Tz.{u}:=@List.length_cons.{u}
def TB.{u}:=@List.mem_append.{u}
def TC.{u}:=@List.cons_append.{u}
def TF.{u}:=@List.append_assoc.{u}
def TH.{u}:=@List.getElem?_append_right.{u}
def TJ.{u}:=@List.append_nil.{u}
def TK:=@Nat.lt_of_lt_of_le
def TL.{u}:=@List.mem_append_left.{u}
def TM.{u}:=@List.mem_append_right.{u}
def TN.{u}:=@beq_iff_eq.{u}
def TQ.{u}:=@List.not_mem_nil.{u}
def TR.{u}:=@List.getElem?_append_left.{u}
def TU:=@Nat.ne_of_lt
def TV:=@PySem.wpAny_field
def TX.{u,v}:=@List.map_cons.{u,v}
def TY:=@PySem.sizeLine_eq
def TZ:=@PySem.wpAny_newObj_type
def T1.{u}:=@List.cons.injEq.{u}
def T2.{u,v}:=@List.map_append.{u,v}
def T3:=@Nat.zero_le
def T4.{u}:=@List.mem_of_getElem?.{u}
def T5.{u,v}:=@List.mem_map.{u,v}
def T6:=@PySem.wpAny_callSpecial?_slot
def T7:=@or_false
def T8:=@decide_eq_true
def T9.{u}:=@List.length_take.{u}
def Ua.{u}:=@List.nil_append.{u}
def Ub:=@of_decide_eq_true
def Uc:=@PyProof.Rows.slot_tuple_getitem
def Ud:=@PySem.wpAny_call_entry
def Ue:=@Nat.le_trans
def Ug:=@PyProof.Rows.cps_toList_append
def Uh.{u}:=@Option.some.injEq.{u}
def Ui.{u,v}:=@List.getElem?_map.{u,v}
def Uj:=@PySem.builtinLookup_eq_fast
def Uk.{u}:=@List.mem_singleton.{u}
def Ul:=@Nat.lt_irrefl
def Um:=@PySem.W.kia_one
def Uo:=@Bool.false_eq_true
def Up.{u}:=@List.contains_iff_mem.{u}
def Uq.{u}:=@List.all_eq_true.{u}
def Ur:=@PySem.F.plainAttrs_list
def Us:=@PyProof.Rows.callWith_type1
def Ut:=@PySem.wpAny_truthy_bool
def Uu.{u}:=@List.length_reverse.{u}
def Uv:=@decide_eq_true_eq
def Uw:=@PySem.Heap.get?_update_other
def Ux.{u}:=@beq_eq_false_iff_ne.{u}
def Uy:=@PySem.Heap.get?_update_self
def Uz:=@PySem.wpAny_mono
def UA:=@PySem.Calls.spliced_cons
def UB.{u}:=@List.eq_nil_of_length_eq_zero.{u}
def UC:=@Int.eq_ofNat_of_zero_le
def UD:=@decide_eq_false
def UE.{u}:=@List.find?_cons.{u}
def UG:=@PySem.Calls.callWith_builtin
def UH.{u,v}:=@List.lookup_cons.{u,v}
def UI:=@PySem.wpAny_seqItems
def UJ:=@decide_eq_true_iff
def UK:=@PySem.F.slot_dict_get
def UL:=@PySem.typeLookup_type
def UM.{u}:=@List.reverse_cons.{u}
def UN.{u}:=@List.length_drop.{u}
def UO.{u}:=@List.flatten_cons.{u}
def UP.{u,v}:=@congrArg.{u,v}
def UQ:=@Nat.ne_of_gt
def UR:=@PySem.wpAny_holding
def US.{u}:=@List.replicate_succ.{u}
def UT:=@PySem.isSubtype_type
def UU.{u}:=@if_false.{u}
def UW.{u}:=@beq_self_eq_true.{u}
def UX:=@PySem.Heap.size_push
def UY:=@PySem.wpAny_Call_Name_kw
def UZ:=@PySem.Obj.data_mapFields
def U0:=@Nat.lt_or_ge
def U1:=@PySem.wpAny_passesOwn
def U2.{u,v}:=@Option.map_some.{u,v}
def U3:=@Bool.eq_iff_iff
def U4.{u}:=@List.take_of_length_le.{u}
def U5.{u}:=@List.drop_eq_nil_of_le.{u}
def U6:=@PySem.Calls.spliced_nil
def U7:=@Bool.not_eq_true'
def U8.{u}:=@List.mem_reverse.{u}
def U9.{u}:=@List.filter_cons.{u}
def Va:=@Nat.mul_le_mul_right
def Vb:=@PySem.F.slot_tuple_iterator_next
def Vc:=@PySem.Calls.evalArgs_plain
def Vd.{u,v}:=@List.flatMap_cons.{u,v}
def Ve.{u}:=@Array.getElem?_eq_getElem.{u}
def Vf:=@PySem.mem_of_lookup
def Vg.{u,v}:=@Prod.mk.injEq.{u,v}
def Vi.{u}:=@if_true.{u}
def Vj:=@PySem.wpAny_setField_rec
def Vk:=@PySem.wpAny_pyIter_tuple
def Vl.{u}:=@List.nodup_cons.{u}
def Vm:=@PySem.call_meets
def Vn:=@PySem.wpAny_getItem_str_slice
def Vo.{u}:=@List.getElem_mem.{u}
abbrev am:=PySem.Value->PySem.Shared->Prop
namespace L2
open PySem
noncomputable def lP (s:Stmt):Arguments:=match s with
 | .FunctionDef _ a _ _ _ _ _ _ _ _=>a
 |_=>{ posonlyargs:=[],args:=[],vararg:=none,kwonlyargs:=[],kw_defaults:=[],kwarg:=none,defaults:=[] }
noncomputable def ju (s:Stmt):List Stmt:=match s with
 | .FunctionDef _ _ b _ _ _ _ _ _ _=>b
 |_=>[]
noncomputable def ej (s:Stmt):Scope:=match s with
 | .FunctionDef _ _ _ _ _ _ sc _ _ _=>sc
 |_=>{ kind:=.function,names:=[],isGenerator:=false,isCoroutine:=false }
end L2
namespace M50
open PySem L2 PyData
noncomputable def aq (i:Nat):Stmt:=PySem.Challenge.pw_likepieces_k50_programs_the_same.main.body.getD i (.Pass ⟨0,0,0,0⟩)
noncomputable abbrev eT:Obj:=⟨(.type "tuple"),none,(.seq #[] 0),#[]⟩
abbrev eF (m:Value)(n:Str)(i:Nat)(r:Addr):Obj:=⟨(.type "function"),none,(.func (PySem.W.fnOf n n (lP (aq i)) (ju (aq i)) (ej (aq i)) .none .none .none m none (.ref r) .none)),#[]⟩
abbrev wI:=eF (.str "likepieces.trees" 187)
abbrev BW:=eF (.str "likepieces.names" 213)
abbrev BV:=eF (.str "likepieces.bares" 236)
abbrev wH:=eF (.str "likepieces.backs" 252)
abbrev cu:=eF (.str "law_likepieces_k50_programs_the_same" 280)
noncomputable abbrev eS (a:Array Value):Obj:=⟨(.type "tuple"),none,(.seq a 0),#[]⟩
noncomputable abbrev eC (n:Str)(a b c:Tok)(l k f:Int)(r s:Addr)(v w:Value)(t:Addr)(m:Int)(d:Tok):Obj:=⟨(.type "code"),none,(.fields #[(.str n a),(.str n b),(.str "/claim/cut.py" c),(.int l 0),(.int k 0),(.int 0 0),(.int 0 0),(.int f 0),(.ref r),(.bool true),(.int 181 0),(.ref s),.none,v,w,(.ref t),(.int m 0),(.int l 0),(.str "/claim/cut.py" d)]),#[]⟩
def hdQ:Program:={ PySem.Challenge.pw_likepieces_k50_programs_the_same with main:={ PySem.Challenge.pw_likepieces_k50_programs_the_same.main with body:=[aq 1,aq 2,aq 3,aq 4,aq 5,aq 6,aq 8,aq 9,aq 11,aq 12,aq 14,aq 15,aq 16,aq 18,aq 19,aq 20,aq 21,aq 22,aq 23,aq 24,aq 25,aq 26,aq 27,aq 28,aq 29,aq 30,aq 31,aq 32,aq 33,aq 34,aq 35,aq 36,aq 37,aq 38,aq 39,aq 40,aq 41,aq 42,aq 43,aq 44,aq 45,aq 46,aq 47,aq 48] } }
def hdK:Params->W.Frag:=fun P=>
 (nat_lit 2,⟨.none,none,(.dict #[] 0),#[]⟩)::(nat_lit 3,⟨(.type "dict"),none,(.dict #[⟨(keyHash P "__name__"),(.str "__name__" 165),(.str "law_likepieces_k50_programs_the_same" 280)⟩,⟨(keyHash P "__doc__"),(.str "__doc__" 166),.none⟩,⟨(keyHash P "__package__"),(.str "__package__" 167),.none⟩,⟨(keyHash P "__loader__"),(.str "__loader__" 168),(.builtin "__main__.__loader__#opaque")⟩,⟨(keyHash P "__spec__"),(.str "__spec__" 169),.none⟩,⟨(keyHash P "__annotations__"),(.str "__annotations__" 170),(.ref 6)⟩,⟨(keyHash P "__builtins__"),(.str "__builtins__" 171),(.ref 4)⟩,⟨(keyHash P "__file__"),(.str "__file__" 173),(.str "/claim/cut.py" 172)⟩,⟨(keyHash P "__cached__"),(.str "__cached__" 174),.none⟩,⟨(keyHash P "NODE"),(.str "NODE" 190),(.str "node" 189)⟩,⟨(keyHash P "OPENED"),(.str "OPENED" 192),(.str "opened" 191)⟩,⟨(keyHash P "CLOSED"),(.str "CLOSED" 194),(.str "closed" 193)⟩,⟨(keyHash P "head"),(.str "head" 200),(.ref 19)⟩,⟨(keyHash P "parts"),(.str "parts" 206),(.ref 24)⟩,⟨(keyHash P "steps"),(.str "steps" 212),(.ref 29)⟩,⟨(keyHash P "own_number"),(.str "own_number" 223),(.ref 36)⟩,⟨(keyHash P "owned"),(.str "owned" 235),(.ref 43)⟩,⟨(keyHash P "bare_head"),(.str "bare_head" 245),(.ref 50)⟩,⟨(keyHash P "bare_rows"),(.str "bare_rows" 251),(.ref 55)⟩,⟨(keyHash P "holed"),(.str "holed" 265),(.ref 62)⟩,⟨(keyHash P "scopes"),(.str "scopes" 271),(.ref 67)⟩,⟨(keyHash P "same_program"),(.str "same_program" 279),(.ref 74)⟩,⟨(keyHash P "_law_feed"),(.str "_law_feed" 288),(.ref 81)⟩,⟨(keyHash P "_law_draw"),(.str "_law_draw" 300),(.ref 88)⟩,⟨(keyHash P "_law_value"),(.str "_law_value" 308),(.ref 95)⟩,⟨(keyHash P "_law_spelled"),(.str "_law_spelled" 318),(.ref 102)⟩,⟨(keyHash P "_law_name"),(.str "_law_name" 333),(.ref 109)⟩,⟨(keyHash P "_law_names"),(.str "_law_names" 343),(.ref 116)⟩,⟨(keyHash P "_law_parts"),(.str "_law_parts" 349),(.ref 121)⟩,⟨(keyHash P "_law_with"),(.str "_law_with" 355),(.ref 126)⟩,⟨(keyHash P "_law_nodes"),(.str "_law_nodes" 361),(.ref 131)⟩,⟨(keyHash P "_law_work"),(.str "_law_work" 367),(.ref 136)⟩,⟨(keyHash P "_law_right"),(.str "_law_right" 373),(.ref 141)⟩,⟨(keyHash P "_law_leaf"),(.str "_law_leaf" 384),(.ref 148)⟩,⟨(keyHash P "_law_spoilt"),(.str "_law_spoilt" 396),(.ref 155)⟩,⟨(keyHash P "_law_bound"),(.str "_law_bound" 402),(.ref 160)⟩,⟨(keyHash P "_law_called"),(.str "_law_called" 408),(.ref 165)⟩,⟨(keyHash P "_law_expr"),(.str "_law_expr" 414),(.ref 170)⟩,⟨(keyHash P "_law_world"),(.str "_law_world" 426),(.ref 177)⟩,⟨(keyHash P "_law_seeds"),(.str "_law_seeds" 438),(.ref 184)⟩,⟨(keyHash P "_law_program"),(.str "_law_program" 444),(.ref 189)⟩,⟨(keyHash P "_law_copied"),(.str "_law_copied" 455),(.ref 196)⟩,⟨(keyHash P "_law_bared"),(.str "_law_bared" 461),(.ref 201)⟩,⟨(keyHash P "_law_canon"),(.str "_law_canon" 467),(.ref 206)⟩,⟨(keyHash P "_law_free"),(.str "_law_free" 479),(.ref 213)⟩,⟨(keyHash P "_law_relet"),(.str "_law_relet" 485),(.ref 218)⟩,⟨(keyHash P "_law_recast"),(.str "_law_recast" 491),(.ref 223)⟩,⟨(keyHash P "_law_calls"),(.str "_law_calls" 500),(.ref 230)⟩,⟨(keyHash P "_law_by_calls"),(.str "_law_by_calls" 506),(.ref 235)⟩,⟨(keyHash P "_law_all"),(.str "_law_all" 515),(.ref 242)⟩,⟨(keyHash P "_law_changed"),(.str "_law_changed" 521),(.ref 247)⟩,⟨(keyHash P "_law_other"),(.str "_law_other" 527),(.ref 252)⟩,⟨(keyHash P "law"),(.str "law" 547),(.ref 259)⟩] 53),#[]⟩)::(nat_lit 15,eT)::(nat_lit 18,eC "head" 195 196 197 5 1 3 15 16 .none .none 17 198 199)::(nat_lit 19,wI "head" 4 18)::(nat_lit 20,eT)::(nat_lit 23,eC "parts" 201 202 203 7 1 3 20 21 .none .none 22 204 205)::(nat_lit 24,wI "parts" 5 23)::(nat_lit 25,eT)::(nat_lit 28,eC "steps" 207 208 209 9 1 3 25 26 .none .none 27 210 211)::(nat_lit 29,wI "steps" 6 28)::(nat_lit 30,eT)::(nat_lit 32,eS #[(.str "node" 218),(.str "lets" 219),(.str "level" 220)])::(nat_lit 33,eT)::(nat_lit 35,eC "own_number" 215 216 217 22 3 3 30 31 (.ref 32) (.ref 33) 34 221 222)::(nat_lit 36,BW "own_number" 8 35)::(nat_lit 37,eT)::(nat_lit 39,eS #[(.str "e" 227),(.str "rows" 228),(.str "lets" 229),(.str "level" 230),(.str "deed" 231),(.str "node" 232)])::(nat_lit 40,eT)::(nat_lit 42,eC "owned" 224 225 226 26 1 3 37 38 (.ref 39) (.ref 40) 41 233 234)::(nat_lit 43,BW "owned" 9 42)::(nat_lit 44,eT)::(nat_lit 46,eS #[(.str "node" 241),(.str "own" 242)])::(nat_lit 47,eT)::(nat_lit 49,eC "bare_head" 238 239 240 41 2 3 44 45 (.ref 46) (.ref 47) 48 243 244)::(nat_lit 50,BV "bare_head" 11 49)::(nat_lit 51,eT)::(nat_lit 54,eC "bare_rows" 246 247 248 47 1 3 51 52 .none .none 53 249 250)::(nat_lit 55,BV "bare_rows" 12 54)::(nat_lit 56,eT)::(nat_lit 58,eS #[(.str "params" 257),(.str "rows" 258),(.str "told" 259),(.str "lead" 260),(.str "many" 261),(.str "is_param" 262)])::(nat_lit 59,eT)::(nat_lit 61,eC "holed" 254 255 256 50 2 3 56 57 (.ref 58) (.ref 59) 60 263 264)::(nat_lit 62,wH "holed" 14 61)::(nat_lit 63,eT)::(nat_lit 66,eC "scopes" 266 267 268 56 1 3 63 64 .none .none 65 269 270)::(nat_lit 67,wH "scopes" 15 66)::(nat_lit 68,eT)::(nat_lit 70,eS #[(.str "one" 275),(.str "other" 276)])::(nat_lit 71,eT)::(nat_lit 73,eC "same_program" 272 273 274 60 2 3 68 69 (.ref 70) (.ref 71) 72 277 278)::(nat_lit 74,wH "same_program" 16 73)::(nat_lit 75,eT)::(nat_lit 77,eS #[(.str "_law_script" 285)])::(nat_lit 78,eT)::(nat_lit 80,eC "_law_feed" 282 283 284 63 1 3 75 76 (.ref 77) (.ref 78) 79 286 287)::(nat_lit 81,cu "_law_feed" 18 80)::(nat_lit 82,eT)::(nat_lit 84,eS #[(.str "_law_feed_here" 292),(.str "_law_many" 293),(.str "_law_found" 294),(.str "_law_at" 295),(.str "_law_cell" 296),(.str "_law_number" 297)])::(nat_lit 85,eT)::(nat_lit 87,eC "_law_draw" 289 290 291 65 2 3 82 83 (.ref 84) (.ref 85) 86 298 299)::(nat_lit 88,cu "_law_draw" 19 87)::(nat_lit 89,eT)::(nat_lit 91,eS #[(.str "_law_feed_here" 304),(.str "_law_way" 305)])::(nat_lit 92,eT)::(nat_lit 94,eC "_law_value" 301 302 303 82 1 3 89 90 (.ref 91) (.ref 92) 93 306 307)::(nat_lit 95,cu "_law_value" 20 94)::(nat_lit 96,eT)::(nat_lit 98,eS #[(.str "_law_number" 312),(.str "_law_long" 313),(.str "_law_word" 314),(.str "_law_k" 315)])::(nat_lit 99,eT)::(nat_lit 101,eC "_law_spelled" 309 310 311 89 2 3 96 97 (.ref 98) (.ref 99) 100 316 317)::(nat_lit 102,cu "_law_spelled" 21 101)::(nat_lit 103,eT)::(nat_lit 105,eS #[(.str "_law_feed_here" 322),(.str "_law_taken" 323),(.str "_law_words" 324),(.str "_law_way" 325),(.str "_law_long" 326),(.str "_law_number" 327),(.str "_law_name_here" 328),(.str "_law_word" 329),(.str "_law_at" 330)])::(nat_lit 106,eT)::(nat_lit 108,eC "_law_name" 319 320 321 95 2 3 103 104 (.ref 105) (.ref 106) 107 331 332)::(nat_lit 109,cu "_law_name" 22 108)::(nat_lit 110,eT)::(nat_lit 112,eS #[(.str "_law_feed_here" 337),(.str "_law_many" 338),(.str "_law_names_here" 339),(.str "_law_k" 340)])::(nat_lit 113,eT)::(nat_lit 115,eC "_law_names" 334 335 336 117 2 3 110 111 (.ref 112) (.ref 113) 114 341 342)::(nat_lit 116,cu "_law_names" 23 115)::(nat_lit 117,eT)::(nat_lit 120,eC "_law_parts" 344 345 346 122 1 3 117 118 .none .none 119 347 348)::(nat_lit 121,cu "_law_parts" 24 120)::(nat_lit 122,eT)::(nat_lit 125,eC "_law_with" 350 351 352 124 2 3 122 123 .none .none 124 353 354)::(nat_lit 126,cu "_law_with" 25 125)::(nat_lit 127,eT)::(nat_lit 130,eC "_law_nodes" 356 357 358 126 1 3 127 128 .none .none 129 359 360)::(nat_lit 131,cu "_law_nodes" 26 130)::(nat_lit 132,eT)::(nat_lit 135,eC "_law_work" 362 363 364 128 2 3 132 133 .none .none 134 365 366)::(nat_lit 136,cu "_law_work" 27 135)::(nat_lit 137,eT)::(nat_lit 140,eC "_law_right" 368 369 370 135 2 3 137 138 .none .none 139 371 372)::(nat_lit 141,cu "_law_right" 28 140)::(nat_lit 142,eT)::(nat_lit 144,eS #[(.str "_law_feed_here" 377),(.str "_law_world_here" 378),(.str "_law_bound_here" 379),(.str "_law_way" 380),(.str "_law_some" 381)])::(nat_lit 145,eT)::(nat_lit 147,eC "_law_leaf" 374 375 376 141 3 3 142 143 (.ref 144) (.ref 145) 146 382 383)::(nat_lit 148,cu "_law_leaf" 29 147)::(nat_lit 149,eT)::(nat_lit 151,eS #[(.str "_law_e" 388),(.str "_law_at" 389),(.str "_law_leaf_here" 390),(.str "_law_inner" 391),(.str "_law_k" 392),(.str "_law_long" 393)])::(nat_lit 152,eT)::(nat_lit 154,eC "_law_spoilt" 385 386 387 149 3 3 149 150 (.ref 151) (.ref 152) 153 394 395)::(nat_lit 155,cu "_law_spoilt" 30 154)::(nat_lit 156,eT)::(nat_lit 159,eC "_law_bound" 397 398 399 160 6 3 156 157 .none .none 158 400 401)::(nat_lit 160,cu "_law_bound" 31 159)::(nat_lit 161,eT)::(nat_lit 164,eC "_law_called" 403 404 405 171 5 3 161 162 .none .none 163 406 407)::(nat_lit 165,cu "_law_called" 32 164)::(nat_lit 166,eT)::(nat_lit 169,eC "_law_expr" 409 410 411 180 5 3 166 167 .none .none 168 412 413)::(nat_lit 170,cu "_law_expr" 33 169)::(nat_lit 171,eT)::(nat_lit 173,eS #[(.str "_law_names_here" 418),(.str "_law_lets" 419),(.str "_law_functions" 420),(.str "_law_works" 421),(.str "_law_room" 422),(.str "_law_toil" 423)])::(nat_lit 174,eT)::(nat_lit 176,eC "_law_world" 415 416 417 207 6 3 171 172 (.ref 173) (.ref 174) 175 424 425)::(nat_lit 177,cu "_law_world" 34 176)::(nat_lit 178,eT)::(nat_lit 180,eS #[(.str "_law_feed_here" 430),(.str "_law_world_here" 431),(.str "_law_many" 432),(.str "_law_found" 433),(.str "_law_k" 434),(.str "_law_small" 435)])::(nat_lit 181,eT)::(nat_lit 183,eC "_law_seeds" 427 428 429 209 3 3 178 179 (.ref 180) (.ref 181) 182 436 437)::(nat_lit 184,cu "_law_seeds" 35 183)::(nat_lit 185,eT)::(nat_lit 188,eC "_law_program" 439 440 441 218 2 3 185 186 .none .none 187 442 443)::(nat_lit 189,cu "_law_program" 36 188)::(nat_lit 190,eT)::(nat_lit 192,eS #[(.str "_law_feed_here" 448),(.str "_law_world_here" 449),(.str "_law_bound_here" 450),(.str "_law_below" 451),(.str "_law_times" 452)])::(nat_lit 193,eT)::(nat_lit 195,eC "_law_copied" 445 446 447 240 5 3 190 191 (.ref 192) (.ref 193) 194 453 454)::(nat_lit 196,cu "_law_copied" 37 195)::(nat_lit 197,eT)::(nat_lit 200,eC "_law_bared" 456 457 458 242 2 3 197 198 .none .none 199 459 460)::(nat_lit 201,cu "_law_bared" 38 200)::(nat_lit 202,eT)::(nat_lit 205,eC "_law_canon" 462 463 464 248 1 3 202 203 .none .none 204 465 466)::(nat_lit 206,cu "_law_canon" 39 205)::(nat_lit 207,eT)::(nat_lit 209,eS #[(.str "_law_e" 471),(.str "_law_bound_here" 472),(.str "_law_found" 473),(.str "_law_k" 474),(.str "_law_one" 475),(.str "_law_inner" 476)])::(nat_lit 210,eT)::(nat_lit 212,eC "_law_free" 468 469 470 251 2 3 207 208 (.ref 209) (.ref 210) 211 477 478)::(nat_lit 213,cu "_law_free" 40 212)::(nat_lit 214,eT)::(nat_lit 217,eC "_law_relet" 480 481 482 261 4 3 214 215 .none .none 216 483 484)::(nat_lit 218,cu "_law_relet" 41 217)::(nat_lit 219,eT)::(nat_lit 222,eC "_law_recast" 486 487 488 275 3 3 219 220 .none .none 221 489 490)::(nat_lit 223,cu "_law_recast" 42 222)::(nat_lit 224,eT)::(nat_lit 226,eS #[(.str "_law_e" 495),(.str "_law_found" 496),(.str "_law_one" 497)])::(nat_lit 227,eT)::(nat_lit 229,eC "_law_calls" 492 493 494 287 1 3 224 225 (.ref 226) (.ref 227) 228 498 499)::(nat_lit 230,cu "_law_calls" 43 229)::(nat_lit 231,eT)::(nat_lit 234,eC "_law_by_calls" 501 502 503 292 4 3 231 232 .none .none 233 504 505)::(nat_lit 235,cu "_law_by_calls" 44 234)::(nat_lit 236,eT)::(nat_lit 238,eS #[(.str "_law_e" 510),(.str "_law_found" 511),(.str "_law_one" 512)])::(nat_lit 239,eT)::(nat_lit 241,eC "_law_all" 507 508 509 297 1 3 236 237 (.ref 238) (.ref 239) 240 513 514)::(nat_lit 242,cu "_law_all" 45 241)::(nat_lit 243,eT)::(nat_lit 246,eC "_law_changed" 516 517 518 302 4 3 243 244 .none .none 245 519 520)::(nat_lit 247,cu "_law_changed" 46 246)::(nat_lit 248,eT)::(nat_lit 251,eC "_law_other" 522 523 524 316 3 3 248 249 .none .none 250 525 526)::(nat_lit 252,cu "_law_other" 47 251)::(nat_lit 253,eT)::(nat_lit 255,eS #[(.str "_law_script" 531),(.str "_law_feed_here" 532),(.str "_law_turn" 533),(.str "_law_program_here" 534),(.str "_law_pool" 535),(.str "_law_name_here" 536),(.str "_law_params" 537),(.str "_law_body" 538),(.str "_law_due" 539),(.str "_law_again" 540),(.str "_law_k" 541),(.str "_law_other_here" 542),(.str "_law_told" 543),(.str "_law_found" 544)])::(nat_lit 256,eT)::(nat_lit 258,eC "law" 528 529 530 345 1 3 253 254 (.ref 255) (.ref 256) 257 545 546)::(nat_lit 259,cu "law" 48 258) :: []
noncomputable def Jh:List Addr:=[2,3,15,18,19,20,23,24,25,28,29,30,32,33,35,36,37,39,40,42,43,44,46,47,49,50,51,54,55,56,58,59,61,62,63,66,67,68,70,71,73,74,75,77,78,80,81,82,84,85,87,88,89,91,92,94,95,96,98,99,101,102,103,105,106,108,109,110,112,113,115,116,117,120,121,122,125,126,127,130,131,132,135,136,137,140,141,142,144,145,147,148,149,151,152,154,155,156,159,160,161,164,165,166,169,170,171,173,174,176,177,178,180,181,183,184,185,188,189,190,192,193,195,196,197,200,201,202,205,206,207,209,210,212,213,214,217,218,219,222,223,224,226,227,229,230,231,234,235,236,238,239,241,242,243,246,247,248,251,252,253,255,256,258,259]
noncomputable abbrev hdL:List Str:=[]
noncomputable abbrev hdN:Nat:=2680
abbrev hdH:PySem.W.Hook:=PySem.W.kHook hdK Jh (fun _=>by kernel_rfl)
theorem hdS:PySem.Challenge.rw_likepieces_k50_programs_the_same.wellSaid=true:=by decide+kernel
set_option maxHeartbeats 0 in
open PySem.W.Fast in
theorem hdT:PySem.W.LeftO (PySem.Challenge.rw_likepieces_k50_programs_the_same).row.toRowW.prog hdQ hdL (fun s=>PySem.W.xlAt hdQ [] s&&PySem.W.recOk (PySem.W.RowW.records (PySem.Challenge.rw_likepieces_k50_programs_the_same).row.toRowW) s) (PySem.W.Hook.obs hdH) (PySem.W.Hook.val hdH) hdN:=by
 intro w;unfold PySem.W.openEnds PySem.W.fencedOpening PySem.W.topFrom;rw[te10274390034422433532,te1435165496053646825,te14289696077712309145,te14082659384304107361,te4187177175401517315,te14364793385576792824,te8920871248978507458,te5923862056798008813]
 kernel_rfl
end M50
namespace L2
open PySem PySem.Spec PyProof.Rows
abbrev aw:=Sum Int Str
noncomputable def oC:aw->Value->Bool
 | .inl k,v=>Value.isInt k v
 | .inr x,v=>Value.isStrOf x v
noncomputable def JU (w:World):aw->Int
 | .inl k=>hashInt k
 | .inr x=>hashStr w x
variable {us af:List Value}{x aJ:Str}{u:Value}{a it C:Addr}{P:Program}{w:World}{h h' base:Heap}{α β κ:Type}{e tg iter:Expr}{aa:List (Addr×Obj)}{t' i j:Nat}{K:W.Frag}{st:Stmt}{es:List Expr}{bQ p bV:Pos}{fp:List Addr}{mg:Str->Option Value}{fd:FuncData}{ps:List Str}{scope:Scope}{id T:String}{items:Array Value}
theorem kx:∀{k:aw} {v:Value},oC k v=true->(∃i t,k=Sum.inl i/\v=Value.int i t)∨(∃x t,k=Sum.inr x/\v=Value.str x t)
 | .inl i,v,h=>by obtain⟨t,e⟩:=Value.isInt_shape (k:=i) (v:=v) h;exact .inl ⟨i,t,rfl,e⟩
 | .inr x,v,h=>by obtain⟨t,e⟩:=Value.isStrOf_shape (x:=x) (v:=v) h;exact .inr ⟨x,t,rfl,e⟩
theorem Qw (i:Int)(t:Tok):oC (.inl i) (.int i t)=true:=by simp [oC,Value.isInt]
theorem Qv (x:Str)(t:Tok):oC (.inr x) (.str x t)=true:=by simp [oC,Value.isStrOf]
theorem LJ (a b:Int):decide ((Sum.inl a:aw)=Sum.inl b)=(a==b):=by
 by_cases e:a=b
 ·subst e;simp
 ·have h:¬ (Sum.inl a:aw)=Sum.inl b:=fun q=>e (Sum.inl.inj q);rw[UD h];exact(Ux.mpr e).symm
theorem LH (a b:Str):decide ((Sum.inr a:aw)=Sum.inr b)=decide (a=b):=by
 by_cases e:a=b
 ·subst e;simp
 ·have h:¬ (Sum.inr a:aw)=Sum.inr b:=fun q=>e (Sum.inr.inj q);rw[UD h,UD e]
theorem LD (a:Int)(b:Str):decide ((Sum.inl a:aw)=Sum.inr b)=false:=UD (fun q=>nomatch q)
theorem LC (a:Str)(b:Int):decide ((Sum.inr a:aw)=Sum.inl b)=false:=UD (fun q=>nomatch q)
def dR (prog:Program)(w:World):PySem.KeyKind prog w aw where
 is:=oC
 hash:=JU w
 inj:=fun v a b ha hb=>by
  rcases kx ha with ⟨i,t,rfl,rfl⟩|⟨x,t,rfl,rfl⟩
  ·rcases kx hb with ⟨j,u,rfl,e⟩|⟨y,u,rfl,e⟩
   ·injection e with e1 _;rw[e1]
   ·exact nomatch e
  ·rcases kx hb with ⟨j,u,rfl,e⟩|⟨y,u,rfl,e⟩
   ·exact nomatch e
   ·injection e with e1 _;rw[e1]
 byValue:=fun k v h=>by rcases kx h with ⟨i,t,rfl,rfl⟩|⟨x,t,rfl,rfl⟩ <;> rfl
 pyHash:=fun hv h=>by
  rcases kx hv with ⟨i,t,rfl,rfl⟩|⟨x,t,rfl,rfl⟩
  ·exact wpAny_pyHash_int h
  ·exact wpAny_pyHash_str h
 eqBool:=fun hu hv h=>by
  rcases kx hu with ⟨i,t,rfl,rfl⟩|⟨x,t,rfl,rfl⟩
  ·rcases kx hv with ⟨j,u,rfl,rfl⟩|⟨y,u,rfl,rfl⟩
   ·rw[LJ] at h;exact wpAny_eqBool_int h
   ·rw[LD] at h;exact SeqAt.EqAt.int_str i t y u _ _ _ _ h
  ·rcases kx hv with ⟨j,u,rfl,rfl⟩|⟨y,u,rfl,rfl⟩
   ·rw[LC] at h;exact SeqAt.EqAt.str_int x t j u _ _ _ _ h
   ·rw[LH] at h;exact wpAny_eqBool_str h
 «strs» := fun k x t v h => by
  rcases kx h with ⟨i,u,rfl,e⟩|⟨y,u,rfl,e⟩
  ·exact nomatch e
  ·injection e with e1 _;subst e1;cases v <;> rfl
theorem RF (prog:Program)(w:World)(i:Int)(t:Tok):(dR prog w).is (.inl i) (.int i t)=true:=Qw i t
theorem RE (prog:Program)(w:World)(x:Str)(t:Tok):(dR prog w).is (.inr x) (.str x t)=true:=Qv x t
inductive V where
 |non|bl (b:Bool)|int (i:Int)|str (x:Str)|byt (b:Array UInt8)|flt (b:UInt64)|ref (a:Addr)|ty (n:String)
 deriving DecidableEq
def RelV:V->Value->Prop
 | .non,u=>u=Value.none
 | .bl b,u=>u=Value.bool b
 | .int i,u=>∃t,u=Value.int i t
 | .str x,u=>∃t,u=Value.str x t
 | .byt b,u=>∃t,u=Value.bytes b t
 | .flt b,u=>∃t,u=Value.float b t
 | .ref a,u=>u=Value.ref a
 | .ty n,u=>u=Value.type n
abbrev Vals:List V->List Value->Prop:=Paired RelV
variable {xs vs:List V}{y:V}
theorem Vals.length (r:Vals xs us):xs.length=us.length:=Paired.length r
theorem Vals.get:∀{xs:List V} {us:List Value} {i:Nat} {x:V},Vals xs us->xs[i]? = some x->∃u,us[i]? = some u/\RelV x u
 |_,_,_,_,.nil,e=>by simp at e
 |_,_,0,_,.cons r _,e=>by simp at e;subst e;exact⟨_,rfl,r⟩
 |_,_,i+1,x,.cons _ t,e=>by obtain⟨u,h1,h2⟩:=Vals.get (i:=i) (x:=x) t (by simpa using e);exact⟨u,by simpa using h1,h2⟩
theorem Vals.set {x:V}(r:RelV x u):∀{xs:List V} {us:List Value} (i:Nat),Vals xs us->Vals (xs.set i x) (us.set i u)
 |_,_,_,.nil=>.nil
 |_,_,0,.cons _ t=>.cons r t
 |_,_,i+1,.cons q t=>.cons q (Vals.set r i t)
theorem Vals.append:∀{xs ys:List V} {us ws:List Value},Vals xs us->Vals ys ws->Vals (xs++ys) (us++ws)
 |_,_,_,_,.nil,s=>s
 |_,_,_,_,.cons r t,s=>.cons r (Vals.append t s)
theorem Vals.take:∀{xs:List V} {us:List Value} (n:Nat),Vals xs us->Vals (xs.take n) (us.take n)
 |_,_,0,_=>.nil
 |_,_,_+1,.nil=>.nil
 |_,_,n+1,.cons r t=>.cons r (Vals.take n t)
theorem Vals.drop:∀{xs:List V} {us:List Value} (n:Nat),Vals xs us->Vals (xs.drop n) (us.drop n)
 |_,_,0,r=>r
 |_,_,_+1,.nil=>.nil
 |_,_,n+1,.cons _ t=>Vals.drop n t
def RelO:Option V->Option Value->Prop
 |some v,some u=>RelV v u
 |none,none=>True
 |_,_=>False
def KV {κ : Type}:List (κ × V)->List (κ × Value)->Prop:=Paired fun(p : κ × V) (q : κ × Value)=>p.1=q.1/\RelV p.2 q.2
noncomputable def kV:aw->V
 | .inl i=>.int i
 | .inr x=>.str x
inductive HO where
 |lst (xs:List V)
 |tup (xs:List V)
 |dK (ae:List (aw×V))|dT (ae:List (List aw×V))
 |set (S:Int->Bool) (n:Nat)
 |ins (C dx:Addr) (fs:List (Str×V))
 |own (x:Addr)
 |xd (fs:List (Str×V))
 |met (f x:Addr)
 |rng (lo hi:Int)
 |frz (o:Obj) (u:HO)
 |tbl (ps:Array Value)
 |ext (φ : Heap->Prop)
abbrev Hp:=Addr->Option HO
noncomputable def ax (H:Hp)(a:Addr)(o:HO):Hp:=fun b=>if b=a then some o else H b
variable {H H':Hp}
theorem bu {o:HO}:ax H a o a=some o:=by unfold ax;rw[Tt rfl]
theorem az {b:Addr}{o:HO}(h:b≠a):ax H a o b=H b:=by unfold ax;rw[Tp h]
theorem tM {b:Addr}{o u:HO}(h:H a=some o)(h':H b=some u)(d:o≠u):a≠b:=by intro e;subst e;rw[h] at h';exact d (Tw h')
theorem cb {b:Addr}{o:HO}(h:H a=some o)(h':H b=none):a≠b:=by intro e;subst e;rw[h] at h';cases h'
def IsTupN (h:Heap)(a:Addr)(items:Array Value):Prop:=∃o,h.get? a=some o/\o.cls = .type "tuple"/\∃n,o.data = .seq items n/\o.dict=none
theorem IsTupN.tup {h:Heap}{a:Addr}{items:Array Value}(x:IsTupN h a items):IsTup h a items:=let ⟨o,ho,hc,n,hd,_⟩:=x;⟨o,ho,hc,n,hd⟩
theorem IsTupN.new (h:Heap)(items:Array Value):IsTupN (h.push { cls:=.type "tuple",data:=.seq items }) h.objs.size items:=⟨_,Tu _ rfl,rfl,_,rfl,rfl⟩
section
variable (P:Program)(w:World)
def ObjOk (H:Hp)(h:Heap)(a:Addr):HO->Prop
 | .lst xs=>xs.length<=sizeLine/\∃(af:List Value) (n:Nat),Vals xs af/\h.get? a=some { cls:=.type "list",data:=.seq af.toArray n }
 | .tup xs=>xs.length<=sizeLine/\∃af:List Value,Vals xs af/\IsTupN h a af.toArray
 | .dK ae=>ae.length<=sizeLine/\(a==sysModules)=false/\∃vs,KV ae vs/\h.DictOf (dR P w) a vs
 | .dT ae=>ae.length<=sizeLine/\(a==sysModules)=false/\∃xs:List (List aw×Addr×Value),
   Paired (fun(p:List aw×V) (q:List aw×Addr×Value)=>p.1=q.1/\H q.2.1=some (.tup (p.1.map kV))/\RelV p.2 q.2.2) ae xs ∧
   ∃o es ep,h.get? a=some o/\o.ExactDict/\o.data = .dict es ep/\es.toList=xs.map (entryOfKey (tupleKind (dR P w)))/\(xs.map (·.1)).Nodup
 | .set S n=>h.SetOf (intKind P w) a S n
 | .ins C dx fs=>H dx=some (.own a)/\fs.length<=1000/\dx≠a/\h.get? a=some (PySem.W.instObj C dx) ∧
   ∃mA,h.Ns1 dx mA/\(∀f,RelO (fs.lookup f) (mA f))/\PySem.Within mA (fs.map (·.1))
 | .own _=>∃o,h.get? a=some o
 | .xd fs=>∃mA,h.Ns1 a mA/\∀f,RelO (fs.lookup f) (mA f)
 | .rng lo hi=>∃t u v,h.get? a=some { cls:=.type "range",data:=.fields #[.int lo t,.int hi u,.int 1 v] }
 | .frz o u=>h.get? a=some o/\ObjOk H h a u
 | .tbl ps=>h.get? a=some { cls:=.none,data:=.fields ps }
 | .met f x=>h.get? a=some (PySem.W.methodObj (.ref f) (.ref x))
 | .ext φ => φ h/\(∃o,h.get? a=some o)/\∀h1 h2:Heap,φ h1->(∀o,h1.get? a=some o->h2.get? a=some o) -> φ h2
def HOk (H:Hp)(h:Heap):Prop:=∀a o,H a=some o->ObjOk P w H h a o
end
section
variable {o:HO}
theorem ObjOk.lt (x:ObjOk P w H h a o):a<h.objs.size:=by
 cases o with
 |lst xs=>obtain⟨_,_,_,_,e⟩:=x;exact To e
 |tup xs=>obtain⟨_,_,_,p⟩:=x;exact p.tup.lt
 |dK ae=>obtain⟨_,_,_,_,o,_,_,e,_⟩:=x;exact To e
 |dT ae=>obtain⟨_,_,_,_,o,_,_,e,_⟩:=x;exact To e
 |set S n=>obtain⟨o,_,_,_,e,_⟩:=x;exact To e
 |ins C dx fs=>obtain⟨_,_,_,e,_⟩:=x;exact To e
 |own y=>obtain⟨_,e⟩:=x;exact To e
 |xd fs=>obtain⟨_,⟨_,_,_,e,_⟩,_⟩:=x;exact To e
 |rng lo hi=>obtain⟨_,_,_,e⟩:=x;exact To e
 |frz ob u=>obtain⟨e,_⟩:=x;exact To e
 |tbl ps=>exact To (show h.get? a=some _ from x)
 |met f y=>exact To (show h.get? a=some _ from x)
 |ext φ => obtain⟨_,⟨_,e⟩,_⟩:=x;exact To e
theorem Paired.mapP {F G:α -> β -> Prop}:∀{l₁:List α} {l₂:List β},Paired F l₁ l₂->(∀a b,F a b->G a b)->Paired G l₁ l₂
 |_,_,.nil,_=>.nil
 |_,_,.cons r t,f=>.cons (f _ _ r) (Paired.mapP t f)
theorem ObjOk.stay (x:ObjOk P w H h a o)(k:∀b u,(b=a∨H b=some (.own a))->h.get? b=some u->h'.get? b=some u)
  (ho:∀b,H b=some (.own a)->H' b=some (.own a)) (ht:∀b xs,H b=some (.tup xs)->H' b=some (.tup xs)):ObjOk P w H' h' a o:=by
 induction o with
 |lst xs=>obtain⟨z,af,n,r,e⟩:=x;exact⟨z,af,n,r,k _ _ (.inl rfl) e⟩
 |tup xs=>obtain⟨z,af,r,ob,e,c⟩:=x;exact⟨z,af,r,ob,k _ _ (.inl rfl) e,c⟩
 |dK ae=>obtain⟨z,y,vs,r,ob,es,ep,e,c⟩:=x;exact⟨z,y,vs,r,ob,es,ep,k _ _ (.inl rfl) e,c⟩
 |dT ae=>obtain⟨z,y,xs,r,ob,es,ep,e,c⟩:=x;exact⟨z,y,xs,Paired.mapP r fun p q z=>⟨z.1,ht _ _ z.2.1,z.2.2⟩,ob,es,ep,k _ _ (.inl rfl) e,c⟩
 |set S n=>obtain⟨ob,es,ep,t,e,c⟩:=x;exact⟨ob,es,ep,t,k _ _ (.inl rfl) e,c⟩
 |ins C dx fs=>obtain⟨d,z,ne,e,mA,⟨od,es,ep,e2,c⟩,r⟩:=x;exact⟨ho _ d,z,ne,k _ _ (.inl rfl) e,mA,⟨od,es,ep,k _ _ (.inr d) e2,c⟩,r⟩
 |own y=>obtain⟨ob,e⟩:=x;exact⟨ob,k _ _ (.inl rfl) e⟩
 |xd fs=>obtain⟨mA,⟨od,es,ep,e,c⟩,r⟩:=x;exact⟨mA,⟨od,es,ep,k _ _ (.inl rfl) e,c⟩,r⟩
 |rng lo hi=>obtain⟨t,u,v,e⟩:=x;exact⟨t,u,v,k _ _ (.inl rfl) e⟩
 |frz ob u ih=>obtain⟨e,q⟩:=x;exact⟨k _ _ (.inl rfl) e,ih q⟩
 |tbl ps=>have e:h.get? a=some { cls:=.none,data:=.fields ps }:=x;show h'.get? a=some { cls:=.none,data:=.fields ps };exact k a _ (.inl rfl) e
 |met f y=>have e:h.get? a=some (PySem.W.methodObj (.ref f) (.ref y)):=x;show h'.get? a=some (PySem.W.methodObj (.ref f) (.ref y));exact k a _ (.inl rfl) e
 |ext φ => obtain⟨p,⟨o,e⟩,st⟩:=x;exact⟨st _ _ p fun o q=>k _ _ (.inl rfl) q,⟨o,k _ _ (.inl rfl) e⟩,st⟩
theorem HOk.lt (x:HOk P w H h)(e:H a=some o):a<h.objs.size:=(x a o e).lt
theorem HOk.fresh (x:HOk P w H h)(e:h.objs.size<=a):H a=none:=by
 cases q:H a with
 |none=>rfl
 |some u=>exact absurd (TK (x.lt q) e) (Ul _)
theorem HOk.kept (x:HOk P w H h)(k:∀b u,h.get? b=some u->h'.get? b=some u):HOk P w H h':=fun a o e=>
 (x a o e).stay (fun b u _ q=>k b u q) (fun _ q=>q) fun _ _ q=>q
theorem HOk.laid (x:HOk P w H h)(k:∀b u,h.get? b=some u->h'.get? b=some u)(hp:h.objs.size<=a)(new:ObjOk P w (ax H a o) h' a o):HOk P w (ax H a o) h':=fun b u e=>by
 have hn:=x.fresh hp
 by_cases hb:b=a
 ·subst hb;rw[bu] at e;cases e;exact new
 ·rw[az hb] at e;exact(x b u e).stay (fun c v _ q=>k c v q) (fun c q=>by rw[az (cb q hn)];exact q) fun c xs q=>by rw[az (cb q hn)];exact q
end
def Rd (H:Hp)(a:Addr)(u:HO):Prop:=H a=some u∨∃o,H a=some (.frz o u)
theorem Rd.of {u:HO}(h:H a=some u):Rd H a u:=.inl h
theorem Rd.ok {u:HO}(r:Rd H a u)(x:HOk P w H h):ObjOk P w H h a u:=by
 rcases r with r|⟨o,r⟩
 ·exact x a u r
 ·obtain⟨_,q⟩:=x a _ r;exact q
def rJ:Option HO->Prop
 |some (.lst _)=>True
 |some (.dK _)=>True
 |some (.dT _)=>True
 |some (.set _ _)=>True
 |some (.ins _ _ _)=>True
 |some (.ext _)=>True
 |_=>False
section
variable {x e:Addr}{o':HO}
theorem HOk.write (ok:HOk P w H h)(mu:rJ (H x))(he:e=x∨H e=some (.own x))(k:∀b u,b≠e->h.get? b=some u->h'.get? b=some u)(nV:∃u,h'.get? e=some u)
  (new:ObjOk P w (ax H x o') h' x o'):HOk P w (ax H x o') h':=fun b u q=>by
 have pK:∀c y,H c=some (.own y)->c≠x:=fun c y r z=>by subst z;rw[r] at mu;exact mu
 have vg:∀c xs,H c=some (.tup xs)->c≠x:=fun c xs r z=>by subst z;rw[r] at mu;exact mu
 by_cases hb:b=x
 ·subst hb;rw[bu] at q;cases q;exact new
 ·rw[az hb] at q
  by_cases hbe:b=e
  ·have q':H b=some (.own x):=by
    rcases he with z|z
    ·exact absurd (hbe.trans z) hb
    ·rw[hbe];exact z
   rw[q] at q';cases q';obtain⟨v,hv⟩:=nV;exact⟨v,by rw[hbe];exact hv⟩
  ·refine(ok b u q).stay (fun c v hc r=>k c v ?_ r) (fun c r=>by rw[az (pK c b r)];exact r) fun c xs r=>by rw[az (vg c xs r)];exact r
   rcases hc with rfl|hc
   ·exact hbe
   ·rintro rfl
    rcases he with z|z
    ·exact pK c b hc z
    ·rw[hc] at z;cases z;exact hb rfl
end
structure Un (fs ex:List Addr)(H H':Hp)(h h':Heap):Prop where
 keep:∀b o,h.get? b=some o->H b=none->b∉fs->b∉ex->h'.get? b=some o
 slot:∀b o,h.get? b=some o->H b=none->b∈fs->b∉ex->∃sl,h'.get? b=some { o with slots:=sl }
 free:∀b o,h.get? b=some o->H b=none->b∉ex->H' b=none
 there:∀b o,h.get? b=some o->b∉ex->∃o',h'.get? b=some o'
 tups:∀b xs,H b=some (.tup xs)->H' b=some (.tup xs)
 frzs:∀b o u,H b=some (.frz o u)->H' b=some (.frz o u)
 tbls:∀b ps,H b=some (.tbl ps)->∃more,H' b=some (.tbl (ps++more))
section
variable {fs dv ex S3:List Addr}{H1 H2:Hp}{h1 h2:Heap}{x e:Addr}{o:HO}
theorem Un.any (u:Un fs ex H H1 h h1){b:Addr}{ob:Obj}(q:h.get? b=some ob)(n:H b=none)(hx:b∉ex):∃sl,h1.get? b=some { ob with slots:=sl }:=by
 by_cases hb:b∈fs
 ·exact u.slot b ob q n hb hx
 ·exact⟨ob.slots,u.keep b ob q n hb hx⟩
theorem Un.kept (k:∀b u,h.get? b=some u->h'.get? b=some u):Un fs ex H H h h':=
 ⟨fun b ob q _ _ _=>k b ob q,fun b ob q _ _ _=>⟨ob.slots,k b ob q⟩,fun _ _ _ n _=>n,fun b ob q _=>⟨ob,k b ob q⟩,fun _ _ q=>q,fun _ _ _ q=>q,fun _ ps q=>⟨#[],by rw[q];simp⟩⟩
theorem Un.refl:Un fs ex H H h h:=Un.kept fun _ _ q=>q
theorem Un.laid (k:∀b u,h.get? b=some u->h'.get? b=some u)(hp:h.objs.size<=a)(hn:H a=none):Un fs ex H (ax H a o) h h' where
 keep:=fun b u q _ _ _=>k b u q
 slot:=fun b u q _ _ _=>⟨u.slots,k b u q⟩
 free:=fun b u q n _=>by rw[az (TU (TK (To q) hp))];exact n
 there:=fun b u q _=>⟨u,k b u q⟩
 tups:=fun b xs q=>by rw[az (cb q hn)];exact q
 frzs:=fun b u xs q=>by rw[az (cb q hn)];exact q
 tbls:=fun b ps q=>⟨#[],by rw[az (cb q hn),q];simp⟩
theorem Un.write (mu:rJ (H x))(he:e=x∨H e=some (.own x))(k:∀b u,b≠e->h.get? b=some u->h'.get? b=some u)(nV:∃u,h'.get? e=some u):Un fs ex H (ax H x o) h h':=by
 have hx:∀b,H b=none->b≠x:=fun b n z=>by subst z;rw[n] at mu;exact mu
 have hb:∀b,H b=none->b≠e:=fun b n z=>by
  subst z;rcases he with r|r
  ·exact hx b n r
  ·rw[n] at r;injection r
 have hm:∀b u,H b=some u->¬rJ (some u)->b≠x:=fun b u q nm z=>by subst z;rw[q] at mu;exact nm mu
 refine⟨fun b u q n _ _=>k b u (hb b n) q,fun b u q n _ _=>⟨u.slots,k b u (hb b n) q⟩,fun b u q n _=>by rw[az (hx b n)];exact n,fun b u q _=>?_,
  fun b xs q=>by rw[az (hm b _ q fun z=>z)];exact q,fun b u xs q=>by rw[az (hm b _ q fun z=>z)];exact q,fun b ps q=>⟨#[],by rw[az (hm b _ q fun z=>z),q];simp⟩⟩
 by_cases hbe:b=e
 ·subst hbe;exact nV
 ·exact⟨u,k b u hbe q⟩
end
noncomputable def rY (h:Heap)(H:Hp):List Addr:=(List.range h.objs.size).filter fun a=>(H a).isSome
def kc (h:Heap)(H:Hp):Heap:=PySem.W.hideAll h (rY h H)
theorem Qu (h:Heap)(H:Hp):(kc h H).objs.size=h.objs.size:=PySem.W.hideAll_size _ _
theorem Ph {b:Addr}{o:Obj}(e:h.get? b=some o)(n:H b=none):(kc h H).get? b=some o:=
 PySem.W.hideAll_get _ e fun hm=>by have q:(H b).isSome=true:=(mem_filter.mp hm).2;rw[n] at q;simp at q
theorem NN {b:Addr}{o:Obj}(e:(kc h H).get? b=some o):h.get? b=some o/\H b=none:=by
 have e':h.get? b=some o:=PySem.W.of_hideAll (rY h H) e;refine⟨e',?_⟩
 cases q:H b with
 |none=>rfl
 |some x=>have hm:b∈rY h H:=mem_filter.mpr ⟨mem_range.mpr (To e'),by simp [q]⟩;have z:(kc h H).get? b=none:=PySem.W.hideAll_none (rY h H) hm;rw[z] at e;injection e
structure Mod (K:W.Frag)(mg:Str->Option Value)(base:Heap):Prop where
 kin:K.In base
 glob:base.Ns mainGlobals mg
 blt:∃mb,base.Ns builtinsNs mb/\∀x:Str,x≠"__name__"->mb x=bootBuiltins x
 nolimit:base.NoLimit
structure Cx where
 prog:Program
 w:World
 K:W.Frag
 mg:Str->Option Value
 base:Heap
 A:Around
 N:List Str
 s₀:Shared
 H₀:Hp
 env:Env
 outer:List Env
 stack:List Env
 ex:List Addr
 fn:Str->Bool
 calm:Bool
 pn:List (Addr×Obj)
 xe:am
noncomputable def iA (l:List Env):List Addr:=l.filterMap (·.frame)
abbrev Cx.fs (X:Cx):List Addr:=iA X.outer
def rF (sc:Scope)(x:Str):Prop:=sc.names.lookup x=some .local∨sc.names.lookup x=some .cell∨sc.names.lookup x=some .free
def lT (sc:Scope)(x:Str):Prop:=sc.names.lookup x=some .local∨sc.names.lookup x=some .cell
def JT (env:Env)(h:Heap)(m:Str->Option Value)(x:Str)(u:Value):Prop:=
 (env.kindOf x=some .local/\m x=some u)∨((env.kindOf x=some .cell∨env.kindOf x=some .free)/\∃c,env.cells.lookup x=some c/\h.IsCell c (some u))
structure Cx.Ok (X:Cx):Prop where
 mod:Mod X.K X.mg X.base
 kind:X.env.scope.kind = .function
 glob:X.env.globals=mainGlobals
 blt:X.env.builtins=builtinsNs
 above:X.s₀.heap.objs.size<=X.env.locals
 inj:∀x y c,X.env.cells.lookup x=some c->X.env.cells.lookup y=some c->x=y
 has:∀x,(X.env.kindOf x=some .cell∨X.env.kindOf x=some .free)->∃c,X.env.cells.lookup x=some c
 cab:∀x c,X.fn x=true->X.env.cells.lookup x=some c->X.s₀.heap.objs.size<=c
 hd:X.calm=true->X.A.handled=none
 frames:X.A.frames=some X.stack
 stk:X.stack=X.outer∨(X.stack=X.env::X.outer/\X.env.frame=some X.env.locals)
 exf:∀b∈X.ex,b≠X.env.locals/\∀x c,X.env.cells.lookup x=some c->c≠b
 bs:∀b o,X.base.get? b=some o->X.s₀.heap.get? b=some o/\X.H₀ b=none
 bsz:X.base.objs.size<=X.s₀.heap.objs.size
 noex:∀b o,X.base.get? b=some o->b∉X.ex
 exfs:∀b∈X.ex,b∉X.fs
 funs:X.s₀.heap.FunFrames X.base X.outer
 frf:∀b∈X.fs,X.H₀ b=none
structure Inv (X:Cx)(aa:List (Addr×Obj))(σ:List (Option V))(H:Hp)(s:Shared):Prop where
 ok:X.Ok
 os:s.os=X.s₀.os
 bare:AllBare s.gens
 base:Un X.fs X.ex X.H₀ H X.s₀.heap s.heap
 loc:∃m,s.heap.Ns X.env.locals m/\∀(i:Nat) (x:Str) (v:V),X.N[i]? = some x->σ[i]? = some (some v)->rF X.env.scope x->∃u,RelV v u/\JT X.env s.heap m x u
 cell:∀x c,X.env.cells.lookup x=some c->∃v,s.heap.IsCell c v
 free:H X.env.locals=none
 freeC:∀x c,X.env.cells.lookup x=some c->H c=none
 pin:∀p∈X.pn++aa,s.heap.get? p.1=some p.2/\H p.1=none/\p.1≠X.env.locals/\p.1∉X.fs/\∀v,p.2.data ≠ .cell v
 hok:HOk X.prog X.w H s.heap
 len:σ.length=X.N.length
variable {X:Cx}
section
variable {σ:List (Option V)}{s:Shared}
theorem Cx.Ok.nofr (ok:X.Ok){b:Addr}{o:Obj}(e:X.base.get? b=some o):b∉X.fs:=fun hb=>by have:=(ok.funs.mem hb).1;rw[e] at this;cases this
theorem Inv.bs (I:Inv X aa σ H s):∀b o,X.base.get? b=some o->s.heap.get? b=some o/\H b=none:=fun b o e=>
 ⟨I.base.keep b o (I.ok.bs b o e).1 (I.ok.bs b o e).2 (I.ok.nofr e) (I.ok.noex b o e),I.base.free b o (I.ok.bs b o e).1 (I.ok.bs b o e).2 (I.ok.noex b o e)⟩
theorem Inv.bk (I:Inv X aa σ H s):∀b o,X.base.get? b=some o->s.heap.get? b=some o:=fun b o e=>(I.bs b o e).1
theorem Inv.mod (I:Inv X aa σ H s):Mod X.K X.mg X.base:=I.ok.mod
theorem Inv.kIn (I:Inv X aa σ H s):X.K.In s.heap:=I.ok.mod.kin.keeps I.bk
theorem Inv.lt (I:Inv X aa σ H s):X.env.locals<s.heap.objs.size:=let ⟨_,hn,_⟩:=I.loc;hn.lt
theorem Inv.sz (I:Inv X aa σ H s):X.s₀.heap.objs.size<=s.heap.objs.size:=Ue I.ok.above (Nat.le_of_lt I.lt)
theorem Inv.nofs (I:Inv X aa σ H s){a:Addr}(h:s.heap.objs.size<=a):a∉X.fs:=fun hb=>by obtain⟨_,o,ho,_⟩:=I.ok.funs.mem hb;exact absurd (TK (To ho) (Ue I.sz h)) (Ul _)
theorem Inv.cne (I:Inv X aa σ H s):∀x c,X.env.cells.lookup x=some c->c≠X.env.locals:=fun x c e z=>by obtain⟨v,o,ho,hd⟩:=I.cell x c e;obtain⟨m,⟨o',es,ep,i7,BM,_⟩,_⟩:=I.loc;rw[z,i7] at ho;cases ho;rw[BM] at hd;cases hd
theorem Inv.funs (I:Inv X aa σ H s):s.heap.FunFrames X.base X.outer:=by
 have all:∀(l:List Env),(∀b∈iA l,b∈X.fs)->X.s₀.heap.FunFrames X.base l->s.heap.FunFrames X.base l:=by
  intro l
  induction l with
  |nil=>intro _ _;trivial
  |cons env r ih=>intro hs hl;obtain⟨hk,⟨L,o,hf,hn,ho,hd⟩,hr⟩:=hl;have hL:L∈X.fs:=hs L (by unfold iA;rw[filterMap_cons,hf];exact Te);obtain⟨sl,e⟩:=I.base.slot L o ho (I.ok.frf L hL) hL fun z=>I.ok.exfs L z hL;exact⟨hk,⟨L,_,hf,hn,e,hd⟩,ih (fun b hb=>hs b (by unfold iA;rw[filterMap_cons,hf];exact Tb _ hb)) hr⟩
 exact all X.outer (fun _ hb=>hb) I.ok.funs
theorem Inv.stack (I:Inv X aa σ H s):s.heap.FunFrames X.base X.stack:=by
 rcases I.ok.stk with e|⟨e,hf⟩
 ·rw[e];exact I.funs
 ·rw[e];obtain⟨m,hn,_⟩:=I.loc;refine .cons (by rw[I.ok.kind];decide) hf hn ?_ I.funs;exact Heap.get?_none_of_le (Ue I.ok.bsz I.ok.above)
theorem Inv.stkSub (I:Inv X aa σ H s):∀b∈iA X.stack,b∈X.env.locals::X.fs:=fun b hb=>by
 rcases I.ok.stk with e|⟨e,hf⟩
 ·rw[e] at hb;exact Tb _ hb
 ·rw[e] at hb;unfold iA at hb;rw[filterMap_cons,hf] at hb;exact hb
theorem Inv.stkFree (I:Inv X aa σ H s):∀b∈iA X.stack,H b=none:=fun b hb=>by
 rcases Ts.mp (I.stkSub b hb) with e|hb
 ·rw[e];exact I.free
 ·obtain⟨_,o,ho,_⟩:=I.ok.funs.mem hb;exact I.base.free b o ho (I.ok.frf b hb) fun z=>I.ok.exfs b z hb
theorem Inv.step {g':Array GenState}{d':Drawn}{ch:List Addr}(I:Inv X aa σ H s)
  (jG:∀b∈ch,(b∈X.ex∨X.s₀.heap.objs.size<=b)/\b≠X.env.locals/\(∀x c,X.env.cells.lookup x=some c->c≠b)/\∀p∈X.pn++aa,p.1≠b)
  (keep:∀b o,b≠X.env.locals->b∉X.fs->b∉ch->s.heap.get? b=some o->H b=none->h'.get? b=some o)
  (slot:∀b o,b≠X.env.locals->b∈X.fs->b∉ch->s.heap.get? b=some o->H b=none->∃sl,h'.get? b=some { o with slots:=sl }) (free:∀b o,b∉ch->s.heap.get? b=some o->H b=none->H' b=none)
  (there:∀b o,b∉ch->s.heap.get? b=some o->∃o',h'.get? b=some o')
  (tups:∀b xs,H b=some (.tup xs)->H' b=some (.tup xs)) (frzs:∀b o u,H b=some (.frz o u)->H' b=some (.frz o u)) (tbls:∀b ps,H b=some (.tbl ps)->∃more,H' b=some (.tbl (ps++more)))
  (ns:∀m,s.heap.Ns X.env.locals m->h'.Ns X.env.locals m) (hok:HOk X.prog X.w H' h') (hg:AllBare g'):
  Inv X aa σ H' { s with heap:=h',gens:=g',drawn:=d',toks:=t' }:=by
 have Bq:∀b o,X.s₀.heap.get? b=some o->b≠X.env.locals:=fun b o e=>TU (TK (To e) I.ok.above)
 have pL:∀b o,X.s₀.heap.get? b=some o->b∉X.ex->b∉ch:=fun b o e hx hb=>by
  rcases(jG b hb).1 with z|z
  ·exact hx z
  ·exact absurd (TK (To e) z) (Ul _)
 have kZ:∀x c,X.env.cells.lookup x=some c->∀v,s.heap.IsCell c v->h'.IsCell c v:=fun x c e v ⟨o,ho,hd⟩=>by
  have pM:c∉ch:=fun z=>(jG c z).2.2.1 x c e rfl
  by_cases hc:c∈X.fs
  ·obtain⟨sl,q⟩:=slot c o (I.cne x c e) hc pM ho (I.freeC x c e);exact⟨_,q,hd⟩
  ·exact⟨o,keep c o (I.cne x c e) hc pM ho (I.freeC x c e),hd⟩
 refine⟨I.ok,I.os,hg,⟨fun b o e n hb hx=>?_,fun b o e n hb hx=>?_,fun b o e n hx=>?_,fun b o e hx=>?_,fun b xs e=>tups b xs (I.base.tups b xs e),fun b o xs e=>frzs b o xs (I.base.frzs b o xs e),fun b ps e=>?_⟩,?_,fun x c e=>?_,?_,fun x c e=>?_,fun p hp=>?_,hok,I.len⟩
 ·exact keep b o (Bq b o e) hb (pL b o e hx) (I.base.keep b o e n hb hx) (I.base.free b o e n hx)
 ·obtain⟨sl,e1⟩:=I.base.slot b o e n hb hx;obtain⟨sl',e2⟩:=slot b _ (Bq b o e) hb (pL b o e hx) e1 (I.base.free b o e n hx);exact⟨sl',e2⟩
 ·obtain⟨o',e1⟩:=I.base.there b o e hx;exact free b o' (pL b o e hx) e1 (I.base.free b o e n hx)
 ·obtain⟨o',e1⟩:=I.base.there b o e hx;exact there b o' (pL b o e hx) e1
 ·obtain⟨m1,e1⟩:=I.base.tbls b ps e;obtain⟨m2,e2⟩:=tbls b _ e1;exact⟨m1++m2,by rw[e2,Array.append_assoc]⟩
 ·obtain⟨m,hn,hl⟩:=I.loc
  refine⟨m,ns m hn,fun i x v e1 e2 e3=>?_⟩;obtain⟨u,r,l⟩:=hl i x v e1 e2 e3;refine⟨u,r,?_⟩;rcases l with l|⟨k,c,e,z⟩
  ·exact .inl l
  ·exact .inr ⟨k,c,e,kZ x c e _ z⟩
 ·obtain⟨v,z⟩:=I.cell x c e;exact⟨v,kZ x c e v z⟩
 ·obtain⟨m,⟨o,_,_,ho,_⟩,_⟩:=I.loc;exact free _ o (fun z=>(jG _ z).2.1 rfl) ho I.free
 ·obtain⟨v,o,ho,hd⟩:=I.cell x c e;exact free c o (fun z=>(jG c z).2.2.1 x c e rfl) ho (I.freeC x c e)
 ·obtain⟨e,n,ne,nf,d⟩:=I.pin p hp;have pM:p.1∉ch:=fun z=>(jG p.1 z).2.2.2 p hp rfl;exact⟨keep p.1 p.2 ne nf pM e n,free p.1 p.2 pM e n,ne,nf,d⟩
theorem Inv.un (I:Inv X aa σ H s)(u:Un X.fs [] H H' s.heap h')(hok:HOk X.prog X.w H' h'):Inv X aa σ H' { s with heap:=h',toks:=t' }:=by
 obtain⟨m,⟨o,es,ep,ho,r⟩,_⟩:=id I.loc;obtain⟨sl,hL⟩:=u.any ho I.free (by simp)
 exact I.step (g':=s.gens) (d':=s.drawn) (ch:=[]) (fun _ z=>nomatch z) (fun b o _ hb _ e n=>u.keep b o e n hb (by simp)) (fun b o _ hb _ e n=>u.slot b o e n hb (by simp)) (fun b o _ e n=>u.free b o e n (by simp)) (fun b o _ e=>u.there b o e (by simp)) u.tups u.frzs u.tbls (fun m' hm=>by
  obtain⟨o',fV,ep',i7,r'⟩:=hm;rw[ho] at i7;cases i7
  exact⟨_,fV,ep',hL,r'⟩) hok I.bare
theorem Inv.call {g':Array GenState}{d':Drawn}{ch:List Addr}(I:Inv X aa σ H s)(u:Un (iA X.stack) ch H H' s.heap h')(hok:HOk X.prog X.w H' h')(hg:AllBare g')
  (jG:∀b∈ch,(b∈X.ex∨X.s₀.heap.objs.size<=b)/\b≠X.env.locals/\(∀x c,X.env.cells.lookup x=some c->c≠b)/\∀p∈X.pn++aa,p.1≠b):
  Inv X aa σ H' { s with heap:=h',gens:=g',drawn:=d',toks:=t' }:=by
 obtain⟨m,⟨o,es,ep,ho,r⟩,_⟩:=id I.loc;obtain⟨sl,hL⟩:=u.any ho I.free fun z=>(jG _ z).2.1 rfl
 exact I.step (ch:=ch) jG (fun b o hL hb hc e n=>u.keep b o e n (fun z=>(Ts.mp (I.stkSub b z)).elim hL hb) hc) (fun b o _ _ hc e n=>u.any e n hc) (fun b o hc e n=>u.free b o e n hc) (fun b o hc e=>u.there b o e hc) u.tups u.frzs u.tbls (fun m' hm=>by
  obtain⟨o',fV,ep',i7,r'⟩:=hm;rw[ho] at i7;cases i7
  exact⟨_,fV,ep',hL,r'⟩) hok hg
theorem Inv.turned (I:Inv X aa σ H s)(k:∀b o,b≠it->s.heap.get? b=some o->h'.get? b=some o)(hn:H it=none)(hL:it≠X.env.locals)
  (h1:it∈X.ex∨X.s₀.heap.objs.size<=it) (h2:∀x c,X.env.cells.lookup x=some c->c≠it) (h3:∀p∈X.pn++aa,p.1≠it):Inv X aa σ H { s with heap:=h',toks:=t' }:=by
 have iZ:∀b u,H b=some u->b≠it:=fun b u e z=>by rw[z,hn] at e;cases e
 refine I.step (g':=s.gens) (d':=s.drawn) (ch:=[it]) (fun b hb=>?_) (fun b o _ _ hc e _=>k b o (fun z=>hc (by simp [z])) e) (fun b o _ _ hc e _=>⟨o.slots,k b o (fun z=>hc (by simp [z])) e⟩) (fun _ _ _ _ n=>n)
  (fun b o hc e=>⟨o,k b o (fun z=>hc (by simp [z])) e⟩) (fun _ _ e=>e) (fun _ _ _ e=>e) (fun b ps e=>⟨#[],by rw[e];simp⟩) (fun m hm=>?_) (fun b u e=>?_) I.bare
 ·have e:b=it:=by simpa using hb
  subst e;exact⟨h1,hL,h2,h3⟩
 ·obtain⟨o,es,ep,ho,r⟩:=hm;exact⟨o,es,ep,k _ o (Ne.symm hL) ho,r⟩
 ·refine(I.hok b u e).stay (fun c v hc q=>k c v ?_ q) (fun _ q=>q) fun _ _ q=>q
  rcases hc with z|z
  ·rw[z];exact iZ b u e
  ·exact iZ c _ z
theorem Inv.tok (I:Inv X aa σ H s)(t:Nat):Inv X aa σ H { s with toks:=t }:=I.un (h':=s.heap) (t':=t) Un.refl I.hok
theorem Inv.kept (I:Inv X aa σ H s)(k:∀b u,s.heap.get? b=some u->h'.get? b=some u):Inv X aa σ H { s with heap:=h',toks:=t' }:=I.un (Un.kept k) (I.hok.kept k)
theorem Inv.laid {o:HO}(I:Inv X aa σ H s)(k:∀b u,s.heap.get? b=some u->h'.get? b=some u)(hp:s.heap.objs.size<=a)(new:ObjOk X.prog X.w (ax H a o) h' a o):
  Inv X aa σ (ax H a o) { s with heap:=h',toks:=t' }:=I.un (Un.laid k hp (I.hok.fresh hp)) (I.hok.laid k hp new)
theorem Inv.write {x e:Addr}{o:HO}(I:Inv X aa σ H s)(mu:rJ (H x))(he:e=x∨H e=some (.own x))(k:∀b u,b≠e->s.heap.get? b=some u->h'.get? b=some u)(nV:∃u,h'.get? e=some u)
  (new:ObjOk X.prog X.w (ax H x o) h' x o):Inv X aa σ (ax H x o) { s with heap:=h',toks:=t' }:=I.un (Un.write mu he k nV) (I.hok.write mu he k nV new)
theorem Inv.pins_of {pins':List (Addr×Obj)}(I:Inv X aa σ H s)(h:∀p∈pins',s.heap.get? p.1=some p.2/\H p.1=none/\p.1≠X.env.locals/\p.1∉X.fs/\∀v,p.2.data ≠ .cell v):Inv X pins' σ H s:=
 ⟨I.ok,I.os,I.bare,I.base,I.loc,I.cell,I.free,I.freeC,fun p hp=>(TB.mp hp).elim (fun z=>I.pin p (TL _ z)) (h p),I.hok,I.len⟩
theorem F7 {N:List Str}(hN:N.Nodup){i j:Nat}{x:Str}(a:N[i]? = some x)(b:N[j]? = some x):i=j:=by obtain⟨h1,e1⟩:=Tn.mp a;obtain⟨h2,e2⟩:=Tn.mp b;exact(List.getElem_inj hN).mp (e1.trans e2.symm)
theorem GI {M:Model}{A:Around}{E:am}{v:V}{Q:Unit->Shared->Prop}(I:Inv X aa σ H s)(hN:X.N.Nodup)(hi:X.N[i]? = some x)(hx:lT X.env.scope x)(r:RelV v u)
  (h:∀s',Inv X aa (σ.set i (some v)) H s'->(∃a,Heap.SameBut a s.heap s'.heap/\(a=X.env.locals∨X.env.cells.lookup x=some a))->Q () s') (hf:X.fn x=true∨X.env.scope.names.lookup x=some .local:=by first|exact .inl rfl|exact .inr rfl|assumption):wpAny M A (storeName X.env x u) Q E s:=by
 obtain⟨m,hn,hl⟩:=id I.loc;have vV:(X.env.scope.kind == .class||(X.env.scope.kind == .module&&X.env.locals != X.env.globals))=false:=by rw[I.ok.kind];rfl
 have hiσ:i<σ.length:=by rw[I.len];exact(Tn.mp hi).1
 have cne:=I.cne
 have gK:∀{a:Addr} {h':Heap},(∃o,s.heap.get? a=some o/\H a=none)->Heap.SameBut a s.heap h'->HOk X.prog X.w H h':=fun {a h'} ha hs b ob e=>by
  obtain⟨_,_,hfree⟩:=ha;refine(I.hok b ob e).stay (fun c w' hc q=>(hs.2 c ?_).trans q) (fun _ q=>q) fun _ _ q=>q;rintro rfl;rcases hc with rfl|hc
  ·rw[hfree] at e;injection e
  ·rw[hfree] at hc;injection hc
 rcases hx with hk|hk
 ·refine wpAny_storeName_local hk hn (fun h' hn' hs=>?_) vV
  obtain⟨oL,_,_,hoL,_⟩:=id hn;refine h _ ⟨I.ok,I.os,I.bare,⟨fun b o e n hb hx=>?_,fun b o e n hb hx=>?_,I.base.free,fun b o e hx=>?_,I.base.tups,I.base.frzs,I.base.tbls⟩,⟨_,hn',fun j y v' e1 e2 e3=>?_⟩,fun y c e=>?_,I.free,I.freeC,fun p hp=>?_,gK ⟨oL,hoL,I.free⟩ hs,by simpa using I.len⟩ ⟨_,hs,.inl rfl⟩
  ·exact(hs.2 b (TU (TK (To e) I.ok.above))).trans (I.base.keep b o e n hb hx)
  ·obtain⟨sl,e1⟩:=I.base.slot b o e n hb hx;exact⟨sl,(hs.2 b (TU (TK (To e) I.ok.above))).trans e1⟩
  ·obtain⟨o',e1⟩:=I.base.there b o e hx;exact⟨o',(hs.2 b (TU (TK (To e) I.ok.above))).trans e1⟩
  ·by_cases hj:j=i
   ·subst hj;rw[hi] at e1;cases e1;rw[List.getElem?_set_self hiσ] at e2;cases e2;exact⟨u,r,.inl ⟨hk,by simp⟩⟩
   ·rw[List.getElem?_set_ne (Ne.symm hj)] at e2
    obtain⟨u',r',q⟩:=hl j y v' e1 e2 e3;refine⟨u',r',?_⟩;rcases q with ⟨k,e⟩|⟨k,c,e,z⟩
    ·refine .inl ⟨k,?_⟩;have:y≠x:=fun e=>hj (F7 hN e1 (e▸hi));simp [this,e]
    ·exact .inr ⟨k,c,e,z.sameBut hs (cne y c e)⟩
  ·obtain⟨w',z⟩:=I.cell y c e;exact⟨w',z.sameBut hs (cne y c e)⟩
  ·obtain⟨e,n,ne,nf,d⟩:=I.pin p hp;exact⟨(hs.2 p.1 ne).trans e,n,ne,nf,d⟩
 ·have qf:X.fn x=true:=by
   rcases hf with z|z
   ·exact z
   ·rw[z] at hk;cases hk
  obtain⟨c,hc⟩:=I.ok.has x (.inl hk);obtain⟨w',z⟩:=I.cell x c hc;refine wpAny_storeName_cell I.ok.kind hk hc z (fun h' hc' hs=>?_);obtain⟨oc,hoc,hocd⟩:=id z;refine h { s with heap:=h' } ⟨I.ok,I.os,I.bare,⟨fun b o e n hb hx=>?_,fun b o e n hb hx=>?_,I.base.free,fun b o e hx=>?_,I.base.tups,I.base.frzs,I.base.tbls⟩,⟨m,hn.sameBut hs (Ne.symm (cne x c hc)),fun j y v' e1 e2 e3=>?_⟩,fun y c' e=>?_,I.free,I.freeC,fun p hp=>?_,gK ⟨oc,hoc,I.freeC x c hc⟩ hs,by simpa using I.len⟩ ⟨c,hs,.inr hc⟩
  ·exact(hs.2 b (TU (TK (To e) (I.ok.cab x c qf hc)))).trans (I.base.keep b o e n hb hx)
  ·obtain⟨sl,e1⟩:=I.base.slot b o e n hb hx;exact⟨sl,(hs.2 b (TU (TK (To e) (I.ok.cab x c qf hc)))).trans e1⟩
  ·obtain⟨o',e1⟩:=I.base.there b o e hx;exact⟨o',(hs.2 b (TU (TK (To e) (I.ok.cab x c qf hc)))).trans e1⟩
  ·by_cases hj:j=i
   ·subst hj;rw[hi] at e1;cases e1;rw[List.getElem?_set_self hiσ] at e2;cases e2;exact⟨u,r,.inr ⟨.inl hk,c,hc,hc'⟩⟩
   ·rw[List.getElem?_set_ne (Ne.symm hj)] at e2
    obtain⟨u',r',q⟩:=hl j y v' e1 e2 e3;refine⟨u',r',?_⟩;rcases q with q|⟨k,c',e,z'⟩
    ·exact .inl q
    ·refine .inr ⟨k,c',e,z'.sameBut hs ?_⟩;rintro rfl;exact hj (F7 hN e1 (I.ok.inj _ _ _ e hc▸hi))
  ·by_cases hcc:c'=c
   ·subst hcc;exact⟨_,hc'⟩
   ·obtain⟨w2,z2⟩:=I.cell y c' e;exact⟨w2,z2.sameBut hs hcc⟩
  ·obtain⟨e,n,ne,nf,d⟩:=I.pin p hp;refine⟨(hs.2 p.1 ?_).trans e,n,ne,nf,d⟩;intro q;rw[q,hoc] at e;have q':oc=p.2:=Tw e;exact d w' (by rw[<- q'];exact hocd)
theorem zN {M:Model}{A:Around}{E:am}{v:V}{Q:Unit->Shared->Prop}(I:Inv X aa σ H s)(hN:X.N.Nodup)(hi:X.N[i]? = some x)(hx:lT X.env.scope x)(r:RelV v u)
  (h:∀s',Inv X aa (σ.set i (some v)) H s'->Q () s') (hf:X.fn x=true∨X.env.scope.names.lookup x=some .local:=by first|exact .inl rfl|exact .inr rfl|assumption):wpAny M A (storeName X.env x u) Q E s:=
 GI I hN hi hx r (fun s' I' _=>h s' I') hf
theorem Inv.call' {s':Shared}{ch:List Addr}(I:Inv X aa σ H s)(ho:s'.os=s.os)(u:Un (iA X.stack) ch H H' s.heap s'.heap)(hok:HOk X.prog X.w H' s'.heap)(hg:AllBare s'.gens)
  (jG:∀b∈ch,(b∈X.ex∨X.s₀.heap.objs.size<=b)/\b≠X.env.locals/\(∀x c,X.env.cells.lookup x=some c->c≠b)/\∀p∈X.pn++aa,p.1≠b):Inv X aa σ H' s':=by
 obtain⟨h',g',d',t',o'⟩:=s';have e:o'=s.os:=ho;subst e;exact I.call (g':=g') (t':=t') (d':=d') u hok hg jG
end
abbrev XK:=Value->Option Addr->Hp->Prop
abbrev St:=List (Option V)
abbrev VK:=V->Hp->Prop
abbrev TE:=St->Hp->VK->Prop
abbrev TT:=St->Hp->(Bool->Hp->Prop)->Prop
abbrev TA:=St->Hp->(List V->Hp->Prop)->Prop
structure bI where
 nx:St->Hp->Prop
 rt:VK
 bk:St->Hp->Prop:=fun _ _=>False
 ct:St->Hp->Prop:=fun _ _=>False
abbrev TS:=bI->St->Hp->Prop
def EP (X:Cx)(aa:List (Addr×Obj))(σ:St)(Q:VK)(u:Value)(s':Shared):Prop:=∃v H',Inv X aa σ H' s'/\RelV v u/\Q v H'
def TP (X:Cx)(aa:List (Addr×Obj))(σ:St)(Q:Bool->Hp->Prop)(b:Bool)(s':Shared):Prop:=∃H',Inv X aa σ H' s'/\Q b H'
def AP (X:Cx)(aa:List (Addr×Obj))(σ:St)(Q:List V->Hp->Prop)(us:List Value)(s':Shared):Prop:=∃vs H',Inv X aa σ H' s'/\Vals vs us/\Q vs H'
def SP (X:Cx)(aa:List (Addr×Obj))(D:bI)(f:Flow)(s':Shared):Prop:=
 match f with
 | .next=>∃ σ' H',Inv X aa σ' H' s'/\D.nx σ' H'
 | .brk=>∃ σ' H',Inv X aa σ' H' s'/\D.bk σ' H'
 | .cont=>∃ σ' H',Inv X aa σ' H' s'/\D.ct σ' H'
 | .ret u=>∃v σ' H',Inv X aa σ' H' s'/\RelV v u/\D.rt v H'
def PE (X:Cx)(e:Expr)(t:TE):Prop:=
 ∀(aa:List (Addr×Obj)) (s:Shared) (σ:St) (H:Hp) (Q:VK),Inv X aa σ H s->t σ H Q->wpAny (model X.prog X.w) X.A (eval e X.env) (EP X aa σ Q) X.xe s
def PT (X:Cx)(e:Expr)(t:TT):Prop:=
 ∀(aa:List (Addr×Obj)) (s:Shared) (σ:St) (H:Hp) (Q:Bool->Hp->Prop),Inv X aa σ H s->t σ H Q->wpAny (model X.prog X.w) X.A (isTrue e X.env (eval e X.env)) (TP X aa σ Q) X.xe s
def PW (X:Cx)(e:Expr)(t:TT):Prop:=
 ∀(cg:Sem Value) (aa:List (Addr×Obj)) (s:Shared) (σ:St) (H:Hp) (Q:Bool->Hp->Prop),Inv X aa σ H s->t σ H Q->wpAny (model X.prog X.w) X.A (isTrue e X.env cg) (TP X aa σ Q) X.xe s
variable {σ:St}{Q:VK}{te:TE}
theorem PW.pt {t:TT}(h:PW X e t):PT X e t:=h _
def PA (X:Cx)(es:List Expr)(t:TA):Prop:=
 ∀(pos:Pos) (aa:List (Addr×Obj)) (s:Shared) (σ:St) (H:Hp) (Q:List V->Hp->Prop),Inv X aa σ H s->t σ H Q->wpAny (model X.prog X.w) X.A (spliced (backTo pos (starEach es X.env))) (AP X aa σ Q) X.xe s
def PS (X:Cx)(st:Stmt)(t:TS):Prop:=
 ∀(aa:List (Addr×Obj)) (s:Shared) (σ:St) (H:Hp) (D:bI),Inv X aa σ H s->t D σ H->wpAny (model X.prog X.w) X.A (exec st X.env) (SP X aa D) X.xe s
def PSs (X:Cx)(st:List Stmt)(t:TS):Prop:=
 ∀(aa:List (Addr×Obj)) (s:Shared) (σ:St) (H:Hp) (D:bI),Inv X aa σ H s->t D σ H->wpAny (model X.prog X.w) X.A (execs st X.env) (SP X aa D) X.xe s
theorem ay {t:Sem α}{Q Q':α -> Shared->Prop}{M:Model}{A:Around}{E:am}{s:Shared}(h:wpAny M A t Q E s)(hQ:∀a s,Q a s->Q' a s):wpAny M A t Q' E s:=Uz h hQ fun _ _ x=>x
section
def sX (i:Nat):TE:=fun σ H Q=>∃v,σ[i]? = some (some v)/\Q v H
def tC (v:V):TE:=fun _ H Q=>Q v H
theorem En {pos:Pos}(hN:X.N[i]? = some x)(hv:rF X.env.scope x)(hd:(x==("__debug__":Str))=false:=by decide)(iz:(x==("__classdict__":Str))=false:=by decide):PE X (.Name x pos) (sX i):=by
 intro aa s σ H Q I h;obtain⟨v,e,h⟩:=h;obtain⟨m,hn,hl⟩:=I.loc;obtain⟨u,r,l⟩:=hl i x v hN e hv;have fin:EP X aa σ Q u s:=⟨v,H,I,r,h⟩;rcases l with ⟨hk,hm⟩|⟨hk,c,hc,hcell⟩
 ·exact wpAny_Name (wpAny_loadName_local I.ok.kind hk hn hm fin) hd
 ·rcases hk with hk|hk
  ·exact wpAny_Name (wpAny_loadName_cell I.ok.kind hk hc hcell fin) hd
  ·exact wpAny_Name (wpAny_loadName_free I.ok.kind hk hc hcell fin iz) hd
theorem iC {i j pos}:PE X (.Constant (.int i) j pos) (tC (.int i)):=fun _ _ _ H _ I h=>wpAny_Constant_int ⟨.int i,H,I.tok _,⟨_,rfl⟩,h⟩
theorem Kj {b j pos}:PE X (.Constant (.bool b) j pos) (tC (.bl b)):=fun _ _ _ H _ I h=>Constant_bool ⟨.bl b,H,I,rfl,h⟩
theorem Lz {j pos}:PE X (.Constant .none j pos) (tC .non):=fun _ _ _ H _ I h=>Constant_none ⟨.non,H,I,rfl,h⟩
theorem Em {x j pos}:PE X (.Constant (.str x) j pos) (tC (.str x)):=fun _ _ _ H _ I h=>Calls.Constant_str ⟨.str x,H,I.tok _,⟨_,rfl⟩,h⟩
def Gl (X:Cx)(x:Str):Prop:=X.env.kindOf x=some .globalImplicit
theorem Fi {E:am}{s:Shared}{pos:Pos}{Q:am}(I:Inv X aa σ H s)(hg:Gl X x)(hm:X.mg x=some u)(h:Q u s)
  (hd:(x==("__debug__":Str))=false:=by decide):wpAny (model X.prog X.w) X.A (eval (.Name x pos) X.env) Q E s:=
 Calls.Name_function_global I.ok.kind hg (Calls.loadGlobal_global (by rw[I.ok.glob];exact I.mod.glob.keeps I.bk) hm h) hd
theorem lK {E:am}{s:Shared}{pos:Pos}{Q:am}(I:Inv X aa σ H s)(hg:Gl X x)(hm:X.mg x=none)(hv:bootBuiltins x=some u)(h:Q u s)
  (hn:x≠"__name__":=by decide) (hd:(x==("__debug__":Str))=false:=by decide):wpAny (model X.prog X.w) X.A (eval (.Name x pos) X.env) Q E s:=by
 obtain⟨mb,h1,h2⟩:=I.mod.blt;exact Calls.Name_function_global I.ok.kind hg (Calls.loadGlobal_builtin (by rw[I.ok.glob];exact I.mod.glob.keeps I.bk) hm (by rw[I.ok.blt];exact h1.keeps I.bk) ((h2 x hn).trans hv) h) hd
theorem y8 {v:V}{pos:Pos}(hg:Gl X x)(hm:X.mg x=some u)(r:RelV v u)(hd:(x==("__debug__":Str))=false:=by decide):PE X (.Name x pos) (tC v):=
 fun _ _ _ H _ I h=>Fi I hg hm ⟨v,H,I,r,h⟩ hd
theorem NM {v:V}{pos:Pos}(hg:Gl X x)(hm:X.mg x=none)(hv:bootBuiltins x=some u)(r:RelV v u)(hn:x≠"__name__":=by decide)(hd:(x==("__debug__":Str))=false:=by decide):PE X (.Name x pos) (tC v):=
 fun _ _ _ H _ I h=>lK I hg hm hv ⟨v,H,I,r,h⟩ hn hd
variable {a b:Expr}{ta tb:TE}{pos:Pos}
variable {tA r9:TT}{aj:List Expr}
def CV (t u:TT):TT:=fun σ H Q=>t σ H fun c H1=>if c=true then u σ H1 Q else Q false H1
def Bi (t u:TT):TT:=fun σ H Q=>t σ H fun c H1=>if c=true then Q true H1 else u σ H1 Q
def CU (t:TT):TT:=fun σ H Q=>t σ H fun c H1=>Q (!c) H1
theorem NL (ha:PT X a tA):PW X (.BoolOp .And [a] pos) tA:=by
 intro wh aa s σ H Q I h;refine isTrue_and (ay (ha aa s σ H Q I h) fun c s1 e=>?_)
 cases c with
 |true=>exact isTrue_and_nil e
 |false=>exact e
theorem El (ha:PT X a tA):PW X (.BoolOp .Or [a] pos) tA:=by
 intro wh aa s σ H Q I h;refine isTrue_or (ay (ha aa s σ H Q I h) fun c s1 e=>?_)
 cases c with
 |false=>exact isTrue_or_nil e
 |true=>exact e
theorem Ek (ha:PT X a tA)(hb:PW X (.BoolOp .And (b::aj) pos) r9):PW X (.BoolOp .And (a::b::aj) pos) (CV tA r9):=by
 intro wh aa s σ H Q I h;refine isTrue_and (ay (ha aa s σ H _ I h) fun c s1 ⟨H1,I1,q1⟩=>?_)
 cases c with
 |true=>exact hb wh aa s1 σ H1 Q I1 q1
 |false=>exact⟨H1,I1,q1⟩
theorem x6 (ha:PT X a tA)(hb:PW X (.BoolOp .Or (b::aj) pos) r9):PW X (.BoolOp .Or (a::b::aj) pos) (Bi tA r9):=by
 intro wh aa s σ H Q I h;refine isTrue_or (ay (ha aa s σ H _ I h) fun c s1 ⟨H1,I1,q1⟩=>?_)
 cases c with
 |true=>exact⟨H1,I1,q1⟩
 |false=>exact hb wh aa s1 σ H1 Q I1 q1
theorem Ej (ha:PT X a tA):PT X (.UnaryOp .Not a pos) (CU tA):=by intro aa s σ H Q I h;exact isTrue_not (ha aa s σ H (fun c H1=>Q (!c) H1) I h)
def DE (ta tb:TE):TE:=fun σ H Q=>ta σ H fun x H1=>∃c,x = .bl c/\if c=true then tb σ H1 Q else Q (.bl false) H1
def CT (ta tb:TE):TE:=fun σ H Q=>ta σ H fun x H1=>∃c,x = .bl c/\if c=true then Q (.bl true) H1 else tb σ H1 Q
def DD (ta:TE):TE:=fun σ H Q=>ta σ H fun x H1=>∃c,x = .bl c/\Q (.bl (!c)) H1
theorem Ei {op}{t:TE}(h:PE X a t):PE X (.BoolOp op [a] pos) t:=fun aa s σ H Q I hw=>BoolOp_one (h aa s σ H Q I hw)
theorem Eh (ha:PE X a ta)(hb:PE X (.BoolOp .And (b::aj) pos) tb):PE X (.BoolOp .And (a::b::aj) pos) (DE ta tb):=by
 intro aa s σ H Q I h;refine BoolOp_and (ay (ha aa s σ H _ I h) fun v s1 ⟨x,H1,I1,r1,q1⟩=>?_);obtain⟨c,rfl,q1⟩:=q1;cases r1;refine Ut ?_
 cases c with
 |true=>exact hb aa s1 σ H1 Q I1 q1
 |false=>exact⟨.bl false,H1,I1,rfl,q1⟩
theorem DC (ha:PE X a ta)(hb:PE X (.BoolOp .Or (b::aj) pos) tb):PE X (.BoolOp .Or (a::b::aj) pos) (CT ta tb):=by
 intro aa s σ H Q I h;refine BoolOp_or (ay (ha aa s σ H _ I h) fun v s1 ⟨x,H1,I1,r1,q1⟩=>?_);obtain⟨c,rfl,q1⟩:=q1;cases r1;refine Ut ?_
 cases c with
 |false=>exact hb aa s1 σ H1 Q I1 q1
 |true=>exact⟨.bl true,H1,I1,rfl,q1⟩
theorem Ly (ha:PE X a ta):PE X (.UnaryOp .Not a pos) (DD ta):=by intro aa s σ H Q I h;refine UnaryOp_ (ay (ha aa s σ H _ I h) fun v s1 ⟨x,H1,I1,r1,q1⟩=>?_);obtain⟨c,rfl,q1⟩:=q1;cases r1;exact not_of (Ut ⟨.bl (!c),H1,I1,rfl,q1⟩)
def Bj (t:TT)(ta tb:TE):TE:=fun σ H Q=>t σ H fun c H1=>if c=true then ta σ H1 Q else tb σ H1 Q
theorem Pg {c:Expr}(hc:PT X c tA)(ha:PE X a ta)(hb:PE X b tb):PE X (.IfExp c a b pos) (Bj tA ta tb):=by
 intro aa s σ H Q I h;refine wpAny_IfExp (ay (hc aa s σ H _ I h) fun d s1 ⟨H1,I1,q1⟩=>?_)
 cases d with
 |true=>exact ha aa s1 σ H1 Q I1 q1
 |false=>exact hb aa s1 σ H1 Q I1 q1
end
def SqL (K:W.Frag)(H:Hp)(a:Addr)(xs:List V):Prop:=
 Rd H a (.lst xs) ∨
  ∃(o:Obj) (af:Array Value) (n:Nat),K.lookup a=some o/\o.cls = .type "list"/\o.dict=none/\o.data = .seq af n/\af.size<=sizeLine/\Vals xs af.toList
def SqT (K:W.Frag)(H:Hp)(a:Addr)(xs:List V):Prop:=
 Rd H a (.tup xs) ∨
  ∃(o:Obj) (af:Array Value) (n:Nat),K.lookup a=some o/\o.cls = .type "tuple"/\o.data = .seq af n/\af.size<=sizeLine/\Vals xs af.toList
noncomputable def JS:Value->Option V
 | .none=>some .non
 | .bool b=>some (.bl b)
 | .int i _=>some (.int i)
 | .str x _=>some (.str x)
 | .bytes b _=>some (.byt b)
 | .float b _=>some (.flt b)
 | .ref a=>some (.ref a)
 | .type n=>some (.ty n)
 |_=>none
theorem RelV.abs {x:V}(r:RelV x u):JS u=some x:=by
 cases x with
 |non=>cases r;rfl
 |bl _=>cases r;rfl
 |int _=>obtain⟨t,rfl⟩:=r;rfl
 |str _=>obtain⟨t,rfl⟩:=r;rfl
 |byt _=>obtain⟨t,rfl⟩:=r;rfl
 |flt _=>obtain⟨t,rfl⟩:=r;rfl
 |ref _=>cases r;rfl
 |ty _=>cases r;rfl
theorem RelV.inj {x:V}(r:RelV x u)(q:RelV y u):x=y:=Tw (r.abs.symm.trans q.abs)
theorem Vals.inj:∀{xs ys:List V} {us:List Value},Vals xs us->Vals ys us->xs=ys
 |_,_,_,.nil,.nil=>rfl
 |_,_,_,.cons r t,.cons r' t'=>by rw[r.inj r',Vals.inj t t']
section
variable {s:Shared}{ys:List V}
theorem SqL.of (h:H a=some (.lst xs)):SqL K H a xs:=.inl (.inl h)
theorem SqT.of (h:H a=some (.tup xs)):SqT K H a xs:=.inl (.inl h)
theorem Inv.list (I:Inv X aa σ H s)(h:SqL X.K H a xs):∃af:List Value,Vals xs af/\PlainL s.heap a af.toArray/\xs.length<=sizeLine:=by
 rcases h with h|⟨o,af,n,hk,hc,hd,hs,hz,r⟩
 ·obtain⟨z,af,n,r,e⟩:=h.ok I.hok;exact⟨af,r,⟨_,n,e,rfl,rfl,rfl⟩,z⟩
 ·refine⟨af.toList,r,⟨o,n,I.kIn a o hk,hc,hd,by simpa using hs⟩,?_⟩;have e:=r.length;simp only [Array.length_toList] at e;lia
theorem Inv.tuple (I:Inv X aa σ H s)(h:SqT X.K H a xs):∃af:List Value,Vals xs af/\IsTup s.heap a af.toArray/\xs.length<=sizeLine:=by
 rcases h with h|⟨o,af,n,hk,hc,hs,hz,r⟩
 ·obtain⟨z,af,r,p⟩:=h.ok I.hok;exact⟨af,r,p.tup,z⟩
 ·refine⟨af.toList,r,⟨o,I.kIn a o hk,hc,n,by simpa using hs⟩,?_⟩;have e:=r.length;simp only [Array.length_toList] at e;lia
theorem Inv.list_inj (I:Inv X aa σ H s)(h:SqL X.K H a xs)(h':SqL X.K H a ys):xs=ys:=by
 obtain⟨af,r,⟨o,n,e,_,_,d⟩,_⟩:=I.list h;obtain⟨its',r',⟨o',n',e',_,_,d'⟩,_⟩:=I.list h';rw[e] at e';cases e';rw[d] at d';injection d' with d1 _;have:af=its':=by simpa using UP Array.toList d1
 subst this;exact r.inj r'
theorem Inv.tuple_inj (I:Inv X aa σ H s)(h:SqT X.K H a xs)(h':SqT X.K H a ys):xs=ys:=by
 obtain⟨af,r,⟨o,e,_,n,d⟩,_⟩:=I.tuple h;obtain⟨its',r',⟨o',e',_,n',d'⟩,_⟩:=I.tuple h';rw[e] at e';cases e';rw[d] at d';injection d' with d1 _;have:af=its':=by simpa using UP Array.toList d1
 subst this;exact r.inj r'
end
noncomputable abbrev Cx.wish (X:Cx)(E:am):Cx:={ X with xe:=E }
abbrev Cx.nox (X:Cx):Cx:=X.wish fun _ _=>False
theorem Cx.Ok.wish (ok:X.Ok)(E:am):(X.wish E).Ok:=
 ⟨ok.mod,ok.kind,ok.glob,ok.blt,ok.above,ok.inj,ok.has,ok.cab,ok.hd,ok.frames,ok.stk,ok.exf,ok.bs,ok.bsz,ok.noex,ok.exfs,ok.funs,ok.frf⟩
theorem Cx.Ok.unwish {E:am}(ok:(X.wish E).Ok):X.Ok:=
 ⟨ok.mod,ok.kind,ok.glob,ok.blt,ok.above,ok.inj,ok.has,ok.cab,ok.hd,ok.frames,ok.stk,ok.exf,ok.bs,ok.bsz,ok.noex,ok.exfs,ok.funs,ok.frf⟩
section
variable {s:Shared}{E:am}
theorem Inv.wish (I:Inv X aa σ H s)(E:am):Inv (X.wish E) aa σ H s:=⟨I.ok.wish E,I.os,I.bare,I.base,I.loc,I.cell,I.free,I.freeC,I.pin,I.hok,I.len⟩
theorem Inv.unwish (I:Inv (X.wish E) aa σ H s):Inv X aa σ H s:=⟨I.ok.unwish,I.os,I.bare,I.base,I.loc,I.cell,I.free,I.freeC,I.pin,I.hok,I.len⟩
theorem SP.unwish {D:bI}{f:Flow}{s':Shared}(h:SP (X.wish E) aa D f s'):SP X aa D f s':=by
 cases f with
 |next=>obtain⟨σ',H',I,q⟩:=h;exact⟨σ',H',I.unwish,q⟩
 |brk=>obtain⟨σ',H',I,q⟩:=h;exact⟨σ',H',I.unwish,q⟩
 |cont=>obtain⟨σ',H',I,q⟩:=h;exact⟨σ',H',I.unwish,q⟩
 |ret u=>obtain⟨v,σ',H',I,r,q⟩:=h;exact⟨v,σ',H',I.unwish,r,q⟩
theorem PSs.nox {st:List Stmt}{t:TS}(h:PSs X.nox st t):PSs X st t:=fun aa s σ H D I hw=>
 Uz (h aa s σ H D (I.wish _) hw) (fun _ _ q=>q.unwish) fun _ _ z=>False.elim z
end
section
variable {aj:List Stmt}{t u:TS}{pos:Pos}
def iS:TS:=fun D σ H=>D.nx σ H
def xG (t u:TS):TS:=fun D σ H=>t { D with nx:=u D } σ H
theorem pss_nil:PSs X [] iS:=fun _ _ σ H _ I h=>wpAny_execs_nil ⟨σ,H,I,h⟩
theorem ku (h1:PS X st t)(h2:PSs X aj u):PSs X (st::aj) (xG t u):=by
 intro aa s σ H D I h;refine wpAny_execs_cons (ay (h1 aa s σ H { D with nx:=u D } I h) fun f s1 q=>?_)
 cases f with
 |next=>obtain⟨σ',H',I',q⟩:=q;exact h2 aa s1 σ' H' D I' q
 |ret v=>exact q
 |brk=>exact q
 |cont=>exact q
theorem jV (h1:PS X st t):PSs X [st] t:=by
 intro aa s σ H D I h;refine wpAny_execs_cons (ay (h1 aa s σ H D I h) fun f s1 q=>?_)
 cases f with
 |next=>exact wpAny_execs_nil q
 |ret v=>exact q
 |brk=>exact q
 |cont=>exact q
theorem ps_pass:PS X (.Pass pos) iS:=fun _ _ σ H _ I h=>wpAny_Pass ⟨σ,H,I,h⟩
theorem Inv.quiet {s:Shared}(I:Inv X aa σ H s):interactive X.env=false:=by simp [interactive,I.ok.kind]
def DB (te:TE):TS:=fun D σ H=>te σ H fun _ H1=>D.nx σ H1
theorem uu (he:PE X e te)(hs:swapsWith e none pos.line X.env=pure false:=by rfl):PS X (.Expr e pos) (DB te):=by intro aa s σ H D I h;exact wpAny_Expr_any (ay (he aa s σ H _ I h) fun v s1 ⟨x,H1,I1,r1,q1⟩=>⟨σ,H1,I1,q1⟩) I.quiet hs
def CS (te:TE):TS:=fun D σ H=>te σ H D.rt
theorem tZ (he:PE X e te):PS X (.Return (some e) pos) (CS te):=by intro aa s σ H D I h;exact wpAny_Return_some (ay (he aa s σ H _ I h) fun v s1 ⟨x,H1,I1,r1,q1⟩=>⟨x,σ,H1,I1,r1,q1⟩)
def CQ (c:TT)(t u:TS):TS:=fun D σ H=>c σ H fun b H1=>if b=true then t D σ H1 else u D σ H1
theorem tL {c:Expr}{a b:List Stmt}{tc:TT}(hc:PT X c tc)(ha:PSs X a t)(hb:PSs X b u):PS X (.If c a b pos) (CQ tc t u):=by
 intro aa s σ H D I h;refine wpAny_If (ay (hc aa s σ H _ I h) fun d s1 ⟨H1,I1,q1⟩=>?_)
 cases d with
 |true=>exact ha aa s1 σ H1 D I1 q1
 |false=>exact hb aa s1 σ H1 D I1 q1
end
abbrev TG:=V->St->Hp->(St->Hp->Prop)->Prop
abbrev lS:=List V->St->Hp->(St->Hp->Prop)->Prop
def PG (X:Cx)(cO:Expr)(t:TG):Prop:=
 ∀(aa:List (Addr×Obj)) (s:Shared) (σ:St) (H:Hp) (v:V) (u:Value) (Q:St->Hp->Prop),Inv X aa σ H s->RelV v u->t v σ H Q →
  wpAny (model X.prog X.w) X.A (assign cO X.env u) (fun _ s'=>∃ σ' H',Inv X aa σ' H' s'/\Q σ' H') X.xe s
def PGs (X:Cx)(ts:List Expr)(t:lS):Prop:=
 ∀(aa:List (Addr×Obj)) (s:Shared) (σ:St) (H:Hp) (vs:List V) (us:List Value) (Q:St->Hp->Prop),Inv X aa σ H s->Vals vs us->t vs σ H Q →
  wpAny (model X.prog X.w) X.A (assignInOrder ((assignEach ts X.env).map (·.2)) us) (fun _ s'=>∃ σ' H',Inv X aa σ' H' s'/\Q σ' H') X.xe s
abbrev nG:=V->V->V->Hp->(Hp->Prop)->Prop
def CP (X:Cx)(t:nG):Prop:=
 ∀(aa:List (Addr×Obj)) (s:Shared) (σ:St) (H:Hp) (o i v:V) (ov iv u:Value) (Q:Hp->Prop),Inv X aa σ H s->RelV o ov->RelV i iv->RelV v u->t o i v H Q →
  wpAny (model X.prog X.w) X.A (setItem ov iv u) (fun _ s'=>∃H',Inv X aa σ H' s'/\Q H') X.xe s
abbrev uU:=V->V->Hp->VK->Prop
def A3 (X:Cx)(op:Operator)(t:uU):Prop:=
 ∀(aa:List (Addr×Obj)) (s:Shared) (σ:St) (H:Hp) (x y:V) (v u:Value) (Q:VK),Inv X aa σ H s->RelV x v->RelV y u->t x y H Q →
  wpAny (model X.prog X.w) X.A (inplaceOp op v u) (EP X aa σ Q) X.xe s
variable {g:TG}
section
variable {pos:Pos}
def qK (i:Nat):TG:=fun v σ H Q=>Q (σ.set i (some v)) H
theorem y6 (hN:X.N.Nodup)(hi:X.N[i]? = some x)(hx:lT X.env.scope x)(hf:X.fn x=true∨X.env.scope.names.lookup x=some .local:=by first|exact .inl rfl|exact .inr rfl|assumption):PG X (.Name x pos) (qK i):=by intro aa s σ H v u Q I r h;exact wpAny_assign_Name (zN I hN hi hx r (fun s' I'=>⟨_,H,I',h⟩) hf)
def qr:lS:=fun vs σ H Q=>vs = []/\Q σ H
def DA (t:TG)(u:lS):lS:=fun vs σ H Q=>∃v r,vs=v::r/\t v σ H fun σ' H'=>u r σ' H' Q
theorem pgs_nil:PGs X [] qr:=by intro aa s σ H vs us Q I r h;obtain⟨e,h⟩:=h;subst e;cases r;exact assignInOrder_nil ⟨σ,H,I,h⟩
theorem zM {t:TG}{u:lS}(h1:PG X e t)(h2:PGs X es u)
  (hs:(assignEach (e::es) X.env).map (·.2)=assign e X.env::(assignEach es X.env).map (·.2):=by rfl):PGs X (e::es) (DA t u):=by
 intro aa s σ H vs us Q I r h;obtain⟨v,vr,e1,h⟩:=h;subst e1
 cases r with
 |cons r rr=>rw[hs];refine assignInOrder_cons (ay (h1 aa s σ H _ _ _ I r h) fun _ s1 ⟨σ1,H1,I1,q1⟩=>?_);exact h2 aa s1 σ1 H1 _ _ Q I1 rr q1
def CO (K:W.Frag)(n:Nat)(t:lS):TG:=fun v σ H Q=>∃a xs,v = .ref a/\SqT K H a xs/\xs.length=n/\t xs σ H Q
theorem Eg {k:Nat}{t:lS}{n:Nat}(hc:X.calm=true)(h:PGs X es t)
  (hn:(assignEach es X.env).length=n:=by rfl) (gV:(assignEach es X.env).findIdx? (·.1)=none:=by rfl):PG X (.Tuple es k pos) (CO X.K n t):=by
 intro aa s σ H v u Q I r hw;obtain⟨a,xs,e1,hq,hl,hw⟩:=hw;subst e1;cases r;obtain⟨af,rv,ht,hz⟩:=I.tuple hq;refine assign_Tuple_tuple (I.ok.hd hc) ht (by simp [hn,<- hl,rv.length]) gV fun h' hx=>?_;have I1:Inv X aa σ H { s with heap:=h' }:=I.kept (t':=s.toks) fun b o e=>hx b o (TU (To e)) e;exact h aa _ σ H xs _ Q I1 (by simpa using rv) hw
def CN (to ti:TE)(t:nG):TG:=fun v σ H Q=>to σ H fun o H1=>ti σ H1 fun i H2=>t o i v H2 fun H3=>Q σ H3
theorem Lx {o i:Expr}{to ti:TE}{t:nG}(ho:PE X o to)(hi:PE X i ti)(hs:CP X t)
  (ha:∀v,assign (.Subscript o i pos) X.env v=(do
   let ov ← holding [v] (eval o X.env)
   let iv ← holding [v,ov] (eval i X.env)
   standAt pos
   holding [v,ov,iv] (setItem ov iv v)
   release [v,ov,iv] []):=by intro _;rfl):PG X (.Subscript o i pos) (CN to ti t):=by
 intro aa s σ H v u Q I r h;rw[ha];refine S6 (UR (ay (ho aa s σ H _ I h) fun ov s1 ⟨x,H1,I1,r1,q1⟩=>?_));refine S6 (UR (ay (hi aa s1 σ H1 _ I1 q1) fun iv s2 ⟨y,H2,I2,r2,q2⟩=>?_));refine S6 (wpAny_standAt (S6 (UR (ay (hs aa s2 σ H2 x y v ov iv u _ I2 r1 r2 r q2) fun _ s3 ⟨H3,I3,q3⟩=>?_))));exact wpAny_release ⟨σ,H3,I3,q3⟩
def ox (te:TE)(g:TG):TS:=fun D σ H=>te σ H fun x H1=>g x σ H1 D.nx
theorem Ef (he:PE X e te)(hg:PG X tg g)(hs:swapsWithSole [tg] e pos.line X.env=pure false:=by rfl)(hw:swappedStores [tg] e X.env=pure none:=by rfl)
  (h1:(assignEach [tg] X.env).map (·.2) = [assign tg X.env]:=by rfl):PS X (.Assign [tg] e pos) (ox te g):=by
 intro aa s σ H D I h;refine wpAny_Assign_stores (ay (he aa s σ H _ I h) fun v s1 ⟨x,H1,I1,r1,q1⟩=>?_) hs hw;rw[h1];exact ay (hg aa s1 σ H1 x v _ I1 r1 q1) fun _ s2 q=>q
theorem qU (hN:X.N.Nodup)(hi:X.N[i]? = some x)(hx:lT X.env.scope x)(he:PE X e te)(hs:swapsWith e (some (.Name x bQ)) pos.line X.env=pure false:=by rfl)(hf:X.fn x=true∨X.env.scope.names.lookup x=some .local:=by first|exact .inl rfl|exact .inr rfl|assumption):
  PS X (.Assign [.Name x bQ] e pos) (ox te (qK i)):=by
 intro aa s σ H D I h;refine wpAny_Assign_Name (ay (he aa s σ H _ I h) fun v s1 ⟨y,H1,I1,r1,q1⟩=>?_) hs;exact zN I1 hN hi hx r1 (fun s2 I2=>⟨_,H1,I2,q1⟩) hf
def JR (i:Nat)(te:TE)(ti:uU):TS:=fun D σ H=>∃x,σ[i]? = some (some x)/\te σ H fun y H1=>ti x y H1 fun z H2=>D.nx (σ.set i (some z)) H2
theorem Ee {op:Operator}{ti:uU}(hN:X.N.Nodup)(hi:X.N[i]? = some x)(hx:lT X.env.scope x)(he:PE X e te)(ho:A3 X op ti)(hf:X.fn x=true∨X.env.scope.names.lookup x=some .local:=by first|exact .inl rfl|exact .inr rfl|assumption):
  PS X (.AugAssign (.Name x bQ) op e pos) (JR i te ti):=by
 intro aa s σ H D I h;obtain⟨v,e1,h⟩:=h;obtain⟨m,hn,hl⟩:=I.loc;have vis:rF X.env.scope x:=by rcases hx with k|k;exact .inl k;exact .inr (.inl k)
 obtain⟨u,r,l⟩:=hl i x v hi e1 vis;refine wpAny_AugAssign_Name ?_;have go:wpAny (model X.prog X.w) X.A (eval e X.env) (fun w s₂=>wpAny (model X.prog X.w) X.A (inplaceOp op u w) (fun r s₃=>wpAny (model X.prog X.w) X.A (storeName X.env x r) (fun _=>SP X aa D .next) X.xe s₃) X.xe s₂) X.xe s:=by refine ay (he aa s σ H _ I h) fun w s1 ⟨y,H1,I1,r1,q1⟩=>?_;refine ay (ho aa s1 σ H1 v y u w _ I1 r r1 q1) fun z s2 ⟨zv,H2,I2,r2,q2⟩=>?_;exact zN I2 hN hi hx r2 (fun s3 I3=>⟨_,H2,I3,q2⟩) hf
 rcases l with ⟨hk,hm⟩|⟨hk,c,hc,hcell⟩
 ·exact wpAny_loadName_local I.ok.kind hk hn hm go
 ·rcases hk with hk|hk
  ·exact wpAny_loadName_cell I.ok.kind hk hc hcell go
  ·rcases hx with k|k
   ·have:X.env.scope.names.lookup x=some .free:=hk;rw[k] at this;cases this
   ·have:X.env.scope.names.lookup x=some .free:=hk;rw[k] at this;cases this
def Bu (f:Int->Int->Int):uU:=fun x y H Q=>∃i j,x = .int i/\y = .int j/\Q (.int (f i j)) H
theorem Lw:A3 X .Add (Bu fun i j=>i+j):=by intro aa s σ H x y v u Q I r1 r2 h;obtain⟨i,j,e1,e2,q⟩:=h;subst e1;subst e2;obtain⟨t,rfl⟩:=r1;obtain⟨t',rfl⟩:=r2;exact iadd_int ⟨.int _,H,I.tok _,⟨_,rfl⟩,q⟩
theorem Lv:A3 X .Sub (Bu fun i j=>i-j):=by intro aa s σ H x y v u Q I r1 r2 h;obtain⟨i,j,e1,e2,q⟩:=h;subst e1;subst e2;obtain⟨t,rfl⟩:=r1;obtain⟨t',rfl⟩:=r2;exact isub_int ⟨.int _,H,I.tok _,⟨_,rfl⟩,q⟩
def Ed (c:TT)(tb:TS):TS:=fun D σ H=>∃W:Nat->St->Hp->Prop,(∃m,W m σ H)/\∀m σ H,W m σ H →
 c σ H fun b H1=>if b=true then ∃N:St->Hp->Prop,(∀ σ' H',N σ' H'->∃m',m'<m/\W m' σ' H')/\tb { D with nx:=N,ct:=N,bk:=D.nx } σ H1 else D.nx σ H1
theorem Pf {c:Expr}{body:List Stmt}{tc:TT}{tb:TS}(hp:PassesOwn (model X.prog X.w) X.A X.env X.xe)(hc:PT X c tc)(hb:PSs X body tb):PS X (.While c body [] pos) (Ed tc tb):=by
 intro aa s σ H D I h;obtain⟨W,⟨m0,w0⟩,eE⟩:=h;refine wpAny_While (codeAny_whileLoop (fun n s'=>∃ σ' H',Inv X aa σ' H' s'/\W n σ' H') ?_ m0 ⟨σ,H,I,w0⟩);rintro n s1 ⟨σ1,H1,I1,w1⟩;refine U1 hp (ay (hc aa s1 σ1 H1 _ I1 (eE n σ1 H1 w1)) fun b s2 ⟨H2,I2,q2⟩=>?_)
 cases b with
 |true=>
  obtain⟨N,hN,q2⟩:=q2;rw[Tt rfl];refine U1 hp (ay (hb aa s2 σ1 H2 _ I2 q2) fun f s3 q3=>?_)
  cases f with
  |next=>obtain⟨σ3,H3,I3,n3⟩:=q3;obtain⟨m',hm,w3⟩:=hN σ3 H3 n3;exact⟨m',hm,σ3,H3,I3,w3⟩
  |cont=>obtain⟨σ3,H3,I3,n3⟩:=q3;obtain⟨m',hm,w3⟩:=hN σ3 H3 n3;exact⟨m',hm,σ3,H3,I3,w3⟩
  |brk=>exact q3
  |ret v=>exact q3
 |false=>rw[Tp Tq];exact wpAny_execs_nil ⟨σ1,H2,I2,q2⟩
end
structure It where
 go:Nat->Hp->Prop
 yld:Nat->Hp->V->Hp->Prop
 stop:Nat->Hp->Prop
def da (X:Cx)(aa:List (Addr×Obj))(H:Hp)(b:Addr):Prop:=
 H b=none/\b≠X.env.locals/\b∉X.fs/\(b∈X.ex∨X.s₀.heap.objs.size<=b)/\(∀x c,X.env.cells.lookup x=some c->c≠b)/\∀p∈X.pn++aa,p.1≠b
theorem Inv.fpOk {s:Shared}{b:Addr}(I:Inv X aa σ H s)(hb:s.heap.objs.size<=b)(hn:H' b=none):da X aa H' b:=by
 refine⟨hn,UQ (TK I.lt hb),I.nofs hb,.inr (Ue I.sz hb),fun x c e z=>?_,fun p hp z=>?_⟩
 ·obtain⟨v,q⟩:=I.cell x c e;exact absurd (TK q.lt (by rw[z];exact hb)) (Ul _)
 ·exact absurd (TK (To (I.pin p hp).1) (by rw[z];exact hb)) (Ul _)
structure en (P:Program)(w:World)(K:W.Frag)(tg:Expr)(J:It)(fp:List Addr)(it:Addr)(tn:Nat->Heap->Prop):Prop where
 mem:it∈fp
 obj:∀i h,tn i h->∀b∈fp,∃o,h.get? b=some o/\∀v,o.data ≠ .cell v
 keep:∀i h h',tn i h->(∀b∈fp,∀o,h.get? b=some o->h'.get? b=some o)->tn i h'
 item:∀(X:Cx),X.prog=P->X.w=w->X.K=K->X.calm=true->∀(i:Nat) (aa:List (Addr×Obj)) (s:Shared) (σ:St) (H:Hp) (E:am),Inv X aa σ H s->(∀b∈fp,da X aa H b)->tn i s.heap->J.go i H →
  wpAny (model P w) X.A (pyNext (.ref it)) (fun r s1=>∃u,r=some u ∧
   wpAny (model P w) X.A (letOwnedTupleGo tg (.ref it) u) (fun _ s2=>∃x H',Inv X aa σ H' s2/\RelV x u/\J.yld i H x H'/\tn (i+1) s2.heap/\∀b∈fp,H' b=none) E s1) E s
 done:∀(X:Cx),X.prog=P->X.w=w->X.K=K->X.calm=true->∀(i:Nat) (aa:List (Addr×Obj)) (s:Shared) (σ:St) (H:Hp) (E:am),Inv X aa σ H s->(∀b∈fp,da X aa H b)->tn i s.heap->J.stop i H →
  wpAny (model P w) X.A (pyNext (.ref it)) (fun r s1=>r=none/\Inv X aa σ H s1) E s
 self:∀(A:Around) (i:Nat) (s:Shared) (Q:am) (E:am),tn i s.heap->Q (.ref it) s->wpAny (model P w) A (pyIter (.ref it)) Q E s
abbrev TI:=St->Hp->(It->Hp->Prop)->Prop
def A4 (X:Cx)(aa:List (Addr×Obj))(σ:St)(tg:Expr)(R:It->Hp->Prop)(sk:Value)(s2:Shared):Prop:=
 ∃(it:Addr) (fp:List Addr) (tn:Nat->Heap->Prop) (J:It) (H':Hp),sk = .ref it/\Inv X aa σ H' s2/\en X.prog X.w X.K tg J fp it tn/\tn 0 s2.heap/\(∀b∈fp,da X aa H' b)/\R J H'
def PI (X:Cx)(tg iter:Expr)(wi:TI):Prop:=
 ∀(aa:List (Addr×Obj)) (s:Shared) (σ:St) (H:Hp) (R:It->Hp->Prop),Inv X aa σ H s->wi σ H R →
  wpAny (model X.prog X.w) X.A (eval iter X.env) (fun v s1=>wpAny (model X.prog X.w) X.A (pyIter v) (A4 X aa σ tg R) X.xe s1) X.xe s
theorem x5 {M:Model}{A:Around}{E:am}{s:Shared}{o:Obj}{n:String}{vs:Array Value}{Q:Unit->Shared->Prop}(ho:s.heap.get? it=some o)(hc:o.cls = .type n)(hd:o.data = .fields vs)
  (hn : ["enumerate","zip","dict_itemiterator","dict_reverseitemiterator","odict_iterator","itertools.zip_longest","itertools.pairwise"].contains n=false) (hQ:Q () s):wpAny M A (letOwnedTupleGo tg (.ref it) u) Q E s:=by
 unfold letOwnedTupleGo
 cases tg <;> first
  |exact Tj hQ
  | (cases u <;> first
    |exact Tj hQ
    | (refine S6 (wpAny_load ho ?_)
       rw[hc,hd];show wpAny M A (if (["enumerate","zip","dict_itemiterator","dict_reverseitemiterator","odict_iterator","itertools.zip_longest","itertools.pairwise"].contains n&&vs[0]? == some (rawInt _))=true then _ else _) Q E s;rw[Tp (by intro h;rw[hn,Bool.false_and] at h;injection h)]
       exact Tj hQ))
noncomputable def oW (K:W.Frag)(a:Addr):It:=
 ⟨fun i H=>∃xs x,SqL K H a xs/\xs[i]? = some x,fun i H x H'=>H'=H/\∀xs,SqL K H a xs->xs[i]? = some x,fun i H=>∃xs,SqL K H a xs/\xs.length<=i⟩
noncomputable def HP (K:W.Frag)(a:Addr):It:=
 ⟨fun i H=>∃xs x,SqT K H a xs/\xs[i]? = some x,fun i H x H'=>H'=H/\∀xs,SqT K H a xs->xs[i]? = some x,fun i H=>∃xs,SqT K H a xs/\xs.length<=i⟩
noncomputable def uW (lo:Int)(n:Nat):It:=⟨fun i _=>i<n,fun i H x H'=>H'=H/\x = .int (lo+i),fun i _=>n<=i⟩
theorem GH (a it:Addr):en P w K tg (oW K a) [it] it (fun i h=>h.IsListIter it a i) where
 mem:=by simp
 obj:=fun i h st b hb=>by
  have e:b=it:=by simpa using hb
  subst e;obtain⟨o,e,c,d⟩:=st;exact⟨o,e,fun v z=>by rw[d] at z;injection z⟩
 keep:=fun i h h' st k=>st.at fun o e=>k it (by simp) o e
 item:=by intro X hP hw hK hc i aa s σ H E I hf st hg;subst hP hw hK;obtain⟨xs,x,hq,hx⟩:=hg;obtain⟨af,rv,p,hz⟩:=I.list hq;obtain⟨u,hu,ru⟩:=rv.get hx;obtain⟨f0,f1,f2,f3,f4,f5⟩:=hf it (by simp);refine wpAny_pyNext_list_item st p.isList (x:=u) (by simpa using hu) fun h' kA sb=>?_;have I1:Inv X aa σ H { s with heap:=h' }:=I.turned (t':=s.toks) (fun b o hb e=>(sb.2 b hb).trans e) f0 f1 f3 f4 f5;obtain⟨o,e,c,d⟩:=id kA;exact⟨u,rfl,x5 (s:={ s with heap:=h' }) e c d (by decide) ⟨x,H,I1,ru,⟨rfl,fun ys hy=>by rw[I.list_inj hy hq];exact hx⟩,kA,fun b hb=>(hf b hb).1⟩⟩
 done:=by intro X hP hw hK hc i aa s σ H E I hf st hg;subst hP hw hK;obtain⟨xs,hq,hx⟩:=hg;obtain⟨af,rv,p,hz⟩:=I.list hq;obtain⟨f0,f1,f2,f3,f4,f5⟩:=hf it (by simp);have hl:=rv.length;exact wpAny_pyNext_list_end (I.ok.hd hc) st p.isList (by simp;lia) fun h' eb=>⟨rfl,I.turned (t':=s.toks) (fun b o hb e=>eb b o hb e) f0 f1 f3 f4 f5⟩
 self:=fun _ _ _ _ _ st h=>wpAny_pyIter_listiter st h
theorem Rj (a it:Addr):en P w K tg (HP K a) [it] it (fun i h=>h.IsTupleIter it a i) where
 mem:=by simp
 obj:=fun i h st b hb=>by
  have e:b=it:=by simpa using hb
  subst e;obtain⟨o,e,c,d⟩:=st;exact⟨o,e,fun v z=>by rw[d] at z;injection z⟩
 keep:=fun i h h' st k=>st.at fun o e=>k it (by simp) o e
 item:=by intro X hP hw hK hc i aa s σ H E I hf st hg;subst hP hw hK;obtain⟨xs,x,hq,hx⟩:=hg;obtain⟨af,rv,p,hz⟩:=I.tuple hq;obtain⟨u,hu,ru⟩:=rv.get hx;obtain⟨f0,f1,f2,f3,f4,f5⟩:=hf it (by simp);refine wpAny_pyNext_tuple_item st (show s.heap.IsTuple a af.toArray from p) (x:=u) (by simpa using hu) fun h' kA sb=>?_;have I1:Inv X aa σ H { s with heap:=h' }:=I.turned (t':=s.toks) (fun b o hb e=>(sb.2 b hb).trans e) f0 f1 f3 f4 f5;obtain⟨o,e,c,d⟩:=id kA;exact⟨u,rfl,x5 (s:={ s with heap:=h' }) e c d (by decide) ⟨x,H,I1,ru,⟨rfl,fun ys hy=>by rw[I.tuple_inj hy hq];exact hx⟩,kA,fun b hb=>(hf b hb).1⟩⟩
 done:=by intro X hP hw hK hc i aa s σ H E I hf st hg;subst hP hw hK;obtain⟨xs,hq,hx⟩:=hg;obtain⟨af,rv,p,hz⟩:=I.tuple hq;obtain⟨f0,f1,f2,f3,f4,f5⟩:=hf it (by simp);have hl:=rv.length;exact wpAny_pyNext_tuple_end (I.ok.hd hc) st (show s.heap.IsTuple a af.toArray from p) (by simp;lia) fun h' eb=>⟨rfl,I.turned (t':=s.toks) (fun b o hb e=>eb b o hb e) f0 f1 f3 f4 f5⟩
 self:=fun _ _ _ _ _ st h=>wpAny_pyIter_tupleiter st h
theorem Ri (it:Addr)(lo:Int)(n:Nat):en P w K tg (uW lo n) [it] it (fun i h=>IsRangeIter h it (lo+(i:Nat)*1) ((n:Int)-(i:Nat)) 1) where
 mem:=by simp
 obj:=fun i h st b hb=>by
  have e:b=it:=by simpa using hb
  subst e
  exact⟨_,st,fun v z=>by
   have z':Data.fields _=Data.cell v:=z
   injection z'⟩
 keep:=fun i h h' st k=>k it (by simp) _ st
 item:=by intro X hP hw hK hc i aa s σ H E I hf st hg;subst hP hw hK;obtain⟨f0,f1,f2,f3,f4,f5⟩:=hf it (by simp);have W:=Walks.range (prog:=X.prog) (w:=X.w) (I.ok.hd hc) it lo 1 n;refine W.item i s _ _ hg st fun v h' tk hv kA kk=>?_;obtain⟨t,rfl⟩:=hv;have I1:Inv X aa σ H { s with heap:=h',toks:=tk }:=I.turned (fun b o hb e=>kk b o (by simpa using hb) e) f0 f1 f3 f4 f5;refine⟨_,rfl,x5 (s:={ s with heap:=h',toks:=tk }) (n:="range_iterator") kA rfl rfl (by decide) ⟨.int (lo+i),H,I1,⟨t,?_⟩,⟨rfl,rfl⟩,kA,fun b hb=>(hf b hb).1⟩⟩;rw[Int.mul_one]
 done:=by intro X hP hw hK hc i aa s σ H E I hf st hg;subst hP hw hK;obtain⟨f0,f1,f2,f3,f4,f5⟩:=hf it (by simp);exact wpAny_pyNext_range_end (I.ok.hd hc) st (by have:n<=i:=hg;lia) fun h' eb=>⟨rfl,I.turned (t':=s.toks) (fun b o hb e=>eb b o hb e) f0 f1 f3 f4 f5⟩
 self:=fun _ _ _ _ _ st h=>wpAny_pyIter_rangeiter st h
section
def Ki (K:W.Frag)(tl:TE):TI:=fun σ H R=>tl σ H fun x H1=>∃a,x = .ref a/\(∃xs,SqL K H1 a xs)/\R (oW K a) H1
theorem NK {l:Expr}{tl:TE}(hl:PE X l tl):PI X tg l (Ki X.K tl):=by
 intro aa s σ H R I h;refine ay (hl aa s σ H _ I h) fun v s1 ⟨x,H1,I1,r1,q1⟩=>?_;obtain⟨a,e,⟨xs,hq⟩,q⟩:=q1;subst e;cases r1;obtain⟨af,rv,p,hz⟩:=I1.list hq;refine wpAny_pyIter_list p.isList ?_;refine⟨s1.heap.objs.size,[s1.heap.objs.size],_,_,H1,rfl,I1.kept (t':=s1.toks) fun b o e=>S7 _ e,GH a _,⟨_,Tu _ rfl,rfl,rfl⟩,fun b hb=>?_,q⟩;have e:b=s1.heap.objs.size:=by simpa using hb
 subst e;exact I1.fpOk (Tf _) (I1.hok.fresh (Tf _))
theorem Pe {s:Shared}{R:It->Hp->Prop}{E:am}{lo hi:Int}{t u v:Tok}{tk:Nat}(I:Inv X aa σ H s)(h1 : -(2 ^ 62)<=lo)(h2:lo<2 ^ 62)(h3 : -(2 ^ 62)<=hi)(h4:hi<2 ^ 62)
  (q:R (uW lo (hi-lo).toNat) H):wpAny (model X.prog X.w) X.A (pyIter (.ref s.heap.objs.size)) (A4 X aa σ tg R) E { s with heap:=s.heap.push { cls:=.type "range",data:=.fields #[.int lo t,.int hi u,.int 1 v] },toks:=tk }:=by
 refine wpAny_pyIter_range (IsRange.new ..) (small_one h1 h2 h3 h4) ?_;have I1:Inv X aa σ H { s with heap:=s.heap.push { cls:=.type "range",data:=.fields #[.int lo t,.int hi u,.int 1 v] },toks:=tk }:=I.kept fun b o e=>S7 _ e
 refine⟨(s.heap.push { cls:=.type "range",data:=.fields #[.int lo t,.int hi u,.int 1 v] }).objs.size,[(s.heap.push { cls:=.type "range",data:=.fields #[.int lo t,.int hi u,.int 1 v] }).objs.size],_,_,H,rfl,
  I1.kept (t':=tk) fun b o e=>S7 _ e,Ri _ lo (hi-lo).toNat,?_,fun b hb=>?_,q⟩
 ·have e1:lo+((0:Nat):Int)*1=lo:=by simp
  have e2:(((hi-lo).toNat:Nat):Int)-((0:Nat):Int)=Builtin.Range.rangeSize lo hi 1:=by rw[rangeSize_one];split <;> lia
  show IsRangeIter _ _ (lo+((0:Nat):Int)*1) ((((hi-lo).toNat:Nat):Int)-((0:Nat):Int)) 1;rw[e1,e2];exact Tu _ rfl
 ·have e:b=(s.heap.push { cls:=.type "range",data:=.fields #[.int lo t,.int hi u,.int 1 v] }).objs.size:=by simpa using hb
  subst e;exact I1.fpOk (Tf _) (I1.hok.fresh (Tf _))
def Dz (ta:TA):TI:=fun σ H R=>ta σ H fun vs H1=>∃j:Int,vs = [.int j] /\ -(2 ^ 62)<=j/\j<2 ^ 62/\R (uW 0 j.toNat) H1
theorem Qt {a:Expr}{ta:TA}{pos:Pos}(hg:Gl X "range")(hm:X.mg "range"=none)(ha:PA X [a] ta)(hs:starEach [a] X.env = [(false,eval a X.env)]:=by rfl):PI X tg (.Call (.Name "range" p) [a] [] pos) (Dz ta):=by
 intro aa s σ H R I h;refine Call_ (lK I hg hm boot_range (Us (ay (ha pos aa s σ H _ I h) fun us s1 ⟨vs,H1,I1,r1,q1⟩=>?_) hs rfl));obtain⟨j,e,q1,q2,q⟩:=q1;subst e
 cases r1 with
 |cons r rr=>cases rr;obtain⟨t,rfl⟩:=r;exact call_range_1 (Pe I1 (by lia) (by lia) q1 q2 (by simpa using q))
def CM (wi:TI)(g:TG)(tb:TS):TS:=fun D σ H=>wi σ H fun J H1=>∃W:Nat->Nat->St->Hp->Prop,(∃m,W 0 m σ H1)/\∀i m σ H,W i m σ H →
 (J.stop i H/\D.nx σ H)∨(J.go i H/\∃N:St->Hp->Prop,(∀ σ' H',N σ' H'->∃m',m'<m/\W (i+1) m' σ' H')/\∀x H',J.yld i H x H'->g x σ H' fun σ2 H2=>tb { D with nx:=N,ct:=N,bk:=D.nx } σ2 H2)
noncomputable def qT (fp:List Addr)(h:Heap):List (Addr×Obj):=fp.filterMap fun b=>(h.get? b).map fun o=>(b,o)
theorem uQ {b:Addr}{o:Obj}(hb:b∈fp)(e:h.get? b=some o):(b,o)∈qT fp h:=mem_filterMap.mpr ⟨b,hb,by rw[e];rfl⟩
theorem Qs {p:Addr×Obj}(hp:p∈qT fp h):p.1∈fp/\h.get? p.1=some p.2:=by
 obtain⟨b,hb,e⟩:=mem_filterMap.mp hp
 cases q:h.get? b with
 |none=>rw[q] at e;injection e
 |some o=>rw[q] at e;have e':(b,o)=p:=Tw e;subst e';exact⟨hb,q⟩
theorem Inv.pinned {s:Shared}(I:Inv X aa σ H s)(hf:∀b∈fp,da X aa H b)(ho:∀b∈fp,∃o,s.heap.get? b=some o/\∀v,o.data ≠ .cell v):Inv X (aa++qT fp s.heap) σ H s:=
 I.pins_of fun p hp=>(TB.mp hp).elim (fun z=>I.pin p (TM _ z)) fun z=>by obtain⟨hb,e⟩:=Qs z;obtain⟨f0,f1,f2,_⟩:=hf p.1 hb;obtain⟨o,e',d⟩:=ho p.1 hb;rw[e] at e';cases e';exact⟨e,f0,f1,f2,d⟩
theorem Inv.unpinned {pl:List (Addr×Obj)}{s:Shared}(I:Inv X (aa++pl) σ H s):Inv X aa σ H s:=I.pins_of fun p hp=>I.pin p (TM _ (TL _ hp))
theorem Ec {body:List Stmt}{wi:TI}{tb:TS}{pos:Pos}(hp:PassesOwn (model X.prog X.w) X.A X.env X.xe)(hc:X.calm=true)(hi:PI X tg iter wi)(hg:PG X tg g)(hb:PSs X body tb)
  (hs:∀x,foldedSetIterable iter X.env x=pure x:=by intro _;rfl):PS X (.For tg iter body [] pos) (CM wi g tb):=by
 intro aa s σ H D I h;refine wpAny_For (ay (hi aa s σ H _ I h) fun v s1 h1=>ay h1 fun sk s2 h2=>?_) hs;obtain⟨it,fp,tn,J,H2,e,I2,T,st2,f2,W,⟨m0,w0⟩,eE⟩:=h2;subst e;have lZ:∀{H':Hp},(∀b∈fp,H' b=none)->∀b∈fp,da X aa H' b:=fun hn b hb=>⟨hn b hb,(f2 b hb).2⟩;refine codeAny_forLoop_any (fun n s'=>∃i σ' H',Inv X aa σ' H' s'/\tn i s'.heap/\(∀b∈fp,H' b=none)/\W i n σ' H') ?_ m0 ⟨0,σ,H2,I2,st2,fun b hb=>(f2 b hb).1,w0⟩;rintro n s3 ⟨i,σ3,H3,I3,st3,fr3,w3⟩;rcases eE i n σ3 H3 w3 with ⟨stop,qn⟩|⟨go,N,hN,step⟩
 ·refine U1 hp (ay (T.done X rfl rfl rfl hc i aa s3 σ3 H3 X.xe I3 (lZ fr3) st3 stop) fun r s4 ⟨hr,I4⟩=>?_);subst hr;exact wpAny_execs_nil ⟨σ3,H3,I4,qn⟩
 ·refine U1 hp (ay (T.item X rfl rfl rfl hc i aa s3 σ3 H3 X.xe I3 (lZ fr3) st3 go) fun r s4 ⟨u,hr,h4⟩=>?_)
  subst hr;refine U1 hp (ay h4 fun _ s5 ⟨x,H5,I5,r5,y5,st5,fr5⟩=>?_);have I5':=I5.pinned (lZ fr5) (T.obj _ _ st5);refine U1 hp (ay (hg _ s5 σ3 H5 x u _ I5' r5 (step x H5 y5)) fun _ s6 ⟨σ6,H6,I6,q6⟩=>?_);refine U1 hp (ay (hb _ s6 σ6 H6 _ I6 q6) fun f s7 q7=>?_);have again:∀{σ7:St} {H7:Hp},Inv X (aa++qT fp s5.heap) σ7 H7 s7->N σ7 H7->∃m,m<n/\∃i σ' H',Inv X aa σ' H' s7/\tn i s7.heap/\(∀b∈fp,H' b=none)/\W i m σ' H':=fun {σ7 H7} I7 n7=>by obtain⟨m',hm,w7⟩:=hN σ7 H7 n7;refine⟨m',hm,i+1,σ7,H7,I7.unpinned,T.keep _ _ _ st5 fun b hb o e=>(I7.pin (b,o) (TM _ (TM _ (uQ hb e)))).1,fun b hb=>?_,w7⟩;obtain⟨o,e,d⟩:=T.obj _ _ st5 b hb;exact(I7.pin (b,o) (TM _ (TM _ (uQ hb e)))).2.1
  cases f with
  |next=>obtain⟨σ7,H7,I7,n7⟩:=q7;exact again I7 n7
  |cont=>obtain⟨σ7,H7,I7,n7⟩:=q7;exact again I7 n7
  |brk=>obtain⟨σ7,H7,I7,q7⟩:=q7;exact⟨σ7,H7,I7.unpinned,q7⟩
  |ret v=>obtain⟨x7,σ7,H7,I7,r7,q7⟩:=q7;exact⟨x7,σ7,H7,I7.unpinned,r7,q7⟩
end
theorem Pd {tb:TS}{D:bI}(Pv:Nat->St->Hp->Prop)(h0:Pv 0 σ H)(hl:∀i σ H,i<=xs.length->Pv i σ H->SqL K H a xs)
  (hs:∀i x σ H,xs[i]? = some x->Pv i σ H->g x σ H fun σ2 H2=>tb { D with nx:=Pv (i+1),ct:=Pv (i+1),bk:=D.nx } σ2 H2) (hd:∀ σ H,Pv xs.length σ H->D.nx σ H):
  ∃W:Nat->Nat->St->Hp->Prop,(∃m,W 0 m σ H)/\∀i m σ H,W i m σ H →
   ((oW K a).stop i H/\D.nx σ H)∨((oW K a).go i H/\∃N:St->Hp->Prop,(∀ σ' H',N σ' H'->∃m',m'<m/\W (i+1) m' σ' H')/\∀x H',(oW K a).yld i H x H'->g x σ H' fun σ2 H2=>tb { D with nx:=N,ct:=N,bk:=D.nx } σ2 H2):=by
 refine⟨fun i m σ H=>m=xs.length-i/\i<=xs.length/\Pv i σ H,⟨xs.length,by simp,T3 _,h0⟩,?_⟩;rintro i m σ H ⟨rfl,hi,p⟩;have q:=hl i σ H hi p
 by_cases hlt:i<xs.length
 ·refine .inr ⟨⟨xs,xs[i],q,by simp [hlt]⟩,Pv (i+1),fun σ' H' p'=>⟨xs.length-(i+1),by lia,rfl,hlt,p'⟩,fun x H' y=>?_⟩;obtain⟨e,y⟩:=y;subst e;exact hs i x σ _ (y xs q) p
 ·have e:i=xs.length:=by lia
  subst e;exact .inl ⟨⟨xs,q,Tf _⟩,hd σ H p⟩
abbrev R2:=V->V->Hp->VK->Prop
def OpR (X:Cx)(f:Value->Value->Sem Value)(r:R2):Prop:=
 ∀(aa:List (Addr×Obj)) (s:Shared) (σ:St) (H:Hp) (x y:V) (v u:Value) (Q:VK),Inv X aa σ H s->RelV x v->RelV y u->r x y H Q →
  wpAny (model X.prog X.w) X.A (f v u) (EP X aa σ Q) X.xe s
def A0 (X:Cx)(f:Value->Sem Value)(r:V->Hp->VK->Prop):Prop:=
 ∀(aa:List (Addr×Obj)) (s:Shared) (σ:St) (H:Hp) (x:V) (v:Value) (Q:VK),Inv X aa σ H s->RelV x v->r x H Q →
  wpAny (model X.prog X.w) X.A (f v) (EP X aa σ Q) X.xe s
def gH (X:Cx)(f:Value)(r:List V->Hp->VK->Prop):Prop:=
 ∀(aa:List (Addr×Obj)) (s:Shared) (σ:St) (H:Hp) (xs:List V) (us:List Value) (Q:VK),Inv X aa σ H s->Vals xs us->r xs H Q →
  wpAny (model X.prog X.w) X.A (call f us) (EP X aa σ Q) X.xe s
def JQ (X:Cx)(r:V->Hp->(Bool->Hp->Prop)->Prop):Prop:=
 ∀(aa:List (Addr×Obj)) (s:Shared) (σ:St) (H:Hp) (x:V) (v:Value) (Q:Bool->Hp->Prop),Inv X aa σ H s->RelV x v->r x H Q →
  wpAny (model X.prog X.w) X.A (truthy v) (TP X aa σ Q) X.xe s
def pf (r:R2)(ta tb:TE):TE:=fun σ H Q=>ta σ H fun x H1=>tb σ H1 fun y H2=>r x y H2 Q
def pd (r:V->Hp->VK->Prop)(ta:TE):TE:=fun σ H Q=>ta σ H fun x H1=>r x H1 Q
def rI (C:Int->Int->Prop)(g:Int->Int->V):R2:=fun x y H Q=>∃i j,x = .int i/\y = .int j/\C i j/\Q (g i j) H
def jC (g:Int->Int->V):R2:=fun x y H Q=>∃i j,x = .int i/\y = .int j/\Q (g i j) H
def rU (g:Int->V):V->Hp->VK->Prop:=fun x H Q=>∃i,x = .int i/\Q (g i) H
variable {r r':R2}
section
variable {a b c:Expr}{ta tb tc:TE}{pos:Pos}
theorem xF (ha:PE X a ta)(hb:PE X b tb){aa:List (Addr×Obj)}{s:Shared}{σ:St}{H:Hp}{R:V->V->Hp->Prop}(I:Inv X aa σ H s)
  (h:ta σ H fun x H1=>tb σ H1 fun y H2=>R x y H2) {Q:am} {f:Value->Value->Sem Value}
  (hf:∀v u s2 x y H2,Inv X aa σ H2 s2->RelV x v->RelV y u->R x y H2->wpAny (model X.prog X.w) X.A (f v u) Q X.xe s2):
  wpAny (model X.prog X.w) X.A (eval a X.env) (fun v s₁=>wpAny (model X.prog X.w) X.A (eval b X.env) (fun u s₂=>wpAny (model X.prog X.w) X.A (f v u) Q X.xe s₂) X.xe s₁) X.xe s:=by
 refine ay (ha aa s σ H _ I h) fun v s1 ⟨x,H1,I1,r1,q1⟩=>?_;refine ay (hb aa s1 σ H1 _ I1 q1) fun u s2 ⟨y,H2,I2,r2,q2⟩=>?_;exact hf v u s2 x y H2 I2 r1 r2 q2
theorem lA {op:Operator}(ho:OpR X (binaryOp op) r)(ha:PE X a ta)(hb:PE X b tb):PE X (.BinOp a op b pos) (pf r ta tb):=by intro aa s σ H Q I h;exact wpAny_BinOp (xF ha hb I h fun v u s2 x y H2 I2 rx ry q=>ho aa s2 σ H2 x y v u Q I2 rx ry q)
theorem x4 {op:UnaryOp}{r:V->Hp->VK->Prop}(ho:A0 X (unaryOp op) r)(ha:PE X a ta):PE X (.UnaryOp op a pos) (pd r ta):=by intro aa s σ H Q I h;exact UnaryOp_ (ay (ha aa s σ H _ I h) fun v s1 ⟨x,H1,I1,r1,q1⟩=>ho aa s1 σ H1 x v Q I1 r1 q1)
theorem sf {f:Value->Value->Sem Value}{C:Int->Int->Prop}{g:Int->Int->Int}
  (rule:∀(i j:Int) (t u:Tok) (s:Shared) (Q:am) (E:am),C i j->Q (.int (g i j) s.toks) { s with toks:=s.toks+1 }->wpAny (model X.prog X.w) X.A (f (.int i t) (.int j u)) Q E s):
  OpR X f (rI C fun i j=>.int (g i j)):=by
 intro aa s σ H x y v u Q I rx ry h;obtain⟨i,j,rfl,rfl,hc,q⟩:=h;obtain⟨t,rfl⟩:=rx;obtain⟨t',rfl⟩:=ry;exact rule i j t t' s _ _ hc ⟨.int (g i j),H,I.tok _,⟨_,rfl⟩,q⟩
theorem CL {f:Value->Value->Sem Value}{g:Int->Int->Int}
  (rule:∀(i j:Int) (t u:Tok) (s:Shared) (Q:am) (E:am),Q (.int (g i j) s.toks) { s with toks:=s.toks+1 }->wpAny (model X.prog X.w) X.A (f (.int i t) (.int j u)) Q E s):
  OpR X f (jC fun i j=>.int (g i j)):=by
 intro aa s σ H x y v u Q I rx ry h;obtain⟨i,j,rfl,rfl,q⟩:=h;obtain⟨t,rfl⟩:=rx;obtain⟨t',rfl⟩:=ry;exact rule i j t t' s _ _ ⟨.int (g i j),H,I.tok _,⟨_,rfl⟩,q⟩
theorem sW {f:Value->Value->Sem Value}{g:Int->Int->Bool}
  (rule:∀(i j:Int) (t u:Tok) (s:Shared) (Q:am) (E:am),Q (.bool (g i j)) s->wpAny (model X.prog X.w) X.A (f (.int i t) (.int j u)) Q E s):
  OpR X f (jC fun i j=>.bl (g i j)):=by
 intro aa s σ H x y v u Q I rx ry h;obtain⟨i,j,rfl,rfl,q⟩:=h;obtain⟨t,rfl⟩:=rx;obtain⟨t',rfl⟩:=ry;exact rule i j t t' s _ _ ⟨.bl (g i j),H,I,rfl,q⟩
def CK (i j:Int):Prop:=0<=j/\j<=1000000/\i.natAbs<2 ^ 64
def CMul (i j:Int):Prop:=(-(2 ^ 64)<i/\i<2 ^ 64)∨(-(2 ^ 64)<j/\j<2 ^ 64)
theorem CMul.ok {i j:Int}(h:CMul i j):IntMulOk i j:=by
 rcases h with ⟨h1,h2⟩|⟨h1,h2⟩
 ·exact .of_left (intBits_le_64 h1 h2)
 ·exact .of_right (intBits_le_64 h1 h2)
theorem op_add:OpR X (binaryOp .Add) (jC fun i j=>.int (i+j)):=CL fun _ _ _ _ _ _ _ q=>add_int q
theorem yx:OpR X (binaryOp .Sub) (jC fun i j=>.int (i-j)):=CL fun _ _ _ _ _ _ _ q=>sub_int q
theorem op_mul:OpR X (binaryOp .Mult) (rI CMul fun i j=>.int (i*j)):=sf fun _ _ _ _ _ _ _ hc q=>mul_int q hc.ok
theorem Lu:OpR X (binaryOp .Mod) (rI (fun _ j=>0<j) fun i j=>.int (i % j)):=sf fun i j _ _ _ _ _ hc q=>by have h1:(0:Int)<j:=hc;exact mod_int' (by lia) (by rw[Int.fmod_eq_emod_of_nonneg i (by lia)];exact q)
theorem Ls:OpR X (binaryOp .Pow) (rI CK fun i j=>.int (i ^ j.toNat)):=sf fun _ _ _ _ _ _ _ hc q=>pow_int_small hc.1 hc.2.1 hc.2.2 q
theorem HS {f:Value->Sem Value}{g:Int->Int}
  (rule:∀(i:Int) (t:Tok) (s:Shared) (Q:am) (E:am),Q (.int (g i) s.toks) { s with toks:=s.toks+1 }->wpAny (model X.prog X.w) X.A (f (.int i t)) Q E s):
  A0 X f (rU fun i=>.int (g i)):=by
 intro aa s σ H x v Q I rx h;obtain⟨i,rfl,q⟩:=h;obtain⟨t,rfl⟩:=rx;exact rule i t s _ _ ⟨.int (g i),H,I.tok _,⟨_,rfl⟩,q⟩
theorem yw:A0 X (unaryOp .USub) (rU fun i=>.int (-i)):=HS fun _ _ _ _ _ q=>neg_int q
end
noncomputable def xE:V->V->Bool
 | .non,.non=>true | .non,.int _=>true | .int _,.non=>true | .non,.bl _=>true | .bl _,.non=>true | .non,.str _=>true | .str _,.non=>true
 | .int _,.int _=>true | .bl _,.bl _=>true | .str _,.str _=>true | .byt _,.byt _=>true
 | .int _,.str _=>true | .str _,.int _=>true | .bl _,.str _=>true | .str _,.bl _=>true
 |_,_=>false
def Bo:R2:=fun x y H Q=>xE x y=true/\Q (.bl (decide (x=y))) H
def Bm:R2:=fun x y H Q=>xE x y=true/\Q (.bl (!decide (x=y))) H
theorem Fh {i j:Int}:decide (V.int i=V.int j)=(i==j):=by rw[U3];simp
theorem Eb {i j:Bool}:decide (V.bl i=V.bl j)=(i==j):=by rw[U3];simp
theorem Fg {i j:Str}:decide (V.str i=V.str j)=(i==j):=by rw[U3];simp
theorem Ff {i j:Array UInt8}:decide (V.byt i=V.byt j)=(i.toList==j.toList):=by rw[U3];cases i;cases j;simp
section
variable {a b c:Expr}{ta tb tc:TE}{pos:Pos}
theorem bH {s:Shared}{k k':Bool}(I:Inv X aa σ H s)(q:Q (.bl k) H)(e:k=k'):EP X aa σ Q (.bool k') s:=by subst e;exact⟨.bl k,H,I,rfl,q⟩
theorem x3:OpR X (compareOp .Eq) Bo:=by
 intro aa s σ H x y v u Q I rx ry h;obtain⟨hs,q⟩:=h
 cases x with
 |non=>
  cases rx
  cases y with
  |non=>cases ry;exact PySem.EqNone.eq_none_none (bH I q (by simp))
  |bl j=>cases ry;exact PySem.EqNone.eq_none_bool (bH I q (by simp))
  |int j=>obtain⟨t',rfl⟩:=ry;exact PySem.EqNone.eq_none_int (bH I q (by simp))
  |str j=>obtain⟨t',rfl⟩:=ry;exact PySem.EqNone.eq_none_str (bH I q (by simp))
  |_=>exact absurd (show false=true from hs) Tq
 |bl i=>
  cases rx
  cases y with
  |non=>cases ry;exact PySem.EqNone.eq_bool_none (bH I q (by simp))
  |bl j=>cases ry;exact eq_bool (bH I q Eb)
  |str j=>obtain⟨t',rfl⟩:=ry;exact PySem.EqMixed.eq_bool_str (bH I q (by simp))
  |_=>exact absurd (show false=true from hs) Tq
 |int i=>
  obtain⟨t,rfl⟩:=rx
  cases y with
  |non=>cases ry;exact PySem.EqNone.eq_int_none (bH I q (by simp))
  |int j=>obtain⟨t',rfl⟩:=ry;exact eq_int (bH I q Fh)
  |str j=>obtain⟨t',rfl⟩:=ry;exact PySem.EqMixed.eq_int_str (bH I q (by simp))
  |_=>exact absurd (show false=true from hs) Tq
 |str i=>
  obtain⟨t,rfl⟩:=rx
  cases y with
  |non=>cases ry;exact PySem.EqNone.eq_str_none (bH I q (by simp))
  |bl j=>cases ry;exact PySem.EqMixed.eq_str_bool (bH I q (by simp))
  |int j=>obtain⟨t',rfl⟩:=ry;exact PySem.EqMixed.eq_str_int (bH I q (by simp))
  |str j=>obtain⟨t',rfl⟩:=ry;exact eq_str (bH I q Fg)
  |_=>exact absurd (show false=true from hs) Tq
 |byt i=>
  obtain⟨t,rfl⟩:=rx
  cases y with
  |byt j=>obtain⟨t',rfl⟩:=ry;exact PySem.W.eq_bytes (bH I q Ff)
  |_=>exact absurd (show false=true from hs) Tq
 |_=>cases y <;> exact absurd (show false=true from hs) Tq
theorem Dy:OpR X (compareOp .NotEq) Bm:=by
 intro aa s σ H x y v u Q I rx ry h;obtain⟨hs,q⟩:=h
 cases x with
 |non=>
  cases rx
  cases y with
  |non=>cases ry;exact PySem.EqNone.ne_none_none (bH I q (by simp))
  |bl j=>cases ry;exact PySem.EqNone.ne_none_bool (bH I q (by simp))
  |int j=>obtain⟨t',rfl⟩:=ry;exact PySem.EqNone.ne_none_int (bH I q (by simp))
  |str j=>obtain⟨t',rfl⟩:=ry;exact PySem.EqNone.ne_none_str (bH I q (by simp))
  |_=>exact absurd (show false=true from hs) Tq
 |bl i=>
  cases rx
  cases y with
  |non=>cases ry;exact PySem.EqNone.ne_bool_none (bH I q (by simp))
  |bl j=>cases ry;exact ne_bool (bH I q (UP not Eb))
  |str j=>obtain⟨t',rfl⟩:=ry;exact PySem.EqMixed.ne_bool_str (bH I q (by simp))
  |_=>exact absurd (show false=true from hs) Tq
 |int i=>
  obtain⟨t,rfl⟩:=rx
  cases y with
  |non=>cases ry;exact PySem.EqNone.ne_int_none (bH I q (by simp))
  |int j=>obtain⟨t',rfl⟩:=ry;exact ne_int (bH I q (UP not Fh))
  |str j=>obtain⟨t',rfl⟩:=ry;exact PySem.EqMixed.ne_int_str (bH I q (by simp))
  |_=>exact absurd (show false=true from hs) Tq
 |str i=>
  obtain⟨t,rfl⟩:=rx
  cases y with
  |non=>cases ry;exact PySem.EqNone.ne_str_none (bH I q (by simp))
  |bl j=>cases ry;exact PySem.EqMixed.ne_str_bool (bH I q (by simp))
  |int j=>obtain⟨t',rfl⟩:=ry;exact PySem.EqMixed.ne_str_int (bH I q (by simp))
  |str j=>obtain⟨t',rfl⟩:=ry;exact ne_str (bH I q (UP not Fg))
  |_=>exact absurd (show false=true from hs) Tq
 |byt i=>
  obtain⟨t,rfl⟩:=rx
  cases y with
  |byt j=>obtain⟨t',rfl⟩:=ry;exact PySem.W.ne_bytes (bH I q (UP not Ff))
  |_=>exact absurd (show false=true from hs) Tq
 |_=>cases y <;> exact absurd (show false=true from hs) Tq
theorem Kh:OpR X (compareOp .Lt) (jC fun i j=>.bl (decide (i<j))):=sW fun _ _ _ _ _ _ _ q=>lt_int q
theorem Kg:OpR X (compareOp .LtE) (jC fun i j=>.bl (decide (i<=j))):=sW fun _ _ _ _ _ _ _ q=>le_int q
theorem Kf:OpR X (compareOp .Gt) (jC fun i j=>.bl (decide (j<i))):=sW fun _ _ _ _ _ _ _ q=>gt_int q
theorem Ke:OpR X (compareOp .GtE) (jC fun i j=>.bl (decide (j<=i))):=sW fun _ _ _ _ _ _ _ q=>ge_int q
theorem NJ:OpR X (compareOp .IsNot) (fun x y H Q=>y = .non/\Q (.bl (!decide (x = .non))) H):=by
 intro aa s σ H x y v u Q I rx ry h;obtain⟨rfl,q⟩:=h;cases ry;refine isnot_none_gen (bH I q ?_)
 cases x <;> first
  | (cases rx;rfl)
  | (obtain⟨t,rfl⟩:=rx;rfl)
theorem OpR.or {f:Value->Value->Sem Value}(h:OpR X f r)(h':OpR X f r'):OpR X f (fun x y H Q=>r x y H Q∨r' x y H Q):=by
 intro aa s σ H x y v u Q I rx ry q;rcases q with q|q
 ·exact h aa s σ H x y v u Q I rx ry q
 ·exact h' aa s σ H x y v u Q I rx ry q
theorem yu (b:Expr){op:CmpOp}(h:op ≠ .In:=by decide)(h2:op ≠ .NotIn:=by decide):behindInMarks op b=false:=by
 have e1:(op==CmpOp.In)=false:=by cases op <;> first|rfl|exact absurd rfl h
 have e2:(op==CmpOp.NotIn)=false:=by cases op <;> first|rfl|exact absurd rfl h2
 cases b <;> simp [behindInMarks,e1,e2]
theorem NI {op:CmpOp}(ho:OpR X (compareOp op) r)(ha:PE X a ta)(hb:PE X b tb)(hm:behindInMarks op b=false):PE X (.Compare a [op] [b] pos) (pf r ta tb):=by intro aa s σ H Q I h;exact wpAny_Compare1 (xF ha hb I h fun v u s2 x y H2 I2 rx ry q=>ho aa s2 σ H2 x y v u Q I2 rx ry q) hm
def xZ (t:TE):TT:=fun σ H Q=>t σ H fun x H'=>∃k,x = .bl k/\Q k H'
theorem ur {op:CmpOp}(ho:OpR X (compareOp op) r)(ha:PE X a ta)(hb:PE X b tb)(hm:behindInMarks op b=false):PT X (.Compare a [op] [b] pos) (xZ (pf r ta tb)):=by
 intro aa s σ H Q I h
 refine wpAny_isTrue_Compare1 (ay (ha aa s σ H _ I h) fun v s1 ⟨x,H1,I1,r1,q1⟩=>ay (hb aa s1 σ H1 _ I1 q1) fun u s2 ⟨y,H2,I2,r2,q2⟩=>
  ay (ho aa s2 σ H2 x y v u _ I2 r1 r2 q2) fun c s3 ⟨z,H3,I3,r3,k,e,q3⟩=>?_) hm
 subst e;cases r3;exact Ut ⟨H3,I3,q3⟩
def yt (r r':R2)(ta tb tc:TE):TE:=fun σ H Q=>ta σ H fun x H1=>tb σ H1 fun y H2=>r x y H2 fun z H3=>∃k,z = .bl k ∧
 (if k=true then tc σ H3 fun w' H4=>r' y w' H4 Q else Q (.bl false) H3)
theorem Pc {op eA:CmpOp}(ho:OpR X (compareOp op) r)(i7:OpR X (compareOp eA) r')(ha:PE X a ta)(hb:PE X b tb)(hc:PE X c tc)
  (hm:lastMarks [op,eA] [b,c]=false:=by with_unfolding_all rfl):PE X (.Compare a [op,eA] [b,c] pos) (yt r r' ta tb tc):=by
 intro aa s σ H Q I h
 refine Compare_chain (ay (ha aa s σ H _ I h) fun v s1 ⟨x,H1,I1,r1,q1⟩=>chain_link (ay (hb aa s1 σ H1 _ I1 q1) fun u s2 ⟨y,H2,I2,r2,q2⟩=>
  ay (ho aa s2 σ H2 x y v u _ I2 r1 r2 q2) fun d s3 ⟨z,H3,I3,r3,k,e,q3⟩=>?_)) hm
 subst e;cases r3;refine Ut ?_
 cases k with
 |false=>exact ite_ff ⟨.bl false,H3,I3,rfl,q3⟩
 |true=>exact ite_tt (chain_last (ay (hc aa s3 σ H3 _ I3 q3) fun w' s4 ⟨z',H4,I4,r4,q4⟩=>i7 aa s4 σ H4 y z' u w' Q I4 r2 r4 q4))
theorem Pb {op eA:CmpOp}(ho:OpR X (compareOp op) r)(i7:OpR X (compareOp eA) r')(ha:PE X a ta)(hb:PE X b tb)(hc:PE X c tc)
  (hm:lastMarks [op,eA] [b,c]=false:=by with_unfolding_all rfl):PT X (.Compare a [op,eA] [b,c] pos) (xZ (yt r r' ta tb tc)):=by
 intro aa s σ H Q I h
 refine isTrue_chain (ay (ha aa s σ H _ I h) fun v s1 ⟨x,H1,I1,r1,q1⟩=>test_link (ay (hb aa s1 σ H1 _ I1 q1) fun u s2 ⟨y,H2,I2,r2,q2⟩=>
  ay (ho aa s2 σ H2 x y v u _ I2 r1 r2 q2) fun d s3 ⟨z,H3,I3,r3,k,e,q3⟩=>?_)) hm
 subst e;cases r3;refine Ut ?_
 cases k with
 |false=>obtain⟨k',e',q'⟩:=q3;cases e';exact ite_ff ⟨H3,I3,q'⟩
 |true=>refine ite_tt (test_last (ay (hc aa s3 σ H3 _ I3 q3) fun w' s4 ⟨z',H4,I4,r4,q4⟩=>ay (i7 aa s4 σ H4 y z' u w' _ I4 r2 r4 q4) fun d' s5 ⟨z2,H5,I5,r5,k2,e2,q5⟩=>?_));subst e2;cases r5;exact Ut ⟨H5,I5,q5⟩
def sV (K:W.Frag)(x:V)(H:Hp)(k:Bool):Prop:=
 match x with
 | .non=>k=false
 | .bl b=>k=b
 | .int i=>k=(i != 0)
 | .str y=>y.length<=sizeLine/\k=((y.length:Int) != 0)
 | .byt y=>y.size<=sizeLine/\k=((y.size:Int) != 0)
 | .ref p=>(∃xs,SqL K H p xs/\k = !xs.isEmpty)∨(∃xs,SqT K H p xs/\k = !xs.isEmpty)∨∃ae,H p=some (.dK ae)/\k = !ae.isEmpty
 |_=>False
theorem Rh {ae:List (κ × V)}{vs:List (κ × Value)}(r:KV ae vs):(!vs.isEmpty) = !ae.isEmpty:=by cases r <;> rfl
theorem Hq (r:Vals xs af):(!af.toArray.isEmpty) = !xs.isEmpty:=by cases r <;> simp
theorem nu:(sizeLine:Nat)<2 ^ 63:=by rw[TY];decide
theorem Lr:JQ X (fun x H Q=>∃k,sV X.K x H k/\Q k H):=by
 intro aa s σ H x v Q I rx h;obtain⟨k,e,q⟩:=h;have hl:=nu;have hs:=TY
 cases x with
 |non=>cases rx;have e':k=false:=e;subst e';exact truthy_none ⟨H,I,q⟩
 |bl b=>cases rx;have e':k=b:=e;subst e';exact Ut ⟨H,I,q⟩
 |int i=>obtain⟨t,rfl⟩:=rx;have e':k=(i != 0):=e;subst e';exact PySem.P.truthy_int ⟨H,I,q⟩
 |str y=>obtain⟨t,rfl⟩:=rx;obtain⟨hy,e'⟩:y.length<=sizeLine/\k=((y.length:Int) != 0):=e;subst e';exact PySem.P.truthy_str (by lia) ⟨H,I.tok _,q⟩
 |byt y=>obtain⟨t,rfl⟩:=rx;obtain⟨hy,e'⟩:y.size<=sizeLine/\k=((y.size:Int) != 0):=e;subst e';exact PySem.W.truthy_bytes (by lia) ⟨H,I.tok _,q⟩
 |ref p=>
  cases rx;have e':(∃xs,SqL X.K H p xs/\k = !xs.isEmpty)∨(∃xs,SqT X.K H p xs/\k = !xs.isEmpty)∨∃ae,H p=some (.dK ae)/\k = !ae.isEmpty:=e;rcases e' with ⟨xs,hx,e'⟩|⟨xs,hx,e'⟩|⟨ae,hx,e'⟩
  ·subst e';obtain⟨af,r,pl,hz⟩:=I.list hx;have hlen:=r.length;exact wpAny_truthy_list pl.isList (by simp only [Ti];lia) ⟨H,I.tok _,by rw[Hq r];exact q⟩
  ·subst e';obtain⟨af,r,pl,hz⟩:=I.tuple hx;have hlen:=r.length;exact truthy_tuple pl (by simp only [Ti];lia) ⟨H,I.tok _,by rw[Hq r];exact q⟩
  ·subst e';obtain⟨hz,hS,vs,r,m⟩:ae.length<=sizeLine/\(p==sysModules)=false/\∃vs,KV ae vs/\s.heap.DictOf (dR X.prog X.w) p vs:=I.hok p _ hx;have hlen:ae.length=vs.length:=Paired.length r;exact wpAny_truthy_dict hS m (by lia) ⟨H,I.tok _,by rw[Rh r];exact q⟩
 |_=>exact(show False from e).elim
theorem zL (ha:PE X a ta)(he:∀cg,isTrue a X.env cg=(do let v ← cg;standAt a.pos;holding [v] (truthy v))):
  PT X a (fun σ H Q=>ta σ H fun x H'=>∃k,sV X.K x H' k/\Q k H'):=by
 intro aa s σ H Q I h;exact isTrue_plain (ay (ha aa s σ H _ I h) fun v s1 ⟨x,H1,I1,r1,q1⟩=>Lr aa s1 σ H1 x v Q I1 r1 q1) (he _)
theorem Rg:OpR X (binaryOp .Add) (fun x y H Q=>∃i j,x = .str i/\y = .str j/\i.length+j.length<=sizeLine/\Q (.str (i++j)) H):=by intro aa s σ H x y v u Q I rx ry h;obtain⟨i,j,rfl,rfl,hz,q⟩:=h;obtain⟨t,rfl⟩:=rx;obtain⟨t',rfl⟩:=ry;exact add_str (fun t' tk=>⟨.str (i++j),H,I.tok _,⟨_,rfl⟩,q⟩) hz
theorem iN {x:V}(r:Vals [x] us):∃u,us = [u]/\RelV x u:=by
 cases r with
 |cons r1 r2=>cases r2;exact⟨_,rfl,r1⟩
theorem Kd {x:V}(r:Vals [x,y] us):∃u w',us = [u,w']/\RelV x u/\RelV y w':=by
 cases r with
 |cons r1 r2=>
  cases r2 with
  |cons r3 r4=>cases r4;exact⟨_,_,rfl,r1,r3⟩
theorem Qr:gH X (.type "int") (fun xs H Q=>(∃i,xs = [.int i]/\Q (.int i) H)∨∃k,xs = [.bl k]/\Q (.int (if k then 1 else 0)) H):=by
 intro aa s σ H xs us Q I r h;rcases h with ⟨i,rfl,q⟩|⟨k,rfl,q⟩
 ·obtain⟨u,rfl,t,rfl⟩:=iN r;exact call_int_int ⟨.int i,H,I,⟨_,rfl⟩,q⟩
 ·obtain⟨u,rfl,r1⟩:=iN r;cases r1;exact call_int_bool ⟨.int (if k then 1 else 0),H,I.tok _,⟨_,rfl⟩,q⟩
end
structure ObjM (h:Heap)(x dx C:Addr)(mA:Str->Option Value):Prop where
 obj:h.get? x=some (PySem.W.instObj C dx)
 ns:h.Ns1 dx mA
 ne:dx≠x
theorem Qq {dx:Addr}{mA:Str->Option Value}(n:h.Ns1 dx mA):∃od,h.get? dx=some od/\∀name,PySem.W.lookIn name od=some (mA name):=by
 obtain⟨o,es,ep,ho,hd,hk,_,hm⟩:=n;refine⟨o,ho,fun name=>?_⟩;have e:=hm name;unfold nsFind findBy at e;rw[<- Array.find?_toList] at e;unfold PySem.W.lookIn;rw[hd];dsimp only
 split
 ·rename_i y q;rw[q] at e;exact UP some e
 ·rename_i q
  rw[q] at e;have a:es.toList.any (·.refKey)=false:=by rw[List.any_eq_false];intro y hy;obtain⟨z,t,hkey⟩:=hk y (Array.mem_toList_iff.mp hy);simp [DictEntry.refKey,hkey]
  have a':¬es.toList.any (·.refKey)=true:=by rw[a];exact Tq
  rw[Tp a'];exact UP some e
theorem ObjM.look {x dx:Addr}{mA:Str->Option Value}(I:ObjM h x dx C mA):∃od,PySem.W.InstAt h x (PySem.W.instObj C dx) C (some od)/\∀name,PySem.W.lookIn name od=some (mA name):=
 let ⟨od,ho,hl⟩:=Qq I.ns
 ⟨od,⟨I.obj,rfl,rfl,ho⟩,hl⟩
theorem RelO.some_of {v:V}{o:Option Value}(r:RelO (some v) o):∃u,o=some u/\RelV v u:=by
 cases o with
 |none=>exact(show False from r).elim
 |some u=>exact⟨u,rfl,r⟩
theorem RelO.none_of {o:Option Value}(r:RelO none o):o=none:=by
 cases o with
 |none=>rfl
 |some u=>exact(show False from r).elim
section
variable {dx:Addr}{fs dv:List (Str×V)}
theorem NH (hok:HOk P w H h)(e:H a=some (.ins C dx fs)):∃mA,ObjM h a dx C mA/\(∀f,RelO (fs.lookup f) (mA f))/\PySem.Within mA (fs.map (·.1))/\fs.length<=1000/\H dx=some (.own a):=by obtain⟨d,z,ne,ob,mA,n,r,q⟩:=(show ObjOk P w H h a (.ins C dx fs) from hok a _ e);exact⟨mA,⟨ob,n,ne⟩,r,q,z,d⟩
end
structure Cls (K:W.Frag)(C:Addr):Prop where
 pg:PySem.W.plainGet K C Str.empty=true
 hd:PySem.W.hasDictIn K C=true
 po:PySem.W.plainOver K C=true
 sa:PySem.W.findIn K (.ref C) "__setattr__"=some (some (.builtin "object.__setattr__"))
theorem Cls.get (c:Cls K C)(f:Str):PySem.W.plainGet K C f=true:=c.pg
section
variable {s:Shared}{A:Around}{E:am}{Q:am}{c:Value}{b:Bool}
inductive cJ (K:W.Frag)(H:Hp):V->Value->Prop where
 |non:cJ K H .non (.type "NoneType")
 |bl (x:Bool):cJ K H (.bl x) (.type "bool")
 |int (i:Int):cJ K H (.int i) (.type "int")
 |str (x:Str):cJ K H (.str x) (.type "str")
 |flt (x:UInt64):cJ K H (.flt x) (.type "float")
 |lst {a:Addr} {xs:List V} (e:H a=some (.lst xs)):cJ K H (.ref a) (.type "list")
 |frz {a:Addr} {o:Obj} {xs:List V} (e:H a=some (.frz o (.lst xs))):cJ K H (.ref a) (.type "list")
 |tup {a:Addr} {xs:List V} (e:H a=some (.tup xs)):cJ K H (.ref a) (.type "tuple")
 |dK {a:Addr} {ae:List (aw×V)} (e:H a=some (.dK ae)):cJ K H (.ref a) (.type "dict")
 |dT {a:Addr} {ae:List (List aw×V)} (e:H a=some (.dT ae)):cJ K H (.ref a) (.type "dict")
 |ins {a C dx:Addr} {fs:List (Str×V)} (e:H a=some (.ins C dx fs)) (cl:Cls K C) (ha:PySem.W.findIn K (.ref C) "__class__"=some (some (.builtin "object.__class__")))
   (hn:PySem.W.specialIn K (.builtin "object.__class__") "__get__"=some (some (.builtin "getset_descriptor.__get__"))) (vA:PySem.W.takesIn K (.builtin "object.__class__")=some true)
   (hm:PySem.W.mroIn K C (.type "object")=some true):cJ K H (.ref a) (.ref C)
theorem Qp {x:V}{t:Value}(I:Inv X aa σ H s)(rx:RelV x u)(ty:cJ X.K H x t)(e:PySem.W.kitOne X.K t c=some b)(h:∀tk,Q (.bool b) { s with toks:=tk }):
  wpAny (model X.prog X.w) A (call (.builtin "isinstance") [u,c]) Q E s:=by
 cases ty with
 |non=>cases (show u=Value.none from rx);exact Um PySem.W.kitx_none I.kIn True.intro e (fun z=>nomatch z) h
 |bl y=>cases (show u=Value.bool y from rx);exact Um PySem.W.kitx_bool I.kIn True.intro e (fun z=>nomatch z) h
 |int i=>obtain⟨t,q⟩:=(show ∃t,u=Value.int i t from rx);cases q;exact Um PySem.W.kitx_int I.kIn True.intro e (fun z=>nomatch z) h
 |str y=>obtain⟨t,q⟩:=(show ∃t,u=Value.str y t from rx);cases q;exact Um PySem.W.kitx_str I.kIn True.intro e (fun z=>nomatch z) h
 |flt y=>obtain⟨t,q⟩:=(show ∃t,u=Value.float y t from rx);cases q;exact Um PySem.W.kitx_float I.kIn True.intro e (fun z=>nomatch z) h
 | @lst a xs ea=>cases (show u=Value.ref a from rx);obtain⟨_,_,n,_,h1⟩:=(show ObjOk X.prog X.w H s.heap a (.lst xs) from I.hok a _ ea);exact Um PySem.W.kitx_list I.kIn ⟨_,h1,rfl⟩ e (fun z=>nomatch z) h
 | @frz a ob xs ea=>cases (show u=Value.ref a from rx);obtain⟨_,_,_,n,_,h1⟩:=(show ObjOk X.prog X.w H s.heap a (.frz ob (.lst xs)) from I.hok a _ ea);exact Um PySem.W.kitx_list I.kIn ⟨_,h1,rfl⟩ e (fun z=>nomatch z) h
 | @tup a xs ea=>cases (show u=Value.ref a from rx);obtain⟨_,_,_,p⟩:=(show ObjOk X.prog X.w H s.heap a (.tup xs) from I.hok a _ ea);obtain⟨o,h1,h2,_⟩:=p;exact Um PySem.W.kitx_tuple I.kIn ⟨o,h1,h2⟩ e (fun z=>nomatch z) h
 | @dK a ae ea=>cases (show u=Value.ref a from rx);obtain⟨_,_,vs,_,p⟩:=(show ObjOk X.prog X.w H s.heap a (.dK ae) from I.hok a _ ea);obtain⟨o,es,ep,h1,h2,_⟩:=p;exact Um PySem.W.kitx_dict I.kIn ⟨o,h1,h2.1⟩ e (fun z=>nomatch z) h
 | @dT a ae ea=>cases (show u=Value.ref a from rx);obtain⟨_,_,xs,_,o,es,ep,h1,h2,_⟩:=(show ObjOk X.prog X.w H s.heap a (.dT ae) from I.hok a _ ea);exact Um PySem.W.kitx_dict I.kIn ⟨o,h1,h2.1⟩ e (fun z=>nomatch z) h
 | @ins a C dx fs ea cl ha hn vA hm=>cases (show u=Value.ref a from rx);obtain⟨mA,O,_⟩:=NH I.hok ea;obtain⟨od,J,_⟩:=O.look;exact Um (PySem.W.kitx_own (cl.get _) cl.hd ha hn vA hm) I.kIn J e (fun z=>nomatch z) h
end
structure Room (k:Nat)(A:Around):Prop where
 hd:A.handled=none
 gd:A.guards=some []
 dp:A.depth+3*k+5<recursionLimit
 un:A.units+16*k+200<cLine
theorem Room.mono {k:Nat}{A:Around}(r:Room k A)(h:j<=k):Room j A:=⟨r.hd,r.gd,by have:=r.dp;lia,by have:=r.un;lia⟩
theorem Room.deeper {k:Nat}{A:Around}(r:Room (k+1) A)(env:Env):Room k (A.deeper env):=
 ⟨r.hd,r.gd,by have:=r.dp;show A.depth+1+3*k+5<_;lia,by have:=r.un;show A.units+3+16*k+200<_;lia⟩
theorem Room.depth {k:Nat}{A:Around}(r:Room k A):A.depth<recursionLimit:=by have:=r.dp;lia
theorem Room.units {k:Nat}{A:Around}(r:Room k A):A.units+64<cLine:=by have:=r.un;lia
def iR:TA:=fun _ H Q=>Q [] H
def jR (ta:TE)(tr:TA):TA:=fun σ H Q=>ta σ H fun x H1=>tr σ H1 fun xs H2=>Q (x::xs) H2
section
variable {t:TA}{pos:Pos}
theorem pa_nil:PA X [] iR:=fun _ _ _ _ H Q I h=>U6 ⟨[],H,I,.nil,h⟩
theorem jU (ha:PE X e te)(hr:PA X es t)(hs:starEach (e::es) X.env=(false,eval e X.env)::starEach es X.env:=by rfl):PA X (e::es) (jR te t):=by intro pos aa s σ H Q I h;rw[hs];show wpAny _ _ (spliced ((false,eval e X.env)::backTo pos (starEach es X.env))) _ _ s;refine UA (ay (ha aa s σ H _ I h) fun u s1 ⟨x,H1,I1,r1,q1⟩=>?_);exact ay (hr pos aa s1 σ H1 _ I1 q1) fun us s2 ⟨xs,H2,I2,r2,q2⟩=>⟨x::xs,H2,I2,.cons r1 r2,q2⟩
def JP (t:TA):TE:=fun σ H Q=>t σ H fun xs H1=>xs.length<=sizeLine/\∀p,H1 p=none->Q (.ref p) (ax H1 p (.tup xs))
def JO (t:TA):TE:=fun σ H Q=>t σ H fun xs H1=>xs.length<=sizeLine/\∀p,H1 p=none->Q (.ref p) (ax H1 p (.lst xs))
theorem Ea {x1}(h:PA X es t):PE X (.Tuple es x1 pos) (JP t):=by intro aa s σ H Q I hq;refine wpAny_Tuple_spliced (ay (h pos aa s σ H _ I hq) fun us s1 ⟨xs,H1,I1,r,z,q⟩=>⟨by rw[<- r.length];exact z,?_⟩);have hf:H1 s1.heap.objs.size=none:=I1.hok.fresh (Tf _);refine⟨.ref s1.heap.objs.size,ax H1 s1.heap.objs.size (.tup xs),I1.laid (t':=s1.toks) (fun b u e=>S7 _ e) (Tf _) ?_,rfl,q _ hf⟩;exact⟨z,us,r,⟨_,Tu _ rfl,rfl,_,rfl,rfl⟩⟩
theorem yr (h:PA X es t):PE X (.List es pos) (JO t):=by intro aa s σ H Q I hq;refine wpAny_List_spliced (ay (h pos aa s σ H _ I hq) fun us s1 ⟨xs,H1,I1,r,z,q⟩=>⟨by rw[<- r.length];exact z,?_⟩);have hf:H1 s1.heap.objs.size=none:=I1.hok.fresh (Tf _);refine⟨.ref s1.heap.objs.size,ax H1 s1.heap.objs.size (.lst xs),I1.laid (t':=s1.toks) (fun b u e=>S7 _ e) (Tf _) ?_,rfl,q _ hf⟩;exact⟨z,us,0,r,Tu _ rfl⟩
end
abbrev Sp:=List V->Hp->VK->XK->Prop
abbrev lU:=List Env->Hp->Shared->XK->Value->Shared->Prop
structure ky (P:Program)(w:World)(K:W.Frag)(mg:Str->Option Value)(base:Heap)(A:Around)(outer:List Env)(s:Shared)(H:Hp):Prop where
 frames:A.frames=some outer
 mod:Mod K mg base
 bs:∀b o,base.get? b=some o->s.heap.get? b=some o/\H b=none
 bsz:base.objs.size<=s.heap.objs.size
 funs:s.heap.FunFrames base outer
 frf:∀b∈iA outer,H b=none
 hok:HOk P w H s.heap
 bare:AllBare s.gens
def CE (outer:List Env)(P:Program)(w:World)(H:Hp)(s:Shared)(Q:VK)(u:Value)(s':Shared):Prop:=
 ∃v H',s'.os=s.os/\AllBare s'.gens/\Un (iA outer) [] H H' s.heap s'.heap/\HOk P w H' s'.heap/\RelV v u/\Q v H'
def CR (CX:lU)(outer:List Env)(P:Program)(w:World)(H:Hp)(s:Shared)(Q:VK)(E:XK)(r:Result)(s':Shared):Prop:=
 match r with
 | .ok (.ret u)=>CE outer P w H s Q u s'
 | .ok _=>False
 | .error e=>CX outer H s E e s'
structure FnOk (P:Program)(w:World)(K:W.Frag)(mg:Str->Option Value)(base:Heap)(CX:lU)(k:Nat)(f:Addr)(fd:FuncData)(ps:List Str)(sp:Sp):Prop where
 len:∀vs H Q E,sp vs H Q E->vs.length=ps.length
 run:∀(A:Around) (outer:List Env) (s:Shared) (H:Hp) (args:Args) (us:List Value) (vs:List V) (Q:VK) (E:XK),Room k A->ky P w K mg base A outer s H->BindsTo s fd args (ps.zip us)->Vals vs us->sp vs H Q E →
  codeAny (model P w) A (.call (.ref f) args) (CR CX outer P w H s Q E) s
variable {CX:lU}
theorem FnOk.mono {k:Nat}{f:Addr}{sp:Sp}(F:FnOk P w K mg base CX j f fd ps sp)(h:j<=k):
  FnOk P w K mg base CX k f fd ps sp:=⟨F.len,fun A outer s H args us vs Q E hr=>F.run A outer s H args us vs Q E (hr.mono h)⟩
section
variable {s s':Shared}
theorem Inv.env0 (I:Inv X aa σ H s):ky X.prog X.w X.K X.mg X.base X.A X.stack s H:=
 ⟨I.ok.frames,I.ok.mod,I.bs,Ue I.ok.bsz I.sz,I.stack,I.stkFree,I.hok,I.bare⟩
theorem Inv.after (I:Inv X aa σ H s)(h:CE X.stack X.prog X.w H s Q u s'):EP X aa σ Q u s':=by obtain⟨v,H',os,bare,un,hok,r,q⟩:=h;obtain⟨hh,g,d,t,os'⟩:=s';obtain rfl:os'=s.os:=os;exact⟨v,H',I.call (h':=hh) (g':=g) (d':=d) (t':=t) (ch:=[]) un hok bare (fun b z=>absurd z (by simp)),r,q⟩
end
def Dw (sp:Sp)(kY:List V)(E:XK)(t:TA):TE:=fun σ H Q=>t σ H fun vs H1=>sp (vs++kY) H1 Q E
def Binds (K:W.Frag)(fd:FuncData)(ps:List Str)(ds:List Value):Prop:=
 ∀(s:Shared) (us:List Value),K.In s.heap->(us++ds).length=ps.length->BindsTo s fd ⟨us,[]⟩ (ps.zip (us++ds))
theorem Binds.all (h:∀us:List Value,us.length=ps.length->bindArgs fd ⟨us,[]⟩=pure (ps.zip us)):Binds K fd ps []:=fun s us _ hl=>by rw[TJ] at hl ⊢;exact .of_eq (h us hl)
def yq (CX:lU)(X:Cx)(E:XK):Prop:=∀(aa:List (Addr×Obj)) (σ:St) (H:Hp) (s:Shared) (e:Value) (s':Shared),Inv X aa σ H s->CX X.stack H s E e s'->X.xe e s'
section
variable {k:Nat}{f:Addr}{sp:Sp}{kY:List V}{ds:List Value}{E:XK}{m:Str}{pos:Pos}{o:Expr}{ta:TE}{t:TA}
theorem Lq {s:Shared}(F:FnOk X.prog X.w X.K X.mg X.base CX k f fd ps sp)(hr:Room k X.A)(hb:Binds X.K fd ps ds)(hd:Vals kY ds)(hx:yq CX X E)
  (I:Inv X aa σ H s) (r:Vals vs us) (h:sp (vs++kY) H Q E):wpAny (model X.prog X.w) X.A (call (.ref f) us) (EP X aa σ Q) X.xe s:=by
 have r2:Vals (vs++kY) (us++ds):=r.append hd;have hl:(us++ds).length=ps.length:=by rw[<- r2.length];exact F.len _ _ _ _ h
 refine wpAny_call (codeAny_mono (F.run X.A X.stack s H ⟨us,[]⟩ (us++ds) (vs++kY) Q E hr I.env0 (hb s us I.kIn hl) r2 h) fun r s' hq=>?_)
 cases r with
 |error e=>exact hx aa σ H s e s' I hq
 |ok fl=>
  cases fl with
  |ret u=>exact I.after hq
  |next=>exact False.elim hq
  |brk=>exact False.elim hq
  |cont=>exact False.elim hq
theorem y4 (F:FnOk X.prog X.w X.K X.mg X.base CX k f fd ps sp)(hr:Room k X.A)(hg:Gl X x)(hm:X.mg x=some (.ref f))(hk:PySem.W.keepIn X.K (.ref f)=true)(hb:Binds X.K fd ps ds)(hd:Vals kY ds)(hx:yq CX X E)
  (ha:PA X (e::es) t) (qi:(x==("__debug__":Str))=false:=by decide) (he:starEach (e::es) X.env=(false,eval e X.env)::starEach es X.env:=by rfl) (bA:(backTo pos (starEach es X.env)).any (·.1)=false:=by rfl):
  PE X (.Call (.Name x p) (e::es) [] pos) (Dw sp kY E t):=by
 intro aa s σ H Q I h;refine UY (Fi I hg hm ?_ qi);refine PySem.W.callWith_K (h₀:=X.base) I.ok.mod.kin hk (ay (ha pos aa s σ H _ I h) fun us s1 ⟨vs,H1,I1,r,q⟩=>⟨I1.kIn,?_⟩) he bA;exact Lq F hr hb hd hx I1 r q
end
structure bo (N P:List Str)(sc:Scope):Prop where
 kind:sc.kind = .function
 co:sc.isCoroutine=false
 gen:sc.isGenerator=false
 nd:N.Nodup
 pre:N.take P.length=P
 par:∀x∈P,sc.names.lookup x=some .local∨sc.names.lookup x=some .cell
 nofree:∀y∈sc.names,y.2 ≠ .free
theorem GG {kindOf:Str->Option NameKind}:∀{binds:List (Str×Value)} {m:Str->Option Value},(∀v,(x,v)∉binds)->bindL kindOf binds m x=m x
 |[],_,_=>rfl
 | (n,v)::r,m,h=>by
  unfold bindL;rw[GG fun w hw=>h w (Tb _ hw)]
  split
  ·have:x≠n:=by rintro rfl;exact h v Te
   simp [this]
  ·rfl
theorem GF {kindOf:Str->Option NameKind}:∀{binds:List (Str×Value)} {m:Str->Option Value},(∀v,(x,v)∉binds)->bindC kindOf binds m x=m x
 |[],_,_=>rfl
 | (n,v)::r,m,h=>by
  unfold bindC;rw[GF fun w hw=>h w (Tb _ hw)]
  split
  ·rfl
  ·have:x≠n:=by rintro rfl;exact h v Te
   simp [this]
theorem GD {kindOf:Str->Option NameKind}{x:Str}{v:Value}:∀{P:List Str} {vs:List Value} {i:Nat} {m:Str->Option Value},P.Nodup->P[i]? = some x->vs[i]? = some v->kindOf x=some .local →
  bindL kindOf (P.zip vs) m x=some v
 |[],_,_,_,_,h,_,_=>by simp at h
 |_::_,[],_,_,_,_,h,_=>by simp at h
 |p::P,w::vs,0,m,nd,h1,h2,hk=>by simp at h1 h2;subst h1;subst h2;show bindL kindOf ((p,w)::P.zip vs) m p=_;unfold bindL;rw[GG fun v hv=>(Vl.mp nd).1 (of_mem_zip hv).1,Tt hk];simp
 |p::P,w::vs,i+1,m,nd,h1,h2,hk=>by show bindL kindOf ((p,w)::P.zip vs) m x=_;unfold bindL;exact GD (i:=i) (Vl.mp nd).2 (by simpa using h1) (by simpa using h2) hk
theorem GC {kindOf:Str->Option NameKind}{x:Str}{v:Value}:∀{P:List Str} {vs:List Value} {i:Nat} {m:Str->Option Value},P.Nodup->P[i]? = some x->vs[i]? = some v->kindOf x≠some .local →
  bindC kindOf (P.zip vs) m x=some v
 |[],_,_,_,_,h,_,_=>by simp at h
 |_::_,[],_,_,_,_,h,_=>by simp at h
 |p::P,w::vs,0,m,nd,h1,h2,hk=>by simp at h1 h2;subst h1;subst h2;show bindC kindOf ((p,w)::P.zip vs) m p=_;unfold bindC;rw[GF fun v hv=>(Vl.mp nd).1 (of_mem_zip hv).1,Tp hk];simp
 |p::P,w::vs,i+1,m,nd,h1,h2,hk=>by show bindC kindOf ((p,w)::P.zip vs) m x=_;unfold bindC;exact GC (i:=i) (Vl.mp nd).2 (by simpa using h1) (by simpa using h2) hk
noncomputable def gh (N:List Str)(vs:List V):St:=vs.map some++List.replicate (N.length-vs.length) none
noncomputable def m4 (CX:lU)(P:Program)(w:World)(K:W.Frag)(mg:Str->Option Value)(base:Heap)(N:List Str)(aJ:Str)(scope:Scope)(f:Addr)(cd:Value)(A:Around)(outer:List Env)(s:Shared)(H:Hp)(E:XK):Cx where
 prog:=P
 w:=w
 K:=K
 mg:=mg
 base:=base
 A:=A.deeper (envOfC aJ scope s.heap.objs.size f cd)
 N:=N
 s₀:=s
 H₀:=H
 env:=envOfC aJ scope s.heap.objs.size f cd
 outer:=outer
 stack:=envOfC aJ scope s.heap.objs.size f cd::outer
 ex:=[]
 calm:=true
 fn:=fun _=>true
 pn:=[]
 xe:=fun e s'=>wpAny (model P w) (A.deeper (envOfC aJ scope s.heap.objs.size f cd)) (leaving (envOfC aJ scope s.heap.objs.size f cd) e) (fun _ va=>CX outer H s E e va) (fun e' va=>CX outer H s E e' va) s'
theorem F6 {sc:Scope}{n:Nat}(h:sc.names.lookup x=some .cell):∃c,(cellsFrom n sc.names []).lookup x=some c:=by have q:=PySem.W.cellsFrom_some sc.names n [] (.inl h);exact Option.isSome_iff_exists.mp q
theorem Qo {N:List Str}{f:Addr}{cd:Value}{A:Around}{outer:List Env}{s s1:Shared}{E:XK}
  (S:bo N ps scope) (hd:A.handled=none) (e0:ky P w K mg base A outer s H) (hl:vs.length=ps.length) (r:Vals vs us)
  (x:InCallC s s.heap.objs.size (bindL (envOfC aJ scope s.heap.objs.size f cd).kindOf (ps.zip us) fun _=>none) (cellsFrom (s.heap.objs.size+1) scope.names []) (bindC (envOfC aJ scope s.heap.objs.size f cd).kindOf (ps.zip us) fun _=>none) s1):
  Inv (m4 CX P w K mg base N aJ scope f cd A outer s H E) [] (gh N vs) H s1:=by
 have bA:ps.length<=N.length:=by have:=UP List.length S.pre;rw[T9] at this;lia
 obtain⟨h1,tk,rfl,hk⟩:=x.done;have fN:∀b:Addr,b∉(m4 CX P w K mg base N aJ scope f cd A outer s H E).ex:=fun b z=>absurd (show b∈([]:List Addr) from z) (by simp)
 refine⟨⟨e0.mod,S.kind,rfl,rfl,Tf _,fun y z c h1 h2=>?_,fun y hy=>?_,fun y c _ h=>?_,fun _=>hd,Around.frames_deeper e0.frames,.inr ⟨rfl,rfl⟩,fun b z=>absurd z (fN b),e0.bs,e0.bsz,fun b _ _=>fN b,fun b z=>absurd z (fN b),e0.funs,e0.frf⟩,
  rfl,e0.bare,Un.kept hk,⟨_,x.toInCall.ns,fun i y v h1 h2 h3=>?_⟩,fun y c h=>⟨_,x.cell y c h⟩,e0.hok.fresh (Tf _),fun y c h=>?_,fun p hp=>absurd (show p∈([]:List (Addr×Obj)) from hp) (by simp),e0.hok.kept hk,?_⟩
 ·exact name_of_addr x.apart (Vf h1) (Vf h2)
 ·have hy:scope.names.lookup y=some .cell∨scope.names.lookup y=some .free:=hy
  rcases hy with hy|hy
  ·exact F6 hy
  ·exact absurd rfl (S.nofree _ (Vf hy))
 ·exact Nat.le_of_lt (x.above y c (Vf h))
 ·have hi:i<vs.length:=by
   unfold gh at h2
   by_cases hi:i<vs.length
   ·exact hi
   ·rw[TH (by simpa using hi)] at h2
    rw[List.getElem?_replicate] at h2
    split at h2 <;> cases h2
  have ha:vs[i]? = some v:=by
   unfold gh at h2;rw[TR (by simpa using hi),Ui] at h2
   cases e:vs[i]? with
   |none=>rw[e] at h2;injection h2
   |some a=>rw[e] at h2;cases h2;rfl
  obtain⟨u,hu,rv⟩:=r.get ha;have hp:ps[i]? = some y:=by rw[<- S.pre,List.getElem?_take_of_lt (by lia)];exact h1
  have Br:ps.Nodup:=by rw[<- S.pre];exact S.nd.sublist (List.take_sublist _ _)
  refine⟨u,rv,?_⟩;rcases S.par y (T4 hp) with k|k
  ·exact .inl ⟨k,GD Br hp hu k⟩
  ·obtain⟨c,e⟩:=F6 (n:=s.heap.objs.size+1) k;refine .inr ⟨.inl k,c,e,?_⟩;have q:=x.cell y c e;rw[GC Br hp hu (by show scope.names.lookup y≠_;rw[k];decide)] at q;exact q
 ·exact e0.hok.fresh (Nat.le_of_lt (x.above y c (Vf h)))
 ·unfold gh;show _=N.length;rw[Tg,Ta,List.length_replicate];lia
theorem Kc {k:Nat}{f:Addr}{name:Str}{params:Arguments}{body:List Stmt}{dV kV fw pm cj ct oc:Value}{an od:Option Addr}
  {kK:Array (Option Value)} {N ps:List Str} {sp:Sp} (lk:K.lookup f=some ⟨oc,od,.func (PySem.W.fnOf name aJ params body scope dV kV fw pm an cj ct),kK⟩) (iz:PySem.W.codeIn K cj aJ=true) (S:bo N ps scope)
  (len:∀vs H Q E,sp vs H Q E->vs.length=ps.length)
  (jc:∀(A:Around) (outer:List Env) (s:Shared) (H:Hp) (vs:List V) (Q:VK) (E:XK),Room k (A.deeper (envOfC aJ scope s.heap.objs.size f cj))->sp vs H Q E →
   ∃t,PSs (m4 CX P w K mg base N aJ scope f cj A outer s H E) body t/\t { nx:=fun _ H'=>Q .non H',rt:=Q } (gh N vs) H):
  FnOk P w K mg base CX (k+1) f (PySem.W.fnOf name aJ params body scope dV kV fw pm an cj ct) ps sp:=by
 refine⟨len,fun A outer s H args us vs Q E hr e0 hb r hsp=>?_⟩;have hl:=len _ _ _ _ hsp;have KX:K.In s.heap:=e0.mod.kin.keeps fun b o e=>(e0.bs b o e).1;have Im:s.heap.NoLimit:=e0.mod.nolimit.keeps fun b o e=>(e0.bs b o e).1
 have hkind:∀y∈ps.zip us,scope.names.lookup y.1=some .local∨(scope.names.lookup y.1=some .cell/\((cellsFrom (s.heap.objs.size+1) scope.names []).lookup y.1).isSome=true):=fun⟨n,v⟩ hy=>by
  rcases S.par n (of_mem_zip hy).1 with q|q
  ·exact .inl q
  ·exact .inr ⟨q,PySem.W.cellsFrom_some _ _ _ (.inl q)⟩
 refine codeAny_call_function hr.depth (KX _ _ lk) rfl S.co S.gen rfl (PySem.W.codeRec_of KX iz) (hb _ _ _ _ ?_);refine wpAny_newFunctionEnv_cells S.kind hkind fun env he s1 x=>?_;subst he;refine⟨Im.keeps x.toInCall.keep,codeAny_func ?_⟩;obtain⟨t,ht,hq⟩:=jc A outer s H vs Q E (hr.deeper _) hsp;have I:Inv (m4 CX P w K mg base N aJ scope f cj A outer s H E) [] (gh N vs) H s1:=Qo S hr.hd e0 hl r x;refine Uz (ht [] s1 (gh N vs) H _ I hq) (fun fl s' hs=>?_) fun e s' hs=>hs
 have fin:∀{σ':St} {H':Hp} {v:V} {u:Value},Inv (m4 CX P w K mg base N aJ scope f cj A outer s H E) [] σ' H' s'->RelV v u->Q v H'->CE outer P w H s Q u s':=
  fun {σ' H' v u} J rv q=>⟨v,H',J.os,J.bare,J.base,J.hok,rv,q⟩
 cases fl with
 |ret u=>obtain⟨v,σ',H',J,rv,q⟩:=hs;exact fin J rv q
 |next=>obtain⟨σ',H',J,q⟩:=hs;exact fin (v:=V.non) (u:=Value.none) J rfl q
 |brk=>obtain⟨_,_,_,q⟩:=hs;exact False.elim q
 |cont=>obtain⟨_,_,_,q⟩:=hs;exact False.elim q
section
variable {pos:Pos}{t:TA}{r:List V->Hp->VK->Prop}
def u5 (r:List V->Hp->VK->Prop)(t:TA):TE:=fun σ H Q=>t σ H fun vs H1=>r vs H1 Q
theorem rq (hc:gH X (.builtin id) r)(hg:Gl X x)(hm:X.mg x=none)(hv:bootBuiltins x=some (.builtin id))(ha:PA X (e::es) t)(hn:x≠"__name__":=by decide)(qi:(x==("__debug__":Str))=false:=by decide)
  (he:starEach (e::es) X.env=(false,eval e X.env)::starEach es X.env:=by rfl) (bA:(backTo pos (starEach es X.env)).any (·.1)=false:=by rfl):PE X (.Call (.Name x p) (e::es) [] pos) (u5 r t):=by
 intro aa s σ H Q I h;refine UY (lK I hg hm hv ?_ hn qi);exact PyProof.Rows.callWith_builtin1 (ay (ha pos aa s σ H _ I h) fun us s1 ⟨vs,H1,I1,r1,q1⟩=>hc aa s1 σ H1 vs us Q I1 r1 q1) he bA
theorem rD (hc:gH X (.type T) r)(hg:Gl X x)(hm:X.mg x=none)(hv:bootBuiltins x=some (.type T))(ha:PA X (e::es) t)(hn:x≠"__name__":=by decide)(qi:(x==("__debug__":Str))=false:=by decide)
  (he:starEach (e::es) X.env=(false,eval e X.env)::starEach es X.env:=by rfl) (bA:(backTo pos (starEach es X.env)).any (·.1)=false:=by rfl):PE X (.Call (.Name x p) (e::es) [] pos) (u5 r t):=by
 intro aa s σ H Q I h;refine UY (lK I hg hm hv ?_ hn qi);exact Us (ay (ha pos aa s σ H _ I h) fun us s1 ⟨vs,H1,I1,r1,q1⟩=>hc aa s1 σ H1 vs us Q I1 r1 q1) he bA
end
end L2
namespace HT
open PySem PyProof.Rows
variable {w:World}{lo hi:Option Int}{prog:Program}{sl:Addr}{items:Array Value}
section
variable {A:Around}{E:am}{s:Shared}
theorem cat_tup {t b:Addr}{vs ws:List Value}{Q:am}(ht:IsTup s.heap t vs.toArray)(hb:IsTup s.heap b ws.toArray)(hv:vs ≠ [])
  (h1:ws = []->Q (.ref t) s) (h2:ws ≠ []->Q (.ref s.heap.objs.size) { s with heap:=s.heap.push { cls:=.type "tuple",data:=.seq (vs++ws).toArray } })
  (hsz:vs.length+ws.length<=sizeLine):wpAny (model prog w) A (binaryOp .Add (.ref t) (.ref b)) Q E s:=by
 obtain⟨⟨cls,dd,data,sl⟩,ho,hc,n,hd⟩:=id ht;obtain⟨⟨cls2,jg,data2,kD⟩,ho2,hc2,n2,hd2⟩:=id hb;simp only at hc hd hc2 hd2;subst hc hd hc2 hd2;have e:vs.toArray++ws.toArray=(vs++ws).toArray:=by simp
 by_cases hw:ws = []
 ·exact concat_meets ⟨_,ho,rfl⟩ ⟨_,ho2,rfl⟩ noFill_tuple_add seq_tuple_add PySem.F.slot_tuple_add PySem.F.entry_tuple_add (PySem.F.args_tuple_add_2 _ _)
   (tuple_addW1 t b vs.toArray ws.toArray n n2 dd jg sl kD (by simpa using hv) (by simp [hw])) ⟨ho,ho2,h1 hw⟩
 ·refine concat_meets ⟨_,ho,rfl⟩ ⟨_,ho2,rfl⟩ noFill_tuple_add seq_tuple_add PySem.F.slot_tuple_add PySem.F.entry_tuple_add (PySem.F.args_tuple_add_2 _ _)
   (tuple_addW2 t b vs.toArray ws.toArray n n2 dd jg sl kD (by simpa using hv) (by simpa using hw) (by rw[Ti,Ti];exact hsz)) ⟨ho,ho2,?_⟩
  rw[e];exact h2 hw
noncomputable def sIx (n d:Nat):Option Int->Nat
 |none=>d
 |some v=>if v<0 then (v+(n:Int)).toNat else min v.toNat n
theorem sIx_nat (n d k:Nat):sIx n d (some (k:Int))=min k n:=by show(if (k:Int)<0 then ((k:Int)+(n:Int)).toNat else min (k:Int).toNat n)=min k n;rw[Tp (by lia),Int.toNat_natCast]
theorem Lp (n d:Nat)(hd:d<=n)(o:Option Int):sIx n d o<=n:=by
 cases o with
 |none=>exact hd
 |some v=>
  show(if v<0 then (v+(n:Int)).toNat else min v.toNat n)<=n
  by_cases hv:v<0
  ·rw[Tt hv];lia
  ·rw[Tp hv];exact Nat.min_le_right _ _
theorem Fe (v:Int)(n d:Nat):(if v<0 then max (v+(n:Int)) 0 else min v (n:Int))=((sIx n d (some v):Nat):Int):=by
 show(if v<0 then max (v+(n:Int)) 0 else min v (n:Int))=(((if v<0 then (v+(n:Int)).toNat else min v.toNat n):Nat):Int)
 by_cases hv:v<0
 ·simp only [Tt hv];lia
 ·simp only [Tp hv];lia
theorem Rb (lo hi:Option Int)(n:Nat):Builtin.Slice.sliceAdjust lo hi 1 (n:Int)=(((sIx n 0 lo:Nat):Int),((sIx n n hi:Nat):Int)):=by
 have h1:¬ ((1:Int)<0):=by lia
 unfold Builtin.Slice.sliceAdjust;simp only [h1,UU];refine Prod.ext ?_ ?_
 ·cases lo with
  |none=>rfl
  |some v=>exact Fe v n 0
 ·cases hi with
  |none=>rfl
  |some v=>exact Fe v n n
theorem Ra (i j:Nat):Builtin.Slice.slicePlaces (i:Int) (j:Int) 1=j-i:=by
 unfold Builtin.Slice.slicePlaces;have h1:(1:Int)>0:=by lia
 simp only [h1,Vi,Int.ediv_one]
 split <;> lia
theorem Ho {v:Value}{o:Option Int}{Q:Option Int->Shared->Prop}(p:IsPart v o)(h:Q o s):wpAny (model prog w) A (Builtin.Slice.slicePartIndex v) Q E s:=by
 cases p with
 |none=>exact slicePart_none h
 |int i t=>exact slicePart_int h
theorem HM {vl vu:Value}{n:Nat}{Q:Int×Int×Nat->Shared->Prop}(hs:s.heap.IsSliceOf sl vl vu .none)(pl:IsPart vl lo)(pu:IsPart vu hi)
  (h:Q (((sIx n 0 lo:Nat):Int),1,sIx n n hi-sIx n 0 lo) s):wpAny (model prog w) A (Builtin.Slice.sliceApplied (.ref sl) (pure (n:Int))) Q E s:=by
 obtain⟨os,hos,cR,hds⟩:=id hs;unfold Builtin.Slice.sliceApplied Builtin.Slice.sliceFields;refine S6 (S6 (TV hos hds (x:=vl) rfl (S6 (TV hos hds (x:=vu) rfl (S6 (TV hos hds (x:=.none) rfl (Tj ?_)))))));refine S6 (slicePart_none ?_);show wpAny _ _ (if ((1:Int)==0)=true then _ else _) _ _ s;rw[Tp (by decide)];refine S6 (Ho pl (S6 (Ho pu (S6 (Tj ?_)))));show wpAny _ _ (match Builtin.Slice.sliceAdjust lo hi 1 (n:Int) with | (lo,hi)=>pure (lo,(1:Int),Builtin.Slice.slicePlaces lo hi 1)) _ _ s;rw[Rb lo hi n];show wpAny _ _ (pure (((sIx n 0 lo:Nat):Int),(1:Int),Builtin.Slice.slicePlaces ((sIx n 0 lo:Nat):Int) ((sIx n n hi:Nat):Int) 1)) _ _ s;rw[Ra];exact Tj h
theorem Pa (xs:Array Value)(i k:Nat):((List.range k).filterMap fun(m:Nat)=>xs[((i:Int)+(m:Int)*1).toNat]?).toArray=((xs.toList.drop i).take k).toArray:=by
 have e:(fun(m:Nat)=>xs[((i:Int)+(m:Int)*1).toNat]?)=fun m=>xs[i+m]? := by
  funext m
  have:((i:Int)+(m:Int)*1).toNat=i+m:=by lia
  rw[this]
 rw[e];have:=pick_run xs i k;rw[List.filterMap_map] at this;have e2:((fun x=>xs[x]?)∘fun x=>i+x)=fun m=>xs[i+m]? := rfl;rw[e2] at this;rw[this]
theorem getItem_tuple_cut {t:Addr}{vl vu:Value}{Q:am}(ht:IsTup s.heap t items)(hs:s.heap.IsSliceOf sl vl vu .none)(pl:IsPart vl lo)(pu:IsPart vu hi)
  (hw:¬ (sIx items.size 0 lo=0/\sIx items.size items.size hi=items.size))
  (h:Q (.ref s.heap.objs.size) { s with heap:=s.heap.push { cls:=.type "tuple",data:=.seq ((items.toList.drop (sIx items.size 0 lo)).take (sIx items.size items.size hi-sIx items.size 0 lo)).toArray } })
  (hsz:items.size<=sizeLine):wpAny (model prog w) A (getItem (.ref t) (.ref sl)) Q E s:=by
 have cF:sizeOk (.seq ((items.toList.drop (sIx items.size 0 lo)).take (sIx items.size items.size hi-sIx items.size 0 lo)).toArray):=by show((items.toList.drop (sIx items.size 0 lo)).take (sIx items.size items.size hi-sIx items.size 0 lo)).toArray.size<=sizeLine;rw[Ti,T9,UN,Array.length_toList];lia
 have hj:sIx items.size items.size hi<=items.size:=Lp _ _ (Tf _) hi;obtain⟨os,hos,cR,hds⟩:=id hs;have ql:s.TypeIs (.ref sl) "slice":=⟨os,hos,cR⟩;unfold getItem
 try with_reducible refine UR ?_
 first|refine S6 (Tj ?_)|skip
 refine S6 (wpAny_sequenceKey ht.typeIs (by decide) ?_)
 refine S6 (T6 (name:=Str.ofString "__getitem__") ht.typeIs Uc
  (Ud Uc ht.typeIs entry_tuple_getitem ?_ (args_tuple_getitem _ _)))
 show wpAny _ _ (Builtin.Tuple.tupleItemsOf (.ref t) >>= _) _ _ s;refine S6 (tupleItemsOf_ ht ?_);refine S6 (wpAny_typeOf ql ?_);rw[Tt (by decide)];refine S6 (HM hs pl pu ?_);have fj:¬ ((((sIx items.size 0 lo:Nat):Int)==0&&(1:Int)==1&&(sIx items.size items.size hi-sIx items.size 0 lo)==items.size)=true):=by intro q;rw[S5,S5] at q;have q1:((sIx items.size 0 lo:Nat):Int)=0:=eq_of_beq q.1.1;have q2:sIx items.size items.size hi-sIx items.size 0 lo=items.size:=eq_of_beq q.2;exact hw ⟨by lia,by lia⟩
 show wpAny _ _ (if (((sIx items.size 0 lo:Nat):Int)==0&&(1:Int)==1&&(sIx items.size items.size hi-sIx items.size 0 lo)==items.size)=true then _ else _) _ _ s;rw[Tp fj,Pa]
 first
  |exact S6 (m:=Builtin.Tuple.tupleExact _) (TZ (Tj ⟨_,rfl,Tj h⟩) cF)
  |exact S6 (m:=Builtin.Tuple.tupleExact _) (TZ (S6 (Tj (Tj ⟨_,rfl,Tj h⟩))) cF)
  |exact S6 (S6 (m:=Builtin.Tuple.tupleExact _) (TZ (Tj (Tj ⟨_,rfl,Tj h⟩)) cF))
  |exact S6 (S6 (m:=Builtin.Tuple.tupleExact _) (TZ (Tj ⟨_,rfl,Tj h⟩) cF))
end
end HT
namespace L2
open PySem PySem.Spec PyProof.Rows
abbrev TO:=St->Hp->(Option Int->Hp->Prop)->Prop
def PO (X:Cx)(e:Option Expr)(t:TO):Prop:=
 ∀(aa:List (Addr×Obj)) (s:Shared) (σ:St) (H:Hp) (Q:Option Int->Hp->Prop),Inv X aa σ H s->t σ H Q →
  wpAny (model X.prog X.w) X.A (evalPart e X.env) (fun u s'=>∃o H',Inv X aa σ H' s'/\IsPart u o/\Q o H') X.xe s
def jX:TO:=fun _ H Q=>Q none H
def Kb (t:TE):TO:=fun σ H Q=>t σ H fun x H1=>∃i,x = .int i/\Q (some i) H1
variable {xs:List V}{us af:List Value}{u:Value}{H H':Hp}{a l:Addr}{P prog:Program}{w:World}{h h':Heap}{α κ:Type}{e:Expr}{X:Cx}{aa:List (Addr×Obj)}{σ:St}{t' j:Nat}{y:V}{te:TE}{es:List Expr}{bQ bV p2 aK:Pos}{r r':R2}{ae:List (aw×V)}{id T:String}{ns:List Int}{env:Env}
theorem Q9:∀{us:List Value},Vals (ns.map V.int) us->IntsAre us ns:=by
 induction ns with
 |nil=>intro us r;rw[map_nil] at r;cases r;exact .nil
 |cons n ns ih=>
  intro us r;rw[TX] at r
  cases r with
  |cons r1 r2=>obtain⟨t,e⟩:=r1;subst e;exact .cons n t (ih r2)
section
variable {lo hi:Option Expr}{tl th:TO}{pos:Pos}
theorem po_none:PO X none jX:=by intro aa s σ H Q I h;rw[evalPart_none];exact Tj ⟨none,H,I,.none,h⟩
theorem NG (h:PE X e te):PO X (some e) (Kb te):=by intro aa s σ H Q I hw;rw[evalPart_some];refine ay (h aa s σ H _ I hw) fun u s1 ⟨x,H1,I1,r1,q1⟩=>?_;obtain⟨i,rfl,q⟩:=q1;obtain⟨t,rfl⟩:=r1;exact⟨some i,H1,I1,.int i t,q⟩
def SlR (X:Cx)(r:V->Option Int->Option Int->Hp->VK->Prop):Prop:=
 ∀(aa:List (Addr×Obj)) (s:Shared) (σ:St) (H:Hp) (x:V) (v vl vu:Value) (lo hi:Option Int) (sl:Addr) (Q:VK),Inv X aa σ H s->RelV x v->s.heap.IsSliceOf sl vl vu .none->IsPart vl lo->IsPart vu hi->r x lo hi H Q →
  ∃T id,typeLookup (.type T) "__getitem__"=pure (some (.builtin id))/\s.TypeIs v T/\wpAny (model X.prog X.w) X.A (getItem v (.ref sl)) (EP X aa σ Q) X.xe s
theorem SlR.or {r r':V->Option Int->Option Int->Hp->VK->Prop}(h:SlR X r)(h':SlR X r'):SlR X (fun x lo hi H Q=>r x lo hi H Q∨r' x lo hi H Q):=by
 intro aa s σ H x v vl vu lo hi sl Q I rx hs pl pu q;rcases q with q|q
 ·exact h aa s σ H x v vl vu lo hi sl Q I rx hs pl pu q
 ·exact h' aa s σ H x v vl vu lo hi sl Q I rx hs pl pu q
def Bg (r:V->Option Int->Option Int->Hp->VK->Prop)(te:TE)(tl th:TO):TE:=fun σ H Q=>te σ H fun x H1=>tl σ H1 fun l H2=>th σ H2 fun u H3=>r x l u H3 Q
theorem O9 {r:V->Option Int->Option Int->Hp->VK->Prop}(hr:SlR X r)(he:PE X e te)(hl:PO X lo tl)(hu:PO X hi th):PE X (.Subscript e (.Slice lo hi none p2) pos) (Bg r te tl th):=by intro aa s σ H Q I h;refine Subscript_ (ay (he aa s σ H _ I h) fun v s1 ⟨x,H1,I1,r1,q1⟩=>?_);refine wpAny_Slice (ay (hl aa s1 σ H1 _ I1 q1) fun vl s2 ⟨l,H2,I2,pl,q2⟩=>ay (hu aa s2 σ H2 _ I2 q2) fun vu s3 ⟨u,H3,I3,pu,q3⟩=>?_);rw[evalPart_none];refine Tj ?_;have I4:Inv X aa σ H3 { s3 with heap:=s3.heap.push { cls:=.type "slice",data:=.fields #[vl,vu,.none] } }:=I3.kept (t':=s3.toks) fun b ob q=>S7 _ q;obtain⟨T,id,hT,ht,hg⟩:=hr aa { s3 with heap:=s3.heap.push { cls:=.type "slice",data:=.fields #[vl,vu,.none] } } σ H3 x v vl vu l u s3.heap.objs.size Q I4 r1 (Heap.IsSliceOf.new ..) pl pu q3;show wpAny (model X.prog X.w) X.A (subscriptTail e (.Slice lo hi none p2) v (.ref s3.heap.objs.size)) (EP X aa σ Q) X.xe { s3 with heap:=s3.heap.push { cls:=.type "slice",data:=.fields #[vl,vu,.none] } };exact tail_any (ops:=[.ref s3.heap.objs.size,v]) ht hT hg (by with_unfolding_all rfl)
def jo (xs:List V)(lo hi:Option Int):List V:=(xs.drop (HT.sIx xs.length 0 lo)).take (HT.sIx xs.length xs.length hi-HT.sIx xs.length 0 lo)
theorem HA (xs:List V)(lo hi:Option Int):(jo xs lo hi).length<=xs.length:=by unfold jo;rw[T9,UN];lia
def JN (K:W.Frag):V->Option Int->Option Int->Hp->VK->Prop:=fun x lo hi H Q=>∃a xs,x = .ref a/\SqT K H a xs ∧
 ¬ (HT.sIx xs.length 0 lo=0/\HT.sIx xs.length xs.length hi=xs.length)/\∀p,H p=none->Q (.ref p) (ax H p (.tup (jo xs lo hi)))
theorem Ln:SlR X (JN X.K):=by
 intro aa s σ H x v vl vu lo hi sl Q I rx hs pl pu h;obtain⟨a,xs,rfl,hx,hw,q⟩:=h;cases rx;obtain⟨af,r,ht,hz⟩:=I.tuple hx;have hlen:af.toArray.size=xs.length:=by rw[Ti];exact r.length.symm
 refine⟨"tuple",_,PyProof.Rows.slot_tuple_getitem.lookup,ht.typeIs,?_⟩;refine HT.getItem_tuple_cut ht hs pl pu (by rw[hlen];exact hw) ?_ (by rw[hlen];exact hz);rw[hlen];refine⟨.ref s.heap.objs.size,_,I.laid (t':=s.toks) (o:=.tup (jo xs lo hi)) (fun b ob q=>S7 _ q) (Tf _) ?_,rfl,q _ (I.hok.fresh (Tf _))⟩;exact⟨Ue (HA xs lo hi) hz,_,(r.drop (HT.sIx xs.length 0 lo)).take (HT.sIx xs.length xs.length hi-HT.sIx xs.length 0 lo),IsTupN.new _ _⟩
def Ka (K:W.Frag):R2:=fun x y H Q=>∃a b xs ys,x = .ref a/\y = .ref b/\SqT K H a xs/\SqT K H b ys/\xs ≠ []/\xs.length+ys.length<=sizeLine ∧
 (ys = []->Q (.ref a) H)/\(ys ≠ []->∀p,H p=none->Q (.ref p) (ax H p (.tup (xs++ys))))
theorem Vals.nil_iff (r:Vals xs us):us = []↔xs = []:=by
 cases r with
 |nil=>simp
 |cons _ _=>simp
theorem NF:OpR X (binaryOp .Add) (Ka X.K):=by intro aa s σ H x y v u Q I rx ry h;obtain⟨a,b,xs,ys,rfl,rfl,ha,hb,hx,hz,q1,q2⟩:=h;cases rx;cases ry;obtain⟨af,r1,p1,_⟩:=I.tuple ha;obtain⟨aA,r2,p2,_⟩:=I.tuple hb;refine HT.cat_tup p1 p2 (fun z=>hx (r1.nil_iff.mp z)) (fun z=>⟨.ref a,H,I,rfl,q1 (r2.nil_iff.mp z)⟩) (fun z=>?_) (by rw[<- r1.length,<- r2.length];exact hz);refine⟨.ref s.heap.objs.size,_,I.laid (t':=s.toks) (o:=.tup (xs++ys)) (fun b ob q=>S7 _ q) (Tf _) ?_,rfl,q2 (fun w=>z (r2.nil_iff.mpr w)) _ (I.hok.fresh (Tf _))⟩;exact⟨by rw[Tg];exact hz,_,r1.append r2,IsTupN.new _ _⟩
end
noncomputable def gc (n:Nat)(i:Int):Option Nat:=if 0<=i then (if i<n then some i.toNat else none) else if -(n:Int)<=i then some (i+n).toNat else none
def atI {α : Type}(xs:List α)(i:Int):Option α := (gc xs.length i).bind fun j=>xs[j]?
theorem Fc {n:Nat}{i:Int}(h:gc n i=some j):seqIndex? i n=some j/\j<n /\ -(n:Int)<=i/\i<n:=by
 unfold gc at h
 by_cases h0:0<=i
 ·rw[Tt h0] at h
  by_cases h1:i<n
  ·rw[Tt h1] at h;have e:i.toNat=j:=Tw h;exact⟨by rw[seqIndex_of h0 h1,e],by lia,by lia,h1⟩
  ·rw[Tp h1] at h;injection h
 ·rw[Tp h0] at h
  by_cases h1 : -(n:Int)<=i
  ·rw[Tt h1] at h;have e:(i+n).toNat=j:=Tw h;exact⟨by rw[seqIndex_neg (by lia) h1,e],by lia,h1,by lia⟩
  ·rw[Tp h1] at h;injection h
theorem y0 {xs:List α}{i:Int}{v:α}(h:atI xs i=some v):∃j,seqIndex? i xs.length=some j/\xs[j]? = some v/\j<xs.length /\ -(xs.length:Int)<=i/\i<xs.length:=by
 unfold atI at h
 cases e:gc xs.length i with
 |none=>rw[e] at h;injection h
 |some j=>rw[e] at h;obtain⟨h1,h2,h3,h4⟩:=Fc e;exact⟨j,h1,h,h2,h3,h4⟩
theorem Fb {xs:List α}{v:α}(h:xs[j]? = some v):atI xs (j:Int)=some v:=by
 have hj:j<xs.length:=(Tn.mp h).1;have e:gc xs.length (j:Int)=some j:=by unfold gc;rw[Tt (by lia),Tt (by lia)];simp
 unfold atI;rw[e];exact h
theorem O8 (xs:List α)(v : α):atI (xs ++ [v]) (-1)=some v:=by
 have hl:(xs ++ [v]).length=xs.length+1:=by simp
 have e:gc (xs ++ [v]).length (-1)=some xs.length:=by
  unfold gc;rw[hl,Tp (by decide),Tt (by lia)]
  congr 1
  lia
 unfold atI;rw[e];show(xs ++ [v])[xs.length]? = some v;simp
def ND (b:Expr):Prop:=∀o i,subscripted b false o i=operate [o,i] (getItem o i)
def IxR (X:Cx)(r:R2):Prop:=
 ∀(value slice:Expr) (aa:List (Addr×Obj)) (s:Shared) (σ:St) (H:Hp) (x y:V) (v u:Value) (Q:VK),Inv X aa σ H s->RelV x v->RelV y u->r x y H Q →
  subscripted slice false v u=operate [v,u] (getItem v u)->wpAny (model X.prog X.w) X.A (subscriptTail value slice v u) (EP X aa σ Q) X.xe s
def rK (X:Cx)(id:String)(r:V->List V->Hp->VK->Prop):Prop:=
 ∀(aa:List (Addr×Obj)) (s:Shared) (σ:St) (H:Hp) (x:V) (xs:List V) (v:Value) (us:List Value) (Q:VK),Inv X aa σ H s->RelV x v->Vals xs us->r x xs H Q →
  wpAny (model X.prog X.w) X.A (call (.builtin id) (v::us)) (EP X aa σ Q) X.xe s
section
variable {a b:Expr}{ta tb:TE}{pos:Pos}
theorem IxR.or (h:IxR X r)(h':IxR X r'):IxR X (fun x y H Q=>r x y H Q∨r' x y H Q):=by
 intro value slice aa s σ H x y v u Q I rx ry q hs;rcases q with q|q
 ·exact h value slice aa s σ H x y v u Q I rx ry q hs
 ·exact h' value slice aa s σ H x y v u Q I rx ry q hs
theorem ng (hr:IxR X r)(ha:PE X a ta)(hb:PE X b tb)(hs:ND b):PE X (.Subscript a b pos) (pf r ta tb):=by intro aa s σ H Q I h;exact Subscript_ (xF ha hb I h fun v u s2 x y H2 I2 rx ry q=>hr a b aa s2 σ H2 x y v u Q I2 rx ry q (hs _ _))
def CJ (K:W.Frag):R2:=fun x y H Q=>∃p xs i v,x = .ref p/\y = .int i/\SqL K H p xs/\atI xs i=some v/\Q v H
def CI (K:W.Frag):R2:=fun x y H Q=>∃p xs i v,x = .ref p/\y = .int i/\SqT K H p xs/\atI xs i=some v/\Q v H
def pF:R2:=fun x y H Q=>∃z i c,x = .str z/\y = .int i/\z.length<=sizeLine/\atI z.cps.toList i=some c/\Q (.str ⟨#[c]⟩) H
theorem ix_list:IxR X (CJ X.K):=by
 intro value slice aa s σ H x y v u Q I rx ry h hs;obtain⟨p,xs,i,z,rfl,rfl,hq,he,q⟩:=h;cases rx;obtain⟨t,rfl⟩:=ry;obtain⟨af,r,pl,hz⟩:=I.list hq;obtain⟨j,h1,h2,h3,h4,h5⟩:=y0 he;obtain⟨w,ew,gb⟩:=r.get h2;have hl:=r.length;have hn:=nu;have fin:EP X aa σ Q w s:=⟨z,H,I,gb,q⟩
 by_cases h0:0<=i
 ·have hj:i.toNat=j:=by
   rw[seqIndex_of h0 h5] at h1;exact Tw h1
  exact item_listR pl.isList h0 (by lia) (by rw[hj];simpa using ew) fin hs
 ·have hj:(i+(af.toArray.size:Int)).toNat=j:=by
   rw[seqIndex_neg (by lia) h4] at h1;rw[Ti,<- hl];exact Tw h1
  exact subscriptTail_builtinR (x:=w) pl.isList.typeIs slot_list_getitem.lookup
   (wpAny_getItem_list_neg (Q:=fun r s'=>r=w/\EP X aa σ Q r s') pl.isList (by lia) (by rw[Ti] <;> lia) (by lia) (by rw[hj];simpa using ew) ⟨rfl,fin⟩) hs
theorem ix_tup:IxR X (CI X.K):=by
 intro value slice aa s σ H x y v u Q I rx ry h hs;obtain⟨p,xs,i,z,rfl,rfl,hq,he,q⟩:=h;cases rx;obtain⟨t,rfl⟩:=ry;obtain⟨af,r,pl,hz⟩:=I.tuple hq;obtain⟨j,h1,h2,h3,h4,h5⟩:=y0 he;obtain⟨w,ew,gb⟩:=r.get h2;have hl:=r.length;have hn:=nu;have fin:EP X aa σ Q w s:=⟨z,H,I,gb,q⟩
 exact subscriptTail_builtinR (x:=w) pl.typeIs slot_tuple_getitem.lookup
  (getItem_tuple (j:=j) (Q:=fun r s'=>r=w/\EP X aa σ Q r s') pl (by lia) (by lia) (by rw[Ti,<- hl];exact h1) (by simpa using ew) ⟨rfl,fin⟩) hs
theorem Lm:IxR X pF:=by
 intro value slice aa s σ H x y v u Q I rx ry h hs;obtain⟨z,i,c,rfl,rfl,hz,he,q⟩:=h;obtain⟨t,rfl⟩:=rx;obtain⟨t',rfl⟩:=ry;obtain⟨j,h1,h2,h3,h4,h5⟩:=y0 he;have hl:z.cps.toList.length=z.length:=by simp [Str.length]
 rw[hl] at h1 h4 h5;have hn:=nu
 exact tail_any (typeIs_str s z t) slot_str_getitem.lookup (getItem_str (c:=c) (by
  have e1:decide (i < -(2 ^ 63:Int))=false:=UD (by lia);have e2:decide (i ≥ 2 ^ 63)=false:=UD (by lia)
  rw[e1,e2,Bool.or_false]) (by rw[h1];simpa using h2) ⟨.str ⟨#[c]⟩,H,I.tok _,⟨_,rfl⟩,q⟩) hs
def Bn (K:W.Frag):R2:=fun x y H Q=>CJ K x y H Q∨CI K x y H Q∨pF x y H Q
theorem Ll:IxR X (Bn X.K):=ix_list.or (ix_tup.or Lm)
theorem Q8 (af:List Value)(n j:Nat)(u:Value):Obj.mapSeq (·.setIfInBounds j u) { cls:=.type "list",data:=.seq af.toArray n }={ cls:=.type "list",data:=.seq (af.set j u).toArray n }:=by simp [Obj.mapSeq]
theorem Inv.lst {aa:List (Addr×Obj)}{σ:St}{H:Hp}{s:Shared}{p:Addr}{xs:List V}(I:Inv X aa σ H s)(h:H p=some (.lst xs)):
  ∃(af:List Value) (n:Nat),Vals xs af/\s.heap.get? p=some { cls:=.type "list",data:=.seq af.toArray n }/\xs.length<=sizeLine:=by
 obtain⟨z,af,n,r,e⟩:=I.hok p _ h;exact⟨af,n,r,e,z⟩
theorem Inv.lstUpd {s:Shared}{p:Addr}{ys:List V}{its':List Value}{n n':Nat}{f:Obj->Obj}(I:Inv X aa σ H s)(h:H p=some (.lst xs))
  (ho:s.heap.get? p=some { cls:=.type "list",data:=.seq af.toArray n }) (hf:f { cls:=.type "list",data:=.seq af.toArray n }={ cls:=.type "list",data:=.seq its'.toArray n' }) (r:Vals ys its') (hz:ys.length<=sizeLine) (t:Nat):
  Inv X aa σ (ax H p (.lst ys)) { s with heap:=s.heap.update p f,toks:=t }:=by
 have e:(s.heap.update p f).get? p=some { cls:=.type "list",data:=.seq its'.toArray n' }:=by rw[Uy f ho (by rw[hf] <;> rfl),hf]
 refine I.write (x:=p) (e:=p) (by rw[h];trivial) (.inl rfl) (fun b u hb q=>(Uw _ _ (Ne.symm hb)).trans q) ⟨_,e⟩ ?_;exact⟨hz,its',n',r,e⟩
def kE:V->V->V->Hp->(Hp->Prop)->Prop:=fun o i v H Q=>∃p xs k j,o = .ref p/\i = .int k/\H p=some (.lst xs)/\gc xs.length k=some j/\Q (ax H p (.lst (xs.set j v)))
theorem O7:CP X kE:=by
 intro aa s σ H o i v ov iv u Q I ro ri rv h;obtain⟨p,xs,k,j,rfl,rfl,hp,hj,q⟩:=h;cases ro;obtain⟨t,rfl⟩:=ri;obtain⟨af,n,r,ho,hz⟩:=I.lst hp;obtain⟨h1,h2,h3,h4⟩:=Fc hj;have hl:=r.length;have hn:=nu
 have I':Inv X aa σ (ax H p (.lst (xs.set j v))) { s with heap:=s.heap.update p (Obj.mapSeq (·.setIfInBounds j u)) }:=
  I.lstUpd hp ho (Q8 af n j u) (r.set rv j) (by rw[List.length_set];exact hz) s.toks
 by_cases h0:0<=k
 ·have hk:k.toNat=j:=by
   rw[seqIndex_of h0 h4] at h1;exact Tw h1
  exact PySem.W.ki_setAt ho h0 (by lia) (by rw[Ti,<- hl];exact h4) (by rw[hk];exact⟨_,I',q⟩)
 ·have hk:(k+(af.toArray.size:Int)).toNat=j:=by
   rw[seqIndex_neg (by lia) h3] at h1;rw[Ti,<- hl];exact Tw h1
  exact PySem.W.ki_setBack ho (by lia) (by rw[Ti,<- hl];exact h3) (by lia) (by rw[hk];exact⟨_,I',q⟩)
theorem Sa (lo hi:Option Int)(n:Nat):(sliceBounds lo hi none n).1=((HT.sIx n 0 lo:Nat):Int)/\(sliceBounds lo hi none n).2.1=((HT.sIx n n hi:Nat):Int)/\(sliceBounds lo hi none n).2.2=1:=by
 refine⟨?_,?_,rfl⟩
 ·cases lo with
  |none=>simp [sliceBounds,HT.sIx]
  |some i=>
   simp only [sliceBounds,HT.sIx,Option.getD_none,show(1:Int)>0 by decide,Vi]
   by_cases h:i<0
   ·simp only [h,Vi] <;> lia
   ·simp only [h,UU] <;> lia
 ·cases hi with
  |none=>simp [sliceBounds,HT.sIx]
  |some i=>
   simp only [sliceBounds,HT.sIx,Option.getD_none,show(1:Int)>0 by decide,Vi]
   by_cases h:i<0
   ·simp only [h,Vi] <;> lia
   ·simp only [h,UU] <;> lia
theorem Sr (af:List Value)(lo hi:Option Int):slicePick af.toArray lo hi none=((af.drop (HT.sIx af.length 0 lo)).take (HT.sIx af.length af.length hi-HT.sIx af.length 0 lo)).toArray:=by obtain⟨h1,h2,h3⟩:=Sa lo hi af.toArray.size;unfold slicePick;rw[h1,h2,h3];simp only [sliceRange_one,pick_run,Ti] <;> rfl
def CH (K:W.Frag):V->Option Int->Option Int->Hp->VK->Prop:=fun x lo hi H Q=>∃a xs,x = .ref a/\SqL K H a xs/\∀p,H p=none->Q (.ref p) (ax H p (.lst (jo xs lo hi)))
theorem sl_list:SlR X (CH X.K):=by intro aa s σ H x v vl vu lo hi sl Q I rx hs pl pu h;obtain⟨a,xs,rfl,hx,q⟩:=h;cases rx;obtain⟨af,r,ht,hz⟩:=I.list hx;have hlen:=r.length;refine⟨"list",_,slot_list_getitem.lookup,ht.isList.typeIs,?_⟩;refine wpAny_getItem_list_slice ht.isList hs pl pu .none (by simp) ?_ (by rw[Ti] <;> lia);rw[Sr,<- hlen];refine⟨.ref s.heap.objs.size,_,I.laid (t':=s.toks) (o:=.lst (jo xs lo hi)) (fun b ob q=>S7 _ q) (Tf _) ?_,rfl,q _ (I.hok.fresh (Tf _))⟩;exact⟨Ue (HA xs lo hi) hz,_,0,(r.drop (HT.sIx xs.length 0 lo)).take (HT.sIx xs.length xs.length hi-HT.sIx xs.length 0 lo),Tu _ rfl⟩
noncomputable def dz:V->Bool
 | .non=>true
 | .bl _=>true
 | .int _=>true
 | .str _=>true
 |_=>false
noncomputable def ft:V->V->Bool
 | .non,.non=>true
 | .bl a,.bl b=>a==b
 | .bl a,.int b=>(if a then 1 else 0)==b
 | .int a,.bl b=>a==(if b then 1 else 0)
 | .int a,.int b=>a==b
 | .str a,.str b=>a==b
 |_,_=>false
theorem nt {A:Around}{s:Shared}{x:V}{v:Value}(ry:RelV y u)(rx:RelV x v)(fy:dz y=true)(fx:dz x=true):SeqAt.EqAt A s u v (ft y x):=by
 cases y with
 |non=>
  cases ry
  cases x with
  |non=>cases rx;exact SeqAt.EqAt.same _
  |bl b=>cases rx;exact SeqAt.EqAt.none_bool b
  |int b=>obtain⟨t,rfl⟩:=rx;exact SeqAt.EqAt.none_int b t
  |str b=>obtain⟨t,rfl⟩:=rx;exact SeqAt.EqAt.none_str b t
  |_=>exact absurd (show false=true from fx) Tq
 |bl a=>
  cases ry
  cases x with
  |non=>cases rx;exact SeqAt.EqAt.bool_none a
  |bl b=>cases rx;exact SeqAt.EqAt.bool_bool a b
  |int b=>obtain⟨t,rfl⟩:=rx;exact SeqAt.EqAt.bool_int a b t
  |str b=>obtain⟨t,rfl⟩:=rx;exact SeqAt.EqAt.bool_str a b t
  |_=>exact absurd (show false=true from fx) Tq
 |int a=>
  obtain⟨t',rfl⟩:=ry
  cases x with
  |non=>cases rx;exact SeqAt.EqAt.int_none a t'
  |bl b=>cases rx;exact SeqAt.EqAt.int_bool a t' b
  |int b=>obtain⟨t,rfl⟩:=rx;exact SeqAt.EqAt.int_int a t' b t
  |str b=>obtain⟨t,rfl⟩:=rx;exact SeqAt.EqAt.int_str a t' b t
  |_=>exact absurd (show false=true from fx) Tq
 |str a=>
  obtain⟨t',rfl⟩:=ry
  cases x with
  |non=>cases rx;exact SeqAt.EqAt.str_none a t'
  |bl b=>cases rx;exact SeqAt.EqAt.str_bool a t' b
  |int b=>obtain⟨t,rfl⟩:=rx;exact SeqAt.EqAt.str_int a t' b t
  |str b=>obtain⟨t,rfl⟩:=rx;exact SeqAt.EqAt.str_str a t' b t
  |_=>exact absurd (show false=true from fx) Tq
 |_=>exact absurd (show false=true from fy) Tq
def gA (x:V)(u:Value):Bool:=match u with
 | .none=>ft .non x
 | .bool b=>ft (.bl b) x
 | .int i _=>ft (.int i) x
 | .str z _=>ft (.str z) x
 |_=>false
theorem D9 {x:V}(r:RelV y u)(f:dz y=true):gA x u=ft y x:=by
 cases y with
 |non=>cases r;rfl
 |bl b=>cases r;rfl
 |int i=>obtain⟨t,rfl⟩:=r;rfl
 |str z=>obtain⟨t,rfl⟩:=r;rfl
 |_=>exact absurd (show false=true from f) Tq
theorem qZ {x:V}:∀{xs:List V} {us:List Value},Vals xs us->xs.all dz=true->us.any (gA x)=xs.any fun y=>ft y x
 |_,_,.nil,_=>rfl
 |y::xs,u::us,.cons r t,f=>by rw[all_cons,S5] at f;rw[any_cons,any_cons,D9 r f.1,qZ t f.2]
theorem rp {A:Around}{s:Shared}{x:V}{v:Value}(rx:RelV x v)(fx:dz x=true):∀{xs:List V} {us:List Value},Vals xs us->xs.all dz=true->∀u∈us,SeqAt.EqAt A s u v (gA x u)
 |_,_,.nil,_=>fun u hu=>by cases hu
 |y::xs,u::us,.cons r t,f=>fun u' hu=>by
  rw[all_cons,S5] at f;rcases Ts.mp hu with rfl|hu
  ·rw[D9 r f.1];exact nt r rx f.1 fx
  ·exact rp rx fx t f.2 u' hu
def dY (x:V)(xs:List V):Bool:=xs.any fun y=>ft y x
def vd (K:W.Frag)(bY:Bool):R2:=fun x y H Q=>∃p xs,y = .ref p/\(SqL K H p xs∨SqT K H p xs)/\dz x=true/\xs.all dz=true/\Q (.bl (if bY then !dY x xs else dY x xs)) H
theorem Qn:OpR X (compareOp .In) (vd X.K false):=by
 intro aa s σ H x y v u Q I rx ry h;obtain⟨p,xs,rfl,hq,fx,fs,q⟩:=h;cases ry;rcases hq with hq|hq
 ·obtain⟨af,r,pl,hz⟩:=I.list hq;refine SeqAt.in_listAt (gA x) pl.isList (fun w hw=>rp rx fx r fs w (by simpa using hw)) ⟨.bl _,H,I,rfl,?_⟩;rw[show af.toArray.any (gA x)=af.any (gA x) by simp,qZ r fs];exact q
 ·obtain⟨af,r,pl,hz⟩:=I.tuple hq;refine SeqAt.in_tupleAt (gA x) pl (fun w hw=>rp rx fx r fs w (by simpa using hw)) ⟨.bl _,H,I,rfl,?_⟩;rw[show af.toArray.any (gA x)=af.any (gA x) by simp,qZ r fs];exact q
theorem R9:OpR X (compareOp .NotIn) (vd X.K true):=by
 intro aa s σ H x y v u Q I rx ry h;obtain⟨p,xs,rfl,hq,fx,fs,q⟩:=h;cases ry;rcases hq with hq|hq
 ·obtain⟨af,r,pl,hz⟩:=I.list hq;refine SeqAt.notIn_listAt (gA x) pl.isList (fun w hw=>rp rx fx r fs w (by simpa using hw)) ⟨.bl _,H,I,rfl,?_⟩;rw[show af.toArray.any (gA x)=af.any (gA x) by simp,qZ r fs];exact q
 ·obtain⟨af,r,pl,hz⟩:=I.tuple hq;refine SeqAt.notIn_tupleAt (gA x) pl (fun w hw=>rp rx fx r fs w (by simpa using hw)) ⟨.bl _,H,I,rfl,?_⟩;rw[show af.toArray.any (gA x)=af.any (gA x) by simp,qZ r fs];exact q
theorem R8:gH X (.builtin "len") (fun xs H Q=>∃p ys,xs = [.ref p]/\(SqL X.K H p ys∨SqT X.K H p ys)/\Q (.int ys.length) H):=by
 intro aa s σ H xs us Q I r h;obtain⟨p,ys,rfl,hq,q⟩:=h;obtain⟨u,rfl,rx⟩:=iN r;cases rx;have hn:=nu;rcases hq with hq|hq
 ·obtain⟨af,r',pl,hz⟩:=I.list hq;have hlen:=r'.length;exact Calls.call_len_list pl.isList (by simp only [Ti] <;> lia) ⟨.int ys.length,H,I.tok _,⟨s.toks+1,by rw[Ti,hlen]⟩,q⟩
 ·obtain⟨af,r',pl,hz⟩:=I.tuple hq;have hlen:=r'.length;exact len_tuple pl (by simp only [Ti] <;> lia) ⟨.int ys.length,H,I.tok _,⟨s.toks+1,by rw[Ti,hlen]⟩,q⟩
theorem RZ:gH X (.builtin "len") (fun xs H Q=>∃z,xs = [.str z]/\z.length<=sizeLine/\Q (.int z.length) H):=by intro aa s σ H xs us Q I r h;obtain⟨z,rfl,hz,q⟩:=h;obtain⟨u,rfl,t,rfl⟩:=iN r;have hn:=nu;exact len_str (by lia) ⟨.int z.length,H,I.tok _,⟨_,rfl⟩,q⟩
theorem RY:gH X (.type "list") (fun xs H Q=>∃p ys,xs = [.ref p]/\(SqL X.K H p ys∨SqT X.K H p ys)/\∀l,H l=none->Q (.ref l) (ax H l (.lst ys))):=by
 intro aa s σ H xs us Q I r h;obtain⟨p,ys,rfl,hq,q⟩:=h;obtain⟨u,rfl,rx⟩:=iN r;cases rx
 have fin:∀(af:List Value),Vals ys af->ys.length<=sizeLine->∀(h':Heap) (c':Nat),(∀b o',s.heap.get? b=some o'->h'.get? b=some o') →
   h'.get? s.heap.objs.size=some { cls:=.type "list",dict:=none,data:=.seq af.toArray c',slots:=#[] }->EP X aa σ Q (.ref s.heap.objs.size) { s with heap:=h' }:=fun af r' hz h' c' kp e=>
  ⟨.ref s.heap.objs.size,_,I.laid (t':=s.toks) kp (Tf _) (show ObjOk X.prog X.w _ h' _ (.lst ys) from⟨hz,af,c',r',e⟩),rfl,q _ (I.hok.fresh (Tf _))⟩
 rcases hq with hq|hq
 ·obtain⟨af,r',pl,hz⟩:=I.list hq;have hlen:=r'.length;obtain⟨o,ho,hc,n,hd⟩:=pl.isList;exact call_list_seq p (.inl rfl) ho hc hd (fun h' c' kp e=>fin af r' hz h' c' kp e) (by simp only [Ti] <;> lia)
 ·obtain⟨af,r',pl,hz⟩:=I.tuple hq;have hlen:=r'.length;obtain⟨o,ho,hc,n,hd⟩:=pl;exact call_list_seq p (.inr rfl) ho hc hd (fun h' c' kp e=>fin af r' hz h' c' kp e) (by simp only [Ti] <;> lia)
theorem Sq:gH X (.type "tuple") (fun xs H Q=>∃p ys,xs = [.ref p]/\((SqL X.K H p ys/\∀l,H l=none->Q (.ref l) (ax H l (.tup ys)))∨(SqT X.K H p ys/\Q (.ref p) H))):=by
 intro aa s σ H xs us Q I r h;obtain⟨p,ys,rfl,h⟩:=h;obtain⟨u,rfl,rx⟩:=iN r;cases rx;rcases h with ⟨hq,q⟩|⟨hq,q⟩
 ·obtain⟨af,r',pl,hz⟩:=I.list hq
  have hlen:=r'.length;refine call_tuple_list pl.isList (fun h' kp=>?_) (by simp only [Ti] <;> lia);have I1:Inv X aa σ H { s with heap:=h' }:=I.kept (t':=s.toks) kp
  have I2:Inv X aa σ (ax H h'.objs.size (.tup ys)) { s with heap:=h'.push { cls:=.type "tuple",data:=.seq af.toArray } }:=
   I1.laid (t':=s.toks) (fun b o e=>S7 _ e) (Tf _) (show ObjOk X.prog X.w _ _ _ (.tup ys) from⟨hz,af,r',IsTupN.new _ _⟩)
  exact⟨.ref h'.objs.size,_,I2,rfl,q _ (I1.hok.fresh (Tf _))⟩
 ·obtain⟨af,r',pl,hz⟩:=I.tuple hq;exact call_tuple_same pl ⟨.ref p,H,I,rfl,q⟩
def uZ (K:W.Frag)(T:String)(x:V)(H:Hp):Prop:=match x with
 | .str _=>T="str"
 | .int _=>T="int"
 | .ref p=>(T="list"/\∃xs,SqL K H p xs)∨(T="tuple"/\∃o,K.lookup p=some o/\o.cls = .type "tuple"/\o.dict=none) ∨
   (T="dict"/\((∃ae,H p=some (.dK ae))∨∃ae,H p=some (.dT ae)))∨(T="set"/\∃S n,H p=some (.set S n))
 |_=>False
theorem D8 {s:Shared}{x:V}{v:Value}(I:Inv X aa σ H s)(r:RelV x v)(ty:uZ X.K T x H):
  s.TypeIs v T/\∀a,v = .ref a->∃ob,s.heap.get? a=some ob/\ob.dict=none:=by
 cases x with
 |str z=>obtain⟨t,rfl⟩:=r;cases (show T="str" from ty);exact⟨typeIs_str s z t,fun _ e=>nomatch e⟩
 |int i=>obtain⟨t,rfl⟩:=r;cases (show T="int" from ty);exact⟨typeIs_int s i t,fun _ e=>nomatch e⟩
 |ref p=>
  cases r;rcases ty with ⟨rfl,xs,hq⟩|⟨rfl,o,hk,hc,hd⟩|⟨rfl,hk⟩|⟨rfl,S,n,hk⟩
  ·obtain⟨af,_,pl,_⟩:=I.list hq;refine⟨pl.isList.typeIs,fun a e=>?_⟩;cases e;obtain⟨o,n,e,c,hd,_⟩:=pl;exact⟨o,e,hd⟩
  ·refine⟨⟨o,I.kIn p o hk,hc⟩,fun a e=>?_⟩;cases e;exact⟨o,I.kIn _ o hk,hd⟩
  ·have z:∃o,s.heap.get? p=some o/\o.ExactDict:=by
    rcases hk with ⟨ae,hk⟩|⟨ae,hk⟩
    ·obtain⟨_,_,_,_,o,_,_,e,ex,_⟩:=I.hok p _ hk;exact⟨o,e,ex⟩
    ·obtain⟨_,_,_,_,o,_,_,e,ex,_⟩:=I.hok p _ hk;exact⟨o,e,ex⟩
   obtain⟨o,e,ex⟩:=z;refine⟨⟨o,e,ex.1⟩,fun a e2=>?_⟩;cases e2;exact⟨o,e,ex.2.1⟩
  ·obtain⟨o,_,_,_,e,ex,_⟩:=I.hok p _ hk;refine⟨⟨o,e,ex.1⟩,fun a e2=>?_⟩;cases e2;exact⟨o,e,ex.2.1⟩
 |_=>exact False.elim ty
def JM (K:W.Frag)(T:String)(r:V->List V->Hp->VK->Prop)(to:TE):TE:=fun σ H Q=>to σ H fun x H1=>uZ K T x H1/\r x [] H1 Q
def u6 (K:W.Frag)(T:String)(r:V->List V->Hp->VK->Prop)(to:TE)(t:TA):TE:=fun σ H Q=>to σ H fun x H1=>uZ K T x H1/\t σ H1 fun xs H2=>r x xs H2 Q
variable {o:Expr}{to:TE}{t:TA}{name:Str}{r:V->List V->Hp->VK->Prop}
theorem D7 (pa:PlainAttrs T)(slot:Slot T name id)(p0:typeOf (.builtin id)=pure (.type "method_descriptor"))(hm:rK X id r)(ho:PE X o to)
  (fU:attributeBase o name X.env (eval o X.env)=eval o X.env:=by rfl) (fT:(bV.endLine==aK.line)=true:=by rfl):PE X (.Call (.Attribute o name bV) [] [] aK) (JM X.K T r to):=by
 intro aa s σ H Q I h;refine wpAny_Call_method0_late fU fT (ay (ho aa s σ H _ I h) fun v s1 ⟨x,H1,I1,r1,ty,q1⟩=>?_);obtain⟨h1,h2⟩:=D8 I1 r1 ty;exact⟨T,id,pa,slot,p0,h1,h2,UG rfl (PySem.evalArgs_none (hm aa s1 σ H1 x [] v [] Q I1 r1 .nil q1))⟩
theorem qJ (pa:PlainAttrs T)(slot:Slot T name id)(p0:typeOf (.builtin id)=pure (.type "method_descriptor"))(hm:rK X id r)(ho:PE X o to)(ha:PA X (e::es) t)
  (fU:attributeBase o name X.env (eval o X.env)=eval o X.env:=by rfl)
  (mL:((backTo aK (starEach (e::es) X.env)).all (fun x => !x.1)&&(backToKw aK (keywordEach [] X.env)).all (fun x=>x.1.isSome)
   && decide ((e::es).length+([]:List Keyword).length+(if ([]:List Keyword).isEmpty then 0 else 1)<30))=true:=by rfl)
  (fT:(bV.endLine==aK.line)=true:=by rfl) (hs:starEach (e::es) X.env=(false,eval e X.env)::starEach es X.env:=by rfl) (gy:(backTo aK (starEach es X.env)).any (·.1)=false:=by rfl):
  PE X (.Call (.Attribute o name bV) (e::es) [] aK) (u6 X.K T r to t):=by
 intro aa s σ H Q I h;refine wpAny_Call_method_late fU mL fT rfl (ay (ho aa s σ H _ I h) fun v s1 ⟨x,H1,I1,r1,ty,q1⟩=>?_);obtain⟨h1,h2⟩:=D8 I1 r1 ty;refine⟨T,id,pa,slot,p0,h1,h2,?_⟩;have hA:=ha aK aa s1 σ H1 _ I1 q1;rw[hs] at hA ⊢;refine UG (by show(false||(backTo aK (starEach es X.env)).any (·.1))=false;rw[gy] <;> rfl) (Vc ?_);exact ay hA fun us s2 ⟨vs,H2,I2,r2,q2⟩=>hm aa s2 σ H2 x vs v us Q I2 r1 r2 q2
end
def rL (X:Cx)(id:String)(r:V->List V->Hp->VK->Prop):Prop:=
 ∀(aa:List (Addr×Obj)) (s:Shared) (σ:St) (H:Hp) (x:V) (xs:List V) (v:Value) (us:List Value) (Q:VK),Inv X aa σ H s->RelV x v->Vals xs us->r x xs H Q →
  wpAny (model X.prog X.w) X.A (call (.builtin id) (v::us)) (EP X aa σ Q) X.xe s
theorem Vals.one:∀{x:V} {us:List Value},Vals [x] us->∃u,us = [u]/\RelV x u
 |_,_,.cons r .nil=>⟨_,rfl,r⟩
theorem Vals.zero:∀{us:List Value},Vals [] us->us = []
 |_,.nil=>rfl
theorem Vals.dropLast (h:Vals xs us):Vals xs.dropLast us.dropLast:=by
 induction h with
 |nil=>exact .nil
 |cons r t ih=>
  cases t with
  |nil=>exact .nil
  |cons q t'=>exact .cons r ih
theorem Vals.reverse (h:Vals xs us):Vals xs.reverse us.reverse:=by
 induction h with
 |nil=>exact .nil
 |cons r t ih=>rw[UM,UM];exact Vals.append ih (.cons r .nil)
theorem Vals.rep (h:Vals xs us):∀k:Nat,Vals (List.replicate k xs).flatten (List.replicate k us).flatten
 | 0=>.nil
 |k+1=>by rw[US,US,UO,UO];exact Vals.append h (Vals.rep h k)
theorem Q7 (l:List α):l.eraseIdx (l.length-1)=l.dropLast:=by
 induction l with
 |nil=>rfl
 |cons a r ih=>
  cases r with
  |nil=>rfl
  |cons b r=>
   have e:(a::b::r).length-1=((b::r).length-1)+1:=by have h1:(a::b::r).length=r.length+2:=rfl;have h2:(b::r).length=r.length+1:=rfl;lia
   rw[e,List.eraseIdx_cons_succ,ih]
   all_goals rfl
theorem GB (af:List Value):∀(k:Nat) (ak:List Value),
  List.foldl (fun x1 x2=>x1++x2) ak.toArray (List.replicate k af.toArray)=(ak++(List.replicate k af).flatten).toArray
 | 0,ak=>by simp
 |k+1,ak=>by
  have e:ak.toArray++af.toArray=(ak++af).toArray:=by simp
  have e2:(ak++af)++(List.replicate k af).flatten=ak++(List.replicate (k+1) af).flatten:=by rw[US,UO,TF]
  rw[<- e2,<- GB af k (ak++af),<- e,US,foldl_cons]
section
variable {s:Shared}{b:Addr}{ys zs:List V}
theorem Inv.lset {its':List Value}{n:Nat}{f:Array Value->Array Value}(I:Inv X aa σ H s)(hH:H l=some (.lst xs))
  (e:s.heap.get? l=some { cls:=.type "list",data:=.seq af.toArray n }) (hf:f af.toArray=its'.toArray) (hv:Vals ys its') (hz:ys.length<=sizeLine):
  Inv X aa σ (ax H l (.lst ys)) { s with heap:=s.heap.update l (Obj.mapSeq f),toks:=t' }:=by
 have q:=PySem.IsL.update e f;rw[hf] at q;refine I.write (x:=l) (e:=l) (by rw[hH];exact trivial) (.inl rfl) (fun b' u hb hu=>(Uw s.heap (Obj.mapSeq f) (Ne.symm hb)).trans hu) ⟨_,q⟩ ?_;exact⟨hz,its',_,hv,q⟩
theorem Inv.lnew (I:Inv X aa σ H s)(hv:Vals ys af)(hz:ys.length<=sizeLine):
  Inv X aa σ (ax H s.heap.objs.size (.lst ys)) { s with heap:=s.heap.push { cls:=.type "list",data:=.seq af.toArray },toks:=t' }:=
 I.laid (fun _ _ q=>S7 _ q) (Tf _) ⟨hz,af,0,hv,Tu _ rfl⟩
theorem Inv.fresh (I:Inv X aa σ H s):H s.heap.objs.size=none:=I.hok.fresh (Tf _)
theorem Inv.lstM (I:Inv X aa σ H s)(hH:H l=some (.lst xs)):xs.length<=sizeLine/\∃(af:List Value) (n:Nat),Vals xs af/\xs.length=af.length/\s.heap.get? l=some { cls:=.type "list",data:=.seq af.toArray n }:=by obtain⟨z,af,n,r,e⟩:=I.hok l _ hH;exact⟨z,af,n,r,r.length,e⟩
theorem zK {n:Nat}(h:n<=sizeLine):Builtin.List.listTooLong n=false:=by unfold Builtin.List.listTooLong;exact UD (by lia)
end
section
def gQ:V->List V->Hp->VK->Prop:=fun x vs H Q=>∃l xs y,x = .ref l/\vs = [y]/\H l=some (.lst xs)/\xs.length<sizeLine/\Q .non (ax H l (.lst (xs ++ [y])))
theorem Al:rL X "list.append" gQ:=by intro aa s σ H x vs v us Q I rx rv h;obtain⟨l,xs,y,rfl,rfl,hH,hz,q⟩:=h;cases rx;obtain⟨u,rfl,ru⟩:=rv.one;obtain⟨z,af,n,r,hl,e⟩:=I.lstM hH;refine Vm F.slot_list_append ⟨_,e,rfl⟩ F.entry_list_append (F.args_list_append_2 _ _) (PySem.list_append l af.toArray n u (by rw[Ti];lia)) ⟨e,?_⟩;refine⟨.non,_,I.lset (its':=af ++ [u]) hH e (by simp) (r.append (.cons ru .nil)) ?_,rfl,q⟩;rw[Tg,List.length_singleton];lia
def gM:V->List V->Hp->VK->Prop:=fun x vs H Q=>∃l b xs zs,x = .ref l/\vs = [.ref b]/\H l=some (.lst xs)/\H b=some (.lst zs)/\xs.length+zs.length<=sizeLine/\Q .non (ax H l (.lst (xs++zs)))
theorem Qm:rL X "list.extend" gM:=by
 intro aa s σ H x vs v us Q I rx rv h;obtain⟨l,b,xs,zs,rfl,rfl,hH,hB,hz,q⟩:=h;cases rx;obtain⟨u,rfl,ru⟩:=rv.one;cases ru;obtain⟨z,af,n,r,hl,e⟩:=I.lstM hH;obtain⟨z2,aA,n2,r2,hl2,e2⟩:=I.lstM hB;have hsz:af.toArray.size+aA.toArray.size<=sizeLine:=by rw[Ti,Ti];lia
 have fR:¬ (!af.toArray.isEmpty&&Builtin.List.listTooLong (af.toArray.size+aA.toArray.size))=true:=by rw[zK hsz,Bool.and_false];exact Tq
 refine Vm F.slot_list_extend ⟨_,e,rfl⟩ F.entry_list_extend (F.args_list_extend_2 _ _)
  (AutoSeq1.list_extend_list_list_0 l af.toArray n b aA.toArray n2 fR (by rw[Ti];lia) (by lia)) ⟨e,e2,?_⟩
 refine⟨.non,_,I.lset (its':=af++aA) hH e (by simp) (r.append r2) ?_,rfl,q⟩;rw[Tg];lia
def pE:V->List V->Hp->VK->Prop:=fun x vs H Q=>∃l xs y,x = .ref l/\vs = []/\H l=some (.lst xs)/\xs[xs.length-1]? = some y/\Q y (ax H l (.lst xs.dropLast))
theorem D6:rL X "list.pop" pE:=by
 intro aa s σ H x vs v us Q I rx rv h;obtain⟨l,xs,y,rfl,rfl,hH,hy,q⟩:=h;cases rx;have hus:=rv.zero;subst hus;obtain⟨z,af,n,r,hl,e⟩:=I.lstM hH;obtain⟨u,hu,ru⟩:=r.get hy;have mG:af.toArray[af.toArray.size-1]? = some u:=by show af.toArray[af.length-1]? = some u;rw[<- Array.getElem?_toList,<- hl];exact hu
 refine Vm F.slot_list_pop ⟨_,e,rfl⟩ F.entry_list_pop (F.args_list_pop_1 _) (MeetsSeq.list_pop_last l af.toArray n u mG (by rw[Ti];lia)) ⟨e,?_⟩;refine⟨y,_,I.lset (its':=af.dropLast) hH e ?_ r.dropLast ?_,ru,q⟩
 ·show af.toArray.eraseIdxIfInBounds (af.toArray.size-1)=af.dropLast.toArray;rw[Ti,List.eraseIdxIfInBounds_toArray,Q7]
 ·rw[List.length_dropLast];lia
def pH:R2:=fun x y H Q=>∃l b xs zs,x = .ref l/\y = .ref b/\H l=some (.lst xs)/\H b=some (.lst zs)/\xs.length+zs.length<=sizeLine/\∀p,H p=none->Q (.ref p) (ax H p (.lst (xs++zs)))
theorem op_cat:OpR X (binaryOp .Add) pH:=by
 intro aa s σ H x y v u Q I rx ry h;obtain⟨l,b,xs,zs,rfl,rfl,hH,hB,hz,q⟩:=h;cases rx;cases ry;obtain⟨z,af,n,r,hl,e⟩:=I.lstM hH;obtain⟨z2,aA,n2,r2,hl2,e2⟩:=I.lstM hB;refine PySem.P.add_list e e2 ?_ (by rw[Ti,Ti];lia);have ea:af.toArray++aA.toArray=(af++aA).toArray:=by simp
 rw[ea];exact⟨.ref _,_,I.lnew (t':=s.toks) (r.append r2) (by rw[Tg];lia),rfl,q _ I.fresh⟩
def pC:R2:=fun x y H Q=>∃l k xs,x = .ref l/\y = .int k/\H l=some (.lst xs) /\ -(2 ^ 63)<=k/\k<2 ^ 63/\xs.length*k.toNat<=sizeLine ∧
 ∀p,H p=none->Q (.ref p) (ax H p (.lst (List.replicate k.toNat xs).flatten))
theorem NC (xs:List α)(k:Nat):(List.replicate k xs).flatten.length=k*xs.length:=by
 induction k with
 |zero=>simp
 |succ k ih=>rw[US,UO,Tg,ih,Nat.succ_mul,Nat.add_comm]
theorem Lk:OpR X (binaryOp .Mult) pC:=by
 intro aa s σ H x y v u Q I rx ry h;obtain⟨l,k,xs,rfl,rfl,hH,h1,h2,hz,q⟩:=h;cases rx;obtain⟨t,rfl⟩:=ry;obtain⟨z,af,n,r,hl,e⟩:=I.lstM hH;have hlen:af.toArray.size*k.toNat<=sizeLine:=by rw[Ti,<- hl];exact hz
 have vX:¬af.toArray.size*k.toNat>(2 ^ 63-1) / 8:=by
  have:(sizeLine:Nat)<=(2 ^ 63-1) / 8:=by decide
  lia
 have vQ:¬ (!Builtin.List.listFitsIndex k)=true:=by rw[fitsIndex_both h1 h2];exact Tq
 have fR:¬Builtin.List.listTooLong (af.toArray.size*k.toNat)=true:=by rw[zK hlen];exact Tq
 have i8:List.foldl (fun x1 x2=>x1++x2) #[] (List.replicate (if af.toArray.isEmpty=true then 0 else k.toNat) af.toArray)=(List.replicate k.toNat af).flatten.toArray:=by
  have f0:∀m:Nat,List.foldl (fun x1 x2=>x1++x2) #[] (List.replicate m af.toArray)=(List.replicate m af).flatten.toArray:=fun m=>by have:=GB af m [];rw[Ua] at this;exact this
  rw[f0]
  cases af with
  |nil=>simp
  |cons a r'=>rw[Tp (by simp)]
 refine wpAny_binaryOp_repeat_ref (T:="list") (U:="int") (by decide) ⟨_,e,rfl⟩ (fun s'=>typeIs_int s' k t) noFill_list_mul F.fills_int_mul F.slot_int_rmul repeat_list F.slot_int_index.lookup
  (Vm F.slot_int_rmul (typeIs_int s k t) F.entry_int_rmul (F.args_int_rmul_2 _ _) (int___rmul___int_list k t l af.toArray n)
   ⟨e,rfl,⟨_,e,rfl⟩,Vm F.slot_list_mul ⟨_,e,rfl⟩ F.entry_list_mul (F.args_list_mul_2 _ _) (AutoListH.list___mul___list_int_3 l af.toArray n k t vQ vX fR) ⟨e,?_⟩⟩)
 rw[i8];exact⟨.ref _,_,I.lnew (t':=s.toks) (r.rep k.toNat) (by rw[NC,Nat.mul_comm];exact hz),rfl,q _ I.fresh⟩
end
section
variable [DecidableEq κ]
noncomputable def bt (ae:List (κ × V))(k : κ):Option V:=(ae.find? fun kv=>decide (kv.1=k)).map (·.2)
noncomputable def cc (ae:List (κ × V))(k : κ)(v:V):List (κ × V):=
 if (ae.any fun kv=>decide (kv.1=k))=true then ae.map (fun kv=>if kv.1=k then (kv.1,v) else kv) else ae ++ [(k,v)]
theorem jw {p:κ × V}{r:List (κ × V)}{k:κ}(e:p.1=k):bt (p::r) k=some p.2:=by simp [bt,UE,e]
theorem jv {p:κ × V}{r:List (κ × V)}{k:κ}(e:¬p.1=k):bt (p::r) k=bt r k:=by simp [bt,UE,e]
theorem uF (k : κ):∀ae:List (κ × V),(ae.any fun kv=>decide (kv.1=k))=(bt ae k).isSome
 |[]=>rfl
 |p::r=>by
  rw[any_cons]
  by_cases e:p.1=k
  ·simp only [jw e,T8 e,Bool.true_or,Option.isSome_some]
  ·rw[jv e,UD e,Bool.false_or];exact uF k r
theorem F5 (k j : κ)(y:V):∀ae:List (κ × V),bt (ae.map fun kv=>if kv.1=k then (kv.1,y) else kv) j=(bt ae j).map fun x=>if j=k then y else x
 |[]=>rfl
 |p::r=>by
  have ih:=F5 k j y r;rw[TX]
  by_cases h:p.1=k
  ·rw[Tt h]
   by_cases e:p.1=j
   ·rw[jw (p:=(p.1,y)) e,jw e,U2,Tt (e.symm.trans h)]
   ·rw[jv (p:=(p.1,y)) e,jv e,ih]
  ·rw[Tp h]
   by_cases e:p.1=j
   ·rw[jw (p:=p) e,jw e,U2,Tp (fun z=>h (e.trans z))]
   ·rw[jv (p:=p) e,jv e,ih]
theorem GA (k j : κ)(y:V):∀ae:List (κ × V),bt ae k=none->bt (ae ++ [(k,y)]) j=if j=k then some y else bt ae j
 |[],_=>by
  by_cases e:k=j
  ·rw[Tt e.symm];exact jw (p:=(k,y)) e
  ·rw[Tp (fun z=>e z.symm)];exact jv (p:=(k,y)) e
 |p::r,hn=>by
  rw[TC];have hk:¬p.1=k:=fun z=>by rw[jw z] at hn;cases hn
  rw[jv hk] at hn;have ih:=GA k j y r hn
  by_cases e:p.1=j
  ·rw[jw e,jw e,Tp (fun z=>hk (e.trans z))]
  ·rw[jv e,jv e,ih]
theorem oP (ae:List (κ × V))(k j : κ)(y:V):bt (cc ae k y) j=if j=k then some y else bt ae j:=by
 unfold cc
 by_cases a:(ae.any fun kv=>decide (kv.1=k))=true
 ·rw[Tt a,F5]
  rw[uF] at a
  by_cases e:j=k
  ·obtain⟨x,hx⟩:=Option.isSome_iff_exists.mp a;rw[Tt e,e,hx,U2,Tt rfl]
  ·rw[Tp e]
   cases bt ae j with
   |none=>rfl
   |some x=>rw[U2,Tp e]
 ·rw[Tp a]
  refine GA k j y ae ?_;rw[uF] at a
  cases q:bt ae k with
  |none=>rfl
  |some x=>rw[q] at a;exact(a rfl).elim
theorem oV (ae:List (κ × V))(k : κ)(v:V):(cc ae k v).length<=ae.length+1:=by
 unfold cc
 split
 ·rw[Ta];lia
 ·rw[Tg,Tz,length_nil];lia
theorem RelO.isSome_eq {o:Option V}{u:Option Value}(r:RelO o u):o.isSome=u.isSome:=by
 cases o with
 |none=>cases u with
  |none=>rfl
  |some _=>exact(show False from r).elim
 |some _=>cases u with
  |none=>exact(show False from r).elim
  |some _=>rfl
theorem RelO.getD {o:Option V}{u:Option Value}{d:V}{d':Value}(r:RelO o u)(rd:RelV d d'):RelV (o.getD d) (u.getD d'):=by
 cases o with
 |none=>cases u with
  |none=>exact rd
  |some _=>exact(show False from r).elim
 |some _=>cases u with
  |none=>exact(show False from r).elim
  |some _=>exact r
theorem KV.val {ae:List (κ × V)}{vs:List (κ × Value)}(r:KV ae vs)(k : κ):RelO (bt ae k) (valueAt vs k):=by
 unfold KV at r
 induction r with
 |nil=>exact True.intro
 | @cons p q ps qs h t ih=>
  obtain⟨h1,h2⟩:=h
  by_cases e:p.1=k
  ·have e':q.1=k:=h1.symm.trans e
   have b:valueAt (q::qs) k=some q.2:=by simp [valueAt,UE,e']
   rw[jw e,b];exact h2
  ·have e':¬q.1=k:=fun z=>e (h1.trans z)
   have b:valueAt (q::qs) k=valueAt qs k:=by simp [valueAt,UE,e']
   rw[jv e,b];exact ih
theorem KV.any {ae:List (κ × V)}{vs:List (κ × Value)}(r:KV ae vs)(k : κ):(ae.any fun kv=>decide (kv.1=k))=vs.any fun kv=>decide (kv.1=k):=by
 unfold KV at r
 induction r with
 |nil=>rfl
 |cons h t ih=>rw[any_cons,any_cons,ih,h.1]
theorem KV.repl {ae:List (κ × V)}{vs:List (κ × Value)}(r:KV ae vs)(k : κ){y:V}{u:Value}(ry:RelV y u):
  KV (ae.map fun kv=>if kv.1=k then (kv.1,y) else kv) (vs.map fun kv=>if kv.1=k then (kv.1,u) else kv):=by
 unfold KV at r ⊢
 induction r with
 |nil=>exact .nil
 | @cons p q ps qs h t ih=>
  rw[TX,TX];refine .cons ?_ ih;obtain⟨h1,h2⟩:=h
  by_cases e:p.1=k
  ·rw[Tt e,Tt (h1.symm.trans e)];exact⟨h1,ry⟩
  ·rw[Tp e,Tp (fun z=>e (h1.trans z))];exact⟨h1,h2⟩
theorem KV.put {ae:List (κ × V)}{vs:List (κ × Value)}(r:KV ae vs)(k : κ){y:V}{u:Value}(ry:RelV y u):KV (cc ae k y) (stored vs k u):=by
 unfold cc stored;rw[r.any k]
 by_cases e:(vs.any fun kv=>decide (kv.1=k))=true
 ·rw[Tt e,Tt e];exact r.repl k ry
 ·rw[Tp e,Tp e];exact Paired.snoc r ⟨rfl,ry⟩
theorem KV.length {ae:List (κ × V)}{vs:List (κ × Value)}(r:KV ae vs):ae.length=vs.length:=Paired.length r
end
theorem lz {k:aw}(r:RelV (kV k) u):(dR P w).is k u=true:=by
 cases k with
 |inl i=>obtain⟨t,e⟩:=(show ∃t,u=Value.int i t from r);subst e;exact RF P w i t
 |inr x=>obtain⟨t,e⟩:=(show ∃t,u=Value.str x t from r);subst e;exact RE P w x t
theorem Gz:∀{ks:List aw} {us:List Value},Vals (ks.map kV) us->ItemsAre (dR P w) ks us
 |[],_,r=>by rw[map_nil] at r;cases r;exact .nil
 |k::ks,_,r=>by
  rw[TX] at r
  cases r with
  |cons h t=>exact .cons (lz h) (Gz t)
abbrev KT (H:Hp):List (List aw×V)->List (List aw×Addr×Value)->Prop:=Paired fun p q=>p.1=q.1/\H q.2.1=some (.tup (p.1.map kV))/\RelV p.2 q.2.2
theorem KT.val {ae:List (List aw×V)}{xs:List (List aw×Addr×Value)}(r:KT H ae xs)(k:List aw):RelO (bt ae k) ((atKey xs k).map (·.2)):=by
 induction r with
 |nil=>exact True.intro
 | @cons p q ps qs h t ih=>
  obtain⟨h1,_,h2⟩:=h
  by_cases e:p.1=k
  ·have e':q.1=k:=h1.symm.trans e
   have b:atKey (q::qs) k=some q.2:=by simp [atKey,UE,e']
   rw[jw e,b];exact h2
  ·have e':¬q.1=k:=fun z=>e (h1.trans z)
   have b:atKey (q::qs) k=atKey qs k:=by simp [atKey,UE,e']
   rw[jv e,b];exact ih
theorem KT.repl {ae:List (List aw×V)}{xs:List (List aw×Addr×Value)}(r:KT H ae xs)(k:List aw){y:V}{u:Value}(ry:RelV y u):
  KT H (ae.map fun kv=>if kv.1=k then (kv.1,y) else kv) (xs.map (putAt k u)):=by
 induction r with
 |nil=>exact .nil
 | @cons p q ps qs h t ih=>
  rw[TX,TX];refine .cons ?_ ih;obtain⟨h1,h2,h3⟩:=h;unfold putAt
  by_cases e:p.1=k
  ·rw[Tt e,Tt (h1.symm.trans e)];exact⟨h1,h2,ry⟩
  ·rw[Tp e,Tp (fun z=>e (h1.trans z))];exact⟨h1,h2,h3⟩
theorem KT.put {ae:List (List aw×V)}{xs:List (List aw×Addr×Value)}(r:KT H ae xs)(k:List aw){b:Addr}{y:V}{u:Value}(hb:H b=some (.tup (k.map kV)))(ry:RelV y u):
  KT H (cc ae k y) (storedH xs k b u):=by
 have e:(ae.any fun kv=>decide (kv.1=k))=(atKey xs k).isSome:=by rw[uF,(r.val k).isSome_eq,Option.isSome_map]
 unfold cc storedH;rw[e]
 by_cases q:(atKey xs k).isSome=true
 ·rw[Tt q,Tt q];exact r.repl k ry
 ·rw[Tp q,Tp q];exact Paired.snoc r ⟨rfl,hb,ry⟩
theorem KT.keeps {ae:List (List aw×V)}{xs:List (List aw×Addr×Value)}(r:KT H ae xs)(ht:∀b ys,H b=some (.tup ys)->H' b=some (.tup ys)):KT H' ae xs:=
 Paired.mapP r fun _ _ z=>⟨z.1,ht _ _ z.2.1,z.2.2⟩
section
theorem Dv {u:HO}(ok:HOk P w H h)(e:Rd H a u):ObjOk P w H h a u:=e.ok ok
theorem ly (ok:HOk P w H h)(e:Rd H a (.dK ae)):ae.length<=sizeLine/\(a==sysModules)=false/\∃vs,KV ae vs/\h.DictOf (dR P w) a vs:=
 show ObjOk P w H h a (.dK ae) from Dv ok e
theorem tK (ok:HOk P w H h)(e:H a=some (.dK ae)):ae.length<=sizeLine/\(a==sysModules)=false/\∃vs,KV ae vs/\h.DictOf (dR P w) a vs:=ly ok (.inl e)
theorem qS {ks:List aw}(ok:HOk P w H h)(e:H a=some (.tup (ks.map kV))):(tupleKind (dR P w)).is h ks a:=by obtain⟨_,af,r,o,h1,h2,n,h3,_⟩:=(show ObjOk P w H h a (.tup (ks.map kV)) from ok a _ e);exact⟨o,af.toArray,n,h1,h2,h3,by simpa using Gz r⟩
theorem oB {ae:List (List aw×V)}(ok:HOk P w H h)(e:Rd H a (.dT ae)):ae.length<=sizeLine/\(a==sysModules)=false ∧
  ∃xs,KT H ae xs/\h.DictOfH (tupleKind (dR P w)) a xs:=by
 obtain⟨z,y,xs,r,o,es,ep,h1,h2,h3,h4,h5⟩:=(show ObjOk P w H h a (.dT ae) from Dv ok e);refine⟨z,y,xs,r,o,es,ep,h1,h2,h3,h4,fun x hx=>?_,h5⟩
 have all:∀{l:List (List aw×V)} {m:List (List aw×Addr×Value)},KT H l m->∀x∈m,(tupleKind (dR P w)).is h x.1 x.2.1:=by
  intro l m q
  induction q with
  |nil=>intro x hx;exact nomatch hx
  | @cons p q ps qs hq t ih=>
   intro x hx;rcases Ts.mp hx with e|hx
   ·subst e;exact qS ok (by rw[<- hq.1];exact hq.2.1)
   ·exact ih x hx
 exact all r x hx
theorem J9 {ae:List (List aw×V)}(ok:HOk P w H h)(e:H a=some (.dT ae)):ae.length<=sizeLine/\(a==sysModules)=false ∧
  ∃xs,KT H ae xs/\h.DictOfH (tupleKind (dR P w)) a xs:=oB ok (.inl e)
end
def DGet (H:Hp)(a:Addr)(y:V)(r:Option V):Prop:=
 (∃ae k,Rd H a (.dK ae)/\y=kV k/\r=bt ae k)∨∃ae k b,Rd H a (.dT ae)/\y = .ref b/\H b=some (.tup (k.map kV))/\r=bt ae k
def DPut (H:Hp)(a:Addr)(y v:V)(H':Hp):Prop:=
 (∃ae k,H a=some (.dK ae)/\y=kV k/\ae.length<sizeLine/\H'=ax H a (.dK (cc ae k v))) ∨
 ∃ae k b,H a=some (.dT ae)/\y = .ref b/\H b=some (.tup (k.map kV))/\ae.length<sizeLine/\H'=ax H a (.dT (cc ae k v))
theorem DGet.k {k:aw}(e:H a=some (.dK ae)):DGet H a (kV k) (bt ae k):=.inl ⟨ae,k,.inl e,rfl,rfl⟩
theorem DPut.k {k:aw}{v:V}(e:H a=some (.dK ae))(hl:ae.length<sizeLine):DPut H a (kV k) v (ax H a (.dK (cc ae k v))):=.inl ⟨ae,k,e,rfl,hl,rfl⟩
section
variable {s:Shared}{v:V}{r:Value}{o:Option V}{A:Around}{E:am}
theorem Inv.big (I:Inv X aa σ H s):sysModules<s.heap.objs.size:=by have h:mainGlobals<s.heap.objs.size:=(I.mod.glob.keeps I.bk).lt;exact Nat.lt_trans (by decide) h
theorem Ql {Q:am}(hu:A.units+1<cLine)(I:Inv X aa σ H s)(g:DGet H a y (some v))(ry:RelV y u)(h:∀w' s',Inv X aa σ H s'->RelV v w'->Q w' s'):
  wpAny (model X.prog X.w) A (getItem (.ref a) u) Q E s:=by
 rcases g with ⟨ae,k,e,ey,l⟩|⟨ae,k,b,e,ey,eb,l⟩
 ·subst ey;obtain⟨z,hd,vs,bW,dd⟩:=ly I.hok e;obtain⟨w',hw,gb⟩:=RelO.some_of (v:=v) (o:=valueAt vs k) (by rw[l];exact bW.val k);exact wpAny_getItem_of (lz ry) dd.mapOf hw (h w' _ (I.tok _) gb)
 ·subst ey;cases (show u=Value.ref b from ry);obtain⟨z,hd,xs,bW,dd⟩:=oB I.hok e;obtain⟨w',hw,gb⟩:=RelO.some_of (v:=v) (o:=(atKey xs k).map (·.2)) (by rw[l];exact bW.val k);obtain⟨p,hp,hp2⟩:=Option.map_eq_some_iff.mp hw;refine wpAny_getItem_heap (tupleKind_room_in1 hu) (qS I.hok eb) dd hp ?_;rw[hp2];exact h w' _ (I.tok _) gb
theorem qY {ob:HO}(I:Inv X aa σ H s)(mu:rJ (H a))(hs:Heap.SameBut a s.heap h')(he:∃q,h'.get? a=some q)(new:ObjOk X.prog X.w (ax H a ob) h' a ob):
  Inv X aa σ (ax H a ob) { s with heap:=h',toks:=t' }:=
 I.write (x:=a) (e:=a) mu (.inl rfl) (fun b q hb z=>(hs.2 b hb).trans z) he new
theorem qR {vs:List (aw×Value)}(z:ae.length<=sizeLine)(hd:(a==sysModules)=false)(bW:KV ae vs)(dd:h'.DictOf (dR P w) a vs):
  ObjOk P w H' h' a (.dK ae):=⟨z,hd,vs,bW,dd⟩
theorem Qk {Q:Unit->Shared->Prop}(hu:A.units+1<cLine)(I:Inv X aa σ H s)(g:DPut H a y v H')(ry:RelV y u)(rv:RelV v r)(h:∀s',Inv X aa σ H' s'->Q () s'):
  wpAny (model X.prog X.w) A (setItem (.ref a) u r) Q E s:=by
 rcases g with ⟨ae,k,e,ey,l,eH⟩|⟨ae,k,b,e,ey,eb,l,eH⟩
 ·subst ey eH
  obtain⟨z,hd,vs,bW,dd⟩:=tK I.hok e;have hz:vs.length<=sizeLine:=by rw[<- bW.length];exact z
  have hl:(cc ae k v).length<=sizeLine:=by have:=oV ae k v;lia
  refine wpAny_setItem_pairs (hsz:=hz) (lz ry) dd fun h' iK hs=>h _ ?_;have he:∃q,h'.get? a=some q:=let ⟨q,_,_,hq,_⟩:=iK;⟨q,hq⟩
  exact qY I (by rw[e];exact True.intro) hs he (qR hl hd (bW.put k rv) iK)
 ·subst ey eH
  cases (show u=Value.ref b from ry);obtain⟨z,hd,xs,bW,dd⟩:=J9 I.hok e;have hz:xs.length<=sizeLine:=by rw[<- Paired.length bW];exact z
  have hl:(cc ae k v).length<=sizeLine:=by have:=oV ae k v;lia
  refine wpAny_setItem_heap (hsz:=hz) (tupleKind_room_in1 hu) (qS I.hok eb) dd fun h' iK hs=>h _ ?_;obtain⟨q,es,ep,hq,h2,h3,h4,_,h5⟩:=iK;refine qY I (by rw[e];exact True.intro) hs ⟨q,hq⟩ ⟨hl,hd,_,(bW.put k eb rv).keeps fun c ys ec=>?_,q,es,ep,hq,h2,h3,h4,h5⟩;rw[az (tM ec e (fun z=>nomatch z))];exact ec
end
section
variable {s:Shared}{k:aw}{A:Around}{E:am}
theorem J8 {Q:am}(I:Inv X aa σ H s)(e:Rd H a (.dK ae))(h:∀t s',Inv X aa σ H s'->Q (.int ae.length t) s'):wpAny (model X.prog X.w) A (call (.builtin "len") [.ref a]) Q E s:=by obtain⟨z,hd,vs,bW,dd⟩:=ly I.hok e;refine call_len_dict hd dd (by rw[<- bW.length];rw[TY] at z;lia) ?_;rw[<- bW.length];exact h _ _ (I.tok _)
end
def CG (i:Expr):Prop:=∀ov iv,subscripted i false ov iv=operate [ov,iv] (getItem ov iv)
theorem NB {A:Around}{E:am}{s:Shared}{value slice:Expr}{pos:Pos}{Q:am}
  (hl:typeLookup (.type T) "__getitem__"=pure (some (.builtin id))) (hs:CG slice)
  (h:wpAny (model prog w) A (eval value env) (fun o s₁=>wpAny (model prog w) A (eval slice env) (fun i s₂=>s₂.TypeIs o T/\wpAny (model prog w) A (getItem o i) Q E s₂) E s₁) E s):
  wpAny (model prog w) A (eval (.Subscript value slice pos) env) Q E s:=by
 refine Subscript_ (Uz h (fun o s₁ h₁=>Uz h₁ (fun i s₂ h₂=>?_) fun _ _ x=>x) fun _ _ x=>x);obtain⟨hT,h₂⟩:=h₂;unfold subscriptTail;refine S6 ?_;rw[getitemInPython_of_ne hT.not_modules];refine S6 (wpAny_specialOf hT hl ?_);have fin:wpAny (model prog w) A (subscripted slice false o i) (fun r s₃=>wpAny (model prog w) A (letTemporaryGo value o r >>= fun _=>pure r) Q E s₃) E s₂:=by rw[hs o i];exact wpAny_operating (Uz h₂ (fun r s₃ h₃=>S6 (wpAny_letTemporaryGo (Tj h₃))) fun _ _ x=>x)
 first
  |exact Tj (S6 fin)
  |exact S6 (Tj (S6 fin))
  |exact S6 fin
theorem RD {s:Shared}{o:Option V}(I:Inv X aa σ H s)(g:DGet H a y o):s.TypeIs (.ref a) "dict":=by
 rcases g with ⟨ae,k,e,_,_⟩|⟨ae,k,b,e,_,_,_⟩
 ·obtain⟨_,_,vs,_,dd⟩:=ly I.hok e;exact dd.typeIs
 ·obtain⟨_,_,xs,_,dd⟩:=oB I.hok e;exact dd.typeIs
def J7 (td ty:TE):TE:=fun σ H Q=>td σ H fun x H1=>ty σ H1 fun y H2=>∃a v,x = .ref a/\DGet H2 a y (some v)/\Q v H2
def Du (td ty tv:TE):TS:=fun D σ H=>tv σ H fun v H1=>td σ H1 fun x H2=>ty σ H2 fun y H3=>∃a H4,x = .ref a/\DPut H3 a y v H4/\D.nx σ H4
section
variable {o i value:Expr}{pos HU:Pos}{td ty tv:TE}
theorem yZ (hu:X.A.units+1<cLine)(ho:PE X o td)(hi:PE X i ty)(hs:CG i):PE X (.Subscript o i pos) (J7 td ty):=by intro aa s σ H Q I h;refine NB PySem.F.slot_dict_getitem.lookup hs (ay (ho aa s σ H _ I h) fun u s1 ⟨x,H1,I1,rx,q1⟩=>ay (hi aa s1 σ H1 _ I1 q1) fun iv s2 ⟨y,H2,I2,ry,a,v,ex,g,q2⟩=>?_);subst ex;obtain rfl:u=Value.ref a:=rx;exact⟨RD I2 g,Ql hu I2 g ry fun w' s3 I3 gb=>⟨v,H2,I3,gb,q2⟩⟩
theorem NA (hu:X.A.units+1<cLine)(ho:PE X o td)(hi:PE X i ty)(hv:PE X value tv)(hs:swapsWith value (some (.Subscript o i bQ)) pos.line X.env=pure false):
  PS X (.Assign [.Subscript o i bQ] value pos) (Du td ty tv):=by
 intro aa s σ H D I h;refine wpAny_Assign_Subscript (ay (hv aa s σ H _ I h) fun r s1 ⟨v,H1,I1,rv,q1⟩=>ay (ho aa s1 σ H1 _ I1 q1) fun u s2 ⟨x,H2,I2,rx,q2⟩=>ay (hi aa s2 σ H2 _ I2 q2) fun iv s3 ⟨y,H3,I3,ry,a,H4,ex,g,q3⟩=>?_) hs;subst ex;obtain rfl:u=Value.ref a:=rx;exact Qk hu I3 g ry rv fun s4 I4=>⟨σ,H4,I4,q3⟩
end
theorem zJ (h:Heap)(hb:sysModules<h.objs.size):ObjOk P w H (h.push { cls:=.type "dict",data:=.dict #[] }) h.objs.size (.dK []):=
 ⟨T3 _,Ux.mpr (Ne.symm (TU hb)),[],.nil,Heap.DictOf.new h⟩
def lY:TE:=fun _ H Q=>∀p,H p=none->Q (.ref p) (ax H p (.dK []))
section
variable {pos:Pos}
theorem pe_dnewK:PE X (.Dict [] [] pos) lY:=fun aa s σ H Q I h=>
 wpAny_Dict_empty ⟨.ref s.heap.objs.size,_,I.laid (a:=s.heap.objs.size) (o:=.dK []) (t':=s.toks) (fun _ _ q=>S7 _ q) (Tf _) (zJ s.heap I.big),rfl,h _ (I.hok.fresh (Tf _))⟩
end
def lJ:List (TE×TE)->St->Hp->(List (V×V)->Hp->Prop)->Prop
 |[],_,H,Q=>Q [] H
 | (tk,tv)::r,σ,H,Q=>tk σ H fun x H1=>tv σ H1 fun y H2=>lJ r σ H2 fun ps H3=>Q ((x,y)::ps) H3
abbrev VV:List (V×V)->List (Value×Value)->Prop:=Paired fun p q=>RelV p.1 q.1/\RelV p.2 q.2
def rH (X:Cx)(pos:Pos)(fP:List (Option Expr))(dA:List Expr)(eo:List (TE×TE)):Prop:=
 ∀(aa:List (Addr×Obj)) (s:Shared) (σ:St) (H:Hp) (Q:List (V×V)->Hp->Prop),Inv X aa σ H s->lJ eo σ H Q →
  wpAny (model X.prog X.w) X.A (evalPairs (pairTrees fP dA X.env pos)) (fun vs s'=>∃ps H',Inv X aa σ H' s'/\VV ps vs/\Q ps H') X.xe s
theorem Nz {pos:Pos}:rH X pos [] [] []:=fun aa s σ H Q I h=>pairTrees_nil_walk ⟨[],H,I,.nil,h⟩
theorem O6 {pos:Pos}{k v:Expr}{ks:List (Option Expr)}{vs:List Expr}{tk tv:TE}{eo:List (TE×TE)}(hk:PE X k tk)(hv:PE X v tv)(hr:rH X pos ks vs eo):
  rH X pos (some k::ks) (v::vs) ((tk,tv)::eo):=fun aa s σ H Q I h=>
 pairTrees_cons_walk (ay (hk aa s σ H _ I h) fun u s1 ⟨x,H1,I1,rx,q1⟩=>ay (hv aa s1 σ H1 _ I1 q1) fun w2 s2 ⟨y,H2,I2,ry,q2⟩=>
  ay (hr aa s2 σ H2 _ I2 q2) fun ws s3 ⟨ps,H3,I3,bW,q3⟩=>⟨(x,y)::ps,H3,I3,.cons ⟨rx,ry⟩ bW,q3⟩)
def lI (ae more:List (aw×V)):List (aw×V):=more.foldl (fun ak kv=>cc ak kv.1 kv.2) ae
theorem KV.merge:∀{more:List (aw×V)} {rs:List (aw×Value)} {ae:List (aw×V)} {vs:List (aw×Value)},KV more rs->KV ae vs->KV (lI ae more) (merged vs rs):=by
 intro more rs ae vs r;unfold KV at r
 induction r generalizing ae vs with
 |nil=>intro q;exact q
 | @cons p q ps qs h t ih=>
  intro r0;have e:KV (cc ae p.1 p.2) (stored vs q.1 q.2):=by have:=r0.put p.1 h.2;rw[<- h.1];exact this
  exact ih e
theorem HJ:∀(more ae:List (aw×V)),(lI ae more).length<=ae.length+more.length
 |[],ae=>by show ae.length<=ae.length+0;lia
 |p::r,ae=>by have h1:=HJ r (cc ae p.1 p.2);have h2:=oV ae p.1 p.2;show(lI (cc ae p.1 p.2) r).length<=_;rw[Tz];lia
theorem Hn {P:Program}{w:World}:∀{ae:List (aw×V)} {ws:List (Value×Value)},VV (ae.map fun kv=>(kV kv.1,kv.2)) ws->∃rs,Carries (dR P w) ws rs/\KV ae rs
 |[],_,r=>by rw[map_nil] at r;cases r;exact⟨[],True.intro,.nil⟩
 |p::ae,_,r=>by
  rw[TX] at r
  cases r with
  | @cons a b as bs h t=>obtain⟨rs,c,q⟩:=Hn (P:=P) (w:=w) t;obtain⟨b1,b2⟩:=b;exact⟨(p.1,b2)::rs,⟨lz h.1,rfl,c⟩,.cons ⟨rfl,h.2⟩ q⟩
def Dt (eo:List (TE×TE)):TE:=fun σ H Q=>∀p,H p=none->lJ eo σ (ax H p (.dK [])) fun ps H2=>H2 p=some (.dK [])/\∃ae:List (aw×V),ps=ae.map (fun kv=>(kV kv.1,kv.2))/\ae.length<=15/\Q (.ref p) (ax H2 p (.dK (lI [] ae)))
theorem Ny {pos:Pos}{fP:List (Option Expr)}{dA:List Expr}{eo:List (TE×TE)}(h:rH X pos fP dA eo)(fk:fP.all (·.isSome)=true)(hl:fP.length=dA.length)(h0:fP ≠ [])
  (Jv:fP.length<=15):PE X (.Dict fP dA pos) (Dt eo):=by
 intro aa s σ H Q I q;have hn:=I.hok.fresh (Tf s.heap.objs.size);have I1:=I.laid (a:=s.heap.objs.size) (o:=.dK []) (h':=s.heap.push { cls:=.type "dict",data:=.dict #[] }) (t':=s.toks) (fun _ _ q=>S7 _ q) (Tf _) (zJ s.heap I.big);refine wpAny_Dict_walk (knd:=dR X.prog X.w) fk hl h0 Jv (ay (h aa _ σ _ _ I1 (q _ hn)) fun ws s2 ⟨ps,H2,I2,bW,e,ae,ep,lk,q2⟩=>?_);subst ep;obtain⟨rs,c,rk⟩:=Hn (P:=X.prog) (w:=X.w) bW;obtain⟨z,hd,vs0,r0,dd⟩:=tK I2.hok e;cases r0;refine⟨rs,c,dd,fun h' iK hs=>⟨.ref s.heap.objs.size,_,?_,rfl,q2⟩⟩;have hz:(lI [] ae).length<=sizeLine:=by have h1:=HJ ae [];rw[length_nil] at h1;rw[TY];lia
 have he:∃q,h'.get? s.heap.objs.size=some q:=let ⟨q,_,_,hq,_⟩:=iK;⟨q,hq⟩
 exact qY I2 (by rw[e];exact True.intro) hs he (qR hz hd (rk.merge .nil) iK)
structure M1 (X:Cx)(o:Expr)(m:Str)(bV:Pos)(e:Expr)(aK:Pos):Prop where
 base:attributeBase o m X.env (eval o X.env)=eval o X.env
 few:((backTo aK (starEach [e] X.env)).all (fun x => !x.1)&&(backToKw aK (keywordEach [] X.env)).all (fun x=>x.1.isSome)
  && decide (([e]:List Expr).length+([]:List Keyword).length+(if ([]:List Keyword).isEmpty then 0 else 1)<30))=true
 line:(bV.endLine==aK.line)=true
 trees:backTo aK (starEach [e] X.env) = [(false,eval e X.env)]
structure M2 (X:Cx)(o:Expr)(m:Str)(bV:Pos)(e f:Expr)(aK:Pos):Prop where
 base:attributeBase o m X.env (eval o X.env)=eval o X.env
 few:((backTo aK (starEach [e,f] X.env)).all (fun x => !x.1)&&(backToKw aK (keywordEach [] X.env)).all (fun x=>x.1.isSome)
  && decide (([e,f]:List Expr).length+([]:List Keyword).length+(if ([]:List Keyword).isEmpty then 0 else 1)<30))=true
 line:(bV.endLine==aK.line)=true
 trees:backTo aK (starEach [e,f] X.env) = [(false,eval e X.env),(false,eval f X.env)]
def uX (H:Hp)(a:Addr):Prop:=(∃ae,Rd H a (.dK ae))∨∃ae,Rd H a (.dT ae)
theorem yp {s:Shared}(I:Inv X aa σ H s)(d:uX H a):
  s.TypeIs (.ref a) "dict"/\(∀b,Value.ref a = .ref b->∃ob,s.heap.get? b=some ob/\ob.dict=none)/\(a==sysModules)=false:=by
 rcases d with ⟨ae,e⟩|⟨ae,e⟩
 ·obtain⟨_,hd,vs,_,dd⟩:=ly I.hok e;refine⟨dd.typeIs,fun b q=>?_,hd⟩;cases q;obtain⟨ob,_,_,h1,h2,_⟩:=dd;exact⟨ob,h1,h2.2.1⟩
 ·obtain⟨_,hd,xs,_,dd⟩:=oB I.hok e;refine⟨dd.typeIs,fun b q=>?_,hd⟩;cases q;obtain⟨ob,_,_,h1,h2,_⟩:=dd;exact⟨ob,h1,h2.2.1⟩
section
variable {s:Shared}{d:V}{r:Value}{o:Option V}{A:Around}{E:am}
theorem Lj {Q:am}(hu:A.units+1<cLine)(I:Inv X aa σ H s)(g:DGet H a y o)(ry:RelV y u)(h:∀w' s',Inv X aa σ H s'->RelV (o.getD .non) w'->Q w' s'):
  wpAny (model X.prog X.w) A (call (.builtin "dict.get") [.ref a,u]) Q E s:=by
 rcases g with ⟨ae,k,e,ey,l⟩|⟨ae,k,b,e,ey,eb,l⟩
 ·subst ey;obtain⟨z,hd,vs,bW,dd⟩:=ly I.hok e;refine call_meetsIn UK dd.typeIs PySem.F.entry_dict_get (PySem.F.args_dict_get_2 _ _) (meets_dict_get (dR X.prog X.w) a (lz ry) hd) ⟨_,dd.mapOf,h _ _ (I.tok _) ?_⟩;rw[l];exact(bW.val k).getD rfl
 ·subst ey;cases (show u=Value.ref b from ry);obtain⟨z,hd,xs,bW,dd⟩:=oB I.hok e;refine call_meetsIn UK dd.typeIs PySem.F.entry_dict_get (PySem.F.args_dict_get_2 _ _) (meetsH_dict_get (tupleKind (dR X.prog X.w)) a b hd) ⟨tupleKind_room_in1 hu,k,xs,qS I.hok eb,dd,h _ _ (I.tok _) ?_⟩;rw[l];exact(bW.val k).getD rfl
theorem Li {Q:am}(hu:A.units+1<cLine)(I:Inv X aa σ H s)(g:DGet H a y o)(ry:RelV y u)(rd:RelV d r)(h:∀w' s',Inv X aa σ H s'->RelV (o.getD d) w'->Q w' s'):
  wpAny (model X.prog X.w) A (call (.builtin "dict.get") [.ref a,u,r]) Q E s:=by
 rcases g with ⟨ae,k,e,ey,l⟩|⟨ae,k,b,e,ey,eb,l⟩
 ·subst ey;obtain⟨z,hd,vs,bW,dd⟩:=ly I.hok e;refine call_meetsIn UK dd.typeIs PySem.F.entry_dict_get (PySem.F.args_dict_get_3 _ _ _) (meets_dict_get_default (dR X.prog X.w) a (lz ry) hd r) ⟨_,dd.mapOf,h _ _ (I.tok _) ?_⟩;rw[l];exact(bW.val k).getD rd
 ·subst ey;cases (show u=Value.ref b from ry);obtain⟨z,hd,xs,bW,dd⟩:=oB I.hok e;refine call_meetsIn UK dd.typeIs PySem.F.entry_dict_get (PySem.F.args_dict_get_3 _ _ _) (meetsH_dict_get_default (tupleKind (dR X.prog X.w)) a b hd r) ⟨tupleKind_room_in1 hu,k,xs,qS I.hok eb,dd,h _ _ (I.tok _) ?_⟩;rw[l];exact(bW.val k).getD rd
end
def Lh (td ty:TE):TE:=fun σ H Q=>td σ H fun x H1=>∃a,x = .ref a/\uX H1 a/\ty σ H1 fun y H2=>∃o,DGet H2 a y o/\Q (o.getD .non) H2
def D5 (td ty tx:TE):TE:=fun σ H Q=>td σ H fun x H1=>∃a,x = .ref a/\uX H1 a/\ty σ H1 fun y H2=>tx σ H2 fun z H3=>∃o,DGet H3 a y o/\Q (o.getD z) H3
section
variable {o f:Expr}{td ty tx:TE}
theorem O5 (hu:X.A.units+1<cLine)(ho:PE X o td)(he:PE X e ty)(m:M1 X o "get" bV e aK):PE X (.Call (.Attribute o "get" bV) [e] [] aK) (Lh td ty):=by intro aa s σ H Q I h;refine wpAny_Call_method m.base m.few m.line PySem.F.plainAttrs_dict UK PySem.F.type_dict_get (ay (ho aa s σ H _ I h) fun u s1 ⟨x,H1,I1,rx,a,ex,d,q1⟩=>?_);subst ex;obtain rfl:u=Value.ref a:=rx;obtain⟨t1,t2,_⟩:=yp I1 d;refine⟨t1,t2,?_⟩;rw[m.trees];refine UG rfl (Vc (UA (ay (he aa s1 σ H1 _ I1 q1) fun iv s2 ⟨y,H2,I2,ry,ov,g,q2⟩=>U6 ?_)));exact Lj hu I2 g ry fun w' s3 I3 gb=>⟨_,H2,I3,gb,q2⟩
theorem O4 (hu:X.A.units+1<cLine)(ho:PE X o td)(he:PE X e ty)(hf:PE X f tx)(m:M2 X o "get" bV e f aK):PE X (.Call (.Attribute o "get" bV) [e,f] [] aK) (D5 td ty tx):=by
 intro aa s σ H Q I h;refine wpAny_Call_method m.base m.few m.line PySem.F.plainAttrs_dict UK PySem.F.type_dict_get (ay (ho aa s σ H _ I h) fun u s1 ⟨x,H1,I1,rx,a,ex,d,q1⟩=>?_);subst ex;obtain rfl:u=Value.ref a:=rx;obtain⟨t1,t2,_⟩:=yp I1 d;refine⟨t1,t2,?_⟩;rw[m.trees]
 refine UG rfl (Vc (UA (ay (he aa s1 σ H1 _ I1 q1) fun iv s2 ⟨y,H2,I2,ry,q2⟩=>
  UA (ay (hf aa s2 σ H2 _ I2 q2) fun fv s3 ⟨z,H3,I3,rz,ov,g,q3⟩=>U6 ?_))))
 exact Li hu I3 g ry rz fun w' s4 I4 gb=>⟨_,H3,I4,gb,q3⟩
end
section
variable {s:Shared}{A:Around}{E:am}
theorem O3 {Q:am}(I:Inv X aa σ H s)(e:Rd H a (.dK ae))(h:∀p s',H p=none->Inv X aa σ (ax H p (.dK ae)) s'->Q (.ref p) s'):wpAny (model X.prog X.w) A (call (.type "dict") [.ref a]) Q E s:=by obtain⟨z,hd,vs,bW,dd⟩:=ly I.hok e;refine kt_call_dict hd dd (by rw[<- bW.length];exact z) fun h' iK hs=>?_;refine h _ _ (I.hok.fresh (Tf _)) (I.laid (a:=s.heap.objs.size) (o:=.dK ae) (t':=s.toks) (fun b q hq=>?_) (Tf _) (qR z (Ux.mpr (Ne.symm (TU I.big))) bW iK));exact(hs.2 b (TU (To hq))).trans (S7 _ hq)
end
end L2
namespace Att
open PySem PySem.W PySem.Calls PyProof.Rows
variable {h:Heap}
theorem Sx {P:Params}:∀(ns:List Int) (vs:List Value),WellAll P h vs (ns.map WData.int)->IntsAre vs ns:=by
 intro ns
 induction ns with
 |nil=>intro vs w;rw[map_nil] at w;cases w;exact .nil
 |cons n ns ih=>
  intro vs w;rw[TX] at w
  cases w with
  |cons a b=>cases a;exact .cons _ _ (ih _ b)
theorem Qj {l:OpenLaw}{n:Nat}(hn:l.most=some n){P:Params}{h:Heap}{args:List WData}{dB:List Value}
  (i6:l.row.toRowW.claim.pre args=true) (hwl:WellAll P h dB args):
  ∃a vs ns,dB = [Value.ref a]/\args = [WData.list (ns.map WData.int)]/\h.get? a=some { cls:=.type "list",data:=.seq vs.toArray }/\IntsAre vs ns/\ns.length<=n:=by
 have IC:WShape.hasAll [] args [.list .int]=true:=(pre_splitW i6).1;have hc:l.pre.holds [] { args:=args }=true:=(pre_splitW i6).2;obtain⟨d,r,rfl,h1,h2⟩:=hasAllW_cons IC;obtain rfl:=hasAllW_nil h2;obtain⟨xs,rfl,h3⟩:=hasW_list h1;obtain⟨ns,rfl⟩:=items_int h3
 have hlen:ns.length<=n:=by
  unfold OpenLaw.pre at hc;have h4:(WTm.not (.lt (.lit (.int (n:Int))) (.len (.arg 0)))).holds [] { args:=[.list (ns.map .int)] }=true:=by have h4:=(holds_andW hc).1;rw[hn] at h4;exact h4
  have h5:=condW_of h4 (w_not (w_lt w_lit (w_len_list (w_arg rfl))));rw[Ta] at h5;refine Nat.le_of_not_lt fun q=>?_;have q':(n:Int)<((ns.length:Nat):Int):=by lia
  first
   | (rw[T8 q'] at h5;exact absurd h5 (by decide))
   | (simp at h5;lia)
 cases hwl with
 |cons w1 w2=>
  cases w2
  cases w1 with
  |list ho fk=>exact⟨_,_,ns,rfl,rfl,ho,Sx ns _ fk,hlen⟩
theorem Qi (l:OpenLaw)(args:List WData):l.row.toRowW.claim.post args (.bool true) args=true:=
 postW_of (r:=l.row.toRowW) (X:=(true==true))
  (show WShape.has [] (.bool true) .bool=true by first|rfl|decide|simp [WShape.has,WShape.arms,WShape.armsAll])
  (show(WTm.eq .res (.lit (.bool true))).value [] { args:=args,res:=some (.bool true),after:=args }=some (.bool (true==true)) from w_eq_bool (w_res rfl) w_lit) rfl
theorem attach_call {l:OpenLaw}{n:Nat}{q:Program}{loose:List Str}{XP:(Str->Option Value)->Heap->Prop}{YP:World->Heap->Prop}{d:DefRec}
  (hn:l.most=some n) (qh:d.params.defaults = [])
  (call:∀(w:World) (s₀ s₁:Shared) (mg mb:Str->Option Value) (fa:Addr) (o:Obj) (pm cd fw:Value) (a:Addr) (vs:List Value) (ns:List Int),
   Ground q loose [] XP w s₀ mg mb s₁.heap->YP w s₁.heap →
   s₁.heap.get? fa=some o->o.data = .func (docDef d.name d.params d.body d.scope pm cd fw)->s₁.heap.CodeRec cd d.name->mg d.name=some (.ref fa) →
   s₁.heap.get? a=some { cls:=.type "list",data:=.seq vs.toArray }->IntsAre vs ns->ns.length<=n->s₁.gens = #[] →
   codeAny (model l.prog w) callerA (.call (.ref fa) ⟨[.ref a],[]⟩) (fun r s'=>r = .ok (.ret (.bool true))/\OldK s₁.heap s'.heap/\s'.os=s₁.os/\AllBare s'.gens) s₁):
  WalkO q loose XP YP l.row.toRowW d [] (fun f vs=>PySem.call f vs):=by
 intro w s₀ s₁ mg mb G Y fa o pm cd fw dV kV ho hd iz hD hmg hg args dB as i6 hlay hrd hwl hlo;obtain rfl:dV = .none:=Dflts.none hD qh;obtain rfl:kV = .none:=Dflts.noKw hD;obtain⟨a,vs,ns,rfl,rfl,hobj,hints,hlen⟩:=Qj hn i6 hwl;refine enter_call (codeAny_mono (call w s₀ s₁ mg mb fa o pm cd fw a vs ns G Y ho (fd_plain hd) iz hmg hobj hints hlen hg) fun r s' hq=>?_);obtain⟨rfl,h2,h3,h4⟩:=hq;exact⟨.inl ⟨.bool true,.bool true,[],rfl,fun _=>rfl,.bool true,Qi l _,fun _=>⟨List.Pairwise.nil,fun _ hm=>(nomatch hm)⟩⟩,h2,h3,h4⟩
end Att
namespace L2
open PySem PySem.Spec PyProof.Rows
variable {xs:List V}{us:List Value}{x aJ:Str}{H H':Hp}{a it C:Addr}{P prog:Program}{w:World}{h' base:Heap}{e tg iter elt:Expr}{X:Cx}{aa:List (Addr×Obj)}{σ:St}{i j:Nat}{K:W.Frag}{st:Stmt}{te:TE}{es ifs:List Expr}{g:TG}{bQ p p2:Pos}{fp:List Addr}{κ:Type}{mg:Str->Option Value}{CX:lU}{fd:FuncData}{ps N':List Str}{scope:Scope}{ns:List Int}{env:Env}{cl:List (Str×Addr)}
theorem Gy:∀{vs:List Value} {ns:List Int},IntsAre vs ns->Vals (ns.map V.int) vs
 |_,_,.nil=>.nil
 |_,_,.cons n t h=>.cons ⟨t,rfl⟩ (Gy h)
def xD (H:Hp):Prop:=∀b,H b=none∨∃o xs,H b=some (.frz o (.lst xs))
theorem O1 {mb:Str->Option Value}{k:Nat}{fa:Addr}{sp:Sp}{s₁:Shared}{vs:List Value}
  (KX:K.In s₁.heap) (gX:s₁.heap.Ns mainGlobals mg) (hb:s₁.heap.Ns builtinsNs mb) (Jm:∀x:Str,x≠"__name__"->mb x=bootBuiltins x) (vD:s₁.heap.NoLimit) (hg:s₁.gens = #[])
  (ha:s₁.heap.get? a=some { cls:=.type "list",data:=.seq vs.toArray }) (hi:IntsAre vs ns) (hl:ns.length<=sizeLine) (hr:Room k callerA)
  (F:∀base:Heap,K.In base->base.Ns mainGlobals mg->FnOk P w K mg base CX k fa fd [x] sp) (qj:∀(s:Shared) (u:Value),BindsTo s fd ⟨[u],[]⟩ [(x,u)])
  (hsp:∀H:Hp,xD H->SqL K H a (ns.map V.int)->sp [.ref a] H (fun v _=>v = .bl true) fun _ _ _=>False)
  (v8:∀H e s',CX [] H s₁ (fun _ _ _=>False) e s'->False):
  codeAny (model P w) callerA (.call (.ref fa) ⟨[.ref a],[]⟩) (fun r s'=>r = .ok (.ret (.bool true))/\OldK s₁.heap s'.heap/\s'.os=s₁.os/\AllBare s'.gens) s₁:=by
 have rv:=Gy hi;have lenV:=hi.length
 have qw:∀H:Hp,xD H->SqL K H a (ns.map V.int)->HOk P w H s₁.heap->(∀b,H b≠none->b=a)->(H a≠none->K.lookup a=none) →
   codeAny (model P w) callerA (.call (.ref fa) ⟨[.ref a],[]⟩) (fun r s'=>r = .ok (.ret (.bool true))/\OldK s₁.heap s'.heap/\s'.os=s₁.os/\AllBare s'.gens) s₁:=by
  intro H hO hS hok hA hK;have ia:∀{b:Addr} {o:Obj},s₁.heap.get? b=some o->H b=none->(kc s₁.heap H).get? b=some o:=fun e n=>Ph e n
  have fN:∀{b:Addr} {o:Obj} {es:Array DictEntry} {ep:Nat},s₁.heap.get? b=some o->o.data = .dict es ep->H b=none:=fun {b o es ep} e d=>by
   cases q:H b with
   |none=>rfl
   |some u=>have e':b=a:=hA b (by rw[q];simp);subst e';rw[ha] at e;cases e;have d':Data.seq vs.toArray _=Data.dict es ep:=d;injection d'
  have si:∀{b:Addr} {m:Str->Option Value},s₁.heap.Ns b m->(kc s₁.heap H).Ns b m:=fun {b m} ⟨o,es,ep,e,d,r⟩=>⟨o,es,ep,ia e (fN e d),d,r⟩
  have BN:K.In (kc s₁.heap H):=fun b o e=>ia (KX b o e) (by
   cases q:H b with
   |none=>rfl
   |some u=>
    have e':b=a:=hA b (by rw[q];simp);subst e'
    rw[hK (by rw[q];simp)] at e;injection e)
  have hM:Mod K mg (kc s₁.heap H):=⟨BN,si gX,⟨mb,si hb,Jm⟩,let ⟨mc,h1,h2⟩:=vD;⟨mc,si h1,h2⟩⟩;have e0:ky P w K mg (kc s₁.heap H) callerA [] s₁ H:=⟨rfl,hM,fun b o e=>NN e,Nat.le_of_eq (Qu _ _),trivial,fun b hb=>absurd (show b∈([]:List Addr) from hb) (by simp),hok,.of_eq hg⟩;refine codeAny_mono ((F _ BN (si gX)).run callerA [] s₁ H ⟨[.ref a],[]⟩ [.ref a] [.ref a] _ _ hr e0 (qj s₁ (.ref a)) (.cons rfl .nil) (hsp H hO hS)) fun r s' h=>?_
  cases r with
  |error e=>exact(v8 H e s' h).elim
  |ok fl=>
   cases fl with
   |next=>exact False.elim h
   |brk=>exact False.elim h
   |cont=>exact False.elim h
   |ret u=>
    obtain⟨v,H',os,bare,un,hok',r',q⟩:=h;have q':v = .bl true:=q;subst q';obtain rfl:u=Value.bool true:=r';refine⟨rfl,OldK.of_keep fun b o e=>?_,os,bare⟩
    cases q:H b with
    |none=>exact un.keep b o e q (by intro z;exact absurd (show b∈([]:List Addr) from z) (by simp)) (by simp)
    |some u=>
     rcases hO b with z|⟨ob,xs,z⟩
     ·rw[q] at z;injection z
     ·have z2:=un.frzs b ob _ z;obtain⟨e1,_⟩:=hok b _ z;obtain⟨e2,_⟩:=hok' b _ z2;rw[e] at e1;cases e1;exact e2
 cases hk:K.lookup a with
 |some o=>have e:=KX a o hk;rw[ha] at e;cases e;refine qw (fun _=>none) (fun _=>.inl rfl) (.inr ⟨_,vs.toArray,_,hk,rfl,rfl,rfl,by rw[Ti,lenV];exact hl,by simpa using rv⟩) (fun b u z=>by have z':(none:Option HO)=some u:=z;injection z') (fun b z=>absurd rfl z) fun z=>absurd rfl z
 |none=>
  refine qw (fun b=>if b=a then some (.frz { cls:=.type "list",data:=.seq vs.toArray } (.lst (ns.map V.int))) else none) (fun b=>?_) (.inl (.inr ⟨{ cls:=.type "list",data:=.seq vs.toArray },Tt rfl⟩)) (fun b u z=>?_) (fun b z=>?_) fun _=>hk
  ·by_cases hb:b=a
   ·exact .inr ⟨_,_,Tt hb⟩
   ·exact .inl (Tp hb)
  ·by_cases hb:b=a
   ·have z':=(Tt hb).symm.trans z;cases z';subst hb;exact⟨ha,by rw[Ta];exact hl,vs,_,rv,ha⟩
   ·have z':=(Tp hb).symm.trans z;injection z'
  ·by_cases hb:b=a
   ·exact hb
   ·exact absurd (Tp hb) z
theorem walk_of {l:PySem.W.OpenLaw}{n k:Nat}{q:Program}{loose:List Str}{XP:(Str->Option Value)->Heap->Prop}{YP:World->Heap->Prop}{d:DefRec}{K:Params->W.Frag}{CX:World->lU}{sp:World->Sp}
  (hn:l.most=some n) (cy:n<=sizeLine) (qh:d.params.defaults = []) (hr:Room k callerA)
  (hY:∀(w:World) (h:Heap),YP w h->(K w.params).In h)
  (F:∀(w:World) (mg:Str->Option Value) (fa:Addr) (h:Heap),(K w.params).In h->h.Ns mainGlobals mg->mg d.name=some (.ref fa) →
   ∃fd:FuncData,(∀(s:Shared) (u:Value),BindsTo s fd ⟨[u],[]⟩ [(x,u)]) ∧
    ∀base:Heap,(K w.params).In base->base.Ns mainGlobals mg->FnOk l.prog w (K w.params) mg base (CX w) k fa fd [x] (sp w))
  (hsp:∀(w:World) (H:Hp) (a:Addr) (ns:List Int),ns.length<=n->xD H->SqL (K w.params) H a (ns.map V.int)->sp w [.ref a] H (fun v _=>v = .bl true) fun _ _ _=>False)
  (v8:∀(w:World) (H:Hp) (s:Shared) (e:Value) (s':Shared),CX w [] H s (fun _ _ _=>False) e s'->False):
  PySem.W.WalkO q loose XP YP l.row.toRowW d [] (fun f vs=>PySem.call f vs):=by
 refine Att.attach_call hn qh fun w s₀ s₁ mg mb fa o pm cd fw a vs ns G Y ho hd iz hmg hobj hints hlen hg=>?_;have KX:=hY w _ Y;obtain⟨fd,hb,hF⟩:=F w mg fa _ KX G.T.g hmg;exact O1 KX G.T.g G.T.b G.T.builtins G.T.nolimit hg hobj hints (Ue hlen cy) hr hF hb (fun H hO hS=>hsp w H a ns hlen hO hS) fun H e s'=>v8 w H s₁ e s'
abbrev f6:lU:=fun _ _ _ _ _ _=>False
abbrev E0:XK:=fun _ _ _=>False
theorem xY:yq f6 X E0:=fun _ _ _ _ _ _ _ h=>h.elim
structure Fun (K:W.Frag)(x aJ:Str)(st:Stmt)(f:Addr)(fd:FuncData):Prop where
 ex:∃(oc:Value) (od:Option Addr) (kV fw pm:Value) (an:Option Addr) (cj ct:Value) (kK:Array (Option Value)),
  fd=PySem.W.fnOf x aJ (lP st) (ju st) (ej st) .none kV fw pm an cj ct/\K.lookup f=some ⟨oc,od,.func fd,kK⟩/\PySem.W.codeIn K cj aJ=true
 kp:PySem.W.keepIn K (.ref f)=true
section
theorem Fun.ok {f:Addr}{N:List Str}{k:Nat}{sp:Sp}(F:Fun K x aJ st f fd)(S:bo N ps (ej st))(len:∀vs H Q E,sp vs H Q E->vs.length=ps.length)
  (jc:∀(cj:Value) (A:Around) (outer:List Env) (s:Shared) (H:Hp) (vs:List V) (Q:VK) (E:XK),Room k (A.deeper (envOfC aJ (ej st) s.heap.objs.size f cj))->sp vs H Q E →
   ∃t,PSs (m4 f6 P w K mg base N aJ (ej st) f cj A outer s H E).nox (ju st) t/\t { nx:=fun _ H'=>Q .non H',rt:=Q } (gh N vs) H):FnOk P w K mg base f6 (k+1) f fd ps sp:=by
 obtain⟨oc,od,kV,fw,pm,an,cj,ct,kK,rfl,lk,iz⟩:=F.ex;refine Kc lk iz S len fun A outer s H vs Q E hr hsp=>?_;obtain⟨t,h,q⟩:=jc cj A outer s H vs Q E hr hsp;exact⟨t,h.nox,q⟩
theorem Fun.binds {f:Addr}(F:Fun K x aJ st f fd)
  (h:∀(kV fw pm:Value) (an:Option Addr) (cj ct:Value) (us:List Value),us.length=ps.length->bindArgs (PySem.W.fnOf x aJ (lP st) (ju st) (ej st) .none kV fw pm an cj ct) ⟨us,[]⟩=pure (ps.zip us)):Binds K fd ps []:=by
 obtain⟨oc,od,kV,fw,pm,an,cj,ct,kK,rfl,lk,iz⟩:=F.ex;exact .all (h kV fw pm an cj ct)
theorem Lg {f:Addr}{oc:Value}{od an:Option Addr}{kK:Array (Option Value)}{kV fw pm cj ct:Value}(l:K.lookup f=some ⟨oc,od,.func (PySem.W.fnOf x aJ (lP st) (ju st) (ej st) .none kV fw pm an cj ct),kK⟩)
  (c:PySem.W.codeIn K cj aJ=true) (k:PySem.W.keepIn K (.ref f)=true):Fun K x aJ st f (PySem.W.fnOf x aJ (lP st) (ju st) (ej st) .none kV fw pm an cj ct):=⟨⟨oc,od,kV,fw,pm,an,cj,ct,kK,rfl,l,c⟩,k⟩
end
section
theorem pv (i:Nat){x:Str}{pos:Pos}(hN:X.N[i]? = some x:=by rfl)(hv:rF X.env.scope x:=by first|exact Or.inl rfl|exact Or.inr (Or.inl rfl)|exact Or.inr (Or.inr rfl))(hd:(x==("__debug__":Str))=false:=by decide)
  (iz:(x==("__classdict__":Str))=false:=by decide):PE X (.Name x pos) (sX i):=En hN hv hd iz
end
theorem JL {A B:Prop}(h:B):if false=true then A else B:=by rw[Tp Tq];exact h
theorem xC {A B:Prop}(h:A):if true=true then A else B:=by rw[Tt rfl];exact h
theorem aL {c A B:Prop}[Decidable c](h1:c->A)(h2:¬c->B):if c then A else B:=by
 by_cases h:c
 ·rw[Tt h];exact h1 h
 ·rw[Tp h];exact h2 h
def Same (H H':Hp):Prop:=∀b o,H b=some o->H' b=some o
theorem Same.refl (H:Hp):Same H H:=fun _ _ h=>h
theorem Same.trans {H1 H2:Hp}(a:Same H H1)(b:Same H1 H2):Same H H2:=fun c o h=>b c o (a c o h)
theorem Same.free (e:Same H H'){l:Addr}(h:H' l=Option.none):H l=Option.none:=by
 cases q:H l with
 |none=>rfl
 |some o=>rw[e l o q] at h;injection h
theorem Same.seq (e:Same H H')(h:SqL K H a xs):SqL K H' a xs:=by
 rcases h with (h|⟨o,h⟩)|h
 ·exact .inl (.inl (e _ _ h))
 ·exact .inl (.inr ⟨o,e _ _ h⟩)
 ·exact .inr h
section
theorem Qh:gH X (.builtin "len") (fun xs H Q=>∃a ae,xs = [V.ref a]/\H a=some (.dK ae)/\Q (.int ae.length) H):=by intro aa s σ H xs us Q I r h;obtain⟨a,ae,rfl,ha,q⟩:=h;obtain⟨u,rfl,ru⟩:=iN r;cases ru;exact J8 I (.inl ha) fun t s' I'=>⟨.int ae.length,H,I',⟨t,rfl⟩,q⟩
end
section
variable {A:Around}{E:am}{R:Result->Shared->Prop}{s:Shared}
theorem RX {cO:Expr}{pos:Pos}{it ak:Value}(I:Nat->Shared->Prop)
  (eE:∀n s,I n s->wpAny (model prog w) A (pyNext it) (fun r s1=>match r with
   |none=>R (.ok .next) s1
   |some v=>wpAny (model prog w) A (letOwnedTupleGo cO it v) (fun _ se=>wpAny (model prog w) A (assign cO env v) (fun _ s2=>
     wpAny (model prog w) A (forIn ifs true fun c r=>if r=true then do let ok ← isTrue c env (eval c env);pure (ForInStep.yield ok) else pure (ForInStep.yield r)) (fun ok s3=>
      if ok=true then wpAny (model prog w) A (eval elt env) (fun x s4=>
       wpAny (model prog w) A (call (.builtin "list.append") [ak,x]) (fun _ s5=>∃m,m<n/\I m s5) (fun _ _=>False) s4) (fun _ _=>False) s3
      else ∃m,m<n/\I m s3) (fun _ _=>False) s2) (fun _ _=>False) se) (fun _ _=>False) s1) (fun _ _=>False) s)
  (n:Nat) (h:I n s):
  codeAny (model prog w) A (.compLoop (.ListComp elt [⟨cO,iter,ifs,0⟩] scope pos) 0 it ak env) R s:=by
 refine codeAny_loop rfl I (fun n s hI=>?_) n h;show wpAny _ A ((compTurn (.ListComp elt [⟨cO,iter,ifs,0⟩] scope pos) 0 it ak env).onRaise (fun x=>do noteFrame x env;theTreesLotGoes x)) _ _ s;refine wpAny_noted ?_;rw[compTurn_list];refine S6 (wpAny_standAt (S6 (Uz (eE n s hI) (fun r s₁ h₁=>?_) fun _ _ h'=>h'.elim)))
 cases r with
 |none=>exact Tj h₁
 |some v=>
  refine S6 (Uz h₁ (fun _ se h1'=>?_) fun _ _ h'=>h'.elim);refine S6 (Uz h1' (fun _ s₂ h₂=>S6 (Uz h₂ (fun ok s₃ h₃=>?_) fun _ _ h'=>h'.elim)) fun _ _ h'=>h'.elim)
  cases ok with
  |false=>exact Tj ⟨rfl,h₃⟩
  |true=>exact S6 (S6 (Uz h₃ (fun x s₄ h₄=>S6 (Uz h₄ (fun _ s₅ h₅=>Tj (Tj ⟨rfl,h₅⟩)) fun _ _ h'=>h'.elim)) fun _ _ h'=>h'.elim))
end
theorem AI:∀(names:List (Str×NameKind)) (cs:List (Str×Addr)),(∀n,(n,NameKind.free)∈names->∃c,env.cells.lookup n=some c) →
  ∃cl,(forIn names cs fun(x:Str×NameKind) (r:List (Str×Addr))=>match x with
   | (name,kind)=>if (kind==NameKind.free)=true then do let c ← cellOf env name;pure (ForInStep.yield ((name,c)::r)) else pure (ForInStep.yield r):Sem (List (Str×Addr)))=pure cl ∧
   (∀p∈cl,p∈cs∨env.cells.lookup p.1=some p.2)/\(∀p∈cs,p∈cl)/\(∀n,(n,NameKind.free)∈names->∃c,(n,c)∈cl)
 |[],cs,_=>⟨cs,by simp,fun p hp=>.inl hp,fun p hp=>hp,fun n hn=>by cases hn⟩
 | (n,k)::r,cs,h=>by
  by_cases hk:(k==NameKind.free)=true
  ·have d9:k=NameKind.free:=eq_of_beq hk
   subst d9;obtain⟨c,hc⟩:=h n (Te);obtain⟨cl,e,h1,h2,h3⟩:=AI r ((n,c)::cs) fun m hm=>h m (Tb _ hm);refine⟨cl,?_,fun p hp=>?_,fun p hp=>h2 p (Tb _ hp),fun m hm=>?_⟩
   ·rw[forIn_cons];simp only [hk,Vi];unfold cellOf;rw[hc];exact e
   ·rcases h1 p hp with q|q
    ·rcases Ts.mp q with q|q
     ·subst q;exact .inr hc
     ·exact .inl q
    ·exact .inr q
   ·rcases Ts.mp hm with q|q
    ·cases q;exact⟨c,h2 _ Te⟩
    ·exact h3 m q
  ·obtain⟨cl,e,h1,h2,h3⟩:=AI r cs fun m hm=>h m (Tb _ hm)
   refine⟨cl,?_,h1,h2,fun m hm=>?_⟩
   ·rw[forIn_cons];simp only [hk];exact e
   ·rcases Ts.mp hm with q|q
    ·cases q;exact absurd rfl hk
    ·exact h3 m q
theorem Hm [BEq κ][LawfulBEq κ]{β : Type}:∀{l:List (κ × β)} {x : κ} {c : β},l.lookup x=some c->(x,c)∈l
 |[],_,_,h=>by simp at h
 | (n,k)::r,x,c,h=>by
  cases hx:x==n with
  |true=>simp only [UH,hx] at h;cases h;have e:=eq_of_beq hx;subst e;exact Te
  |false=>simp only [UH,hx] at h;exact Tb _ (Hm h)
theorem Hl [BEq κ][LawfulBEq κ]{β : Type}:∀{l:List (κ × β)} {x : κ} {c : β},(x,c)∈l->∃c',l.lookup x=some c'
 | (n,k)::r,x,c,h=>by
  cases hx:x==n with
  |true=>exact⟨k,by simp only [UH,hx]⟩
  |false=>
   rcases Ts.mp h with q|q
   ·cases q;simp at hx
   ·obtain⟨c',e⟩:=Hl q;exact⟨c',by simp only [UH,hx];exact e⟩
theorem Hk (h:∀n,(n,NameKind.free)∈scope.names->∃c,env.cells.lookup n=some c):
  ∃cl,closureFor scope env=pure cl/\(∀x c,cl.lookup x=some c->env.cells.lookup x=some c)/\∀n,(n,NameKind.free)∈scope.names->∃c,cl.lookup n=some c:=by
 obtain⟨cl,e,h1,_,h3⟩:=AI scope.names [] h;refine⟨cl,?_,fun x c hx=>?_,fun n hn=>?_⟩
 ·have e2:closureFor scope env=((forIn scope.names ([]:List (Str×Addr)) fun(x:Str×NameKind) (r:List (Str×Addr))=>match x with
     | (name,kind)=>if (kind==NameKind.free)=true then do let c ← cellOf env name;pure (ForInStep.yield ((name,c)::r)) else pure (ForInStep.yield r):Sem (List (Str×Addr))) >>= fun r=>pure r):=rfl
  rw[e2,e];rfl
 ·rcases h1 _ (Hm hx) with q|q
  ·cases q
  ·exact q
 ·obtain⟨c,hc⟩:=h3 n hn;exact Hl hc
noncomputable def eL (X:Cx)(N':List Str)(scope:Scope)(cl:List (Str×Addr))(C:Addr)(ex:List Addr)(s0:Shared)(H0:Hp):Cx:=
 { X with N:=N',s₀:=s0,H₀:=H0,env:=compEnvC scope cl C X.env,outer:=X.stack,stack:=X.stack,ex:=ex,fn:=fun _=>false,pn:=[],xe:=fun _ _=>False }
section
variable {s:Shared}
theorem Inv.track {o:HO}(I:Inv X aa σ H s)(f:da X aa H a)(new:ObjOk X.prog X.w (ax H a o) s.heap a o):Inv X aa σ (ax H a o) s:=by
 obtain⟨f0,f1,f2,f3,f4,f5⟩:=f;have ne:∀b u,H b=some u->b≠a:=fun b u e=>cb e f0;refine⟨I.ok,I.os,I.bare,⟨I.base.keep,I.base.slot,fun b ob e n hx=>?_,I.base.there,fun b xs e=>?_,fun b ob u e=>?_,fun b ps e=>?_⟩,I.loc,I.cell,?_,fun x c e=>?_,fun p hp=>?_,fun b u e=>?_,I.len⟩
 ·have hb:b≠a:=by
   rintro rfl;rcases f3 with z|z
   ·exact hx z
   ·exact absurd (TK (To e) z) (Ul _)
  rw[az hb];exact I.base.free b ob e n hx
 ·have q:=I.base.tups b xs e;rw[az (ne _ _ q)];exact q
 ·have q:=I.base.frzs b ob u e;rw[az (ne _ _ q)];exact q
 ·obtain⟨more,q⟩:=I.base.tbls b ps e;exact⟨more,by rw[az (ne _ _ q)];exact q⟩
 ·rw[az (Ne.symm f1)];exact I.free
 ·rw[az (f4 x c e)];exact I.freeC x c e
 ·obtain⟨e,n,ne',nf,d⟩:=I.pin p hp;exact⟨e,by rw[az (f5 p hp)];exact n,ne',nf,d⟩
 ·by_cases hb:b=a
  ·subst hb;rw[bu] at e;cases e;exact new
  ·rw[az hb] at e;exact(I.hok b u e).stay (fun c v _ q=>q) (fun c q=>by rw[az (ne _ _ q)];exact q) fun c xs q=>by rw[az (ne _ _ q)];exact q
end
def PTs (X:Cx)(ifs:List Expr)(t:TT):Prop:=
 ∀(aa:List (Addr×Obj)) (s:Shared) (σ:St) (H:Hp) (Q:Bool->Hp->Prop),Inv X aa σ H s->t σ H Q →
  wpAny (model X.prog X.w) X.A (forIn ifs true fun c r=>if r=true then do let ok ← isTrue c X.env (eval c X.env);pure (ForInStep.yield ok) else pure (ForInStep.yield r)) (TP X aa σ Q) X.xe s
def jW:TT:=fun _ H Q=>Q true H
theorem Nw:PTs X [] jW:=fun _ _ _ H _ I h=>wpAny_tests_nil ⟨H,I,h⟩
theorem yY {c:Expr}{t:TT}(h:PT X c t):PTs X [c] t:=fun aa s σ H Q I q=>wpAny_tests_one (h aa s σ H Q I q)
noncomputable def oJ (src:List (Option Nat))(σ:St):St:=src.map fun o=>match o with|some j=>(σ[j]?).getD none|none=>none
def tJ (src:List (Option Nat))(wi:TI)(g:TG)(tt:TT)(te:TE):TE:=fun σ H Q=>wi σ H fun J H1=>∃W:Nat->Nat->List V->St->Hp->Prop,(∃m,W 0 m [] (oJ src σ) H1)/\∀i m ys σc H,W i m ys σc H →
 (J.stop i H/\∀l,H l=none->Q (.ref l) (ax H l (.lst ys))) ∨
 (J.go i H/\ys.length<sizeLine/\∀x H',J.yld i H x H'->g x σc H' fun σ2 H2=>tt σ2 H2 fun b H3=>
  if b=true then te σ2 H3 fun v H4=>∃m',m'<m/\W (i+1) m' (ys ++ [v]) σ2 H4 else ∃m',m'<m/\W (i+1) m' ys σ2 H3)
section
variable {pos:Pos}{src:List (Option Nat)}{wi:TI}{tt:TT}
theorem AW {env:Env}:∀{names:List (Str×NameKind)} {x:Str} {k:NameKind},(names.map fun(n,k)=>if (k==NameKind.free&&env.scope.kind == .function&&env.kindOf n==some .cell) then (n,NameKind.cell) else (n,k)).lookup x=some k →
  (k = .cell∨k = .free)->(∀y∈names,y.2 ≠ .cell)->(x,NameKind.free)∈names
 |[],_,_,h,_,_=>by simp at h
 | (n,k')::r,x,k,h,hk,hc=>by
  have ih:=@AW env r x k;have h':List.lookup x ((if (k'==NameKind.free&&env.scope.kind == .function&&env.kindOf n==some .cell)=true then (n,NameKind.cell) else (n,k'))::(r.map fun(n,k)=>if (k==NameKind.free&&env.scope.kind == .function&&env.kindOf n==some .cell) then (n,NameKind.cell) else (n,k)))=some k:=h
  by_cases hx:x=n
  ·subst hx
   by_cases hf:k' = .free
   ·subst hf;exact Te
   ·have e:(k'==NameKind.free)=false:=by simpa using hf
    rw[e] at h';simp only [Bool.false_and,Uo,UU,UH,UW] at h';have e':k'=k:=Tw h';rcases hk with q|q
    ·exact absurd (e'.trans q) (hc (x,k') Te)
    ·exact absurd (e'.trans q) hf
  ·have e:(x==n)=false:=by simpa using hx
   have h2:(r.map fun(n,k)=>if (k==NameKind.free&&env.scope.kind == .function&&env.kindOf n==some .cell) then (n,NameKind.cell) else (n,k)).lookup x=some k:=by
    by_cases hc2:(k'==NameKind.free&&env.scope.kind == .function&&env.kindOf n==some .cell)=true
    ·rw[Tt hc2] at h';simp only [UH,e] at h';exact h'
    ·rw[Tp hc2] at h';simp only [UH,e] at h';exact h'
   exact Tb _ (ih h2 hk fun y hy=>hc y (Tb _ hy))
structure bJ (X:Cx)(scope:Scope)(N':List Str)(src:List (Option Nat)):Prop where
 kind:scope.kind = .function
 cell:∀y∈scope.names,y.2 ≠ .cell
 names:∀x∈scope.names,x.2 = .local->scope.names.lookup x.1=some .local
 fr:∀n,(n,NameKind.free)∈scope.names->X.env.kindOf n=some .cell∨X.env.kindOf n=some .free
 excl:∀n,(n,NameKind.free)∈scope.names->¬scope.names.lookup n=some .local
 len:N'.length=src.length
 src:∀(i j:Nat),src[i]? = some (some j)->∃x:Str,N'[i]? = some x/\X.N[j]? = some x/\(x,NameKind.free)∈scope.names
theorem Hj {D:Addr}{s3:Shared}{h1:Heap}{tk:Nat}(S:bJ X scope N' src)(I3:Inv X aa σ H s3)
  (ee:∀x c,cl.lookup x=some c->X.env.cells.lookup x=some c) (gz:∀n,(n,NameKind.free)∈scope.names->∃c,cl.lookup n=some c) (hC:C=s3.heap.objs.size)
  (hf:∀b∈D::fp,da X aa H b) (hlt:∀b∈D::fp,b<s3.heap.objs.size) (gX:h1.Ns C (fun _=>none)) (hk:∀b o,s3.heap.get? b=some o->h1.get? b=some o):
  Inv (eL X N' scope cl C (D::fp) s3 H) [] (oJ src σ) H { s3 with heap:=h1,toks:=tk }:=by
 have pL:∀b o,s3.heap.get? b=some o->b≠C:=fun b o e=>by rw[hC];exact TU (To e)
 have HC:H C=none:=I3.hok.fresh (Nat.le_of_eq hC.symm)
 have ok:(eL X N' scope cl C (D::fp) s3 H).Ok:=by
  refine⟨I3.ok.mod,S.kind,I3.ok.glob,I3.ok.blt,Nat.le_of_eq hC.symm,fun x y c e1 e2=>I3.ok.inj x y c (ee x c e1) (ee y c e2),fun x hx=>?_,fun x c z=>absurd z Tq,I3.ok.hd,I3.ok.frames,.inl rfl,fun b hb=>⟨?_,fun x c e=>?_⟩,I3.bs,Ue I3.ok.bsz I3.sz,fun b o e hb=>?_,fun b hb=>?_,I3.stack,I3.stkFree⟩
  ·refine gz x ?_
   rcases hx with z|z
   ·exact AW (env:=X.env) (show((scope.names.map _).lookup x)=some .cell from z) (.inl rfl) S.cell
   ·exact AW (env:=X.env) (show((scope.names.map _).lookup x)=some .free from z) (.inr rfl) S.cell
  ·show b≠C;rw[hC];exact TU (hlt b hb)
  ·exact(hf b hb).2.2.2.2.1 x c (ee x c e)
  ·rcases(hf b hb).2.2.2.1 with z|z
   ·exact I3.ok.noex b o e z
   ·exact absurd (TK (TK (To e) I3.ok.bsz) z) (Ul _)
  ·intro z
   have z':b∈iA X.stack:=z;rcases Ts.mp (I3.stkSub b z') with q|q
   ·exact(hf b hb).2.1 q
   ·exact(hf b hb).2.2.1 q
 refine⟨ok,rfl,I3.bare,Un.kept hk,⟨_,gX,fun i x v e1 e2 e3=>?_⟩,fun x c e=>?_,HC,fun x c e=>I3.freeC x c (ee x c e),fun p hp=>absurd (show p∈([]:List (Addr×Obj)) from hp) (by simp),I3.hok.kept hk,?_⟩
 ·have iJ:(src.map fun o=>match o with|some j=>(σ[j]?).getD none|none=>none)[i]? = some (some v):=e2
  rw[Ui] at iJ
  cases q:src[i]? with
  |none=>rw[q] at iJ;injection iJ
  |some o=>
   rw[q] at iJ
   cases o with
   |none=>cases iJ
   |some j=>
    obtain⟨x',hx1,hx2,hx3⟩:=S.src i j q;have ex:x'=x:=Tw (hx1.symm.trans e1);subst ex
    have ev:σ[j]? = some (some v):=by
     cases q2:σ[j]? with
     |none=>simp [q2] at iJ
     |some o=>simp [q2] at iJ;rw[iJ]
    obtain⟨m,hn,hl⟩:=I3.loc;have hkind:=S.fr x' hx3
    obtain⟨u,r,l⟩:=hl j x' v hx2 ev (by
     rcases hkind with z|z
     ·exact .inr (.inl z)
     ·exact .inr (.inr z))
    refine⟨u,r,.inr ⟨?_,?_⟩⟩
    ·rcases e3 with z|z|z
     ·exfalso
      have z':(scope.names.map fun(n,k)=>if (k==NameKind.free&&X.env.scope.kind == .function&&X.env.kindOf n==some .cell) then (n,NameKind.cell) else (n,k)).lookup x'=some .local:=z;rcases l with ⟨k,_⟩|⟨_,c,hc,hcell⟩
      ·rcases hkind with y|y <;> (rw[y] at k;cases k)
      ·exact(show False by
        have:=S.names;have hm:=hx3;clear e2 iJ
        have gx:∀(names:List (Str×NameKind)),(names.map fun(n,k)=>if (k==NameKind.free&&X.env.scope.kind == .function&&X.env.kindOf n==some .cell) then (n,NameKind.cell) else (n,k)).lookup x'=some .local →
          names.lookup x'=some .local:=by
         intro names
         induction names with
         |nil=>intro h;simp at h
         |cons y r ih=>
          obtain⟨n,k⟩:=y;intro h;have h':List.lookup x' ((if (k==NameKind.free&&X.env.scope.kind == .function&&X.env.kindOf n==some .cell)=true then (n,NameKind.cell) else (n,k))::(r.map fun(n,k)=>if (k==NameKind.free&&X.env.scope.kind == .function&&X.env.kindOf n==some .cell) then (n,NameKind.cell) else (n,k)))=some .local:=h
          by_cases hx:(x'==n)=true
          ·by_cases hc2:(k==NameKind.free&&X.env.scope.kind == .function&&X.env.kindOf n==some .cell)=true
           ·rw[Tt hc2] at h';simp only [UH,hx] at h';cases h'
           ·rw[Tp hc2] at h';simp only [UH,hx] at h' ⊢;exact h'
          ·have fQ:(x'==n)=false:=by simpa using hx
           by_cases hc2:(k==NameKind.free&&X.env.scope.kind == .function&&X.env.kindOf n==some .cell)=true
           ·rw[Tt hc2] at h';simp only [UH,fQ] at h' ⊢;exact ih h'
           ·rw[Tp hc2] at h';simp only [UH,fQ] at h' ⊢;exact ih h'
        have z2:=gx _ z';obtain⟨c2,hc2⟩:=gz x' hx3
        exact S.excl x' hx3 z2)
     ·exact .inl z
     ·exact .inr z
    ·rcases l with ⟨k,_⟩|⟨_,c,hc,hcell⟩
     ·rcases hkind with y|y <;> (rw[y] at k;cases k)
     ·obtain⟨c2,hc2⟩:=gz x' hx3;have e:=ee x' c2 hc2;rw[hc] at e;cases e;obtain⟨oc,ho,hd⟩:=hcell;exact⟨c,hc2,oc,hk c oc ho,hd⟩
 ·obtain⟨v,oc,ho,hd⟩:=I3.cell x c (ee x c e);exact⟨v,oc,hk c oc ho,hd⟩
 ·show(src.map _).length=N'.length;rw[Ta,S.len]
theorem Hh {D:Addr}{bE:List (Addr×Obj)}{σc:St}{s3 s4:Shared}{ys:List V}(I3:Inv X aa σ H s3)(hC:C=s3.heap.objs.size)
  (hf:∀b∈D::fp,da X aa H b) (hlt:∀b∈D::fp,b<s3.heap.objs.size) (IY:Inv (eL X N' scope cl C (D::fp) s3 H) bE σc H' s4) (hD:H' D=none) (pl:s4.heap.PlainList D us.toArray) (rv:Vals ys us) (hz:ys.length<=sizeLine)
  (hs:Heap.SameBut C s4.heap h'):Inv X aa σ (ax H' D (.lst ys)) { s4 with heap:=h' }:=by
 have J:Inv X aa σ H' s4:=I3.call' IY.os IY.base IY.hok IY.bare (ch:=D::fp) fun b hb=>⟨(hf b hb).2.2.2.1,(hf b hb).2.1,(hf b hb).2.2.2.2.1,(hf b hb).2.2.2.2.2⟩;have fC:da X aa H' C:=I3.fpOk (Nat.le_of_eq hC.symm) IY.free;have J2:Inv X aa σ H' { s4 with heap:=h' }:=J.turned (t':=s4.toks) (fun b o hb e=>(hs.2 b hb).trans e) fC.1 fC.2.1 fC.2.2.2.1 fC.2.2.2.2.1 fC.2.2.2.2.2;have Js:D≠C:=by rw[hC];exact TU (hlt D Te)
 obtain⟨n,e⟩:=pl;have fD:=hf D Te;exact J2.track ⟨hD,fD.2⟩ ⟨hz,us,n,rv,(hs.2 D Js).trans e⟩
theorem F4 {D:Addr}{tn:Nat->Heap->Prop}{J:It}{σ0:St}{s3 s4:Shared}{R:Result->Shared->Prop}{W:Nat->Nat->List V->St->Hp->Prop}{m0:Nat}{Q:List V->Hp->Prop}
  (hc:X.calm=true) (T:en X.prog X.w X.K tg J fp it tn) (I3:Inv X aa σ H s3) (hC:C=s3.heap.objs.size)
  (hf:∀b∈D::fp,da X aa H b) (hlt:∀b∈D::fp,b<s3.heap.objs.size) (nW:D∉fp) (IY:Inv (eL X N' scope cl C (D::fp) s3 H) [] σ0 H s4) (st:tn 0 s4.heap) (pl:s4.heap.PlainList D #[])
  (hg:PG (eL X N' scope cl C (D::fp) s3 H) tg g) (ht:PTs (eL X N' scope cl C (D::fp) s3 H) ifs tt) (he:PE (eL X N' scope cl C (D::fp) s3 H) elt te) (w0:W 0 m0 [] σ0 H)
  (eE:∀i m ys σc H,W i m ys σc H->(J.stop i H/\Q ys H)∨(J.go i H/\ys.length<sizeLine/\∀x H',J.yld i H x H'->g x σc H' fun σ2 H2=>tt σ2 H2 fun b H3=>
   if b=true then te σ2 H3 fun v H4=>∃m',m'<m/\W (i+1) m' (ys ++ [v]) σ2 H4 else ∃m',m'<m/\W (i+1) m' ys σ2 H3))
  (fin:∀s5 σc H' ys us bE,Inv (eL X N' scope cl C (D::fp) s3 H) bE σc H' s5->H' D=none->s5.heap.PlainList D us.toArray->Vals ys us->ys.length<=sizeLine->Q ys H'->R (.ok .next) s5):
  codeAny (model X.prog X.w) X.A (.compLoop (.ListComp elt [⟨tg,iter,ifs,0⟩] scope pos) 0 (.ref it) (.ref D) (compEnvC scope cl C X.env)) R s4:=by
 have eY:(eL X N' scope cl C (D::fp) s3 H).env=compEnvC scope cl C X.env:=rfl;generalize hY:eL X N' scope cl C (D::fp) s3 H=Y at *;have e1:Y.prog=X.prog:=by rw[<- hY];rfl
 have e2:Y.w=X.w:=by rw[<- hY];rfl
 have e3:Y.K=X.K:=by rw[<- hY];rfl
 have e4:Y.A=X.A:=by rw[<- hY];rfl
 have e5:Y.calm=true:=by rw[<- hY];exact hc
 have e6:Y.xe=fun _ _=>False:=by rw[<- hY];rfl
 have e7:Y.env.locals=C:=by rw[eY];rfl
 have e8:Y.ex=D::fp:=by rw[<- hY];rfl
 have e9:Y.pn = []:=by rw[<- hY];rfl
 have S4:Y.fs=iA X.stack:=by rw[<- hY];rfl
 have BX:∀x c,Y.env.cells.lookup x=some c->∀b∈D::fp,c≠b:=fun x c e b hb=>(IY.ok.exf b (by rw[e8];exact hb)).2 x c e;have vi:∀b∈D::fp,b∉Y.fs:=fun b hb=>IY.ok.exfs b (by rw[e8];exact hb)
 have BS:∀(bE:List (Addr×Obj)) (H':Hp),(∀p∈bE,p.1=D)->∀b∈fp,H' b=none->da Y bE H' b:=fun bE H' hp b hb hn=>
  ⟨hn,by rw[e7,hC];exact TU (hlt b (Tb _ hb)),vi b (Tb _ hb),.inl (by rw[e8];exact Tb _ hb),fun x c e=>BX x c e b (Tb _ hb),fun p mJ z=>by
   rw[e9,Ua] at mJ;have q:=hp p mJ;rw[z] at q;rw[q] at hb
   exact nW hb⟩
 have Jx:∀(bE:List (Addr×Obj)) (H':Hp),(∀p∈bE,p.1≠D)->H' D=none->da Y bE H' D:=fun bE H' hp hn=>
  ⟨hn,by rw[e7,hC];exact TU (hlt D Te),vi D Te,.inl (by rw[e8];exact Te),fun x c e=>BX x c e D Te,fun p mJ=>by
   rw[e9,Ua] at mJ
   exact hp p mJ⟩
 have T':en Y.prog Y.w Y.K tg J fp it tn:=by rw[e1,e2,e3];exact T
 rw[<- eY,<- e1,<- e2,<- e4]
 refine RX (fun n s'=>∃i ys us σc H',Inv Y [] σc H' s'/\tn i s'.heap/\(∀b∈fp,H' b=none)/\H' D=none/\s'.heap.PlainList D (us:List Value).toArray/\Vals ys us/\ys.length<=sizeLine/\W i n ys σc H') ?_ m0
  ⟨0,[],[],σ0,H,IY,st,fun b hb=>(hf b (Tb _ hb)).1,(hf D Te).1,pl,.nil,T3 _,w0⟩
 rintro n s5 ⟨i,ys,us,σc,H5,I5,st5,fr5,hD5,pl5,rv5,hz5,w5⟩;obtain⟨nn,hob⟩:=id pl5
 have I5':Inv Y [(D,{ cls:=.type "list",data:=.seq us.toArray nn })] σc H5 s5:=I5.pins_of fun p hp=>by
  rw[Uk] at hp;subst hp
  exact⟨hob,hD5,by rw[e7,hC];exact TU (hlt D Te),vi D Te,fun v z=>by
   have z':Data.seq us.toArray nn=Data.cell v:=z
   injection z'⟩
 have f5:∀b∈fp,da Y [(D,{ cls:=.type "list",data:=.seq us.toArray nn })] H5 b:=fun b hb=>BS _ _ (fun p hp=>by rw[Uk] at hp;rw[hp]) b hb (fr5 b hb);rcases eE i n ys σc H5 w5 with ⟨stop,q⟩|⟨go,hz,step⟩
 ·refine ay (T'.done Y rfl rfl rfl e5 i _ s5 σc H5 (fun _ _=>False) I5' f5 st5 stop) fun r s6 ⟨hr,I6⟩=>?_;subst hr;exact fin s6 σc H5 ys us _ I6 hD5 ⟨nn,(I6.pin (D,_) (TM _ Te)).1⟩ rv5 hz5 q
 ·refine ay (T'.item Y rfl rfl rfl e5 i _ s5 σc H5 (fun _ _=>False) I5' f5 st5 go) fun r s6 ⟨u,hr,h6⟩=>?_
  subst hr;refine ay h6 fun _ s7 ⟨x,H7,I7,r7,y7,st7,fr7⟩=>?_;have f7:∀b∈fp,da Y [(D,{ cls:=.type "list",data:=.seq us.toArray nn })] H7 b:=fun b hb=>BS _ _ (fun p hp=>by rw[Uk] at hp;rw[hp]) b hb (fr7 b hb);have I7':=I7.pinned f7 (T.obj _ _ st7);have hx:=hg _ s7 σc H7 x u _ I7' r7 (step x H7 y7);rw[e6] at hx;refine ay hx fun _ s8 ⟨σ8,H8,I8,q8⟩=>?_;have hx2:=ht _ s8 σ8 H8 _ I8 q8;rw[e6] at hx2;have kQ:∀{σ9:St} {H9:Hp} {s9:Shared},Inv Y ([(D,{ cls:=.type "list",data:=.seq us.toArray nn })]++qT fp s7.heap) σ9 H9 s9->tn (i+1) s9.heap/\(∀b∈fp,H9 b=none)/\H9 D=none/\s9.heap.get? D=some { cls:=.type "list",data:=.seq us.toArray nn }:=fun {σ9 H9 s9} I9=>by have pD:=I9.pin (D,_) (TM _ (TL _ Te));refine⟨T.keep _ _ _ st7 fun b hb o e=>(I9.pin (b,o) (TM _ (TM _ (uQ hb e)))).1,fun b hb=>?_,pD.2.1,pD.1⟩;obtain⟨o,e,d⟩:=T.obj _ _ st7 b hb;exact(I9.pin (b,o) (TM _ (TM _ (uQ hb e)))).2.1
  refine ay hx2 fun ok s9 ⟨H9,I9,q9⟩=>?_
  cases ok with
  |false=>rw[Tp Tq] at q9;rw[Tp Tq];obtain⟨m',hm,w9⟩:=q9;obtain⟨k1,k2,k3,k4⟩:=kQ I9;exact⟨m',hm,i+1,ys,us,σ8,H9,I9.pins_of (fun p hp=>nomatch hp),k1,k2,k3,⟨nn,k4⟩,rv5,hz5,w9⟩
  |true=>
   rw[Tt rfl] at q9;rw[Tt rfl];have hx3:=he _ s9 σ8 H9 _ I9 q9;rw[e6] at hx3;refine ay hx3 fun xv gw ⟨v,H10,I10,r10,m',hm,w10⟩=>?_;obtain⟨k1,k2,k3,k4⟩:=kQ I10;have hl:=rv5.length;refine wpAny_list_append_plain ⟨nn,k4⟩ (fun h' Ij sb=>?_) (by rw[Ti];lia);have fD:=Jx [] H10 (fun p hp=>nomatch hp) k3;have SK:Inv Y [] σ8 H10 { gw with heap:=h' }:=(I10.pins_of (pins':=[]) fun p hp=>nomatch hp).turned (t':=gw.toks) (fun b o hb e=>(sb.2 b hb).trans e) fD.1 fD.2.1 fD.2.2.2.1 fD.2.2.2.2.1 fD.2.2.2.2.2;refine⟨m',hm,i+1,ys ++ [v],us ++ [xv],σ8,H10,SK,T.keep _ _ _ k1 (fun b hb o e=>(sb.2 b ?_).trans e),k2,k3,?_,rv5.append (.cons r10 .nil),?_,w10⟩
   ·intro z;rw[z] at hb;exact nW hb
   ·rw[show(us ++ [xv]).toArray=us.toArray.push xv by simp];exact Ij
   ·rw[Tg,List.length_singleton];exact hz
theorem E9 (hc:X.calm=true)(S:bJ X scope N' src)(hi:PI X tg iter wi)
  (hb:∀cl C ex s0 H0,PG (eL X N' scope cl C ex s0 H0) tg g/\PTs (eL X N' scope cl C ex s0 H0) ifs tt/\PE (eL X N' scope cl C ex s0 H0) elt te)
  (hs:∀x,foldedSetIterable iter X.env x=pure x:=by intro _;rfl):PE X (.ListComp elt [⟨tg,iter,ifs,0⟩] scope pos) (tJ src wi g tt te):=by
 intro aa s σ H Q I h;obtain⟨cl,hclos,ee,gz⟩:=Hk (scope:=scope) (env:=X.env) fun n hn=>I.ok.has n (S.fr n hn);rw[eval_ListComp];refine wpAny_comprehension_free (use:=none) rfl hs hclos S.kind S.names ?_;refine ay (hi aa s σ H _ I h) fun v s1 h1=>ay h1 fun sk s2 h2=>?_;obtain⟨it,fp,tn,J,H2,e,I2,T,st2,f2,W,⟨m0,w0⟩,eE⟩:=h2;subst e;refine TZ (wpAny_newFunctionEnv S.cell (by intro y hy;simp at hy) (fun h₁ gX₁ hsb₁=>?_) S.kind);dsimp only at gX₁ hsb₁ ⊢;generalize hH3:s2.heap.push { cls:=.type "list",dict:=none,data:=.seq ([]:List Value).toArray }=H3 at gX₁ hsb₁ ⊢;have hsz:H3.objs.size=s2.heap.objs.size+1:=by rw[<- hH3,UX]
 have I3:Inv X aa σ H2 { s2 with heap:=H3 }:=I2.kept (t':=s2.toks) fun b o e=>by rw[<- hH3];exact S7 _ e
 have fD:da X aa H2 s2.heap.objs.size:=I2.fpOk (Tf _) (I2.hok.fresh (Tf _));have nW:s2.heap.objs.size∉fp:=fun hm=>by obtain⟨o,e,_⟩:=T.obj 0 _ st2 _ hm;exact Ul _ (To e)
 have hf:∀b∈s2.heap.objs.size::fp,da X aa H2 b:=fun b hb=>by
  rcases Ts.mp hb with z|z
  ·rw[z];exact fD
  ·exact f2 b z
 have hlt:∀b∈s2.heap.objs.size::fp,b<H3.objs.size:=fun b hb=>by
  rcases Ts.mp hb with z|z
  ·rw[z,hsz];exact Nat.lt_succ_self _
  ·obtain⟨o,e,_⟩:=T.obj 0 _ st2 b z;rw[hsz];exact Nat.lt_succ_of_lt (To e)
 have kp:∀b o,H3.get? b=some o->h₁.get? b=some o:=fun b o e=>hsb₁.extBut b o (TU (To e)) (S7 _ e);have vm:∀b o,s2.heap.get? b=some o->h₁.get? b=some o:=fun b o e=>kp b o (by rw[<- hH3];exact S7 _ e);have cS:h₁.PlainList s2.heap.objs.size #[]:=⟨_,kp _ _ (by rw[<- hH3];exact Tu _ rfl)⟩;have pj:tn 0 h₁:=T.keep _ _ _ st2 fun b _ o e=>vm b o e;have IY:=Hj (N':=N') (src:=src) (scope:=scope) (cl:=cl) (C:=H3.objs.size) (D:=s2.heap.objs.size) (fp:=fp) (s3:={ s2 with heap:=H3 }) (h1:=h₁) (tk:=s2.toks) S I3 ee gz rfl hf hlt gX₁ kp;obtain⟨hg,ht,he⟩:=hb cl H3.objs.size (s2.heap.objs.size::fp) { s2 with heap:=H3 } H2
 have loop:=F4 (R:=compPost (model X.prog X.w) X.A X.xe none (EP X aa σ Q) (.ref s2.heap.objs.size) H3.objs.size) (elt:=elt) (iter:=iter) (ifs:=ifs) (pos:=pos) (Q:=fun ys H=>∀l,H l=none->Q (.ref l) (ax H l (.lst ys)))
  hc T I3 rfl hf hlt nW IY pj cS hg ht he w0 eE (fun s5 σc H' ys us bE IY5 hD pl rv hz q=>by
   obtain⟨m,hn,_⟩:=IY5.loc;refine⟨m,hn,fun h' hs'=>⟨.ref s2.heap.objs.size,ax H' s2.heap.objs.size (.lst ys),?_,rfl,q _ hD⟩⟩
   exact Hh I3 rfl hf hlt IY5 hD pl rv hz hs')
 exact codeAny_compStart_list loop (T.self _ 0 _ _ _ pj loop)
end
section
theorem Qg:OpR X (compareOp .LtE) (fun x y H Q=>∃i j,x = .str i/\y = .str j/\Q (.bl (!decide (j.cps.toList<i.cps.toList))) H):=by intro aa s σ H x y v u Q I rx ry h;obtain⟨i,j,rfl,rfl,q⟩:=h;obtain⟨t,rfl⟩:=rx;obtain⟨t',rfl⟩:=ry;exact PySem.P.le_str ⟨.bl _,H,I,rfl,q⟩
theorem Qf:OpR X (compareOp .Gt) (fun x y H Q=>∃i j,x = .str i/\y = .str j/\Q (.bl (decide (j.cps.toList<i.cps.toList))) H):=by intro aa s σ H x y v u Q I rx ry h;obtain⟨i,j,rfl,rfl,q⟩:=h;obtain⟨t,rfl⟩:=rx;obtain⟨t',rfl⟩:=ry;exact PySem.P.gt_str ⟨.bl _,H,I,rfl,q⟩
def pz:V->Option Int->Option Int->Hp->VK->Prop:=fun x lo hi H Q=>∃z,x = .str z/\z.length<=sizeLine/\Q (.str (Txt.slice z lo hi)) H
theorem Lf:SlR X pz:=by
 intro aa s σ H x v vl vu lo hi sl Q I rx hs pl pu h;obtain⟨z,rfl,hz,q⟩:=h;obtain⟨t,rfl⟩:=rx;refine⟨"str",_,F.slot_str_getitem.lookup,typeIs_str _ _ _,?_⟩;obtain⟨os,hos,cR,hds⟩:=id hs;have fin:∀t' k,EP X aa σ Q (.str (Txt.slice z lo hi) t') { s with toks:=k }:=fun t' k=>⟨.str _,H,I.tok _,⟨_,rfl⟩,q⟩
 cases pl with
 |none=>
  cases pu with
  |none=>exact Vn (l:=none) (u:=none) (st:=none) ⟨os,hos,cR,hds⟩ rfl (post_val_or_str ⟨Ue (Txt.slice_le z _ _) hz,fin⟩)
  |int j uj=>exact Vn (l:=none) (u:=some (j,uj)) (st:=none) ⟨os,hos,cR,hds⟩ rfl (post_val_or_str ⟨Ue (Txt.slice_le z _ _) hz,fin⟩)
 |int i ui=>
  cases pu with
  |none=>exact Vn (l:=some (i,ui)) (u:=none) (st:=none) ⟨os,hos,cR,hds⟩ rfl (post_val_or_str ⟨Ue (Txt.slice_le z _ _) hz,fin⟩)
  |int j uj=>exact Vn (l:=some (i,ui)) (u:=some (j,uj)) (st:=none) ⟨os,hos,cR,hds⟩ rfl (post_val_or_str ⟨Ue (Txt.slice_le z _ _) hz,fin⟩)
theorem RC:gH X (.builtin "isinstance") (fun xs H Q=>∃x T ty b,xs = [x,.ty T]/\cJ X.K H x ty/\PySem.W.kitOne X.K ty (.type T)=some b/\Q (.bl b) H):=by intro aa s σ H xs us Q I r h;obtain⟨x,T,ty,b,rfl,h1,h2,q⟩:=h;obtain⟨u,w',rfl,rx,rT⟩:=Kd r;cases (show w'=Value.type T from rT);exact Qp I rx h1 h2 fun tk=>⟨.bl b,H,I.tok _,rfl,q⟩
theorem F3:∀{bs:List Bool} {us:List Value},Vals (bs.map V.bl) us->us=bs.map Value.bool
 |[],us,r=>by cases r;rfl
 |b::bs,us,r=>by
  cases r with
  |cons r1 r2=>cases r1;rw[F3 r2];rfl
theorem Q6 (bs:List Bool):((List.range bs.length).all fun i=>(bs[i]?).getD true)=bs.all id:=by
 rw[U3,Uq,Uq];constructor
 ·intro h b hb
  obtain⟨i,hi,rfl⟩:=List.getElem_of_mem hb;have:=h i (mem_range.mpr hi)
  simpa [Td hi] using this
 ·intro h i hi;have hi':=mem_range.mp hi;rw[Td hi'];exact h _ (Vo hi')
theorem Ry (hc:X.calm=true):gH X (.builtin "all") (fun xs H Q=>∃(p:Addr) (bs:List Bool),xs = [.ref p]/\SqL X.K H p (bs.map V.bl)/\Q (.bl (bs.all id)) H):=by
 intro aa s σ H xs us Q I r h;obtain⟨p,bs,rfl,hq,q⟩:=h;obtain⟨u,rfl,rx⟩:=iN r;cases rx;obtain⟨af,r',pl,hz⟩:=I.list hq;have e:=F3 r';subst e;have hlt:p<s.heap.objs.size:=by obtain⟨_,e,_⟩:=pl.isList;exact To e
 refine call_all_walk (wpAny_pyIter_list pl.isList ?_)
 refine⟨s.heap.objs.size,[s.heap.objs.size,p],[s.heap.objs.size],(bs.map Value.bool).toArray.size,_,_,fun i=>(bs[i]?).getD true,rfl,Walks.list (A:=X.A.in1) (I.ok.hd hc) _ p (TU hlt) (bs.map Value.bool).toArray,
  ⟨⟨_,Tu _ rfl,rfl,rfl⟩,pl.isList.push _⟩,fun i v s' Q' E' hP hQ=>?_,fun h' tk hk=>?_⟩
 ·have qo:(bs.map Value.bool)[i]? = some v:=by simpa using hP
  rw[Ui] at qo
  cases e:bs[i]? with
  |none=>rw[e] at qo;injection qo
  |some b=>rw[e] at qo;cases qo;simp only [e,Option.getD_some] at hQ;exact Ut hQ
 ·have e:((List.range (bs.map Value.bool).toArray.size).all fun i=>(bs[i]?).getD true)=bs.all id:=by
   rw[Ti,Ta];exact Q6 bs
  rw[e];refine⟨.bl _,H,I.kept fun b o eb=>hk b o ?_ (S7 _ eb),rfl,q⟩;intro z;rw[Uk.mp z] at eb;exact Ul _ (To eb)
def lu (xs ys:List V):Bool:=xs.length==ys.length&&(List.range xs.length).all fun j=>ft (xs.getD j .non) (ys.getD j .non)
theorem Q5 (hu:X.A.units<cLine):OpR X (compareOp .Eq) (fun x y H Q=>∃a b xs ys,x = .ref a/\y = .ref b/\SqL X.K H a xs/\SqL X.K H b ys/\xs.all dz=true/\ys.all dz=true/\Q (.bl (lu xs ys)) H):=by
 intro aa s σ H x y v u Q I rx ry h;obtain⟨a,b,xs,ys,rfl,rfl,hx,hy,fx,fy,q⟩:=h;cases rx;cases ry;obtain⟨af,r,pl,hz⟩:=I.list hx;obtain⟨aA,r2,du,hz2⟩:=I.list hy;have hl:=r.length;have hl2:=r2.length
 by_cases hs:xs.length=ys.length
 ·refine SeqAt.eq_listAt (e:=fun j=>ft (xs.getD j .non) (ys.getD j .non)) pl.isList du.isList (by simp only [Ti];lia) hu (fun j h1 h2=>?_) ?_
  ·simp only [Ti] at h1 h2
   have g1:xs[j]? = some xs[j]:=Td (by lia);have g2:ys[j]? = some ys[j]:=Td (by lia);obtain⟨u1,e1,ru1⟩:=r.get g1;obtain⟨u2,e2,ru2⟩:=r2.get g2
   have k1:af.toArray[j]=u1:=by
    have:af[j]? = some af[j]:=Td h1;rw[e1] at this
    simpa using (Tw this).symm
   have k2:aA.toArray[j]=u2:=by
    have:aA[j]? = some aA[j]:=Td h2;rw[e2] at this
    simpa using (Tw this).symm
   rw[k1,k2,show xs.getD j .non=xs[j] by simp [List.getD,g1],show ys.getD j .non=ys[j] by simp [List.getD,g2]];exact nt ru1 ru2 (Uq.mp fx _ (Vo _)) (Uq.mp fy _ (Vo _))
  ·refine bH I q ?_;unfold lu;rw[Ti,<- hl,hs];simp
 ·refine SeqAt.eq_list_lengthsAt pl.isList du.isList (by simp only [Ti,bne_iff_ne];lia) hu ?_;refine bH I q ?_;unfold lu;rw[Ux.mpr hs];rfl
end
section
variable {pos:Pos}{src:List (Option Nat)}{wi:TI}{tt:TT}
theorem Hg {iU:Pos}(hc:X.calm=true)(hN:X.N.Nodup)(i9:X.N[i]? = some x)(hx:lT X.env.scope x)(S:bJ X scope N' src)(hi:PI X tg iter wi)
  (hb:∀cl C ex s0 H0,PG (eL X N' scope cl C ex s0 H0) tg g/\PTs (eL X N' scope cl C ex s0 H0) ifs tt/\PE (eL X N' scope cl C ex s0 H0) elt te)
  (mH:swapsWith (.ListComp elt [⟨tg,iter,ifs,0⟩] scope pos) (some (.Name x bQ)) iU.line X.env=pure true:=by rfl)
  (hs:∀x,foldedSetIterable iter X.env x=pure x:=by intro _;rfl)
  (qf:X.fn x=true∨X.env.scope.names.lookup x=some .local:=by first|exact .inl rfl|exact .inr rfl|assumption):
  PS X (.Assign [.Name x bQ] (.ListComp elt [⟨tg,iter,ifs,0⟩] scope pos) iU) (ox (tJ src wi g tt te) (qK i)):=by
 intro aa s σ H D I h;obtain⟨cl,hclos,ee,gz⟩:=Hk (scope:=scope) (env:=X.env) fun n hn=>I.ok.has n (S.fr n hn);rw[exec_Assign_Name_used _ _ _ _ mH];refine S6 (wpAny_standAt (S6 ?_));show wpAny _ _ (do let _ ← comprehension (.ListComp elt [⟨tg,iter,ifs,0⟩] scope pos) scope X.env _ (newList []) false (eval iter X.env) (some (assign (.Name x bQ) X.env))) _ _ s;refine S6 (Uz (wpAny_comprehension_free (use:=some (assign (.Name x bQ) X.env)) (Q:=fun _ s'=>SP X aa D .next s') rfl hs hclos S.kind S.names ?_) (fun _ s' hq=>Tj (Tj hq)) fun _ _ e=>e);refine ay (hi aa s σ H _ I h) fun v s1 h1=>ay h1 fun sk s2 h2=>?_;obtain⟨it,fp,tn,J,H2,e,I2,T,st2,f2,W,⟨m0,w0⟩,eE⟩:=h2;subst e;refine TZ (wpAny_newFunctionEnv S.cell (by intro y hy;simp at hy) (fun h₁ gX₁ hsb₁=>?_) S.kind);dsimp only at gX₁ hsb₁ ⊢;generalize hH3:s2.heap.push { cls:=.type "list",dict:=none,data:=.seq ([]:List Value).toArray }=H3 at gX₁ hsb₁ ⊢;have hsz:H3.objs.size=s2.heap.objs.size+1:=by rw[<- hH3,UX]
 have I3:Inv X aa σ H2 { s2 with heap:=H3 }:=I2.kept (t':=s2.toks) fun b o e=>by rw[<- hH3];exact S7 _ e
 have fD:da X aa H2 s2.heap.objs.size:=I2.fpOk (Tf _) (I2.hok.fresh (Tf _));have nW:s2.heap.objs.size∉fp:=fun hm=>by obtain⟨o,e,_⟩:=T.obj 0 _ st2 _ hm;exact Ul _ (To e)
 have hf:∀b∈s2.heap.objs.size::fp,da X aa H2 b:=fun b hb=>by
  rcases Ts.mp hb with z|z
  ·rw[z];exact fD
  ·exact f2 b z
 have hlt:∀b∈s2.heap.objs.size::fp,b<H3.objs.size:=fun b hb=>by
  rcases Ts.mp hb with z|z
  ·rw[z,hsz];exact Nat.lt_succ_self _
  ·obtain⟨o,e,_⟩:=T.obj 0 _ st2 b z;rw[hsz];exact Nat.lt_succ_of_lt (To e)
 have kp:∀b o,H3.get? b=some o->h₁.get? b=some o:=fun b o e=>hsb₁.extBut b o (TU (To e)) (S7 _ e);have vm:∀b o,s2.heap.get? b=some o->h₁.get? b=some o:=fun b o e=>kp b o (by rw[<- hH3];exact S7 _ e);have cS:h₁.PlainList s2.heap.objs.size #[]:=⟨_,kp _ _ (by rw[<- hH3];exact Tu _ rfl)⟩;have pj:tn 0 h₁:=T.keep _ _ _ st2 fun b _ o e=>vm b o e;have IY:=Hj (N':=N') (src:=src) (scope:=scope) (cl:=cl) (C:=H3.objs.size) (D:=s2.heap.objs.size) (fp:=fp) (s3:={ s2 with heap:=H3 }) (h1:=h₁) (tk:=s2.toks) S I3 ee gz rfl hf hlt gX₁ kp;obtain⟨hg,ht,he⟩:=hb cl H3.objs.size (s2.heap.objs.size::fp) { s2 with heap:=H3 } H2
 have loop:=F4 (R:=compPost (model X.prog X.w) X.A X.xe (some (assign (.Name x bQ) X.env)) (fun _ s'=>SP X aa D .next s') (.ref s2.heap.objs.size) H3.objs.size) (elt:=elt) (iter:=iter) (ifs:=ifs) (pos:=pos) (Q:=fun ys H=>∀l,H l=none->D.nx (σ.set i (some (.ref l))) (ax H l (.lst ys)))
  hc T I3 rfl hf hlt nW IY pj cS hg ht he w0 eE (fun s5 σc H' ys us bE IY5 hD pl rv hz q=>by
   have IX:Inv X aa σ (ax H' s2.heap.objs.size (.lst ys)) s5:=Hh (h':=s5.heap) I3 rfl hf hlt IY5 hD pl rv hz (.refl ..);show wpAny _ _ (assign (.Name x bQ) X.env (.ref s2.heap.objs.size)) _ _ s5;refine wpAny_assign_Name (GI (v:=.ref s2.heap.objs.size) IX hN i9 hx rfl (fun s6 I6 ⟨a,sb,ha⟩=>?_) qf);obtain⟨m,hn,_⟩:=IY5.loc
   have fC:da X aa (ax H' s2.heap.objs.size (.lst ys)) H3.objs.size:=I3.fpOk (Tf _) (by
    rw[az (by rw[hsz];exact UQ (Nat.lt_succ_self _))]
    exact IY5.free)
   have Jt:H3.objs.size≠a:=by
    rcases ha with z|z
    ·rw[z];exact fC.2.1
    ·exact fun q=>fC.2.2.2.2.1 x a z q.symm
   refine⟨m,hn.sameBut sb Jt,fun h' hs'=>⟨_,_,I6.turned (t':=s6.toks) (fun b o hb e=>(hs'.2 b hb).trans e) fC.1 fC.2.1 fC.2.2.2.1 fC.2.2.2.2.1 fC.2.2.2.2.2,q _ hD⟩⟩)
 exact codeAny_compStart_list loop (T.self _ 0 _ _ _ pj loop)
end
section
def xX (_ j:Int):Prop:=0<j/\j<18446744073709551616
theorem O0:OpR X (binaryOp .FloorDiv) (rI xX fun i j=>.int (i / j)):=sf fun i j _ _ _ _ _ hc q=>by have h1:(0:Int)<j:=hc.1;have h2:j<18446744073709551616:=hc.2;refine floordiv_int (by lia) (by rw[Int.fdiv_eq_ediv_of_nonneg i (by lia)];exact q) (.inl (PyProof.noPylong_of_log2 ?_));have S2:j.natAbs.log2<64:=(Nat.log2_lt (by lia)).mpr (by lia);lia
theorem Q4 (hu:X.A.units<cLine):OpR X (compareOp .NotEq) (fun x y H Q=>∃a b xs ys,x = .ref a/\y = .ref b/\SqL X.K H a xs/\SqL X.K H b ys/\xs.all dz=true/\ys.all dz=true/\Q (.bl (!lu xs ys)) H):=by
 intro aa s σ H x y v u Q I rx ry h;obtain⟨a,b,xs,ys,rfl,rfl,hx,hy,fx,fy,q⟩:=h;cases rx;cases ry;obtain⟨af,r,pl,hz⟩:=I.list hx;obtain⟨aA,r2,du,hz2⟩:=I.list hy;have hl:=r.length;have hl2:=r2.length
 by_cases hs:xs.length=ys.length
 ·refine SeqAt.RcNeAt.lists (e:=fun j=>ft (xs.getD j .non) (ys.getD j .non)) pl.isList du.isList (by simp only [Ti];lia) hu (fun j h1 h2=>?_) X.prog X.w _ _ ?_
  ·simp only [Ti] at h1 h2
   have g1:xs[j]? = some xs[j]:=Td (by lia);have g2:ys[j]? = some ys[j]:=Td (by lia);obtain⟨u1,e1,ru1⟩:=r.get g1;obtain⟨u2,e2,ru2⟩:=r2.get g2
   have k1:af.toArray[j]=u1:=by
    have:af[j]? = some af[j]:=Td h1;rw[e1] at this
    simpa using (Tw this).symm
   have k2:aA.toArray[j]=u2:=by
    have:aA[j]? = some aA[j]:=Td h2;rw[e2] at this
    simpa using (Tw this).symm
   rw[k1,k2,show xs.getD j .non=xs[j] by simp [List.getD,g1],show ys.getD j .non=ys[j] by simp [List.getD,g2]];exact nt ru1 ru2 (Uq.mp fx _ (Vo _)) (Uq.mp fy _ (Vo _))
  ·refine bH I q ?_;unfold lu;rw[Ti,<- hl,hs];simp
 ·refine SeqAt.RcNeAt.lists_lengths pl.isList du.isList (by simp only [Ti,bne_iff_ne];lia) hu X.prog X.w _ _ ?_;refine bH I q ?_;unfold lu;rw[Ux.mpr hs];rfl
end
noncomputable def lQ (kindOf:Str->Option NameKind)(XN:List Str)(scope:Scope)(N':List Str)(src:List (Option Nat)):Bool:=
 (scope.kind == .function)&&(scope.names.all fun y=>(y.2 != .cell)&&(y.2 != .local||scope.names.lookup y.1==some .local)&&(y.2 != .free||((kindOf y.1==some .cell||kindOf y.1==some .free)&&scope.names.lookup y.1 != some .local))) &&
 (N'.length==src.length)&&((List.range src.length).all fun i=>match src[i]? with
  |some (some j)=>(match N'[i]?,XN[j]? with|some x,some y=>x==y&&scope.names.contains (x,NameKind.free)|_,_=>false)
  |_=>true)
theorem RW {src:List (Option Nat)}(sc:Scope)(ID:X.env.scope=sc)(N:List Str)(hN:X.N=N)(h:lQ (fun x=>sc.names.lookup x) N scope N' src=true):bJ X scope N' src:=by
 subst ID hN;unfold lQ at h;simp only [S5,Uq,TN,bne_iff_ne,ne_eq,Bool.or_eq_true] at h;obtain⟨⟨⟨h1,h2⟩,h3⟩,h4⟩:=h;refine⟨h1,fun y hy=>(h2 y hy).1.1,fun y hy hl=>?_,fun n hn=>?_,fun n hn=>?_,h3,fun i j e=>?_⟩
 ·rcases(h2 y hy).1.2 with z|z
  ·exact absurd hl z
  ·exact z
 ·rcases(h2 _ hn).2 with z|z
  ·exact absurd rfl z
  ·exact z.1
 ·rcases(h2 _ hn).2 with z|z
  ·exact absurd rfl z
  ·exact z.2
 ·have hi:i<src.length:=(Tn.mp e).1
  have q:=h4 i (mem_range.mpr hi);rw[e] at q;dsimp only at q
  cases e1:N'[i]? with
  |none=>rw[e1] at q;injection q
  |some x=>
   cases e2:X.N[j]? with
   |none=>rw[e1,e2] at q;injection q
   |some y=>rw[e1,e2] at q;simp only [S5,TN] at q;obtain⟨rfl,q⟩:=q;exact⟨x,rfl,rfl,by simpa using q⟩
theorem oO {o:HO}(h:H a=none):Same H (ax H a o):=fun b u e=>by rw[az (cb e h)];exact e
section
variable {t:TA}
theorem ou (h:PE X (.Name x p) te)(hr:PA X es t):PA X (.Name x p::es) (jR te t):=jU h hr rfl
theorem JK {xs:List Expr}(h:PE X (.Tuple xs j p) te)(hr:PA X es t):PA X (.Tuple xs j p::es) (jR te t):=jU h hr rfl
theorem JJ {f:Expr}{xs:List Expr}{ks:List Keyword}(h:PE X (.Call f xs ks p) te)(hr:PA X es t):PA X (.Call f xs ks p::es) (jR te t):=jU h hr rfl
end
noncomputable def oH:Expr->Option V
 | .Constant (.int i) _ _=>some (.int i)
 | .Constant (.str x) _ _=>some (.str x)
 | .Constant (.bool b) _ _=>some (.bl b)
 | .Constant .none _ _=>some .non
 |_=>none
theorem Ld {st:Expr}{ts:TE}{pos:Pos}(he:PE X e te)(gV:PE X st ts):PE X (.Subscript e (.Slice none none (some st) p2) pos)
  (fun σ H Q=>te σ H fun x H1=>ts σ H1 fun y H2=>y = .int (-1)/\∃a xs,x = .ref a/\SqL X.K H2 a xs/\∀p,H2 p=none->Q (.ref p) (ax H2 p (.lst xs.reverse))):=by
 intro aa s σ H Q I h;refine Subscript_ (ay (he aa s σ H _ I h) fun v s1 ⟨x,H1,I1,r1,q1⟩=>?_);refine wpAny_Slice ?_;rw[evalPart_none];refine Tj (Tj ?_);rw[evalPart_some];refine ay (gV aa s1 σ H1 _ I1 q1) fun vs s3 ⟨y,H3,I3,ry,ey,a,xs,ex,hx,q⟩=>?_;subst ey ex;cases r1;obtain⟨t,rfl⟩:=ry;have I4:Inv X aa σ H3 { s3 with heap:=s3.heap.push { cls:=.type "slice",data:=.fields #[.none,.none,.int (-1) t] } }:=I3.kept (t':=s3.toks) fun b ob q=>S7 _ q;obtain⟨af,r,ht,hz⟩:=I4.list hx;have hlen:=r.length;refine tail_any (ops:=[.ref a,.ref s3.heap.objs.size]) ht.isList.typeIs slot_list_getitem.lookup (wpAny_getItem_list_slice ht.isList (Heap.IsSliceOf.new ..) .none .none (.int (-1) t) (by simp) ?_ (by rw[Ti] <;> lia)) (by with_unfolding_all rfl);rw[PySem.W.krv_pick];refine⟨.ref _,_,I4.laid (t':=s3.toks) (o:=.lst xs.reverse) (fun b ob q=>S7 _ q) (Tf _) ?_,rfl,q _ (I4.hok.fresh (Tf _))⟩
 exact⟨by rw[Uu];exact hz,af.reverse,0,r.reverse,by
  rw[show(af.toArray.toList.reverse).toArray=af.reverse.toArray by simp]
  exact Tu _ rfl⟩
theorem Same.tup {K:W.Frag}{H H':Hp}{a:Addr}{xs:List V}(e:Same H H')(h:SqT K H a xs):SqT K H' a xs:=by
 rcases h with (h|⟨o,h⟩)|h
 ·exact .inl (.inl (e _ _ h))
 ·exact .inl (.inr ⟨o,e _ _ h⟩)
 ·exact .inr h
theorem F2:∀{v:V},dz v=true->ft v v=true:=by
 intro v h
 cases v with
 |non=>rfl
 |bl b=>exact UW b
 |int i=>exact UW i
 |str x=>exact UW x
 |_=>injection h
end L2
namespace L2
open PySem PySem.Spec PyProof.Rows PySem.Builtin PySem.Builtin.Str
variable {x:Str}
theorem Nv {n:Nat}{j:Int}(h:(n:Int)<=j):(strSliceIndices none (some j) 1 n).length=n:=by
 unfold strSliceIndices sliceRange;simp only [show(1:Int)>0 by decide,Vi,Ta,length_range]
 split <;> (try split) <;> (try split) <;> (try simp only [Int.ediv_one]) <;> lia
theorem Nu {j:Int}(hx:0<x.length)(hj:1<=j):0<(Txt.slice x none (some j)).length:=by
 have hl:x.cps.toList.length=x.length:=by simp [Str.length]
 by_cases h:j<=x.length
 ·have e:=TN.mp (slice_closes_to (x:=x) (j:=j) ⟨by lia,by rw[hl];exact h⟩);rw[e];show 0<(List.toArray _).size;rw[Ti,T9,UN,hl];lia
 ·have e:Txt.slice x none (some j)=x:=by
   unfold Txt.slice;rw[Nv (show((x.length:Nat):Int)<=j by lia)];simp
  rw[e];exact hx
theorem D4 {j:Int}(hj:0<=j):((Txt.slice x none (some j)).length:Int)<=j:=by
 have hl:x.cps.toList.length=x.length:=by simp [Str.length]
 by_cases h:j<=x.length
 ·have e:=TN.mp (slice_closes_to (x:=x) (j:=j) ⟨hj,by rw[hl];exact h⟩);rw[e];show(((List.toArray _).size:Nat):Int)<=j;rw[Ti,T9,UN,hl];lia
 ·have:=Txt.slice_le x none (some j);lia
theorem OZ {i:Int}(h0:0<=i)(h:i<=x.length):((Txt.slice x (some i) none).length:Int)=x.length-i:=by
 have hl:x.cps.toList.length=x.length:=by simp [Str.length]
 rw[slice_from_eq h0 h rfl];show(((List.toArray _).size:Nat):Int)=_;rw[Ti,T9,UN,hl];lia
end L2
namespace L2
open PySem PySem.Spec PyProof.Rows
inductive Th where
 |at (v:V)
 |tup (xs:List Th)
 |lst (xs:List Th)
def yo:V->Bool
 | .str x=>decide (x.length<=1000)
 |v=>dz v
mutual
inductive fZ (H:Hp):V->Th->Prop where
 |at {v:V} (f:yo v=true):fZ H v (.at v)
 |tup {a:Addr} {vs:List V} {ts:List Th} (h:H a=some (.tup vs)) (r:dU H vs ts):fZ H (.ref a) (.tup ts)
 |lst {a:Addr} {vs:List V} {ts:List Th} (h:H a=some (.lst vs)) (r:dU H vs ts):fZ H (.ref a) (.lst ts)
inductive dU (H:Hp):List V->List Th->Prop where
 |nil:dU H [] []
 |cons {v:V} {vs:List V} {t:Th} {ts:List Th} (h:fZ H v t) (r:dU H vs ts):dU H (v::vs) (t::ts)
end
variable {X:Cx}
section
def fK:V->List V->Hp->VK->Prop:=fun x vs H Q=>∃l b xs zs,x = .ref l/\vs = [.ref b]/\H l=some (.lst xs)/\H b=some (.tup zs)/\xs.length+zs.length<=sizeLine/\Q .non (ax H l (.lst (xs++zs)))
theorem SD (l:Addr)(items:Array Value)(n:Nat)(b:Addr)(dJ:Array Value)(n2:Nat)(jg:Option Addr)(kD:Array (Option Value))(hs0:¬(!items.isEmpty&&Builtin.List.listTooLong (items.size+dJ.size))=true)(hs1:items.size<=sizeLine)(sy:items.size+dJ.size<=sizeLine+1):
  Meets (Builtin.«list.extend» ⟨[.ref l, .ref b], []⟩) (fun _ R s => s.heap.get? l = some { cls := .type "list", dict := none, data := .seq items n, slots := #[] } /\ s.heap.get? b = some { cls := .type "tuple", dict := jg, data := .seq dJ n2, slots := kD } /\ R (.ok (.ret Value.none)) { s with heap := s.heap.update l (Obj.mapSeq (· ++ dJ)), toks := s.toks }) := by
 refine .of_wp fun prog w A R s h=>?_;obtain⟨hp,g,d,tk,os⟩:=s;obtain⟨e1,e2,k⟩:=h;have g1:=AutoSeq1.idx_int;have g2:=AutoSeq1.sub_tuple_tuple;have g3:=AutoSeq1.sub_list_list;have g4:=AutoSeq1.sub_tuple_list;have g5:=AutoSeq1.sub_list_tuple;have wB:(items++dJ).size<=sizeLine+1:=by rw[Array.size_append];exact sy
 wp_walk using (wpAny_updateSeq e1 rfl (hz:=hs1) (_hz':=wB)),AutoSeq1.wpAny_loadPart' e1,AutoSeq1.wpAny_loadPart' e2
 exact⟨_,rfl,k⟩
theorem Q3:rL X "list.extend" fK:=by
 intro aa s σ H x vs v us Q I rx rv h;obtain⟨l,b,xs,zs,rfl,rfl,hH,hB,hz,q⟩:=h;cases rx;obtain⟨u,rfl,ru⟩:=rv.one;cases ru;obtain⟨z,af,n,r,hl,e⟩:=I.lstM hH;obtain⟨aA,r2,p2,hz2⟩:=I.tuple (SqT.of (K:=X.K) hB);have hl2:=r2.length;obtain⟨⟨c2,jg,data2,kD⟩,ho2,hc2,n2,hd2⟩:=id p2;simp only at hc2 hd2;subst hc2 hd2;have hsz:af.toArray.size+aA.toArray.size<=sizeLine:=by rw[Ti,Ti];lia
 have fR:¬ (!af.toArray.isEmpty&&Builtin.List.listTooLong (af.toArray.size+aA.toArray.size))=true:=by rw[zK hsz,Bool.and_false];exact Tq
 refine Vm F.slot_list_extend ⟨_,e,rfl⟩ F.entry_list_extend (F.args_list_extend_2 _ _)
  (SD l af.toArray n b aA.toArray n2 jg kD fR (by rw[Ti];lia) (by lia)) ⟨e,ho2,?_⟩
 refine⟨.non,_,I.lset (its':=af++aA) hH e (by simp) (r.append r2) ?_,rfl,q⟩;rw[Tg];lia
end
section
theorem Qe (hu:X.A.units<cLine):OpR X (compareOp .Eq) (fun x y H Q=>∃a b xs,x = .ref a/\y = .ref b/\SqL X.K H a xs/\SqL X.K H b []/\Q (.bl xs.isEmpty) H):=by
 intro aa s σ H x y v u Q I rx ry h;obtain⟨a,b,xs,rfl,rfl,hx,hy,q⟩:=h;cases rx;cases ry;obtain⟨af,r,pl,hz⟩:=I.list hx;obtain⟨aA,r2,du,hz2⟩:=I.list hy;cases r2
 cases r with
 |nil=>refine SeqAt.eq_listAt (e:=fun _=>true) pl.isList du.isList rfl hu (fun j h1 h2=>absurd h2 (by simp)) ?_;exact bH I q (by simp)
 |cons r1 r'=>refine SeqAt.eq_list_lengthsAt pl.isList du.isList (by simp) hu ?_;exact bH I q rfl
end
end L2
namespace HT
open PySem PySem.Spec PyProof.Rows
variable {w:World}{lo hi:Option Int}{prog:Program}{sl:Addr}{items:Array Value}
section
variable {A:Around}{E:am}{s:Shared}
theorem getItem_tuple_all {t:Addr}{vl vu:Value}{Q:am}(ht:IsTup s.heap t items)(hs:s.heap.IsSliceOf sl vl vu .none)(pl:IsPart vl lo)(pu:IsPart vu hi)
  (hw:sIx items.size 0 lo=0/\sIx items.size items.size hi=items.size) (h:Q (.ref t) s):wpAny (model prog w) A (getItem (.ref t) (.ref sl)) Q E s:=by
 obtain⟨os,hos,cR,hds⟩:=id hs;have ql:s.TypeIs (.ref sl) "slice":=⟨os,hos,cR⟩;unfold getItem
 try with_reducible refine UR ?_
 first|refine S6 (Tj ?_)|skip
 refine S6 (wpAny_sequenceKey ht.typeIs (by decide) ?_)
 refine S6 (T6 (name:=Str.ofString "__getitem__") ht.typeIs Uc
  (Ud Uc ht.typeIs entry_tuple_getitem ?_ (args_tuple_getitem _ _)))
 show wpAny _ _ (Builtin.Tuple.tupleItemsOf (.ref t) >>= _) _ _ s;refine S6 (tupleItemsOf_ ht ?_);refine S6 (wpAny_typeOf ql ?_);rw[Tt (by decide)];refine S6 (HM hs pl pu ?_);have fj:((((sIx items.size 0 lo:Nat):Int)==0&&(1:Int)==1&&(sIx items.size items.size hi-sIx items.size 0 lo)==items.size)=true):=by rw[hw.1,hw.2];simp
 show wpAny _ _ (if (((sIx items.size 0 lo:Nat):Int)==0&&(1:Int)==1&&(sIx items.size items.size hi-sIx items.size 0 lo)==items.size)=true then _ else _) _ _ s;rw[Tt fj];refine S6 (m:=Builtin.Tuple.tupleIsExact _) (S6 (wpAny_typeOf ht.typeIs (Tj ?_)));rw[Tt (by decide)];refine S6 (wpAny_rule ?_);exact Tj ⟨_,rfl,Tj h⟩
end
end HT
namespace L2
open PySem PySem.Spec PyProof.Rows
variable {xs:List V}{H:Hp}{a it l:Addr}{P prog:Program}{w:World}{h':Heap}{e:Expr}{X:Cx}{aa:List (Addr×Obj)}{σ:St}{t':Nat}{K:W.Frag}{lo hi:Option Int}{bU:List Expr}
section
theorem OY (h:HT.sIx xs.length 0 lo=0/\HT.sIx xs.length xs.length hi=xs.length):jo xs lo hi=xs:=by unfold jo;rw[h.1,h.2,drop_zero,Nat.sub_zero,U4 (Tf _)]
theorem OX (hc:X.calm=true):gH X (.builtin "sum") (fun xs H Q=>∃(a:Addr) (ns:List Int),xs = [.ref a]/\SqL X.K H a (ns.map V.int)/\Q (.int ns.sum) H):=by
 intro aa s σ H xs us Q I r h;obtain⟨a,ns,rfl,ha,q⟩:=h;obtain⟨u,rfl,ru⟩:=iN r;cases ru;obtain⟨af,r1,pl,hz⟩:=I.list ha;have hi:=Q9 r1;obtain⟨ys,kR⟩:=hi.allInts.items;have e1:(intItems ys).toList=af:=by rw[<- kR]
 have e2:preSum (numAt ys) ys.size=ns.sum:=by rw[preSum_eq,U4 (by simp),<- nums_intItems,e1,hi.numsOf]
 refine sum_intListG (I.ok.hd hc) (kR▸pl.isList) fun h' tk t' hk=>?_;rw[e2];exact⟨.int ns.sum,H,I.kept hk,⟨_,rfl⟩,q⟩
def pB:V->Option Int->Option Int->Hp->VK->Prop:=fun x lo hi H Q=>∃a xs,x = .ref a/\H a=some (.tup xs)/\∀p H',Same H H'->H' p=some (.tup (jo xs lo hi))->Q (.ref p) H'
theorem sl_tupP:SlR X pB:=by
 intro aa s σ H x v vl vu lo hi sl Q I rx hs pl pu h;obtain⟨a,xs,rfl,hx,q⟩:=h
 by_cases hw:HT.sIx xs.length 0 lo=0/\HT.sIx xs.length xs.length hi=xs.length
 ·cases rx
  obtain⟨af,r,ht,hz⟩:=I.tuple (SqT.of hx);have hlen:af.toArray.size=xs.length:=by rw[Ti];exact r.length.symm
  refine⟨"tuple",_,PyProof.Rows.slot_tuple_getitem.lookup,ht.typeIs,?_⟩;refine HT.getItem_tuple_all ht hs pl pu (by rw[hlen];exact hw) ?_;exact⟨.ref a,H,I,rfl,q a H (Same.refl H) (by rw[OY hw];exact hx)⟩
 ·exact Ln aa s σ H (.ref a) v vl vu lo hi sl Q I rx hs pl pu ⟨a,xs,rfl,SqT.of hx,hw,fun p hp=>q p _ (oO hp) bu⟩
def kH:R2:=fun x y H Q=>∃a b xs ys,x = .ref a/\y = .ref b/\H a=some (.tup xs)/\H b=some (.tup ys)/\xs.length+ys.length<=sizeLine ∧
 ∀p H',Same H H'->H' p=some (.tup (xs++ys))->Q (.ref p) H'
theorem Nr:OpR X (binaryOp .Add) kH:=by
 intro aa s σ H x y v u Q I rx ry h;obtain⟨a,b,xs,ys,rfl,rfl,ha,hb,hz,q⟩:=h
 by_cases hx:xs = []
 ·subst hx
  cases rx;cases ry;obtain⟨af,r1,p1,_⟩:=I.tuple (SqT.of ha);obtain⟨aA,r2,p2,_⟩:=I.tuple (SqT.of hb);cases r1;obtain⟨⟨cls,dd,data,sl⟩,ho,hc,n,hd⟩:=id p1;obtain⟨⟨cls2,jg,data2,kD⟩,ho2,hc2,n2,hd2⟩:=id p2;simp only at hc hd hc2 hd2;subst hc hd hc2 hd2
  exact concat_meets ⟨_,ho,rfl⟩ ⟨_,ho2,rfl⟩ noFill_tuple_add seq_tuple_add PySem.F.slot_tuple_add PySem.F.entry_tuple_add (PySem.F.args_tuple_add_2 _ _)
   (tuple_addW0 a b _ _ n n2 dd jg sl kD (by simp)) ⟨ho,ho2,⟨.ref b,H,I,rfl,q b H (Same.refl H) hb⟩⟩
 ·refine NF aa s σ H (.ref a) (.ref b) v u Q I rx ry ⟨a,b,xs,ys,rfl,rfl,SqT.of ha,SqT.of hb,hx,hz,fun hy=>?_,fun hy p hp=>?_⟩
  ·subst hy;exact q a H (Same.refl H) (by rw[TJ];exact ha)
  ·exact q p _ (oO hp) bu
theorem F0 {v:V}(h:oH e=some v):PE X e (tC v):=by
 cases e with
 |Constant c j p=>
  cases c with
  |int i=>cases h;exact iC
  |str x=>cases h;exact Em
  |bool b=>cases h;exact Kj
  |none=>cases h;exact Lz
  |_=>injection h
 |_=>injection h
theorem Rx:OpR X (compareOp .IsNot) (fun x y H Q=>∃b c,x = .bl b/\y = .bl c/\Q (.bl (!decide (b=c))) H):=by intro aa s σ H x y v u Q I rx ry h;obtain⟨b,c,rfl,rfl,q⟩:=h;cases rx;cases ry;cases b <;> cases c <;> exact Tj (bH I q rfl)
end
theorem Q2 {A:Around}{E:am}{s:Shared}{e:Addr}(vT:e≠it)(hle:l≠e)(IP:l≠it){items:Array Value}{i:Nat}{Q:Option Value->Shared->Prop}(hi:i<items.size)
  (gV:(∃bF,IsEnum s.heap e it i bF)/\s.heap.IsListIter it l i/\s.heap.IsList l items)
  (hQ:∀T dB h' tk,(∃t x,items[i]? = some x/\dB = #[.int i t,x])->s.heap.objs.size<=T->IsTupN h' T dB->((∃x,IsEnumOut h' e it ((i:Int)+1) x T)/\h'.IsListIter it l (i+1)/\h'.IsList l items/\T≠e/\T≠it)->(∀b o,b ∉ [e,it]->s.heap.get? b=some o->h'.get? b=some o)->Q (some (.ref T)) { s with heap:=h',toks:=tk }):
  wpAny (model prog w) A (pyNext (.ref e)) Q E s:=by
 obtain⟨⟨bF,he⟩,gZ,hl⟩:=gV;have hx:items[i]? = some items[i]:=Ve hi;refine wpAny_pyNext_enum_item he gZ hl hx vT fun h' ho vK hT hsz hk=>?_;have mM:e<s.heap.objs.size:=To he;have vL:it<s.heap.objs.size:=by obtain⟨_,x,_⟩:=gZ;exact To x
 exact hQ s.heap.objs.size #[.int i s.toks,items[i]] h' (s.toks+1) ⟨_,_,hx,rfl⟩ (Tf _) ⟨_,hT,rfl,_,rfl,rfl⟩
  ⟨⟨_,ho⟩,vK,hl.at fun o x=>hk l o hle IP x,UQ mM,UQ vL⟩
  fun b o hb x=>hk b o (fun e'=>hb (by simp [e'])) (fun e'=>hb (by simp [e'])) x
section
variable {s:Shared}
theorem Inv.turnedL {ch:List Addr}(I:Inv X aa σ H s)(k:∀b o,b∉ch->s.heap.get? b=some o->h'.get? b=some o)(hf:∀b∈ch,da X aa H b):Inv X aa σ H { s with heap:=h',toks:=t' }:=by
 have iZ:∀b u,H b=some u->b∉ch:=fun b u e z=>by rw[(hf b z).1] at e;cases e
 refine I.step (g':=s.gens) (d':=s.drawn) (ch:=ch) (fun b hb=>?_) (fun b o _ _ hc e _=>k b o hc e) (fun b o _ _ hc e _=>⟨o.slots,k b o hc e⟩) (fun _ _ _ _ n=>n)
  (fun b o hc e=>⟨o,k b o hc e⟩) (fun _ _ e=>e) (fun _ _ _ e=>e) (fun b ps e=>⟨#[],by rw[e];simp⟩) (fun m hm=>?_) (fun b u e=>?_) I.bare
 ·obtain⟨f0,f1,f2,f3,f4,f5⟩:=hf b hb;exact⟨f3,f1,f4,f5⟩
 ·obtain⟨o,es,ep,ho,r⟩:=hm;exact⟨o,es,ep,k _ o (fun z=>(hf _ z).2.1 rfl) ho,r⟩
 ·refine(I.hok b u e).stay (fun c v hc q=>k c v ?_ q) (fun _ q=>q) fun _ _ q=>q
  rcases hc with z|z
  ·rw[z];exact iZ b u e
  ·exact iZ c _ z
theorem Inv.turnedLaid {ch:List Addr}{o:HO}(I:Inv X aa σ H s)(k:∀b o,b∉ch->s.heap.get? b=some o->h'.get? b=some o)(hf:∀b∈ch,da X aa H b)(hp:s.heap.objs.size<=a)(new:ObjOk X.prog X.w (ax H a o) h' a o):
  Inv X aa σ (ax H a o) { s with heap:=h',toks:=t' }:=by
 have iZ:∀b u,H b=some u->b∉ch:=fun b u e z=>by rw[(hf b z).1] at e;cases e
 have hn:H a=none:=I.hok.fresh hp;have bF:∀b u,H b=some u->ax H a o b=some u:=fun b u e=>by rw[az (cb e hn)];exact e
 refine I.step (g':=s.gens) (d':=s.drawn) (ch:=ch) (fun b hb=>?_) (fun b o _ _ hc e _=>k b o hc e) (fun b o _ _ hc e _=>⟨o.slots,k b o hc e⟩) (fun b u _ e n=>?_)
  (fun b o hc e=>⟨o,k b o hc e⟩) (fun _ _ e=>bF _ _ e) (fun _ _ _ e=>bF _ _ e) (fun b ps e=>⟨#[],by rw[bF _ _ e];simp⟩) (fun m hm=>?_) (fun b u e=>?_) I.bare
 ·obtain⟨f0,f1,f2,f3,f4,f5⟩:=hf b hb;exact⟨f3,f1,f4,f5⟩
 ·rw[az (fun z=>by subst z;exact absurd (TK (To e) hp) (Ul _))];exact n
 ·obtain⟨o,es,ep,ho,r⟩:=hm;exact⟨o,es,ep,k _ o (fun z=>(hf _ z).2.1 rfl) ho,r⟩
 ·by_cases hb:b=a
  ·subst hb;rw[bu] at e;cases e;exact new
  ·rw[az hb] at e
   refine(I.hok b u e).stay (fun c v hc q=>k c v ?_ q) (fun c q=>bF _ _ q) fun c xs q=>bF _ _ q;rcases hc with z|z
   ·rw[z];exact iZ b u e
   ·exact iZ c _ z
end
def HR (K:W.Frag)(a:Addr):It:=
 ⟨fun i H=>∃xs x,SqL K H a xs/\xs[i]? = some x,fun i H v H'=>∃T x,v = .ref T/\H T=none/\(∀xs,SqL K H a xs->xs[i]? = some x)/\H'=ax H T (.tup [.int i,x]),fun i H=>∃xs,SqL K H a xs/\xs.length=i⟩
theorem Qd {k:Nat}{pos:Pos}(a e it:Addr)(bj:e≠it):
  en P w K (.Tuple bU k pos) (HR K a) [e,it] e (fun i h=>(∃bF,IsEnum h e it (i:Nat) bF)/\h.IsListIter it a i) where
 mem:=by simp
 obj:=fun i h st b hb=>by
  obtain⟨⟨bF,s1⟩,o,s2,_,s3⟩:=st;rcases Ts.mp hb with z|z
  ·subst z;exact⟨_,s1,fun v z=>by injection z⟩
  ·have z:b=it:=by simpa using z
   subst z;exact⟨o,s2,fun v z=>by rw[s3] at z;injection z⟩
 keep:=fun i h h' st k=>by obtain⟨⟨bF,s1⟩,s2⟩:=st;exact⟨⟨bF,k e (by simp) _ s1⟩,s2.at fun o e=>k it (by simp) o e⟩
 item:=by
  intro X hP hw hK hc i aa s σ H E I hf st hg;subst hP hw hK;obtain⟨xs,x,hq,hx⟩:=hg;obtain⟨af,rv,p,hz⟩:=I.list hq;obtain⟨u,hu,ru⟩:=rv.get hx;have j8:a≠e:=fun z=>by obtain⟨⟨bF,s1⟩,_⟩:=st;obtain⟨o,q1,q2,_⟩:=p.isList;rw[z,s1] at q1;cases q1;injection q2 with q2;exact absurd q2 (by decide)
  have j7:a≠it:=fun z=>by obtain⟨_,o',s2,s3,_⟩:=st;obtain⟨o,q1,q2,_⟩:=p.isList;rw[z,s2] at q1;cases q1;rw[s3] at q2;injection q2 with q2;exact absurd q2 (by decide)
  have W:=WalksT.enumerate (prog:=X.prog) (w:=X.w) (I.ok.hd hc) e it a bj j8 j7 af.toArray;have hi:i<af.toArray.size:=by rw[Ti];exact(Tn.mp hu).1
  refine Q2 bj j8 j7 hi ⟨st.1,st.2,p.isList⟩ fun T dB h' tk hv hT mR kO kk=>?_;obtain⟨t,x',fQ,rfl⟩:=hv
  have ex:x'=u:=by
   have:af.toArray[i]? = some u:=by simpa using hu
   rw[this] at fQ;exact(Tw fQ).symm
  subst ex;refine⟨_,rfl,W.go bU k pos i T _ _ _ kO fun BR iT pQ=>?_⟩;have qk:T ∉ [e,it]:=W.apart i T _ kO;have dM:H T=none:=I.hok.fresh hT;refine⟨.ref T,_,I.turnedLaid (a:=T) (o:=.tup [.int i,x]) (ch:=[e,it]) (fun b o hb q=>pQ b o hb (kk b o hb q)) hf hT ?_,rfl,⟨T,x,rfl,dM,fun ys hy=>by rw[I.list_inj hy hq];exact hx,rfl⟩,⟨iT.1,iT.2.1⟩,fun b hb=>?_⟩
  ·refine⟨by show 2<=sizeLine;decide,[Value.int (i:Nat) t,x'],.cons ⟨t,rfl⟩ (.cons ru .nil),?_⟩;obtain⟨o,q1,q2⟩:=mR;exact⟨o,pQ T o qk q1,q2⟩
  ·rw[az (fun z=>qk (by rw[<- z];exact hb))];exact(hf b hb).1
 done:=by
  intro X hP hw hK hc i aa s σ H E I hf st hg;subst hP hw hK;obtain⟨xs,hq,hx⟩:=hg;obtain⟨af,rv,p,hz⟩:=I.list hq;have j8:a≠e:=fun z=>by obtain⟨⟨bF,s1⟩,_⟩:=st;obtain⟨o,q1,q2,_⟩:=p.isList;rw[z,s1] at q1;cases q1;injection q2 with q2;exact absurd q2 (by decide)
  have j7:a≠it:=fun z=>by obtain⟨_,o',s2,s3,_⟩:=st;obtain⟨o,q1,q2,_⟩:=p.isList;rw[z,s2] at q1;cases q1;rw[s3] at q2;injection q2 with q2;exact absurd q2 (by decide)
  have W:=WalksT.enumerate (prog:=X.prog) (w:=X.w) (I.ok.hd hc) e it a bj j8 j7 af.toArray;have hl:=rv.length;have hi:i=af.toArray.size:=by rw[Ti];lia
  subst hi;exact W.done s _ _ ⟨st.1,st.2,p.isList⟩ fun h' tk kk=>⟨rfl,I.turnedL (ch:=[e,it]) (fun b o hb q=>kk b o hb q) hf⟩
 self:=by intro A i s Q E st h;obtain⟨⟨bF,s1⟩,_⟩:=st;exact wpAny_pyIter_enum s1 h
end L2
namespace L2
open PySem PySem.Spec PyProof.Rows PySem.Builtin PySem.AutoSeq1
variable {P:Program}{w:World}{ys:Array Value}
section
variable {B:Around}{G:am}{z:Shared}
theorem Hf {gi tp:Addr}{n:Nat}{y:Value}{R:am}(g:z.heap.IsTupleIter gi tp n)(t:z.heap.IsTuple tp ys)(hy:ys[n]? = some y)
  (q:∀k,k.IsTupleIter gi tp (n+1)->Heap.SameBut gi z.heap k->R y { z with heap:=k }):wpAny (model P w) B (SmallTypes.nextOf (.ref gi)) R G z:=by
 obtain⟨og,g1,g2,g3⟩:=id g;obtain⟨ot,t1,t2,m,t3⟩:=t;unfold SmallTypes.nextOf;refine S6 (T6 (name:=Str.ofString "__next__") g.typeIs Vb (Ud Vb g.typeIs F.entry_tuple_iterator_next ?_ (F.args_tuple_iterator_next_1 _)));show wpAny _ _ (field (.ref gi) 0 >>= _) _ _ z;refine S6 (TV g1 g3 (x:=.ref tp) rfl ?_);show wpAny _ _ (if (Value.ref tp==Value.none)=true then _ else _) _ _ z;rw[Tp (show ¬ ((Value.ref tp==Value.none)=true) from Tq)];show wpAny _ _ (field (.ref gi) 1 >>= _) _ _ z;refine S6 (TV g1 g3 (x:=.int n 0) rfl ?_);show wpAny _ _ (seqItems? (.ref tp) >>= _) _ _ z;refine S6 (UI t1 t3 ?_);simp only [Int.toNat_natCast,hy];refine S6 (wpAny_setField g1 g3 (by simp) (Tj ⟨y,rfl,Tj (q _ ?_ (Heap.SameBut.update ..))⟩));exact⟨_,Uy _ g1 (Obj.isFreed_of_fields (UZ g3 _)),(Obj.cls_mapFields ..).trans g2,by rw[UZ g3];simp [rawInt]⟩
theorem Gx {gi tp:Addr}{n:Nat}{R:am}(hb:B.handled=none)(g:z.heap.IsTupleIter gi tp n)(t:z.heap.IsTuple tp ys)(hy:ys[n]? = none)
  (q:∀k e,Heap.ExtBut gi z.heap k->(∃o,k.get? e=some o/\o.cls = .type "StopIteration")->G (.ref e) { z with heap:=k }):wpAny (model P w) B (SmallTypes.nextOf (.ref gi)) R G z:=by
 obtain⟨og,g1,g2,g3⟩:=id g;obtain⟨ot,t1,t2,m,t3⟩:=t;unfold SmallTypes.nextOf;refine S6 (T6 (name:=Str.ofString "__next__") g.typeIs Vb (Ud Vb g.typeIs F.entry_tuple_iterator_next ?_ (F.args_tuple_iterator_next_1 _)));show wpAny _ _ (field (.ref gi) 0 >>= _) _ _ z;refine S6 (TV g1 g3 (x:=.ref tp) rfl ?_);show wpAny _ _ (if (Value.ref tp==Value.none)=true then _ else _) _ _ z;rw[Tp (show ¬ ((Value.ref tp==Value.none)=true) from Tq)];show wpAny _ _ (field (.ref gi) 1 >>= _) _ _ z;refine S6 (TV g1 g3 (x:=.int n 0) rfl ?_);show wpAny _ _ (seqItems? (.ref tp) >>= _) _ _ z;refine S6 (UI t1 t3 ?_);simp only [Int.toNat_natCast,hy];refine S6 (wpAny_rule (S6 (wpAny_setField g1 g3 (by simp) ?_)));refine S6 (m:=newExc (.type "StopIteration") []) ?_;simp only [newExc,newTuple];refine S6 (TZ ?_ (by size_fits));refine S6 (m:=firstArgMember _ _) (wpAny_of_eq (a:=Value.none) (by first|rfl | (simp only [firstArgMember];rfl)) ?_);refine TZ ?_ (by size_fits);simp only [raiseNew];refine S6 (wpAny_handled ?_)
 first|rw[show B.in1.handled=none from hb] | rw[hb]
 refine S6 (Tj (wpAny_throw ?_));exact q _ _ (((Heap.SameBut.update ..).extBut.push _).push _) ⟨_,Tu _ rfl,rfl⟩
theorem yn (hb:B.handled=none)(gi tp:Addr)(bj:tp≠gi)(ys:Array Value):Draws P w B gi [gi,tp] ys.size (fun i v=>ys[i]? = some v) (fun i k=>k.IsTupleIter gi tp i/\k.IsTuple tp ys) where
 live:=fun _ _ st=>let ⟨o,ho,_⟩:=st.1;⟨o,ho⟩
 frame:=fun _ _ _ st k=>⟨st.1.at fun o e=>k gi (by simp) o e,let ⟨o,q1,q2⟩:=st.2;⟨o,k tp (by simp) o q1,q2⟩⟩
 item:=fun i z R G hi st q=>by refine Hf st.1 st.2 (y:=ys[i]) (by simp [hi]) fun k g sb=>?_;refine q _ k z.toks (by simp [hi]) ⟨g,?_⟩ sb;obtain⟨o,q1,q2⟩:=st.2;exact⟨o,(sb.2 tp bj).trans q1,q2⟩
 done:=fun z R G st q=>Gx hb st.1 st.2 (by simp) q
theorem Qc (tp:Addr)(ys:Array Value)(n:Nat)(dd:Option Addr)(sl:Array (Option Value)):
  Meets (Builtin.«enumerate.__new__» ⟨[.type "enumerate", .ref tp], []⟩) (fun _ R s => s.heap.get? tp = some { cls := .type "tuple", dict := dd, data := .seq ys n, slots := sl } ∧
   R (.ok (.ret (.ref (s.heap.push { cls:=.type "tuple_iterator",data:=.fields #[.ref tp,.int 0 0] }).objs.size)))
    { s with heap:=(s.heap.push { cls:=.type "tuple_iterator",data:=.fields #[.ref tp,.int 0 0] }).push { cls:=.type "enumerate",data:=.fields #[.none,.bool false,.ref s.heap.objs.size,rawInt 0,.none,.none] } }):=
 .of_wp fun prog w A R s h=>by
  obtain⟨hp,g,d,tk,os⟩:=s;obtain⟨ht,h⟩:=h;have hsub:=sub_enumerate;have hT:Heap.IsTuple (Shared.heap ⟨hp,g,d,tk,os⟩) tp ys:=⟨_,ht,rfl,n,rfl⟩
  wp_walk using wpAny_loadPart' ht
  refine wpAny_stack_any fun st=>Tj ?_
  split
  ·rename_i c _ _ _ _ _
   cases (c==Value.type "enumerate")
   ·wp_walk using wpAny_loadPart' ht,Vk hT
    exact⟨_,rfl,h⟩
   ·wp_walk using wpAny_loadPart' ht,Vk hT
    exact⟨_,rfl,h⟩
  ·wp_walk using wpAny_loadPart' ht,Vk hT
   exact⟨_,rfl,h⟩
theorem Q0 {tp:Addr}{R:am}(t:z.heap.IsTuple tp ys)
  (h:∀k,IsEnum k (z.heap.objs.size+1) z.heap.objs.size 0 .none->k.IsTupleIter z.heap.objs.size tp 0->(∀b o,z.heap.get? b=some o->k.get? b=some o)->R (.ref (z.heap.objs.size+1)) { z with heap:=k }):
  wpAny (model P w) B (call (.type "enumerate") [.ref tp]) R G z:=by
 obtain⟨⟨c,dd,dt,sl⟩,t1,t2,n,t3⟩:=t;simp only at t2 t3;subst t2 t3;refine callType_new F.called_enumerate (by decide) (F.typeCall_enumerate_1 _) (F.newCall_enumerate_1 _) (fun obj=>F.args_object_init_2 obj _) F.entry_enumerate_new (Qc tp ys n dd sl) ⟨t1,?_⟩;have hz:(z.heap.push { cls:=.type "tuple_iterator",data:=.fields #[.ref tp,.int 0 0] }).objs.size=z.heap.objs.size+1:=UX ..;show _/\_;rw[hz];have he:=Tu (z.heap.push { cls:=.type "tuple_iterator",data:=.fields #[.ref tp,.int 0 0] }) (o:={ cls:=.type "enumerate",data:=.fields #[.none,.bool false,.ref z.heap.objs.size,rawInt 0,.none,.none] }) rfl;rw[hz] at he;exact⟨⟨_,he,rfl⟩,h _ he ⟨_,S7 _ (Tu _ rfl),rfl,rfl⟩ fun b o x=>S7 _ (S7 _ x)⟩
end
end L2
namespace L2
open PySem PySem.Spec PyProof.Rows
variable {H H':Hp}{P prog:Program}{w:World}{e:Expr}{X:Cx}{aa:List (Addr×Obj)}{σ:St}{it:Addr}{K:W.Frag}{p bV aK:Pos}{fp:List Addr}{bU:List Expr}
theorem Rw {A:Around}{E:am}{s:Shared}{n:Nat}{P:Nat->Value->Prop}{St:Nat->Heap->Prop}(D:Draws prog w A.in1 it fp n P St){e:Addr}(vT:e≠it)(Jf:e∉fp)(SW:it∈fp){i:Nat}{Q:Option Value->Shared->Prop}(hi:i<n)
  (gV:(∃bF,IsEnum s.heap e it i bF)/\St i s.heap) (hlt:it<s.heap.objs.size)
  (hQ:∀T dB h' tk,(∃t x,P i x/\dB = #[.int i t,x])->s.heap.objs.size<=T->IsTupN h' T dB->((∃x,IsEnumOut h' e it ((i:Int)+1) x T)/\St (i+1) h'/\T≠e/\T≠it)->(∀b o,b ∉ [e,it]->s.heap.get? b=some o->h'.get? b=some o)->Q (some (.ref T)) { s with heap:=h',toks:=tk }):
  wpAny (model prog w) A (pyNext (.ref e)) Q E s:=by
 obtain⟨⟨bF,he⟩,hs⟩:=gV;refine wpAny_pyNext_enum_itemD D he hs hi vT Jf fun x h' tk hP ho hs' hT hsz hk=>?_;have mM:e<s.heap.objs.size:=To he
 exact hQ s.heap.objs.size #[.int i tk,x] h' (tk+1) ⟨_,_,hP,rfl⟩ (Tf _) ⟨_,hT,rfl,_,rfl,rfl⟩ ⟨⟨_,ho⟩,hs',UQ mM,UQ hlt⟩
  fun b o hb x=>hk b o (fun e'=>hb (by simp [e'])) (fun e'=>hb (by simp [e'])) x
def HQ (K:W.Frag)(a:Addr):It:=
 ⟨fun i H=>∃xs x,SqT K H a xs/\xs[i]? = some x,fun i H v H'=>∃T x,v = .ref T/\H T=none/\(∀xs,SqT K H a xs->xs[i]? = some x)/\H'=ax H T (.tup [.int i,x]),fun i H=>∃xs,SqT K H a xs/\xs.length=i⟩
theorem QZ {k:Nat}{pos:Pos}(a e it:Addr)(bj:e≠it):
  en P w K (.Tuple bU k pos) (HQ K a) [e,it] e (fun i h=>(∃bF,IsEnum h e it (i:Nat) bF)/\h.IsTupleIter it a i) where
 mem:=by simp
 obj:=fun i h st b hb=>by
  obtain⟨⟨bF,s1⟩,o,s2,_,s3⟩:=st;rcases Ts.mp hb with z|z
  ·subst z;exact⟨_,s1,fun v z=>by injection z⟩
  ·have z:b=it:=by simpa using z
   subst z;exact⟨o,s2,fun v z=>by rw[s3] at z;injection z⟩
 keep:=fun i h h' st k=>by obtain⟨⟨bF,s1⟩,s2⟩:=st;exact⟨⟨bF,k e (by simp) _ s1⟩,s2.at fun o e=>k it (by simp) o e⟩
 item:=by
  intro X hP hw hK hc i aa s σ H E I hf st hg;subst hP hw hK;obtain⟨xs,x,hq,hx⟩:=hg;obtain⟨af,rv,p,hz⟩:=I.tuple hq;obtain⟨u,hu,ru⟩:=rv.get hx;have p':s.heap.IsTuple a af.toArray:=p;have j8:a≠e:=fun z=>by obtain⟨⟨bF,s1⟩,_⟩:=st;obtain⟨o,q1,q2,_⟩:=p';rw[z,s1] at q1;cases q1;injection q2 with q2;exact absurd q2 (by decide)
  have j7:a≠it:=fun z=>by obtain⟨_,o',s2,s3,_⟩:=st;obtain⟨o,q1,q2,_⟩:=p';rw[z,s2] at q1;cases q1;rw[s3] at q2;injection q2 with q2;exact absurd q2 (by decide)
  have W:=WalksT.enumerateD (prog:=X.prog) (w:=X.w) (A:=X.A) (yn (B:=X.A.in1) (I.ok.hd hc) it a j7 af.toArray) e bj (by simp [bj,Ne.symm j8]) (by simp);have hi:i<af.toArray.size:=by rw[Ti];exact(Tn.mp hu).1
  refine Rw (yn (B:=X.A.in1) (I.ok.hd hc) it a j7 af.toArray) bj (by simp [bj,Ne.symm j8]) (by simp) hi ⟨st.1,st.2,p'⟩ (by obtain⟨_,y,_⟩:=st.2;exact To y) fun T dB h' tk hv hT mR kO kk=>?_;obtain⟨t,x',fQ,rfl⟩:=hv
  have ex:x'=u:=by
   have:af.toArray[i]? = some u:=by simpa using hu
   rw[this] at fQ;exact(Tw fQ).symm
  subst ex;refine⟨_,rfl,W.go bU k pos i T _ _ _ kO fun BR iT pQ=>?_⟩;have qk:T ∉ [e,it]:=W.apart i T _ kO;have dM:H T=none:=I.hok.fresh hT;refine⟨.ref T,_,I.turnedLaid (a:=T) (o:=.tup [.int i,x]) (ch:=[e,it]) (fun b o hb q=>pQ b o hb (kk b o hb q)) hf hT ?_,rfl,⟨T,x,rfl,dM,fun ys hy=>by rw[I.tuple_inj hy hq];exact hx,rfl⟩,⟨iT.1,iT.2.1⟩,fun b hb=>?_⟩
  ·refine⟨by show 2<=sizeLine;decide,[Value.int (i:Nat) t,x'],.cons ⟨t,rfl⟩ (.cons ru .nil),?_⟩;obtain⟨o,q1,q2⟩:=mR;exact⟨o,pQ T o qk q1,q2⟩
  ·rw[az (fun z=>qk (by rw[<- z];exact hb))];exact(hf b hb).1
 done:=by
  intro X hP hw hK hc i aa s σ H E I hf st hg;subst hP hw hK;obtain⟨xs,hq,hx⟩:=hg;obtain⟨af,rv,p,hz⟩:=I.tuple hq;have p':s.heap.IsTuple a af.toArray:=p;have j8:a≠e:=fun z=>by obtain⟨⟨bF,s1⟩,_⟩:=st;obtain⟨o,q1,q2,_⟩:=p';rw[z,s1] at q1;cases q1;injection q2 with q2;exact absurd q2 (by decide)
  have j7:a≠it:=fun z=>by obtain⟨_,o',s2,s3,_⟩:=st;obtain⟨o,q1,q2,_⟩:=p';rw[z,s2] at q1;cases q1;rw[s3] at q2;injection q2 with q2;exact absurd q2 (by decide)
  have W:=WalksT.enumerateD (prog:=X.prog) (w:=X.w) (A:=X.A) (yn (B:=X.A.in1) (I.ok.hd hc) it a j7 af.toArray) e bj (by simp [bj,Ne.symm j8]) (by simp);have hl:=rv.length;have hi:i=af.toArray.size:=by rw[Ti];lia
  subst hi;exact W.done s _ _ ⟨st.1,st.2,p'⟩ fun h' tk kk=>⟨rfl,I.turnedL (ch:=[e,it]) (fun b o hb q=>kk b o hb q) hf⟩
 self:=by intro A i s Q E st h;obtain⟨⟨bF,s1⟩,_⟩:=st;exact wpAny_pyIter_enum s1 h
section
def Dr (K:W.Frag)(ta:TA):TI:=fun σ H R=>ta σ H fun vs H1=>∃a,vs = [.ref a]/\(((∃xs,SqL K H1 a xs)/\R (HR K a) H1)∨((∃xs,SqT K H1 a xs)/\R (HQ K a) H1))
theorem Nq {a:Expr}{ta:TA}{pos qq:Pos}{kn:Nat}(hg:Gl X "enumerate")(hm:X.mg "enumerate"=none)(ha:PA X [a] ta)(hs:starEach [a] X.env = [(false,eval a X.env)]:=by rfl):
  PI X (.Tuple bU kn qq) (.Call (.Name "enumerate" p) [a] [] pos) (Dr X.K ta):=by
 intro aa s σ H R I h;refine Call_ (lK I hg hm boot_enumerate (Us (ay (ha pos aa s σ H _ I h) fun us s1 ⟨vs,H1,I1,r1,q1⟩=>?_) hs rfl));obtain⟨l,e,q1⟩:=q1;subst e
 cases r1 with
 |cons r rr=>
  cases rr;cases r
  have fin:∀{k:Heap} {J:It} {tn:Nat->Heap->Prop},(∀b o,s1.heap.get? b=some o->k.get? b=some o)->IsEnum k (s1.heap.objs.size+1) s1.heap.objs.size 0 .none →
    en X.prog X.w X.K (.Tuple bU kn qq) J [s1.heap.objs.size+1,s1.heap.objs.size] (s1.heap.objs.size+1) tn->tn 0 k->R J H1 →
    wpAny (model X.prog X.w) X.A (pyIter (.ref (s1.heap.objs.size+1))) (A4 X aa σ (.Tuple bU kn qq) R) X.xe { s1 with heap:=k }:=fun {k J tn} kk ie T t0 hR=>by
   refine wpAny_pyIter_enum ie ?_;refine⟨_,_,tn,J,H1,rfl,I1.kept (t':=s1.toks) kk,T,t0,fun b hb=>?_,hR⟩;rcases Ts.mp hb with z|z
   ·subst z;exact I1.fpOk (Nat.le_succ _) (I1.hok.fresh (Nat.le_succ _))
   ·have z:b=s1.heap.objs.size:=by simpa using z
    subst z;exact I1.fpOk (Tf _) (I1.hok.fresh (Tf _))
  rcases q1 with ⟨⟨xs,hq⟩,hR⟩|⟨⟨xs,hq⟩,hR⟩
  ·obtain⟨af,rv,pl,hz⟩:=I1.list hq;exact call_enumerate_list pl.isList fun k ie il _ kk=>fin kk ie (Qd l _ _ (Nat.succ_ne_self _)) ⟨⟨_,ie⟩,il⟩ hR
  ·obtain⟨af,rv,pl,hz⟩:=I1.tuple hq;exact Q0 (show s1.heap.IsTuple l af.toArray from pl) fun k ie il kk=>fin kk ie (QZ l _ _ (Nat.succ_ne_self _)) ⟨⟨_,ie⟩,il⟩ hR
end
noncomputable def jN:V->PyData
 | .bl b=>.bool b
 | .int i=>.int i
 | .str x=>.str x
 |_=>.none
mutual
noncomputable def aR:Th->PyData
 | .at v=>jN v
 | .tup xs=>.tuple (bG xs)
 | .lst xs=>.list (bG xs)
noncomputable def bG:List Th->List PyData
 |[]=>[]
 |x::xs=>aR x::bG xs
end
mutual
theorem He:∀t:Th,(aR t).hasDict=false
 | .at v=>by cases v <;> simp only [aR,jN,PyData.hasDict]
 | .tup xs=>by simp only [aR,PyData.hasDict];exact AU xs
 | .lst xs=>by simp only [aR,PyData.hasDict];exact AU xs
theorem AU:∀ts:List Th,PyData.hasDictAll (bG ts)=false
 |[]=>by simp only [bG,PyData.hasDictAll]
 |t::ts=>by simp only [bG,PyData.hasDictAll,He t,AU ts,Bool.or_self]
end
mutual
theorem FZ {X:Cx}{aa:List (Addr×Obj)}{σ:St}{H:Hp}{s:Shared}(I:Inv X aa σ H s):∀{v:V} {t:Th} {u:Value},fZ H v t->RelV v u->∃as,Reads s.heap u (aR t) as
 |v,_,u,.at f,r=>by
  cases v with
  |non=>cases r;exact⟨[],.none⟩
  |bl b=>cases r;exact⟨[],.bool b⟩
  |int i=>obtain⟨k,rfl⟩:=r;exact⟨[],.int i k⟩
  |str x=>obtain⟨k,rfl⟩:=r;exact⟨[],.str x k⟩
  |_=>injection f
 |_,_,u,.tup h q,r=>by cases r;obtain⟨af,v1,p,_⟩:=I.tuple (SqT.of (K:=X.K) h);obtain⟨as,ra⟩:=AS I q v1;obtain⟨o,o1,o2,n,o3⟩:=(show s.heap.IsTuple _ af.toArray from p);exact⟨as,.tuple o1 o2 o3 ra⟩
 |_,_,u,.lst h q,r=>by cases r;obtain⟨af,v1,p,_⟩:=I.list (SqL.of (K:=X.K) h);obtain⟨as,ra⟩:=AS I q v1;obtain⟨o,o1,o2,n,o3⟩:=p.isList;exact⟨_,.list o1 o2 o3 ra⟩
theorem AS {X:Cx}{aa:List (Addr×Obj)}{σ:St}{H:Hp}{s:Shared}(I:Inv X aa σ H s):∀{vs:List V} {ts:List Th} {us:List Value},dU H vs ts->Vals vs us->∃as,ReadsAll s.heap us (bG ts) as
 |_,_,us,.nil,r=>by cases r;exact⟨[],.nil⟩
 |_,_,us,.cons h q,r=>by
  cases r with
  |cons r1 r2=>obtain⟨a1,e1⟩:=FZ I h r1;obtain⟨a2,e2⟩:=AS I q r2;exact⟨_,.cons e1 e2⟩
end
section
theorem Qb (hg:X.A.guards=some []):gH X (.builtin "repr") (fun xs H Q=>∃(a:Addr) (t:Th),xs = [.ref a]/\fZ H (.ref a) t/\(aR t).showable=true/\X.A.units+((aR t).depth+1)<cLine/\(aR t).shown.length<=sizeLine/\Q (.str (aR t).shown) H):=by intro aa s σ H xs us Q I r h;obtain⟨a,t,rfl,ha,h1,h2,h3,q⟩:=h;obtain⟨u,rfl,ru⟩:=iN r;obtain⟨as,rd⟩:=FZ I ha ru;cases ru;exact repr_of_reads' rd h1 (fun z=>by rw[He] at z;injection z) hg h2 (fun b o e=>e) (fun h' u tk k=>⟨.str _,H,I.kept k,⟨u,rfl⟩,q⟩) h3
end
theorem Gw {p:Addr}(s:Same H H')(h:H' p=none):H p=none:=by
 cases e:H p with
 |none=>rfl
 |some o=>rw[s p o e] at h;injection h
def Lc (td ty tx:TE):TE:=fun σ H Q=>td σ H fun x H1=>∃a,x = .ref a/\uX H1 a/\ty σ H1 fun y H2=>tx σ H2 fun z H3=>∃ae k,H3 a=some (.dK ae)/\y=kV k/\ae.length<sizeLine ∧
 (∀v,bt ae k=some v->Q v H3)/\(bt ae k=none->Q z (ax H3 a (.dK (cc ae k z))))
section
variable {o f:Expr}{td ty tx:TE}
theorem OW (ho:PE X o td)(he:PE X e ty)(hf:PE X f tx)(m:M2 X o "setdefault" bV e f aK):PE X (.Call (.Attribute o "setdefault" bV) [e,f] [] aK) (Lc td ty tx):=by
 intro aa s σ H Q I h;refine wpAny_Call_method m.base m.few m.line PySem.F.plainAttrs_dict PySem.F.slot_dict_setdefault PySem.F.type_dict_setdefault (ay (ho aa s σ H _ I h) fun u s1 ⟨x,H1,I1,rx,a,ex,d,q1⟩=>?_);subst ex;obtain rfl:u=Value.ref a:=rx;obtain⟨t1,t2,_⟩:=yp I1 d;refine⟨t1,t2,?_⟩;rw[m.trees]
 refine UG rfl (Vc (UA (ay (he aa s1 σ H1 _ I1 q1) fun iv s2 ⟨y,H2,I2,ry,q2⟩=>
  UA (ay (hf aa s2 σ H2 _ I2 q2) fun fv s3 ⟨z,H3,I3,rz,ae,k,ea,ey,hl,q3,q4⟩=>U6 ?_))))
 subst ey;obtain⟨hz,hd,vs,bW,dd⟩:=tK I3.hok ea;refine call_meetsIn PySem.F.slot_dict_setdefault dd.typeIs PySem.F.entry_dict_setdefault (PySem.F.args_dict_setdefault_3 _ _ _) (kt_meets_setdefault (dR X.prog X.w) a (lz ry) hd fv) ⟨vs,dd,by rw[<- bW.length];exact hz,fun v' hv=>?_,fun hn h' iK hs=>?_⟩
 ·cases l:bt ae k with
  |none=>have hn:valueAt vs k=none:=RelO.none_of (by rw[<- l];exact bW.val k);rw[hn] at hv;injection hv
  |some v=>obtain⟨w',hw,gb⟩:=RelO.some_of (v:=v) (o:=valueAt vs k) (by rw[<- l];exact bW.val k);rw[hw] at hv;cases hv;exact⟨v,H3,I3.tok _,gb,q3 v l⟩
 ·have l:bt ae k=none:=by
   cases l:bt ae k with
   |none=>rfl
   |some v=>obtain⟨w',hw,gb⟩:=RelO.some_of (v:=v) (o:=valueAt vs k) (by rw[<- l];exact bW.val k);rw[hw] at hn;injection hn
  have he:∃q,h'.get? a=some q:=let ⟨q,_,_,hq,_⟩:=iK;⟨q,hq⟩
  have qb:(cc ae k z).length<=sizeLine:=by have:=oV ae k z;lia
  exact⟨z,_,qY I3 (by rw[ea];exact True.intro) hs he (qR qb hd (bW.put k rz) iK),rz,q4 l⟩
end
end L2
namespace L2
open PySem PySem.Spec PyProof.Rows PySem.Builtin PySem.AutoSeq1
abbrev oq (h:Heap)(z TI TO:Addr)(f0 f1:Value):Prop:=h.get? z=some { cls:=.type "zip",dict:=none,data:=.fields #[f0,f1,.bool false,.ref TI,.ref TO],slots:=#[] }
variable {h h':Heap}
theorem D3 {b t:Addr}{xs:Array Value}(x:h.IsTuple t xs)(hs:Heap.ExtBut b h h')(hb:t≠b):h'.IsTuple t xs:=by obtain⟨o,q1,q2⟩:=x;exact⟨o,hs _ _ hb q1,q2⟩
theorem HG:mroOf (.type "reversed")=pure [.type "reversed",.type "object"]:=by rw[mroOf_type];kernel_rfl
theorem SJ:typeLookup (.type "reversed") "__new__"=pure (some (.builtin "reversed.__new__")):=by rw[UL,Uj];kernel_rfl
theorem So:Bind.madeBy (.type "reversed")=pure (some "reversed.__new__"):=madeBy_type HG SJ (by decide+kernel)
theorem RV:isSubtype (.type "reversed") (.type "reversed")=pure true:=by rw[UT];kernel_rfl
theorem SH : entryFor table "reversed.__new__" = some Builtin.«reversed.__new__» := entryFor_of_tree (by kernel_rfl)
theorem SF (a:Value):checkTypeCall "reversed" ⟨[a],[]⟩=pure ():=by kernel_rfl
theorem Sz (a:Value):checkBuiltinCall "reversed.__new__" ⟨[.type "reversed",a],[]⟩=pure ():=by kernel_rfl
end L2
namespace L2
open PySem PySem.Spec PyProof.Rows
inductive Tv where
 |at (v:V)
 |tup (l:List Tv)
 |lst (l:List Tv)
 |dic (l:List (aw×Tv))
 |scr (l:List Tv)
 |ktp (l:List Tv)
noncomputable def kL:V->Bool
 | .str x=>decide (x.length<=16777216)
 | .byt _=>false
 | .flt _=>false
 |_=>true
mutual
inductive IsT (K:W.Frag)(G:Hp):V->Tv->Prop where
 |at {v:V} (f:kL v=true):IsT K G v (.at v)
 |tup {a:Addr} {vs:List V} {ts:List Tv} (h:G a=some (.tup vs)) (r:IsTs K G vs ts):IsT K G (.ref a) (.tup ts)
 |ktp {a:Addr} {vs:List V} {ts:List Tv} (h:SqT K G a vs) (r:IsTs K G vs ts):IsT K G (.ref a) (.ktp ts)
 |lst {a:Addr} {vs:List V} {ts:List Tv} (h:G a=some (.lst vs)) (r:IsTs K G vs ts):IsT K G (.ref a) (.lst ts)
 |scr {a:Addr} {vs:List V} {ts:List Tv} (h:SqL K G a vs) (r:IsTs K G vs ts):IsT K G (.ref a) (.scr ts)
 |dic {a:Addr} {ae:List (aw×V)} {sj:List (aw×Tv)} (h:G a=some (.dK ae)) (r:IsKs K G ae sj):IsT K G (.ref a) (.dic sj)
inductive IsTs (K:W.Frag)(G:Hp):List V->List Tv->Prop where
 |nil:IsTs K G [] []
 |cons {v:V} {vs:List V} {t:Tv} {ts:List Tv} (h:IsT K G v t) (r:IsTs K G vs ts):IsTs K G (v::vs) (t::ts)
inductive IsKs (K:W.Frag)(G:Hp):List (aw×V)->List (aw×Tv)->Prop where
 |nil:IsKs K G [] []
 |cons {k:aw} {v:V} {vs:List (aw×V)} {t:Tv} {ts:List (aw×Tv)} (h:IsT K G v t) (r:IsKs K G vs ts):IsKs K G ((k,v)::vs) ((k,t)::ts)
end
mutual
theorem IsT.mono {K:W.Frag}{G G':Hp}(s:Same G G'):∀{v:V} {t:Tv},IsT K G v t->IsT K G' v t
 |_,_,.at f=>.at f
 |_,_,.tup h r=>.tup (s _ _ h) (IsTs.mono s r)
 |_,_,.ktp h r=>.ktp (s.tup h) (IsTs.mono s r)
 |_,_,.lst h r=>.lst (s _ _ h) (IsTs.mono s r)
 |_,_,.scr h r=>.scr (s.seq h) (IsTs.mono s r)
 |_,_,.dic h r=>.dic (s _ _ h) (IsKs.mono s r)
theorem IsTs.mono {K:W.Frag}{G G':Hp}(s:Same G G'):∀{vs:List V} {ts:List Tv},IsTs K G vs ts->IsTs K G' vs ts
 |_,_,.nil=>.nil
 |_,_,.cons h r=>.cons (IsT.mono s h) (IsTs.mono s r)
theorem IsKs.mono {K:W.Frag}{G G':Hp}(s:Same G G'):∀{vs:List (aw×V)} {ts:List (aw×Tv)},IsKs K G vs ts->IsKs K G' vs ts
 |_,_,.nil=>.nil
 |_,_,.cons h r=>.cons (IsT.mono s h) (IsKs.mono s r)
end
variable {x aJ:Str}{H H' G G':Hp}{a:Addr}{P:Program}{w:World}{α β:Type}{e tg:Expr}{X:Cx}{σ σ':St}{i j m:Nat}{Q:VK}{t:Tv}{ta dF as:List Addr}{y:V}{K:W.Frag}{st:Stmt}{es:List Expr}{vs:List V}{r r':R2}{mg:Str->Option Value}{base:Heap}{fd:FuncData}{ps N':List Str}{au:List Nat}{bY:Bool}
section
theorem IsTs.len:∀{ts:List Tv},IsTs K G vs ts->vs.length=ts.length:=by
 induction vs with
 |nil=>intro ts h;cases h;rfl
 |cons v vs ih=>intro ts h;cases h with|cons _ r=>simp [ih r]
theorem IsTs.get:∀{ts:List Tv} {i:Nat} {t:Tv},IsTs K G vs ts->ts[i]? = some t->∃v,vs[i]? = some v/\IsT K G v t:=by
 induction vs with
 |nil=>intro ts i t h e;cases h;simp at e
 |cons v vs ih=>
  intro ts i t h e
  cases h with
  |cons a r=>
   cases i with
   |zero=>simp at e;subst e;exact⟨v,rfl,a⟩
   |succ i=>simp at e;obtain⟨v',h1,h2⟩:=ih r e;exact⟨v',by simpa using h1,h2⟩
theorem IsTs.app:∀{ws:List V} {ts us:List Tv},IsTs K G vs ts->IsTs K G ws us->IsTs K G (vs++ws) (ts++us):=by
 induction vs with
 |nil=>intro ws ts us h r;cases h;exact r
 |cons v vs ih=>intro ws ts us h r;cases h with|cons a b=>exact .cons a (ih b r)
theorem IsTs.take:∀{ts:List Tv} (n:Nat),IsTs K G vs ts->IsTs K G (vs.take n) (ts.take n):=by
 induction vs with
 |nil=>intro ts n h;cases h;simp;exact .nil
 |cons v vs ih=>
  intro ts n h
  cases h with
  |cons a b=>
   cases n with
   |zero=>exact .nil
   |succ n=>exact .cons a (ih n b)
theorem IsTs.drop:∀{ts:List Tv} (n:Nat),IsTs K G vs ts->IsTs K G (vs.drop n) (ts.drop n):=by
 induction vs with
 |nil=>intro ts n h;cases h;simp;exact .nil
 |cons v vs ih=>
  intro ts n h
  cases h with
  |cons a b=>
   cases n with
   |zero=>exact .cons a b
   |succ n=>exact ih n b
theorem IsTs.set:∀{ts:List Tv} {v:V} {t:Tv} (n:Nat),IsTs K G vs ts->IsT K G v t->IsTs K G (vs.set n v) (ts.set n t):=by
 induction vs with
 |nil=>intro ts v t n h _;cases h;exact .nil
 |cons x vs ih=>
  intro ts v t n h q
  cases h with
  |cons a b=>
   cases n with
   |zero=>exact .cons q b
   |succ n=>exact .cons a (ih n b q)
theorem IsTs.rev:∀{ts:List Tv},IsTs K G vs ts->IsTs K G vs.reverse ts.reverse:=by
 induction vs with
 |nil=>intro ts h;cases h;exact .nil
 |cons v vs ih=>intro ts h;cases h with|cons a b=>rw[UM,UM];exact(ih b).app (.cons a .nil)
end
inductive Ob where
 |lst (l:List Tv)
 |dic (l:List (aw×Tv))
noncomputable def Ob.tv:Ob->Tv
 | .lst l=>.lst l
 | .dic l=>.dic l
inductive Sl where
 |fz (t:Tv)
 |own (o:Ob)
 |out (k:Nat)
structure Ms where
 env:List (Option Sl)
 out:List Sl
 tmp:List Ob
inductive Ev where
 |fz (t:Tv)|loc (i:Nat)|out (k:Nat)|tmp (j:Nat)
inductive Rf where
 |loc (i:Nat)|out (k:Nat)|tmp (j:Nat)
 deriving DecidableEq
def ObOk (K:W.Frag)(G H:Hp)(a:Addr):Ob->Prop
 | .lst ts=>∃vs,H a=some (.lst vs)/\IsTs K G vs ts
 | .dic sj=>∃ae,H a=some (.dK ae)/\IsKs K G ae sj
def lr:HO->Prop
 | .tup _=>True
 | .frz _ (.tup _)=>True
 |_=>False
structure Fr where
 H0:Hp
 G0:Hp
 ao:List Addr
noncomputable def b8:Sl->Option Ob
 | .own o=>some o
 |_=>none
def aF (M:Ms):Rf->Option Ob
 | .loc i=>(M.env[i]?).bind fun s=>s.bind b8
 | .out k=>(M.out[k]?).bind b8
 | .tmp j=>M.tmp[j]?
noncomputable def kb:V->Option Addr
 | .ref a=>some a
 |_=>none
def adr (F:Fr)(ta:List Addr)(σ:St):Rf->Option Addr
 | .loc i=>(σ[i]?).bind fun s=>s.bind kb
 | .out k=>F.ao[k]?
 | .tmp j=>ta[j]?
structure Rel (K:W.Frag)(F:Fr)(G:Hp)(ta:List Addr)(M:Ms)(σ:St)(H:Hp):Prop where
 sub:Same G H
 g0:Same F.G0 G
 fra:∀a o,F.H0 a=some o->a∉F.ao->H a=some o
 gd:∀a o,G a=some o->F.G0 a=some o∨F.H0 a=none∨a∈F.ao∨lr o
 pr:∀a,a∈F.ao->∃o,H a=some o
 ls:M.env.length=σ.length
 lo:M.out.length=F.ao.length
 lt:M.tmp.length=ta.length
 fz:∀(i:Nat) (t:Tv),M.env[i]? = some (some (Sl.fz t))->∃v,σ[i]? = some (some v)/\IsT K G v t
 al:∀(i k:Nat),M.env[i]? = some (some (Sl.out k))->∃a,F.ao[k]? = some a/\σ[i]? = some (some (V.ref a))
 fo:∀(k:Nat) (t:Tv),M.out[k]? = some (.fz t)->∃a,F.ao[k]? = some a/\IsT K G (.ref a) t
 ob:∀r o,aF M r=some o->∃a,adr F ta σ r=some a/\ObOk K G H a o/\G a=none
 ij:∀r r' o o' a,aF M r=some o->aF M r'=some o'->adr F ta σ r=some a->adr F ta σ r'=some a->r=r'
 nw:∀r o a,aF M r=some o->adr F ta σ r=some a->(∃k,r = .out k)∨F.H0 a=none
variable {F:Fr}{M M':Ms}
section
theorem ObOk.mono (s:Same G G')(h:H' a=H a):∀{o:Ob},ObOk K G H a o->ObOk K G' H' a o
 | .lst _,⟨vs,e,r⟩=>⟨vs,h.trans e,r.mono s⟩
 | .dic _,⟨vs,e,r⟩=>⟨vs,h.trans e,r.mono s⟩
theorem ObOk.some:∀{o:Ob},ObOk K G H a o->∃u,H a=some u
 | .lst _,⟨_,e,_⟩=>⟨_,e⟩
 | .dic _,⟨_,e,_⟩=>⟨_,e⟩
theorem ObOk.notup {u:HO}:∀{o:Ob},ObOk K G H a o->H a=Option.some u->¬lr u
 | .lst _,⟨_,e,_⟩,h,t=>by rw[e] at h;cases h;exact t
 | .dic _,⟨_,e,_⟩,h,t=>by rw[e] at h;cases h;exact t
theorem Rel.new (R:Rel K F G ta M σ H){p:Addr}(h:H p=none):F.H0 p=none/\p∉F.ao/\G p=none:=by
 have h1:p∉F.ao:=fun z=>by obtain⟨o,e⟩:=R.pr p z;rw[h] at e;cases e
 refine⟨?_,h1,R.sub.free h⟩
 cases e:F.H0 p with
 |none=>rfl
 |some o=>rw[R.fra p o e h1] at h;injection h
def EvOk (K:W.Frag)(F:Fr)(G:Hp)(ta:List Addr)(σ:St):Ev->V->Prop
 | .fz t,v=>IsT K G v t
 | .loc i,v=>σ[i]? = some (some v)/\∃a,v = .ref a
 | .out k,v=>∃a,F.ao[k]? = some a/\v = .ref a
 | .tmp j,v=>∃a,ta[j]? = some a/\v = .ref a
structure Stp (G:Hp)(ta:List Addr)(G':Hp)(dF:List Addr):Prop where
 g:Same G G'
 t:∃l,dF=ta++l
theorem Stp.refl:Stp G ta G ta:=⟨Same.refl _,[],by simp⟩
theorem Stp.trans {G1 G2:Hp}{t1 t2:List Addr}(a:Stp G ta G1 t1)(b:Stp G1 t1 G2 t2):Stp G ta G2 t2:=by obtain⟨l,rfl⟩:=a.t;obtain⟨m,rfl⟩:=b.t;exact⟨a.g.trans b.g,l++m,by simp⟩
theorem EvOk.stp (s:Stp G ta G' dF):∀{ev:Ev} {v:V},EvOk K F G ta σ ev v->EvOk K F G' dF σ ev v
 | .fz _,_,h=>IsT.mono s.g h
 | .loc _,_,h=>h
 | .out _,_,h=>h
 | .tmp j,_,⟨a,e,h⟩=>by obtain⟨l,rfl⟩:=s.t;refine⟨a,?_,h⟩;rw[TR (Tn.mp e).1];exact e
def kC:Sl->Option Tv
 | .fz t=>some t
 | .own o=>some o.tv
 | .out _=>none
def rd (M:Ms):Ev->Option Tv
 | .fz t=>some t
 | .loc i=>(M.env[i]?).bind fun s=>s.bind kC
 | .out k=>(M.out[k]?).bind kC
 | .tmp j=>(M.tmp[j]?).map Ob.tv
def IsR (K:W.Frag)(G H:Hp)(v:V)(t:Tv):Prop:=IsT K G v t∨∃a o,v = .ref a/\t=Ob.tv o/\ObOk K G H a o
theorem IsR.up (s:Same G H){v:V}{t:Tv}(h:IsR K G H v t):IsT K H v t:=by
 rcases h with h|⟨a,o,rfl,rfl,h⟩
 ·exact h.mono s
 ·cases o with
  |lst l=>obtain⟨vs,e,r⟩:=h;exact .lst e (r.mono s)
  |dic l=>obtain⟨vs,e,r⟩:=h;exact .dic e (r.mono s)
theorem Rel.rd (R:Rel K F G ta M σ H){ev:Ev}{v:V}{t:Tv}(h:EvOk K F G ta σ ev v)(e:rd M ev=some t):IsR K G H v t:=by
 have own:∀r o a,aF M r=some o->adr F ta σ r=some a->IsR K G H (.ref a) o.tv:=fun r o a h1 h2=>by obtain⟨b,h3,h4,_⟩:=R.ob r o h1;rw[h2] at h3;cases h3;exact .inr ⟨a,o,rfl,rfl,h4⟩
 cases ev with
 |fz u=>cases e;exact .inl h
 |loc i=>
  obtain⟨h1,a,rfl⟩:=h
  cases q:M.env[i]? with
  |none=>simp [L2.rd,q] at e
  |some s=>
   cases s with
   |none=>simp [L2.rd,q] at e
   |some s=>
    cases s with
    |fz u=>simp [L2.rd,q,kC] at e;subst e;obtain⟨v,h2,h3⟩:=R.fz i u q;rw[h1] at h2;cases h2;exact .inl h3
    |own o=>simp [L2.rd,q,kC] at e;subst e;exact own (.loc i) o a (by simp [aF,q,b8]) (by simp [adr,h1,kb])
    |out k=>simp [L2.rd,q,kC] at e
 |out k=>
  obtain⟨a,h1,rfl⟩:=h
  cases q:M.out[k]? with
  |none=>simp [L2.rd,q] at e
  |some s=>
   cases s with
   |fz u=>simp [L2.rd,q,kC] at e;subst e;obtain⟨b,h2,h3⟩:=R.fo k u q;rw[h1] at h2;cases h2;exact .inl h3
   |own o=>simp [L2.rd,q,kC] at e;subst e;exact own (.out k) o a (by simp [aF,q,b8]) h1
   |out k=>simp [L2.rd,q,kC] at e
 |tmp j=>
  obtain⟨a,h1,rfl⟩:=h
  cases q:M.tmp[j]? with
  |none=>simp [L2.rd,q] at e
  |some o=>simp [L2.rd,q] at e;subst e;exact own (.tmp j) o a q h1
theorem Rel.more (R:Rel K F G ta M σ H)(s:Same G G')(sH:Same G' H')(hH:Same H H')(hf:∀a o,G' a=some o->G a=some o∨H a=none∨lr o):Rel K F G' ta M σ H' where
 sub:=sH
 g0:=R.g0.trans s
 fra:=fun a o h1 h2=>hH _ _ (R.fra a o h1 h2)
 gd:=fun a o h=>by
  rcases hf a o h with h|h|h
  ·exact R.gd a o h
  ·exact .inr (.inl (R.new h).1)
  ·exact .inr (.inr (.inr h))
 pr:=fun a h=>by obtain⟨o,e⟩:=R.pr a h;exact⟨o,hH _ _ e⟩
 ls:=R.ls
 lo:=R.lo
 lt:=R.lt
 fz:=fun i t h=>by obtain⟨v,h1,h2⟩:=R.fz i t h;exact⟨v,h1,h2.mono s⟩
 al:=R.al
 fo:=fun k t h=>by obtain⟨a,h1,h2⟩:=R.fo k t h;exact⟨a,h1,h2.mono s⟩
 ob:=fun r o h=>by
  obtain⟨a,h1,h2,h3⟩:=R.ob r o h;obtain⟨u,hu⟩:=h2.some;refine⟨a,h1,h2.mono s ((hH _ _ hu).trans hu.symm),?_⟩
  cases e:G' a with
  |none=>rfl
  |some x=>
   rcases hf a x e with z|z|z
   ·rw[h3] at z;injection z
   ·rw[hu] at z;injection z
   ·have q:=sH a x e;rw[hH a u hu] at q;cases q;exact absurd z (h2.notup hu)
 ij:=R.ij
 nw:=R.nw
theorem Rel.cut (R:Rel K F G ta M σ H)(n:Nat):Rel K F G (ta.take n) { M with tmp:=M.tmp.take n } σ H:=by
 have up:∀r o,aF { M with tmp:=M.tmp.take n } r=some o->aF M r=some o/\adr F (ta.take n) σ r=adr F ta σ r:=fun r o h=>by
  cases r with
  |loc i=>exact⟨h,rfl⟩
  |out k=>exact⟨h,rfl⟩
  |tmp j=>
   have h':(M.tmp.take n)[j]? = some o:=h;rw[List.getElem?_take] at h'
   split at h'
   ·next hj=>exact⟨h',by show(ta.take n)[j]? = ta[j]?;rw[List.getElem?_take,Tt hj]⟩
   ·injection h'
 refine⟨R.sub,R.g0,R.fra,R.gd,R.pr,R.ls,R.lo,by show(M.tmp.take n).length=_;rw[T9,T9,R.lt],R.fz,R.al,R.fo,fun r o h=>?_,fun r r' o o' a h h' e e'=>?_,fun r o a h e=>?_⟩
 ·obtain⟨h1,h2⟩:=up r o h;rw[h2];exact R.ob r o h1
 ·obtain⟨h1,h2⟩:=up r o h;obtain⟨h3,h4⟩:=up r' o' h';rw[h2] at e;rw[h4] at e';exact R.ij r r' o o' a h1 h3 e e'
 ·obtain⟨h1,h2⟩:=up r o h;rw[h2] at e;exact R.nw r o a h1 e
theorem Rel.push (R:Rel K F G ta M σ H){p:Addr}{o:Ob}(hp:H p=none)(hH:Same H H')(h:ObOk K G H' p o):Rel K F G (ta ++ [p]) { M with tmp:=M.tmp ++ [o] } σ H':=by
 obtain⟨n1,n2,n3⟩:=R.new hp;have R':Rel K F G ta M σ H':=R.more (Same.refl _) (R.sub.trans hH) hH fun a o h=>.inl h
 have up:∀r u,aF { M with tmp:=M.tmp ++ [o] } r=some u->(aF M r=some u/\adr F (ta ++ [p]) σ r=adr F ta σ r)∨(r = .tmp ta.length/\u=o/\adr F (ta ++ [p]) σ r=some p):=fun r u h=>by
  cases r with
  |loc i=>exact .inl ⟨h,rfl⟩
  |out k=>exact .inl ⟨h,rfl⟩
  |tmp j=>
   have h':(M.tmp ++ [o])[j]? = some u:=h;rcases U0 j M.tmp.length with hj|hj
   ·rw[TR hj] at h';exact .inl ⟨h',by show(ta ++ [p])[j]? = _;rw[TR (by rw[<- R.lt];exact hj)];rfl⟩
   ·rw[TH hj] at h'
    have vJ:j-M.tmp.length=0:=by have:=(Tn.mp h').1;simp at this;lia
    rw[vJ] at h';simp at h';have qd:j=ta.length:=by rw[<- R.lt];lia
    exact .inr ⟨by rw[qd],h'.symm,by show(ta ++ [p])[j]? = _;rw[qd,TH (Tf _)];simp⟩
 have bF:∀r u a,aF M r=some u->adr F ta σ r=some a->a≠p:=fun r u a h1 h2 z=>by obtain⟨b,e,k,_⟩:=R.ob r u h1;rw[h2] at e;cases e;obtain⟨x,hx⟩:=k.some;rw[z,hp] at hx;cases hx
 refine⟨R'.sub,R'.g0,R'.fra,R'.gd,R'.pr,R'.ls,R'.lo,by show(M.tmp ++ [o]).length=_;rw[Tg,Tg,R.lt];rfl,R'.fz,R'.al,R'.fo,fun r u h=>?_,fun r r' u u' a h h' e e'=>?_,fun r u a h e=>?_⟩
 ·rcases up r u h with ⟨h1,h2⟩|⟨rfl,rfl,h2⟩
  ·rw[h2];exact R'.ob r u h1
  ·rw[h2];exact⟨p,rfl,‹_›,n3⟩
 ·rcases up r u h with ⟨h1,h2⟩|⟨rfl,rfl,h2⟩
  ·rcases up r' u' h' with ⟨h3,h4⟩|⟨rfl,rfl,h4⟩
   ·rw[h2] at e;rw[h4] at e';exact R.ij r r' u u' a h1 h3 e e'
   ·rw[h2] at e;rw[h4] at e';cases e';exact absurd rfl (bF r u p h1 e)
  ·rcases up r' u' h' with ⟨h3,h4⟩|⟨rfl,_,h4⟩
   ·rw[h2] at e;rw[h4] at e';cases e;exact absurd rfl (bF r' u' p h3 e')
   ·rfl
 ·rcases up r u h with ⟨h1,h2⟩|⟨rfl,rfl,h2⟩
  ·rw[h2] at e;exact R.nw r u a h1 e
  ·rw[h2] at e;cases e;exact .inr n1
abbrev TW:=Ms->(Ev->Ms->Prop)->Prop
abbrev iP:=Ms->(List Ev->Ms->Prop)->Prop
inductive eO (K:W.Frag)(F:Fr)(G:Hp)(ta:List Addr)(σ:St):List Ev->List V->Prop where
 |nil:eO K F G ta σ [] []
 |cons {e:Ev} {es:List Ev} {v:V} {vs:List V} (h:EvOk K F G ta σ e v) (r:eO K F G ta σ es vs):eO K F G ta σ (e::es) (v::vs)
inductive LE (K:W.Frag)(F:Fr)(w:TW)(σ:St)(H:Hp)(Q:VK):Prop
 |mk (G ta M K0:_) (_:Rel K F G ta M σ H) (_:w M K0) (_:∀ev M' G' dF v H',K0 ev M'->Rel K F G' dF M' σ H'->Stp G ta G' dF->EvOk K F G' dF σ ev v->Q v H')
inductive LA (K:W.Frag)(F:Fr)(w:iP)(σ:St)(H:Hp)(Q:(List V->Hp->Prop)):Prop
 |mk (G ta M K0:_) (_:Rel K F G ta M σ H) (_:w M K0) (_:∀eD M' G' dF vs H',K0 eD M'->Rel K F G' dF M' σ H'->Stp G ta G' dF->eO K F G' dF σ eD vs->Q vs H')
theorem PE.imp {t t':TE}(h:PE X e t)(i:∀ σ H Q,t' σ H Q->t σ H Q):PE X e t':=fun aa s σ H Q I q=>h aa s σ H Q I (i σ H Q q)
theorem PT.imp {t t':TT}(h:PT X e t)(i:∀ σ H Q,t' σ H Q->t σ H Q):PT X e t':=fun aa s σ H Q I q=>h aa s σ H Q I (i σ H Q q)
theorem PA.imp {e:List Expr}{t t':TA}(h:PA X e t)(i:∀ σ H Q,t' σ H Q->t σ H Q):PA X e t':=fun pos aa s σ H Q I q=>h pos aa s σ H Q I (i σ H Q q)
def aP {α : Type}(o:Option α)(f : α -> Prop):Prop:=match o with|some a=>f a|none=>False
theorem aN {o:Option α}{f:α -> Prop}(h:aP o f):∃a,o=some a/\f a:=by
 cases o with
 |none=>exact h.elim
 |some a=>exact⟨a,rfl,h⟩
def jn {α β : Type}(o:Option (α × β))(f : α -> β -> Prop):Prop:=match o with|some (a,b)=>f a b|none=>False
theorem jx {o:Option (α × β)}{f:α -> β -> Prop}(h:jn o f):∃a b,o=some (a,b)/\f a b:=by
 cases o with
 |none=>exact h.elim
 |some p=>exact⟨p.1,p.2,rfl,h⟩
def wC (t:Tv):TW:=fun M k=>k (.fz t) M
noncomputable def ke (M:Ms)(i:Nat):Option Ev:=match M.env[i]? with
 |some (some (.fz t))=>some (.fz t)
 |some (some (.own _))=>some (.loc i)
 |some (some (.out k))=>some (.out k)
 |_=>none
def oo (i:Nat):TW:=fun M k=>aP (ke M i) fun ev=>k ev M
theorem Lb {v:V}(h:PE X e (tC v))(ok:kL v=true):PE X e (LE X.K F (wC (.at v))):=h.imp fun σ H Q ⟨G,ta,M,K0,R,k,q⟩=>q _ _ G ta v H k R .refl (.at ok)
theorem Rel.var (R:Rel K F G ta M σ H){i:Nat}{ev:Ev}(h:ke M i=some ev):∃v,σ[i]? = some (some v)/\EvOk K F G ta σ ev v:=by
 unfold ke at h
 split at h
 ·next t e=>cases h;exact R.fz i t e
 ·next o e=>
  cases h;obtain⟨a,e1,_⟩:=R.ob (.loc i) o (by simp [aF,e,b8])
  have e2:σ[i]? = some (some (V.ref a)):=by
   simp only [adr] at e1
   cases q:σ[i]? with
   |none=>simp [q] at e1
   |some s=>
    cases s with
    |none=>simp [q] at e1
    |some v=>cases v <;> simp [q,kb] at e1;subst e1;rfl
  exact⟨.ref a,e2,e2,a,rfl⟩
 ·next k e=>
  cases h;obtain⟨a,e1,e2⟩:=R.al i k e;exact⟨.ref a,e2,a,e1,rfl⟩
 ·injection h
theorem tY (h:PE X e (sX i)):PE X e (LE X.K F (oo i)):=h.imp fun σ H Q ⟨G,ta,M,K0,R,k,q⟩=>by obtain⟨ev,e1,k⟩:=aN k;obtain⟨v,e2,e3⟩:=R.var e1;exact⟨v,e2,q _ _ G ta v H k R .refl e3⟩
inductive Rs where
 |v (t:Tv)
 |n (o:Ob)
def lx (K:W.Frag)(G H:Hp)(Q:VK):Rs->Prop
 | .v t=>∀v G' H',Same G G'->Same H H'->Same G' H'->(∀a o,G' a=some o->G a=some o∨H a=none∨lr o)->IsT K G' v t->Q v H'
 | .n o=>∀p H',H p=none->Same H H'->ObOk K G H' p o->Q (.ref p) H'
def nc (n:Nat)(M:Ms)(k:Ev->Ms->Prop):Rs->Prop
 | .v t=>k (.fz t) { M with tmp:=M.tmp.take n }
 | .n o=>k (.tmp n) { M with tmp:=M.tmp.take n ++ [o] }
theorem zI {l m:List Addr}:(l++m).take l.length=l:=by simp
theorem Rel.done {G0:Hp}{t0:List Addr}{M0:Ms}{K0:Ev->Ms->Prop}(l0:M0.tmp.length=t0.length)(R:Rel K F G ta M σ H)(s:Stp G0 t0 G ta){r:Rs}(k:nc M0.tmp.length M K0 r)
  (q:∀ev M' G' dF v H',K0 ev M'->Rel K F G' dF M' σ H'->Stp G0 t0 G' dF->EvOk K F G' dF σ ev v->Q v H'):lx K G H Q r:=by
 obtain⟨l,rfl⟩:=s.t;have R1:=R.cut M0.tmp.length;rw[l0,zI] at R1
 cases r with
 |v t=>intro v G' H' h1 h2 h3 h4 h5;have R2:=R1.more h1 h3 h2 h4;exact q _ _ G' t0 v H' k (by rw[l0];exact R2) ⟨s.g.trans h1,[],by simp⟩ h5
 |n o=>intro p H' hp h2 h3;have R2:=R1.push hp h2 h3;refine q _ _ G (t0 ++ [p]) (.ref p) H' k (by rw[l0];exact R2) ⟨s.g,[p],rfl⟩ ⟨p,?_,rfl⟩;rw[l0,TH (Tf _)];simp
inductive Rz where
 |ok (r:Rs)
 |cd (c:Prop) (r:Rs)
 |ex (p:Rs->Prop)
 |no
inductive ZH:Rz->Rs->Prop where
 |ok {r:Rs}:ZH (.ok r) r
 |cd {c:Prop} {r:Rs} (h:c):ZH (.cd c r) r
 |ex {p:Rs->Prop} {r:Rs} (h:p r):ZH (.ex p) r
def bz (z:Rz)(f:Rs->Prop):Prop:=match z with
 | .ok r=>f r
 | .cd c r=>c/\f r
 | .ex p=>∃r,p r/\f r
 | .no=>False
theorem kr {z:Rz}{f:Rs->Prop}(h:bz z f):∃s,ZH z s/\f s:=by
 cases z with
 |ok r=>exact⟨r,.ok,h⟩
 |cd c r=>exact⟨r,.cd h.1,h.2⟩
 |ex p=>obtain⟨r,h1,h2⟩:=h;exact⟨r,.ex h1,h2⟩
 |no=>exact h.elim
def lq (f:Tv->Tv->Rz)(wa wb:TW):TW:=fun M k=>wa M fun x M1=>wb M1 fun y M2=>aP (rd M2 x) fun t=>aP (rd M2 y) fun u=>bz (f t u) (nc M.tmp.length M2 k)
def de (K:W.Frag)(f:Tv->Tv->Rz)(r:R2):Prop:=∀G H x y t u s Q,Same G H->IsR K G H x t->IsR K G H y u->ZH (f t u) s->lx K G H Q s->r x y H Q
theorem ki {f:Tv->Tv->Rz}{wa wb:TW}(h:PE X e (pf r (LE X.K F wa) (LE X.K F wb)))(o:de X.K f r):PE X e (LE X.K F (lq f wa wb)):=h.imp fun σ H Q ⟨G,ta,M,K0,R,k,q⟩=>by refine⟨G,ta,M,_,R,k,fun x M1 G1 t1 v1 H1 k1 R1 s1 e1=>⟨G1,t1,M1,_,R1,k1,fun y M2 G2 t2 v2 H2 k2 R2 s2 e2=>?_⟩⟩;obtain⟨t,ht,k2⟩:=aN k2;obtain⟨u,hu,k2⟩:=aN k2;obtain⟨s,hs,k2⟩:=kr k2;exact o G2 H2 v1 v2 t u s Q R2.sub (R2.rd (e1.stp s2) ht) (R2.rd e2 hu) hs (R2.done R.lt (s1.trans s2) k2 q)
def kz (f:Tv->Rz)(wa:TW):TW:=fun M k=>wa M fun x M1=>aP (rd M1 x) fun t=>bz (f t) (nc M.tmp.length M1 k)
def iM (K:W.Frag)(f:Tv->Rz)(r:V->Hp->VK->Prop):Prop:=∀G H x t s Q,Same G H->IsR K G H x t->ZH (f t) s->lx K G H Q s->r x H Q
theorem jQ {f:Tv->Rz}{r:V->Hp->VK->Prop}{wa:TW}(h:PE X e (pd r (LE X.K F wa)))(o:iM X.K f r):PE X e (LE X.K F (kz f wa)):=h.imp fun σ H Q ⟨G,ta,M,K0,R,k,q⟩=>by refine⟨G,ta,M,_,R,k,fun x M1 G1 t1 v1 H1 k1 R1 s1 e1=>?_⟩;obtain⟨t,ht,k1⟩:=aN k1;obtain⟨s,hs,k1⟩:=kr k1;exact o G1 H1 v1 t s Q R1.sub (R1.rd e1 ht) hs (R1.done R.lt s1 k1 q)
def CF:iP:=fun M k=>k [] M
def tI (wa:TW)(wr:iP):iP:=fun M k=>wa M fun x M1=>wr M1 fun xs M2=>k (x::xs) M2
theorem La:PA X [] (LA X.K F CF):=pa_nil.imp fun σ H Q ⟨G,ta,M,K0,R,k,q⟩=>q _ _ G ta [] H k R .refl .nil
theorem Np {wa:TW}{wr:iP}(h:PA X (e::es) (jR (LE X.K F wa) (LA X.K F wr))):PA X (e::es) (LA X.K F (tI wa wr)):=h.imp fun σ H Q ⟨G,ta,M,K0,R,k,q⟩=>by refine⟨G,ta,M,_,R,k,fun x M1 G1 t1 v1 H1 k1 R1 s1 e1=>⟨G1,t1,M1,_,R1,k1,fun xs M2 G2 t2 vs H2 k2 R2 s2 e2=>?_⟩⟩;exact q _ _ G2 t2 _ H2 k2 R2 (s1.trans s2) (.cons (e1.stp s2) e2)
theorem eN {l:List α}{x y:α}(h:(l.set i x)[j]? = some y):(i=j/\y=x)∨(i≠j/\l[j]? = some y):=by
 rw[List.getElem?_set] at h
 split at h
 ·next e=>
  subst e
  split at h
  ·cases h;exact .inl ⟨rfl,rfl⟩
  ·injection h
 ·next e=>exact .inr ⟨e,h⟩
theorem uP {l:List α}{x:α}(h:i≠j):(l.set i x)[j]? = l[j]? := by rw[List.getElem?_set,Tp h]
theorem uq {s:Option V}{r:Rf}(h:r ≠ .loc i):adr F ta (σ.set i s) r=adr F ta σ r:=by
 cases r with
 |loc j=>have:i≠j:=fun z=>h (by rw[z]);simp only [adr];rw[uP this]
 |out k=>rfl
 |tmp j=>rfl
theorem Rel.drop (R:Rel K F G ta M σ H)(i:Nat)(s:Option V):Rel K F G ta { M with env:=M.env.set i none } (σ.set i s) H:=by
 have up:∀r o,aF { M with env:=M.env.set i none } r=some o->aF M r=some o/\r ≠ .loc i:=fun r o h=>by
  cases r with
  |loc j=>
   simp only [aF] at h
   cases q:(M.env.set i none)[j]? with
   |none=>simp [q] at h
   |some x=>
    rcases eN q with ⟨_,rfl⟩|⟨z,q'⟩
    ·simp [q] at h
    ·rw[q] at h;exact⟨by simp only [aF];rw[q'];exact h,fun e=>by cases e;exact z rfl⟩
  |out k=>exact⟨h,fun z=>by injection z⟩
  |tmp j=>exact⟨h,fun z=>by injection z⟩
 refine⟨R.sub,R.g0,R.fra,R.gd,R.pr,by simp [R.ls],R.lo,R.lt,fun j t h=>?_,fun j k h=>?_,R.fo,fun r o h=>?_,fun r r' o o' a h h' e e'=>?_,fun r o a h e=>?_⟩
 ·rcases eN h with ⟨_,z⟩|⟨z,h⟩
  ·injection z
  ·rw[uP z];exact R.fz j t h
 ·rcases eN h with ⟨_,z⟩|⟨z,h⟩
  ·injection z
  ·rw[uP z];exact R.al j k h
 ·obtain⟨h1,h2⟩:=up r o h;rw[uq h2];exact R.ob r o h1
 ·obtain⟨h1,h2⟩:=up r o h;obtain⟨h3,h4⟩:=up r' o' h';rw[uq h2] at e;rw[uq h4] at e';exact R.ij r r' o o' a h1 h3 e e'
 ·obtain⟨h1,h2⟩:=up r o h;rw[uq h2] at e;exact R.nw r o a h1 e
def CD (K:W.Frag)(F:Fr)(G H:Hp)(ta:List Addr)(M:Ms)(σ:St)(v:V):Sl->Prop
 | .fz t=>IsT K G v t
 | .own o=>∃a,v = .ref a/\ObOk K G H a o/\G a=none/\F.H0 a=none/\∀r u,aF M r=some u->adr F ta σ r≠some a
 | .out k=>∃a,F.ao[k]? = some a/\v = .ref a
theorem Rel.fill (R:Rel K F G ta M σ H){i:Nat}(hn:M.env[i]? = some none){v:V}{s:Sl}(hv:σ[i]? = some (some v))(ok:CD K F G H ta M σ v s):Rel K F G ta { M with env:=M.env.set i (some s) } σ H:=by
 have up:∀r o,aF { M with env:=M.env.set i (some s) } r=some o->(aF M r=some o/\r ≠ .loc i)∨(r = .loc i/\s = .own o):=fun r o h=>by
  cases r with
  |loc j=>
   simp only [aF] at h
   cases q:(M.env.set i (some s))[j]? with
   |none=>simp [q] at h
   |some x=>
    rcases eN q with ⟨rfl,rfl⟩|⟨z,q'⟩
    ·rw[q] at h
     cases s with
     |own u=>simp [b8] at h;subst h;exact .inr ⟨rfl,rfl⟩
     |fz t=>simp [b8] at h
     |out k=>simp [b8] at h
    ·rw[q] at h;exact .inl ⟨by simp only [aF];rw[q'];exact h,fun e=>by cases e;exact z rfl⟩
  |out k=>exact .inl ⟨h,fun z=>by injection z⟩
  |tmp j=>exact .inl ⟨h,fun z=>by injection z⟩
 have ai:∀a,v = .ref a->adr F ta σ (.loc i)=some a:=fun a e=>by simp [adr,hv,e,kb]
 refine⟨R.sub,R.g0,R.fra,R.gd,R.pr,by simp [R.ls],R.lo,R.lt,fun j t h=>?_,fun j k h=>?_,R.fo,fun r o h=>?_,fun r r' o o' a h h' e e'=>?_,fun r o a h e=>?_⟩
 ·rcases eN h with ⟨rfl,z⟩|⟨z,h⟩
  ·cases z;exact⟨v,hv,ok⟩
  ·exact R.fz j t h
 ·rcases eN h with ⟨rfl,z⟩|⟨z,h⟩
  ·cases z;obtain⟨a,h1,rfl⟩:=ok;exact⟨a,h1,hv⟩
  ·exact R.al j k h
 ·rcases up r o h with ⟨h1,_⟩|⟨rfl,rfl⟩
  ·exact R.ob r o h1
  ·obtain⟨a,rfl,h2,h3,_⟩:=ok;exact⟨a,ai a rfl,h2,h3⟩
 ·rcases up r o h with ⟨h1,_⟩|⟨rfl,rfl⟩
  ·rcases up r' o' h' with ⟨h3,_⟩|⟨rfl,rfl⟩
   ·exact R.ij r r' o o' a h1 h3 e e'
   ·obtain⟨b,rfl,_,_,_,h5⟩:=ok;rw[ai b rfl] at e';cases e';exact absurd e (h5 r o h1)
  ·rcases up r' o' h' with ⟨h3,_⟩|⟨rfl,_⟩
   ·obtain⟨b,rfl,_,_,_,h5⟩:=ok;rw[ai b rfl] at e;cases e;exact absurd e' (h5 r' o' h3)
   ·rfl
 ·rcases up r o h with ⟨h1,_⟩|⟨rfl,rfl⟩
  ·exact R.nw r o a h1 e
  ·obtain⟨b,rfl,_,_,h4,_⟩:=ok;rw[ai b rfl] at e;cases e;exact .inr h4
theorem Rel.dropO (R:Rel K F G ta M σ H)(k:Nat):Rel K F G ta { M with out:=M.out.set k (.out 0) } σ H:=by
 have up:∀r o,aF { M with out:=M.out.set k (.out 0) } r=some o->aF M r=some o:=fun r o h=>by
  cases r with
  |out j=>
   simp only [aF] at h ⊢
   cases q:(M.out.set k (.out 0))[j]? with
   |none=>simp [q] at h
   |some x=>
    rw[q] at h;rcases eN q with ⟨_,rfl⟩|⟨z,q'⟩
    ·simp [b8] at h
    ·rw[q'];exact h
  |loc i=>exact h
  |tmp j=>exact h
 refine⟨R.sub,R.g0,R.fra,R.gd,R.pr,R.ls,by simp [R.lo],R.lt,R.fz,R.al,fun j t h=>?_,fun r o h=>R.ob r o (up r o h),fun r r' o o' a h h'=>R.ij r r' o o' a (up r o h) (up r' o' h'),fun r o a h=>R.nw r o a (up r o h)⟩;rcases eN h with ⟨_,z⟩|⟨_,h⟩
 ·injection z
 ·exact R.fo j t h
theorem Rel.fillO (R:Rel K F G ta M σ H){k:Nat}{a:Addr}(hn:M.out[k]? = some (.out 0))(hk:F.ao[k]? = some a){s:Sl}
  (ok:match s with | .fz t=>IsT K G (.ref a) t | .own o=>ObOk K G H a o/\G a=none/\(∀r u,aF M r=some u->adr F ta σ r≠some a) | .out _=>True):Rel K F G ta { M with out:=M.out.set k s } σ H:=by
 have up:∀r o,aF { M with out:=M.out.set k s } r=some o->aF M r=some o∨(r = .out k/\s = .own o):=fun r o h=>by
  cases r with
  |out j=>
   simp only [aF] at h ⊢
   cases q:(M.out.set k s)[j]? with
   |none=>simp [q] at h
   |some x=>
    rw[q] at h;rcases eN q with ⟨rfl,rfl⟩|⟨z,q'⟩
    ·cases x with
     |own u=>simp [b8] at h;subst h;exact .inr ⟨rfl,rfl⟩
     |fz t=>simp [b8] at h
     |out k=>simp [b8] at h
    ·rw[q'];exact .inl h
  |loc i=>exact .inl h
  |tmp j=>exact .inl h
 refine⟨R.sub,R.g0,R.fra,R.gd,R.pr,R.ls,by simp [R.lo],R.lt,R.fz,R.al,fun j t h=>?_,fun r o h=>?_,fun r r' o o' b h h' e e'=>?_,fun r o b h e=>?_⟩
 ·rcases eN h with ⟨rfl,z⟩|⟨_,h⟩
  ·subst z;exact⟨a,hk,ok⟩
  ·exact R.fo j t h
 ·rcases up r o h with h|⟨rfl,rfl⟩
  ·exact R.ob r o h
  ·exact⟨a,hk,ok.1,ok.2.1⟩
 ·rcases up r o h with h1|⟨rfl,rfl⟩
  ·rcases up r' o' h' with h3|⟨rfl,rfl⟩
   ·exact R.ij r r' o o' b h1 h3 e e'
   ·have e2:F.ao[k]? = some b:=e';rw[hk] at e2;cases e2;exact absurd e (ok.2.2 r o h1)
  ·rcases up r' o' h' with h3|⟨rfl,_⟩
   ·have e2:F.ao[k]? = some b:=e;rw[hk] at e2;cases e2;exact absurd e' (ok.2.2 r' o' h3)
   ·rfl
 ·rcases up r o h with h1|⟨rfl,rfl⟩
  ·exact R.nw r o b h1 e
  ·exact .inl ⟨k,rfl⟩
theorem Rel.fr (R:Rel K F G ta M σ H){a:Addr}{o:Ob}(ho:ObOk K G H a o)(hG:G a=none)(gf:F.H0 a=none∨a∈F.ao)(fj:∀r u,aF M r=some u->adr F ta σ r≠some a):
  ∃G',Rel K F G' ta M σ H/\Same G G'/\IsT K G' (.ref a) o.tv:=by
 have s:Same G (fun b=>if b=a then H a else G b):=fun b x e=>by show(if b=a then H a else G b)=_;rw[Tp (fun z=>by rw[z,hG] at e;injection e)];exact e
 have nZ:(fun b=>if b=a then H a else G b) a=H a:=by show(if a=a then _ else _)=_;rw[Tt rfl]
 refine⟨_,⟨fun b x e=>?_,R.g0.trans s,R.fra,fun b x e=>?_,R.pr,R.ls,R.lo,R.lt,fun i t h=>?_,R.al,fun k t h=>?_,fun r u h=>?_,R.ij,R.nw⟩,s,?_⟩
 ·have e':(if b=a then H a else G b)=some x:=e
  split at e'
  ·next z=>rw[z];exact e'
  ·exact R.sub _ _ e'
 ·have e':(if b=a then H a else G b)=some x:=e
  split at e'
  ·next z=>rw[z];exact .inr (gf.elim .inl fun q=>.inr (.inl q))
  ·exact R.gd b x e'
 ·obtain⟨v,h1,h2⟩:=R.fz i t h;exact⟨v,h1,h2.mono s⟩
 ·obtain⟨v,h1,h2⟩:=R.fo k t h;exact⟨v,h1,h2.mono s⟩
 ·obtain⟨b,h1,h2,h3⟩:=R.ob r u h;refine⟨b,h1,h2.mono s rfl,?_⟩;show(if b=a then H a else G b)=none;rw[Tp (fun z=>fj r u h (by rw[h1,z]))];exact h3
 ·cases o with
  |lst l=>obtain⟨vs,e,r⟩:=ho;exact .lst (nZ.trans e) (r.mono s)
  |dic l=>obtain⟨vs,e,r⟩:=ho;exact .dic (nZ.trans e) (r.mono s)
def eJ (n:Nat)(M:Ms):Ev->Option (Tv×Ms)
 | .fz t=>some (t,{ M with tmp:=M.tmp.take n })
 | .loc i=>match M.env[i]? with
  |some (some (.own o))=>some (o.tv,{ M with env:=M.env.set i (some (.fz o.tv)),tmp:=M.tmp.take n })
  |some (some (.fz t))=>some (t,{ M with tmp:=M.tmp.take n })
  |_=>none
 | .out k=>match M.out[k]? with
  |some (.own o)=>some (o.tv,{ M with out:=M.out.set k (.fz o.tv),tmp:=M.tmp.take n })
  |some (.fz t)=>some (t,{ M with tmp:=M.tmp.take n })
  |_=>none
 | .tmp j=>if n<=j then (M.tmp[j]?).map fun o=>(o.tv,{ M with tmp:=M.tmp.take n }) else none
theorem uE {l:List α}{x:α}(h:i<l.length):(l.set i x)[i]? = some x:=by rw[List.getElem?_set,Tt rfl,Tt h]
theorem Rel.frz {G0:Hp}{t0:List Addr}{M0:Ms}(l0:M0.tmp.length=t0.length)(R:Rel K F G ta M σ H)(s:Stp G0 t0 G ta){ev:Ev}{v:V}{t:Tv}(h:EvOk K F G ta σ ev v)(e:eJ M0.tmp.length M ev=some (t,M')):
  ∃G',Rel K F G' t0 M' σ H/\Stp G0 t0 G' t0/\Same G G'/\IsT K G' v t:=by
 obtain⟨l,rfl⟩:=s.t;have R1:=R.cut M0.tmp.length;rw[l0,zI] at R1;rw[l0] at e;have fin:∀{t':Tv},IsT K G v t'->t'=t->{ M with tmp:=M.tmp.take t0.length }=M'->∃G',Rel K F G' t0 M' σ H/\Stp G0 t0 G' t0/\Same G G'/\IsT K G' v t:=fun h1 h2 h3=>by subst h2;subst h3;exact⟨G,R1,⟨s.g,[],by simp⟩,Same.refl _,h1⟩
 cases ev with
 |fz u=>simp only [eJ,Uh,Vg] at e;exact fin h e.1 e.2
 |loc i=>
  obtain⟨hi,a,rfl⟩:=h;simp only [eJ] at e
  split at e
  ·next o q=>
   simp only [Uh,Vg] at e;obtain⟨rfl,rfl⟩:=e;obtain⟨b,h1,h2,h3⟩:=R1.ob (.loc i) o (by simp [aF,q,b8]);have hb:b=a:=by simp [adr,hi,kb] at h1;exact h1.symm
   subst hb;have hn:=R1.nw (.loc i) o b (by simp [aF,q,b8]) h1
   have hn':F.H0 b=none:=by
    rcases hn with ⟨k,z⟩|z
    ·injection z
    ·exact z
   have sE:i<σ.length:=(Tn.mp hi).1;have D:=R1.drop i (some (.ref b))
   have eσ:σ.set i (some (V.ref b))=σ:=List.ext_getElem? fun j=>by
    rw[List.getElem?_set]
    split
    ·next z=>subst z;rw[hi]
    ·rfl
   rw[eσ] at D
   have fj:∀r u,aF { M with env:=M.env.set i none,tmp:=M.tmp.take t0.length } r=some u->adr F t0 σ r≠some b:=fun r u hr z=>by
    have:aF { M with tmp:=M.tmp.take t0.length } r=some u/\r ≠ .loc i:=by
     cases r with
     |loc j=>
      simp only [aF] at hr ⊢
      cases q2:(M.env.set i none)[j]? with
      |none=>simp [q2] at hr
      |some x=>
       rw[q2] at hr;rcases eN q2 with ⟨_,rfl⟩|⟨z2,q3⟩
       ·simp at hr
       ·rw[q3];exact⟨hr,fun e=>by cases e;exact z2 rfl⟩
     |out k=>exact⟨hr,fun z=>by injection z⟩
     |tmp j=>exact⟨hr,fun z=>by injection z⟩
    exact this.2 (R1.ij r (.loc i) u o b this.1 (by simp [aF,q,b8]) z h1)
   obtain⟨G',R2,s2,t2⟩:=D.fr h2 h3 (.inl hn') fj;have R3:=R2.fill (i:=i) (v:=.ref b) (s:=.fz o.tv) (by show(M.env.set i none)[i]? = _;exact uE (by rw[R.ls];exact sE)) hi t2;refine⟨G',?_,⟨s.g.trans s2,[],by simp⟩,s2,t2⟩;have:(M.env.set i none).set i (some (.fz o.tv))=M.env.set i (some (Sl.fz o.tv)):=set_set ..
   simpa [this] using R3
  ·next u q=>
   simp only [Uh,Vg] at e;obtain⟨v',h1,h2⟩:=R.fz i u q;rw[hi] at h1;cases h1;exact fin h2 e.1 e.2
  ·injection e
 |out k=>
  obtain⟨a,hk,rfl⟩:=h;simp only [eJ] at e
  split at e
  ·next o q=>
   simp only [Uh,Vg] at e;obtain⟨rfl,rfl⟩:=e;obtain⟨b,h1,h2,h3⟩:=R1.ob (.out k) o (by simp [aF,q,b8]);have hb:a=b:=by have h1':F.ao[k]? = some b:=h1;rw[hk] at h1';exact Tw h1'
   subst hb;have D:=R1.dropO k
   have fj:∀r u,aF { M with out:=M.out.set k (.out 0),tmp:=M.tmp.take t0.length } r=some u->adr F t0 σ r≠some a:=fun r u hr z=>by
    have:aF { M with tmp:=M.tmp.take t0.length } r=some u/\r ≠ .out k:=by
     cases r with
     |out j=>
      simp only [aF] at hr ⊢
      cases q2:(M.out.set k (.out 0))[j]? with
      |none=>simp [q2] at hr
      |some x=>
       rw[q2] at hr;rcases eN q2 with ⟨_,rfl⟩|⟨z2,q3⟩
       ·simp [b8] at hr
       ·rw[q3];exact⟨hr,fun e=>by cases e;exact z2 rfl⟩
     |loc i=>exact⟨hr,fun z=>by injection z⟩
     |tmp j=>exact⟨hr,fun z=>by injection z⟩
    exact this.2 (R1.ij r (.out k) u o a this.1 (by simp [aF,q,b8]) z h1)
   obtain⟨G',R2,s2,t2⟩:=D.fr h2 h3 (.inr (T4 hk)) fj;have R3:=R2.fillO (k:=k) (a:=a) (s:=.fz o.tv) (by show(M.out.set k (.out 0))[k]? = _;exact uE (Tn.mp q).1) hk t2;refine⟨G',?_,⟨s.g.trans s2,[],by simp⟩,s2,t2⟩;have:(M.out.set k (.out 0)).set k (.fz o.tv)=M.out.set k (Sl.fz o.tv):=set_set ..
   simpa [this] using R3
  ·next u q=>
   simp only [Uh,Vg] at e;obtain⟨v',h1,h2⟩:=R.fo k u q;rw[hk] at h1;cases h1;exact fin h2 e.1 e.2
  ·injection e
 |tmp j=>
  obtain⟨a,hk,rfl⟩:=h;simp only [eJ] at e
  split at e
  ·next hj=>
   cases q:M.tmp[j]? with
   |none=>rw[q] at e;injection e
   |some o=>
    rw[q] at e;simp only [U2,Uh,Vg] at e;obtain⟨rfl,rfl⟩:=e;obtain⟨b,h1,h2,h3⟩:=R.ob (.tmp j) o q;have hb:a=b:=by have h1':(t0++l)[j]? = some b:=h1;rw[hk] at h1';exact Tw h1'
    subst hb
    have hn:F.H0 a=none:=by
     rcases R.nw (.tmp j) o a q h1 with ⟨k,z⟩|z
     ·injection z
     ·exact z
    have fj:∀r u,aF { M with tmp:=M.tmp.take t0.length } r=some u->adr F t0 σ r≠some a:=fun r u hr z=>by
     have:(aF M r=some u/\adr F (t0++l) σ r=some a)/\r ≠ .tmp j:=by
      cases r with
      |loc i=>exact⟨⟨hr,z⟩,fun z=>by injection z⟩
      |out k=>exact⟨⟨hr,z⟩,fun z=>by injection z⟩
      |tmp i=>
       have iy:(M.tmp.take t0.length)[i]? = some u:=hr;rw[List.getElem?_take] at iy
       split at iy
       ·next hi=>
        refine⟨⟨iy,?_⟩,fun z=>by cases z;lia⟩;show(t0++l)[i]? = _;rw[TR hi];exact z
       ·injection iy
     exact this.2 (R.ij r (.tmp j) u o a this.1.1 q this.1.2 h1)
    obtain⟨G',R2,s2,t2⟩:=R1.fr h2 h3 (.inl hn) fj;exact⟨G',R2,⟨s.g.trans s2,[],by simp⟩,s2,t2⟩
  ·injection e
end
variable {wa:TW}
section
abbrev cU:=Ms->(Bool->Ms->Prop)->Prop
noncomputable def Ms.cut (M:Ms)(n:Nat):Ms:={ M with tmp:=M.tmp.take n }
noncomputable def je:Ev->Option Bool
 | .fz (.at (.bl b))=>some b
 |_=>none
inductive LB (K:W.Frag)(F:Fr)(w:cU)(σ:St)(H:Hp)(Q:(Bool->Hp->Prop)):Prop
 |mk (G ta M K0:_) (_:Rel K F G ta M σ H) (_:w M K0) (_:∀b M' G' H',K0 b M'->Rel K F G' ta M' σ H'->Same G G'->Q b H')
theorem Rel.cutTo {G0:Hp}{t0:List Addr}{M0:Ms}(l0:M0.tmp.length=t0.length)(R:Rel K F G ta M σ H)(s:Stp G0 t0 G ta):Rel K F G t0 (M.cut M0.tmp.length) σ H:=by obtain⟨l,rfl⟩:=s.t;have R1:=R.cut M0.tmp.length;rw[l0,zI] at R1;rw[l0];exact R1
def sU (wa:TW):cU:=fun M k=>wa M fun x M1=>aP (je x) fun b=>k b (M1.cut M.tmp.length)
theorem D2 (h:PT X e (xZ (LE X.K F wa))):PT X e (LB X.K F (sU wa)):=h.imp fun σ H Q ⟨G,ta,M,K0,R,k,q⟩=>by
 refine⟨G,ta,M,_,R,k,fun x M1 G1 t1 v1 H1 k1 R1 s1 e1=>?_⟩;obtain⟨b,hb,k1⟩:=aN k1
 have hx:x = .fz (.at (.bl b)):=by
  cases x with
  |fz t=>cases t with
   | «at» v => cases v <;> simp [je] at hb; subst hb; rfl
   |_=>simp [je] at hb
  |_=>simp [je] at hb
 subst hx;have jf:IsT X.K G1 v1 (.at (.bl b)):=e1;cases jf;exact⟨b,rfl,q _ _ G1 H1 k1 (R1.cutTo R.lt s1) s1.g⟩
noncomputable def CC:Tv->Option Bool
 | .at .non=>some false
 | .at (.bl b)=>some b
 | .at (.int i)=>some (i != 0)
 | .at (.str x)=>some ((x.length:Int) != 0)
 | .tup l=>some !l.isEmpty
 | .lst l=>some !l.isEmpty
 | .dic l=>some !l.isEmpty
 |_=>none
theorem IsTs.emp {ts:List Tv}(h:IsTs K G vs ts):vs.isEmpty=ts.isEmpty:=by cases h <;> rfl
theorem IsKs.emp {vs:List (aw×V)}{ts:List (aw×Tv)}(h:IsKs K G vs ts):vs.isEmpty=ts.isEmpty:=by cases h <;> rfl
theorem Nn {v:V}{b:Bool}(h:IsT K H v t)(e:CC t=some b):sV K v H b:=by
 have hz:=TY
 cases h with
 | «at» f =>
  cases v with
  |non=>cases e;rfl
  |bl c=>cases e;rfl
  |int i=>cases e;rfl
  |str x=>cases e;exact⟨by rw[hz];exact Ub f,rfl⟩
  |_=>injection e
 |tup h r=>cases e;exact .inr (.inl ⟨_,.of h,by rw[r.emp]⟩)
 |ktp h r=>injection e
 |lst h r=>cases e;exact .inl ⟨_,.of h,by rw[r.emp]⟩
 |scr h r=>injection e
 |dic h r=>cases e;exact .inr (.inr ⟨_,h,by rw[r.emp]⟩)
def CB (wa:TW):cU:=fun M k=>wa M fun x M1=>aP (rd M1 x) fun t=>aP (CC t) fun b=>k b (M1.cut M.tmp.length)
theorem DZ (h:PT X e (fun σ H Q=>LE X.K F wa σ H fun x H'=>∃k,sV X.K x H' k/\Q k H')):PT X e (LB X.K F (CB wa)):=h.imp fun σ H Q ⟨G,ta,M,K0,R,k,q⟩=>by refine⟨G,ta,M,_,R,k,fun x M1 G1 t1 v1 H1 k1 R1 s1 e1=>?_⟩;obtain⟨t,ht,k1⟩:=aN k1;obtain⟨b,hb,k1⟩:=aN k1;exact⟨b,Nn ((R1.rd e1 ht).up R1.sub) hb,q _ _ G1 H1 k1 (R1.cutTo R.lt s1) s1.g⟩
def CA (a b:cU):cU:=fun M k=>a M fun c M1=>if c=true then b M1 k else k false M1
def Bb (a b:cU):cU:=fun M k=>a M fun c M1=>if c=true then k true M1 else b M1 k
def Cz (a:cU):cU:=fun M k=>a M fun c M1=>k (!c) M1
theorem LB.and {a b:cU}{Q:Bool->Hp->Prop}:LB X.K F (CA a b) σ H Q->CV (LB X.K F a) (LB X.K F b) σ H Q:=fun⟨G,ta,M,K0,R,k,q⟩=>by
 refine⟨G,ta,M,_,R,k,fun c M1 G1 H1 k1 R1 s1=>?_⟩
 cases c with
 |true=>exact⟨G1,ta,M1,K0,R1,k1,fun b M' G' H' k' R' s'=>q b M' G' H' k' R' (s1.trans s')⟩
 |false=>exact q _ _ G1 H1 k1 R1 s1
theorem LB.or {a b:cU}{Q:Bool->Hp->Prop}:LB X.K F (Bb a b) σ H Q->Bi (LB X.K F a) (LB X.K F b) σ H Q:=fun⟨G,ta,M,K0,R,k,q⟩=>by
 refine⟨G,ta,M,_,R,k,fun c M1 G1 H1 k1 R1 s1=>?_⟩
 cases c with
 |false=>exact⟨G1,ta,M1,K0,R1,k1,fun b M' G' H' k' R' s'=>q b M' G' H' k' R' (s1.trans s')⟩
 |true=>exact q _ _ G1 H1 k1 R1 s1
theorem LB.not {a:cU}{Q:Bool->Hp->Prop}:LB X.K F (Cz a) σ H Q->CU (LB X.K F a) σ H Q:=fun⟨G,ta,M,K0,R,k,q⟩=>⟨G,ta,M,_,R,k,fun c M1 G1 H1 k1 R1 s1=>q _ _ G1 H1 k1 R1 s1⟩
def Cy (c:cU)(a b:TW):TW:=fun M k=>c M fun x M1=>if x=true then a M1 k else b M1 k
theorem LE.ite {c:cU}{a b:TW}:LE X.K F (Cy c a b) σ H Q->Bj (LB X.K F c) (LE X.K F a) (LE X.K F b) σ H Q:=fun⟨G,ta,M,K0,R,k,q⟩=>by
 refine⟨G,ta,M,_,R,k,fun c M1 G1 H1 k1 R1 s1=>?_⟩
 cases c with
 |true=>exact⟨G1,ta,M1,K0,R1,k1,fun b M' G' t' v H' k' R' s' e'=>q b M' G' t' v H' k' R' (Stp.trans ⟨s1,[],by simp⟩ s') e'⟩
 |false=>exact⟨G1,ta,M1,K0,R1,k1,fun b M' G' t' v H' k' R' s' e'=>q b M' G' t' v H' k' R' (Stp.trans ⟨s1,[],by simp⟩ s') e'⟩
abbrev b5:=Ms->(List Tv->Ms->Prop)->Prop
inductive LF (K:W.Frag)(F:Fr)(n:Nat)(w:b5)(σ:St)(H:Hp)(Q:(List V->Hp->Prop)):Prop
 |mk (G ta M K0:_) (_:Rel K F G ta M σ H) (_:w M K0) (_:∀ts M' G' vs H',K0 ts M'->Rel K F G' ta M' σ H'->Same G G'->IsTs K G' vs ts->ts.length=n->Q vs H')
def xW:b5:=fun M k=>k [] M
def qQ (wa:TW)(wr:b5):b5:=fun M k=>wa M fun x M1=>jn (eJ M.tmp.length M1 x) fun t M2=>wr M2 fun ts M3=>k (t::ts) M3
theorem K9:PA X [] (LF X.K F 0 xW):=pa_nil.imp fun σ H Q ⟨G,ta,M,K0,R,k,q⟩=>q _ _ G [] H k R (Same.refl _) .nil rfl
theorem LF.cons {n:Nat}{wa:TW}{wr:b5}{σ:St}{H:Hp}{Q:List V->Hp->Prop}:LF X.K F (n+1) (qQ wa wr) σ H Q->jR (LE X.K F wa) (LF X.K F n wr) σ H Q:=fun⟨G,ta,M,K0,R,k,q⟩=>by refine⟨G,ta,M,_,R,k,fun x M1 G1 t1 v1 H1 k1 R1 s1 e1=>?_⟩;obtain⟨t,M2,ht,k1⟩:=jx k1;obtain⟨G2,R2,s2,s2',t2⟩:=R1.frz R.lt s1 e1 ht;exact⟨G2,ta,M2,_,R2,k1,fun ts M' G' vs H' k' R' s' e' l'=>q _ _ G' _ H' k' R' (s2.g.trans s') (.cons (t2.mono s') e') (by rw[Tz,l'])⟩
noncomputable def Cw (ts:List Tv):Option Rs:=some (.v (.tup ts))
noncomputable def Cv (ts:List Tv):Option Rs:=some (.n (.lst ts))
def qI (f:List Tv->Option Rs)(wr:b5):TW:=fun M k=>wr M fun ts M1=>aP (f ts) fun r=>nc M.tmp.length M1 k r
theorem yX {ts:List Tv}(s:Same G H)(h:IsTs K G vs ts)(q:lx K G H Q (.v (.tup ts))):∀p,H p=none->Q (.ref p) (ax H p (.tup vs)):=fun p hp=>by
 have s1:Same G (ax G p (.tup vs)):=fun b x e=>by rw[az (cb e (s.free hp))];exact e
 refine q (.ref p) (ax G p (.tup vs)) _ s1 (fun b x e=>by rw[az (cb e hp)];exact e) (fun b x e=>?_) (fun b x e=>?_) (.tup bu (h.mono s1))
 ·by_cases z:b=p
  ·subst z;rw[bu] at e ⊢;exact e
  ·rw[az z] at e ⊢;exact s _ _ e
 ·by_cases z:b=p
  ·subst z;exact .inr (.inl hp)
  ·rw[az z] at e;exact .inl e
theorem zH {ts:List Tv}{p:Addr}(s:Same G H)(sH:Same H H')(e:H' p=some (.tup vs))(h:IsTs K G vs ts)(q:lx K G H Q (.v (.tup ts))):Q (.ref p) H':=by
 have s1:Same G (fun b=>if b=p then H' p else G b):=fun b x hb=>by
  show(if b=p then H' p else G b)=_
  split
  ·next z=>subst z;exact sH _ _ (s _ _ hb)
  ·exact hb
 refine q (.ref p) _ H' s1 sH (fun b x hb=>?_) (fun b x hb=>?_) (.tup (by show(if p=p then H' p else G p)=_;rw[Tt rfl];exact e) (h.mono s1))
 ·have jH:(if b=p then H' p else G b)=some x:=hb
  split at jH
  ·next z=>subst z;exact jH
  ·exact sH _ _ (s _ _ jH)
 ·have jH:(if b=p then H' p else G b)=some x:=hb
  split at jH
  ·next z=>subst z;rw[e] at jH;cases jH;exact .inr (.inr trivial)
  ·exact .inl jH
theorem kq {ts:List Tv}(h:IsTs K G vs ts)(q:lx K G H Q (.n (.lst ts))):∀p,H p=none->Q (.ref p) (ax H p (.lst vs)):=fun p hp=>
 q p _ hp (fun b x e=>by rw[az (cb e hp)];exact e) ⟨vs,bu,h⟩
theorem cm {v:V}(s:Same G H)(h:IsT K G v t)(q:lx K G H Q (.v t)):Q v H:=q v G H (Same.refl _) (Same.refl _) s (fun _ _ e=>.inl e) h
theorem LE.disp {n:Nat}{f:List Tv->Option Rs}{wr:b5}:LE X.K F (qI f wr) σ H Q->LF X.K F n wr σ H fun vs H1=>∃G ts s,Same G H1/\IsTs X.K G vs ts/\f ts=some s/\lx X.K G H1 Q s/\ts.length=n:=fun⟨G,ta,M,K0,R,k,q⟩=>by refine⟨G,ta,M,_,R,k,fun ts M1 G1 vs H1 k1 R1 s1 e1 l1=>?_⟩;obtain⟨s,hs,k1⟩:=aN k1;exact⟨G1,ts,s,R1.sub,e1,hs,R1.done R.lt ⟨s1,[],by simp⟩ k1 q,l1⟩
theorem K8 {n:Nat}{x1:Nat}{pos:Pos}{wr:b5}(hn:n<=1000)(h:PA X es (LF X.K F n wr)):PE X (.Tuple es x1 pos) (LE X.K F (qI Cw wr)):=(Ea h).imp fun σ H Q k=>by obtain⟨G,ta,M,K0,R,k,q⟩:=LE.disp (n:=n) k;refine⟨G,ta,M,K0,R,k,fun ts M1 G1 vs H1 k1 R1 s1 e1 l1=>?_⟩;obtain⟨G2,ts2,s,h1,h2,h3,h4,l2⟩:=q ts M1 G1 vs H1 k1 R1 s1 e1 l1;cases h3;exact⟨by rw[h2.len,TY];lia,yX h1 h2 h4⟩
theorem K7 {n:Nat}{pos:Pos}{wr:b5}(hn:n<=1000)(h:PA X es (LF X.K F n wr)):PE X (.List es pos) (LE X.K F (qI Cv wr)):=(yr h).imp fun σ H Q k=>by obtain⟨G,ta,M,K0,R,k,q⟩:=LE.disp (n:=n) k;refine⟨G,ta,M,K0,R,k,fun ts M1 G1 vs H1 k1 R1 s1 e1 l1=>?_⟩;obtain⟨G2,ts2,s,h1,h2,h3,h4,l2⟩:=q ts M1 G1 vs H1 k1 R1 s1 e1 l1;cases h3;exact⟨by rw[h2.len,TY];lia,kq h2 h4⟩
structure PD where
 nx:Ms->Prop
 rt:Ev->Ms->Prop
 bk:Ms->Prop:=fun _=>False
 ct:Ms->Prop:=fun _=>False
abbrev cx:=PD->Ms->Prop
structure PDOk (K:W.Frag)(F:Fr)(G:Hp)(P:PD)(D:bI):Prop where
 nx:∀M' G' σ' H',P.nx M'->Rel K F G' [] M' σ' H'->Same G G'->D.nx σ' H'
 rt:∀ev M' G' dF σ' v H',P.rt ev M'->Rel K F G' dF M' σ' H'->Same G G'->EvOk K F G' dF σ' ev v->D.rt v H'
 bk:∀M' G' σ' H',P.bk M'->Rel K F G' [] M' σ' H'->Same G G'->D.bk σ' H'
 ct:∀M' G' σ' H',P.ct M'->Rel K F G' [] M' σ' H'->Same G G'->D.ct σ' H'
theorem PDOk.up {P:PD}{D:bI}(h:PDOk K F G P D)(s:Same G G'):PDOk K F G' P D:=
 ⟨fun M1 G1 σ1 H1 p R s1=>h.nx M1 G1 σ1 H1 p R (s.trans s1),fun ev M1 G1 t1 σ1 v H1 p R s1=>h.rt ev M1 G1 t1 σ1 v H1 p R (s.trans s1),fun M1 G1 σ1 H1 p R s1=>h.bk M1 G1 σ1 H1 p R (s.trans s1),fun M1 G1 σ1 H1 p R s1=>h.ct M1 G1 σ1 H1 p R (s.trans s1)⟩
inductive LS (K:W.Frag)(F:Fr)(w:cx)(D:bI)(σ:St)(H:Hp):Prop
 |mk (G M P:_) (_:Rel K F G [] M σ H) (_:w P M) (_:PDOk K F G P D)
theorem PS.imp {t t':TS}(h:PS X st t)(i:∀D σ H,t' D σ H->t D σ H):PS X st t':=fun aa s σ H D I q=>h aa s σ H D I (i D σ H q)
theorem PSs.imp {st:List Stmt}{t t':TS}(h:PSs X st t)(i:∀D σ H,t' D σ H->t D σ H):PSs X st t':=fun aa s σ H D I q=>h aa s σ H D I (i D σ H q)
def Dq:cx:=fun P M=>P.nx M
def Cu (a b:cx):cx:=fun P M=>a { P with nx:=fun M1=>b P M1 } M
theorem LS.seq {a b:cx}{D:bI}:LS X.K F (Cu a b) D σ H->xG (LS X.K F a) (LS X.K F b) D σ H:=fun⟨G,M,P,R,k,ok⟩=>
 ⟨G,M,_,R,k,fun M1 G1 σ1 H1 p R1 s1=>⟨G1,M1,P,R1,p,ok.up s1⟩,ok.rt,ok.bk,ok.ct⟩
def Ct (wa:TW):cx:=fun P M=>wa M P.rt
theorem LS.ret {D:bI}:LS X.K F (Ct wa) D σ H->CS (LE X.K F wa) D σ H:=fun⟨G,M,P,R,k,ok⟩=>
 ⟨G,[],M,_,R,k,fun ev M1 G1 t1 v H1 p R1 s1 e1=>ok.rt ev M1 G1 t1 σ v H1 p R1 s1.g e1⟩
def Bc (c:cU)(a b:cx):cx:=fun P M=>c M fun x M1=>if x=true then a P M1 else b P M1
theorem LS.ite {c:cU}{a b:cx}{D:bI}:LS X.K F (Bc c a b) D σ H->CQ (LB X.K F c) (LS X.K F a) (LS X.K F b) D σ H:=fun⟨G,M,P,R,k,ok⟩=>by
 refine⟨G,[],M,_,R,k,fun x M1 G1 H1 p R1 s1=>?_⟩
 cases x with
 |true=>exact⟨G1,M1,P,R1,p,ok.up s1⟩
 |false=>exact⟨G1,M1,P,R1,p,ok.up s1⟩
def Cr (wa:TW):cx:=fun P M=>wa M fun _ M1=>P.nx (M1.cut 0)
theorem LS.exp {D:bI}:LS X.K F (Cr wa) D σ H->DB (LE X.K F wa) D σ H:=fun⟨G,M,P,R,k,ok⟩=>
 ⟨G,[],M,_,R,k,fun ev M1 G1 t1 v H1 p R1 s1 e1=>ok.nx _ G1 σ H1 p (by have:=R1.cut 0;exact this) s1.g⟩
def asg (i:Nat)(M:Ms):Ev->Option Ms
 | .fz t=>some ⟨M.env.set i (some (.fz t)),M.out,[]⟩
 | .tmp j=>(M.tmp[j]?).map fun o=>⟨M.env.set i (some (.own o)),M.out,[]⟩
 | .out k=>some ⟨M.env.set i (some (.out k)),M.out,[]⟩
 | .loc j=>(eJ 0 M (.loc j)).map fun p=>⟨p.2.env.set i (some (.fz p.1)),p.2.out,[]⟩
theorem Rel.putS (R:Rel K F G ta M σ H)(i:Nat){v:V}{s:Sl}(ok:CD K F G H ta { M with env:=M.env.set i none } (σ.set i (some v)) v s):
  Rel K F G ta { M with env:=M.env.set i (some s) } (σ.set i (some v)) H:=by
 have D:=R.drop i (some v)
 by_cases hi:i<σ.length
 ·have:=D.fill (i:=i) (v:=v) (s:=s) (by show(M.env.set i none)[i]? = _;exact uE (by rw[R.ls];exact hi)) (uE hi) ok
  have e:(M.env.set i none).set i (some s)=M.env.set i (some s):=set_set ..
  simpa [e] using this
 ·have e1:M.env.set i none=M.env:=List.set_eq_of_length_le (by rw[R.ls];lia);have e2:M.env.set i (some s)=M.env:=List.set_eq_of_length_le (by rw[R.ls];lia);rw[e1] at D;rw[e2];exact D
theorem Rel.asg {G0:Hp}(R:Rel K F G ta M σ H){ev:Ev}{v:V}{i:Nat}(s:Same G0 G)(h:EvOk K F G ta σ ev v)(e:asg i M ev=some M'):∃G',Rel K F G' [] M' (σ.set i (some v)) H/\Same G0 G':=by
 have R0:Rel K F G [] { M with tmp:=[] } σ H:=by have:=R.cut 0;simpa using this
 cases ev with
 |fz t=>simp only [L2.asg,Uh] at e;subst e;exact⟨G,R0.putS i (s:=.fz t) h,s⟩
 |out k=>simp only [L2.asg,Uh] at e;subst e;exact⟨G,R0.putS i (s:=.out k) h,s⟩
 |tmp j=>
  obtain⟨a,h1,rfl⟩:=h;simp only [L2.asg] at e
  cases q:M.tmp[j]? with
  |none=>rw[q] at e;injection e
  |some o=>
   rw[q] at e;simp only [U2,Uh] at e;subst e;obtain⟨b,h2,h3,h4⟩:=R.ob (.tmp j) o q;have hb:a=b:=by have iI:ta[j]? = some b:=h2;rw[h1] at iI;exact Tw iI
   subst hb
   have hn:F.H0 a=none:=by
    rcases R.nw (.tmp j) o a q h1 with ⟨k,z⟩|z
    ·injection z
    ·exact z
   refine⟨G,R0.putS i (s:=.own o) ⟨a,rfl,h3,h4,hn,fun r u hr z=>?_⟩,s⟩
   have:aF M r=some u/\adr F ta σ r=some a/\r ≠ .tmp j:=by
    cases r with
    |loc m=>
     simp only [aF] at hr ⊢
     cases q2:(M.env.set i none)[m]? with
     |none=>simp [q2] at hr
     |some x=>
      rw[q2] at hr;rcases eN q2 with ⟨_,rfl⟩|⟨z2,q3⟩
      ·simp at hr
      ·rw[q3];refine⟨hr,?_,fun z=>by injection z⟩;simp only [adr] at z ⊢;rw[uP z2] at z;exact z
    |out k=>exact⟨hr,z,fun z=>by injection z⟩
    |tmp m=>exact absurd (show([]:List Ob)[m]? = some u from hr) (by simp)
   exact this.2.2 (R.ij r (.tmp j) u o a this.1 q this.2.1 h1)
 |loc j=>
  simp only [L2.asg] at e
  cases q:eJ 0 M (.loc j) with
  |none=>rw[q] at e;injection e
  |some p=>obtain⟨t,M1⟩:=p;rw[q] at e;simp only [U2,Uh] at e;subst e;obtain⟨G',R1,s1,se,t1⟩:=R.frz (G0:=G) (t0:=[]) (M0:=⟨[],[],[]⟩) rfl ⟨Same.refl _,ta,rfl⟩ h q;have hM:M1.tmp = []:=UB R1.lt;have R2:=R1.putS i (s:=.fz t) (v:=v) t1;obtain⟨e1,e2,e3⟩:=M1;simp only at hM;subst hM;exact⟨G',R2,s.trans se⟩
def xB (i:Nat)(wa:TW):cx:=fun P M=>wa M fun ev M1=>aP (asg i M1 ev) P.nx
theorem LS.set {D:bI}:LS X.K F (xB i wa) D σ H->ox (LE X.K F wa) (qK i) D σ H:=fun⟨G,M,P,R,k,ok⟩=>by refine⟨G,[],M,_,R,k,fun ev M1 G1 t1 v H1 p R1 s1 e1=>?_⟩;obtain⟨M2,h2,p⟩:=aN p;obtain⟨G2,R2,s2⟩:=R1.asg s1.g e1 h2;exact ok.nx M2 G2 _ H1 p R2 s2
def Cq (c:cU)(b:cx):cx:=fun P M=>∃W:Nat->Ms->Prop,(∃m,W m M)/\∀m M,W m M->c M fun x M1=>if x=true then b { nx:=fun M2=>∃m',m'<m/\W m' M2,ct:=fun M2=>∃m',m'<m/\W m' M2,bk:=P.nx,rt:=P.rt } M1 else P.nx M1
theorem LS.whl {c:cU}{b:cx}{D:bI}:LS X.K F (Cq c b) D σ H->Ed (LB X.K F c) (LS X.K F b) D σ H:=fun⟨G,M,P,R,⟨W,⟨m,w0⟩,eE⟩,ok⟩=>by
 refine⟨fun n σ H=>∃G' M,Rel X.K F G' [] M σ H/\Same G G'/\W n M,⟨m,G,M,R,Same.refl _,w0⟩,?_⟩;rintro n σ1 H1 ⟨G1,M1,R1,s1,w1⟩;refine⟨G1,[],M1,_,R1,eE n M1 w1,fun x M2 G2 H2 p R2 s2=>?_⟩
 cases x with
 |true=>refine⟨fun σ H=>∃m',m'<n/\∃G' M,Rel X.K F G' [] M σ H/\Same G G'/\W m' M,fun σ' H' h=>h,G2,M2,_,R2,p,fun M3 G3 σ3 H3 ⟨m',hm,w3⟩ R3 s3=>⟨m',hm,G3,M3,R3,s1.trans (s2.trans s3),w3⟩,fun ev M3 G3 t3 σ3 v H3 p3 R3 s3 e3=>ok.rt ev M3 G3 t3 σ3 v H3 p3 R3 (s1.trans (s2.trans s3)) e3,fun M3 G3 σ3 H3 p3 R3 s3=>ok.nx M3 G3 σ3 H3 p3 R3 (s1.trans (s2.trans s3)),fun M3 G3 σ3 H3 ⟨m',hm,w3⟩ R3 s3=>⟨m',hm,G3,M3,R3,s1.trans (s2.trans s3),w3⟩⟩
 |false=>exact ok.nx M2 G2 σ1 H2 p R2 (s1.trans s2)
end
abbrev ad:=Sl->List Sl->Prop
abbrev aM:=List Sl->ad->Prop
inductive AOk (K:W.Frag)(G H:Hp):List Sl->List V->List Addr->Prop where
 |nil:AOk K G H [] [] []
 |fz {t:Tv} {ss:List Sl} {v:V} {vs:List V} {as:List Addr} (h:IsT K G v t) (r:AOk K G H ss vs as):AOk K G H (.fz t::ss) (v::vs) as
 |own {o:Ob} {a:Addr} {ss:List Sl} {vs:List V} {as:List Addr} (h:ObOk K G H a o) (hg:G a=none) (r:AOk K G H ss vs as):AOk K G H (.own o::ss) (.ref a::vs) (a::as)
inductive iE (K:W.Frag)(G H:Hp):List Sl->List V->List Sl->Prop where
 |nil:iE K G H [] [] []
 |fz {t:Tv} {s:Sl} {ss kB:List Sl} {v:V} {vs:List V} (r:iE K G H ss vs kB):iE K G H (.fz t::ss) (v::vs) (s::kB)
 |own {o o':Ob} {a:Addr} {ss kB:List Sl} {vs:List V} (h:ObOk K G H a o') (hg:G a=none) (r:iE K G H ss vs kB):iE K G H (.own o::ss) (.ref a::vs) (.own o'::kB)
 |gone {o:Ob} {t:Tv} {a:Addr} {ss kB:List Sl} {vs:List V} (h:IsT K G (.ref a) t) (r:iE K G H ss vs kB):iE K G H (.own o::ss) (.ref a::vs) (.fz t::kB)
def A1 (K:W.Frag)(H G' H':Hp)(v:V):Sl->Prop
 | .fz t=>IsT K G' v t
 | .own o=>∃p,v = .ref p/\H p=none/\ObOk K G' H' p o/\G' p=none
 | .out _=>False
structure nI (K:W.Frag)(G H:Hp)(as:List Addr)(G' H':Hp):Prop where
 g:Same G G'
 s:Same G' H'
 k:∀a o,H a=some o->a∉as->H' a=some o
 d:∀a o,G' a=some o->G a=some o∨H a=none∨a∈as∨lr o
 t:∀a o,H a=some o->∃o',H' a=some o'
def iH (K:W.Frag)(psp:aM):Sp:=fun vs H Q _=>∃G args as K0,Same G H/\AOk K G H args vs as/\as.Nodup/\psp args K0/\∀r ss v G' H',K0 r ss->nI K G H as G' H'->iE K G' H' args vs ss->A1 K H G' H' v r->Q v H'
noncomputable def tH (n:Nat)(M:Ms):Ev->Option (Sl×Option Rf)
 | .fz t=>some (.fz t,none)
 | .loc i=>match M.env[i]? with
  |some (some (.own o))=>some (.own o,some (.loc i))
  |some (some (.fz t))=>some (.fz t,none)
  |_=>none
 | .out k=>match M.out[k]? with
  |some (.own o)=>some (.own o,some (.out k))
  |some (.fz t)=>some (.fz t,none)
  |_=>none
 | .tmp j=>if n<=j then (M.tmp[j]?).map fun o=>(.own o,some (.tmp j)) else none
noncomputable def oG (n:Nat)(M:Ms):List Ev->Option (List (Sl×Option Rf))
 |[]=>some []
 |e::es=>match tH n M e,oG n M es with
  |some a,some r=>some (a::r)
  |_,_=>none
noncomputable def m9 (r:Rf):List (Sl×Option Rf)->Bool
 |[]=>true
 | (_,some r')::l => !(r==r')&&m9 r l
 | (_,none)::l=>m9 r l
noncomputable def lj:List (Sl×Option Rf)->Bool
 |[]=>true
 | (_,some r)::l=>m9 r l&&lj l
 | (_,none)::l=>lj l
noncomputable def w1 (M:Ms):Option Rf->Sl->Ms
 |some (.loc i),s=>{ M with env:=M.env.set i (some s) }
 |some (.out k),s=>{ M with out:=M.out.set k s }
 |_,_=>M
noncomputable def wb (M:Ms):List (Sl×Option Rf)->List Sl->Ms
 | (_,r)::rs,s::ss=>wb (w1 M r s) rs ss
 |_,_=>M
def qG (n:Nat)(M:Ms)(k:Ev->Ms->Prop):Sl->Prop
 | .fz t=>k (.fz t) { M with tmp:=M.tmp.take n }
 | .own o=>k (.tmp n) { M with tmp:=M.tmp.take n ++ [o] }
 | .out _=>False
def xV (psp:aM)(wr:iP):TW:=fun M k=>wr M fun eD M1=>aP (oG M.tmp.length M1 eD) fun as=>lj as=true/\psp (as.map (·.1)) fun r ss=>qG M.tmp.length (wb M1 as ss) k r
variable {psp:aM}
section
theorem w2 {M:Ms}{r:Option Rf}{s:Sl}:(w1 M r s).env.length=M.env.length/\(w1 M r s).out.length=M.out.length/\(w1 M r s).tmp=M.tmp:=by
 match r with
 |none|some (.tmp _)=>exact⟨rfl,rfl,rfl⟩
 |some (.loc _)=>exact⟨List.length_set,rfl,rfl⟩
 |some (.out _)=>exact⟨rfl,List.length_set,rfl⟩
theorem lH:∀{rs:List (Sl×Option Rf)} {ss:List Sl} {M:Ms},(wb M rs ss).tmp=M.tmp
 |[],_,_=>rfl
 |_::_,[],_=>rfl
 | (_,r)::rs,s::ss,M=>(@lH rs ss (w1 M r s)).trans w2.2.2
theorem oS:∀{rs:List (Sl×Option Rf)} {ss:List Sl} {M:Ms},(wb M rs ss).env.length=M.env.length/\(wb M rs ss).out.length=M.out.length
 |[],_,_=>⟨rfl,rfl⟩
 |_::_,[],_=>⟨rfl,rfl⟩
 | (_,r)::rs,s::ss,M=>have h:=@oS rs ss (w1 M r s);⟨h.1.trans w2.1,h.2.trans w2.2.1⟩
inductive Wr:List (Sl×Option Rf)->List Sl->Rf->Sl->Prop where
 |hd {x:Sl} {r:Rf} {rs:List (Sl×Option Rf)} {s:Sl} {ss:List Sl}:Wr ((x,some r)::rs) (s::ss) r s
 |tl {x:Sl×Option Rf} {r:Rf} {rs:List (Sl×Option Rf)} {s s':Sl} {ss:List Sl} (h:Wr rs ss r s'):Wr (x::rs) (s::ss) r s'
theorem nq:∀{rs:List (Sl×Option Rf)} {ss:List Sl} {M:Ms} {i:Nat} {x:Option Sl},rs.length=ss.length->(wb M rs ss).env[i]? = some x->(∃s,x=some s/\Wr rs ss (.loc i) s)∨(M.env[i]? = some x/\∀y,(y,some (.loc i))∉rs)
 |[],_,M,i,x,_,h=>.inr ⟨h,fun _ z=>by cases z⟩
 |p::rs,[],M,i,x,hl,h=>by simp at hl
 | (z,r)::rs,s::ss,M,i,x,hl,h=>by
  rcases nq (M:=w1 M r s) (by simpa using hl) h with ⟨s',e,w⟩|⟨e,n⟩
  ·exact .inl ⟨s',e,.tl w⟩
  ·have c:(r=some (.loc i)/\x=some s)∨(M.env[i]? = some x/\r≠some (.loc i)):=by
    match r,e with
    |none,e|some (.tmp _),e|some (.out _),e=>exact .inr ⟨e,fun z=>by cases z⟩
    |some (.loc m),e=>
     rcases eN e with ⟨rfl,rfl⟩|⟨bj,e⟩
     ·exact .inl ⟨rfl,rfl⟩
     ·exact .inr ⟨e,fun z=>by cases z;exact bj rfl⟩
   rcases c with ⟨rfl,rfl⟩|⟨e,c⟩
   ·exact .inl ⟨s,rfl,.hd⟩
   ·exact .inr ⟨e,fun y hy=>(Ts.mp hy).elim (fun q=>c (by cases q;rfl)) (n y)⟩
theorem oF:∀{rs:List (Sl×Option Rf)} {ss:List Sl} {M:Ms} {i:Nat} {x:Sl},rs.length=ss.length->(wb M rs ss).out[i]? = some x->Wr rs ss (.out i) x∨(M.out[i]? = some x/\∀y,(y,some (.out i))∉rs)
 |[],_,M,i,x,_,h=>.inr ⟨h,fun _ z=>by cases z⟩
 |p::rs,[],M,i,x,hl,h=>by simp at hl
 | (z,r)::rs,s::ss,M,i,x,hl,h=>by
  rcases oF (M:=w1 M r s) (by simpa using hl) h with w|⟨e,n⟩
  ·exact .inl (.tl w)
  ·have c:(r=some (.out i)/\x=s)∨(M.out[i]? = some x/\r≠some (.out i)):=by
    match r,e with
    |none,e|some (.tmp _),e|some (.loc _),e=>exact .inr ⟨e,fun z=>by cases z⟩
    |some (.out m),e=>
     rcases eN e with ⟨rfl,rfl⟩|⟨bj,e⟩
     ·exact .inl ⟨rfl,rfl⟩
     ·exact .inr ⟨e,fun z=>by cases z;exact bj rfl⟩
   rcases c with ⟨rfl,rfl⟩|⟨e,c⟩
   ·exact .inl .hd
   ·exact .inr ⟨e,fun y hy=>(Ts.mp hy).elim (fun q=>c (by cases q;rfl)) (n y)⟩
inductive RAs (F:Fr)(ta:List Addr)(σ:St)(M:Ms):List (Sl×Option Rf)->List V->List Addr->Prop where
 |nil:RAs F ta σ M [] [] []
 |fz {t:Tv} {rs:List (Sl×Option Rf)} {v:V} {vs:List V} {as:List Addr} (r:RAs F ta σ M rs vs as):RAs F ta σ M ((.fz t,none)::rs) (v::vs) as
 |own {o:Ob} {x:Rf} {a:Addr} {rs:List (Sl×Option Rf)} {vs:List V} {as:List Addr} (ho:aF M x=some o) (ha:adr F ta σ x=some a) (r:RAs F ta σ M rs vs as):RAs F ta σ M ((.own o,some x)::rs) (.ref a::vs) (a::as)
theorem RAs.mem {rs:List (Sl×Option Rf)}(h:RAs F ta σ M rs vs as):∀a∈as,∃y x o,(y,some x)∈rs/\aF M x=some o/\adr F ta σ x=some a:=by
 induction h with
 |nil=>intro a h;cases h
 |fz r ih=>intro a h;obtain⟨y,x,o,h1,h2⟩:=ih a h;exact⟨y,x,o,Tb _ h1,h2⟩
 | @own o x a' rs vs as ho ha r ih=>
  intro a h;rcases Ts.mp h with rfl|h
  ·exact⟨_,x,o,Te,ho,ha⟩
  ·obtain⟨y,x,o,h1,h2⟩:=ih a h;exact⟨y,x,o,Tb _ h1,h2⟩
theorem RAs.wr {rs:List (Sl×Option Rf)}(h:RAs F ta σ M rs vs as):∀{ss:List Sl},iE K G H (rs.map (·.1)) vs ss->∀{x:Rf} {s:Sl},Wr rs ss x s →
  ∃o a,aF M x=some o/\adr F ta σ x=some a/\((∃o',s = .own o'/\ObOk K G H a o'/\G a=none)∨∃t,s = .fz t/\IsT K G (.ref a) t):=by
 induction h with
 |nil=>intro ss hp x s w;cases w
 | @fz t rs v vs as r ih=>
  intro ss hp x s w
  cases hp with
  |fz hp=>
   cases w with
   |tl w=>exact ih hp w
 | @own o y a rs vs as ho ha r ih=>
  intro ss hp x s w
  cases hp with
  |own h1 h2 hp=>
   cases w with
   |hd=>exact⟨o,a,ho,ha,.inl ⟨_,rfl,h1,h2⟩⟩
   |tl w=>exact ih hp w
  |gone h1 hp=>
   cases w with
   |hd=>exact⟨o,a,ho,ha,.inr ⟨_,rfl,h1⟩⟩
   |tl w=>exact ih hp w
theorem RAs.len {rs:List (Sl×Option Rf)}(h:RAs F ta σ M rs vs as):∀{ss:List Sl},iE K G H (rs.map (·.1)) vs ss->rs.length=ss.length:=by
 induction h with
 |nil=>intro ss hp;cases hp;rfl
 |fz r ih=>intro ss hp;cases hp with|fz hp=>simp [ih hp]
 |own ho ha r ih=>intro ss hp;cases hp with
  |own _ _ hp=>simp [ih hp]
  |gone _ hp=>simp [ih hp]
theorem Rel.back {t0 l:List Addr}(R:Rel K F G (t0++l) M σ H){rs:List (Sl×Option Rf)}{vs:List V}{as:List Addr}{ss:List Sl}(ra:RAs F (t0++l) σ M rs vs as)(hp:iE K G' H' (rs.map (·.1)) vs ss)(p:nI K G H as G' H')(tm:∀y j,(y,some (Rf.tmp j))∈rs->t0.length<=j):
  Rel K F G' t0 { wb M rs ss with tmp:=M.tmp.take t0.length } σ H'/\∀r o a,aF { wb M rs ss with tmp:=M.tmp.take t0.length } r=some o->adr F t0 σ r=some a->∃x,H a=some x:=by
 have hl:=ra.len hp
 have Bv:∀a∈as,(a∈F.ao∨F.H0 a=none)/\∃o,H a=some o:=fun a ha=>by
  obtain⟨y,x,o,_,h2,h3⟩:=ra.mem a ha;obtain⟨b,e1,e2,e3⟩:=R.ob x o h2;rw[h3] at e1;cases e1;refine⟨?_,e2.some⟩;rcases R.nw x o a h2 h3 with ⟨k,rfl⟩|z
  ·exact .inl (T4 (show F.ao[k]? = some a from h3))
  ·exact .inr z
 have up:∀r o,aF { wb M rs ss with tmp:=M.tmp.take t0.length } r=some o->(adr F t0 σ r=adr F (t0++l) σ r)/\((∃s,Wr rs ss r s/\s = .own o)∨(aF M r=some o/\∀y,(y,some r)∉rs∨∃j,r = .tmp j/\j<t0.length)):=fun r o h=>by
  cases r with
  |loc i=>
   refine⟨rfl,?_⟩;simp only [aF] at h ⊢
   cases q:(wb M rs ss).env[i]? with
   |none=>simp [q] at h
   |some x=>
    rw[q] at h;rcases nq hl q with ⟨s,rfl,w⟩|⟨e,n⟩
    ·cases s with
     |own u=>simp [b8] at h;subst h;exact .inl ⟨_,w,rfl⟩
     |fz t=>simp [b8] at h
     |out k=>simp [b8] at h
    ·exact .inr ⟨by rw[e];exact h,fun y=>.inl (n y)⟩
  |out k=>
   refine⟨rfl,?_⟩;simp only [aF] at h ⊢
   cases q:(wb M rs ss).out[k]? with
   |none=>simp [q] at h
   |some x=>
    rw[q] at h;rcases oF hl q with w|⟨e,n⟩
    ·cases x with
     |own u=>simp [b8] at h;subst h;exact .inl ⟨_,w,rfl⟩
     |fz t=>simp [b8] at h
     |out k=>simp [b8] at h
    ·exact .inr ⟨by rw[e];exact h,fun y=>.inl (n y)⟩
  |tmp j=>
   have h':(M.tmp.take t0.length)[j]? = some o:=h;rw[List.getElem?_take] at h'
   split at h'
   ·next hj=>exact⟨by show t0[j]? = (t0++l)[j]?;rw[TR hj],.inr ⟨h',fun y=>.inr ⟨j,rfl,hj⟩⟩⟩
   ·injection h'
 have fM:∀r o,aF { wb M rs ss with tmp:=M.tmp.take t0.length } r=some o->∃o0,aF M r=some o0:=fun r o h=>by
  rcases(up r o h).2 with ⟨s,w,_⟩|⟨h1,_⟩
  ·obtain⟨o0,_,h1,_⟩:=ra.wr hp w;exact⟨o0,h1⟩
  ·exact⟨o,h1⟩
 have u4:∀y j,(y,some (Rf.tmp j))∈rs->t0.length<=j:=tm
 have pU:∀r o a,aF M r=some o->adr F (t0++l) σ r=some a->(∀y,(y,some r)∉rs∨∃j,r = .tmp j/\j<t0.length)->a∉as:=fun r o a h1 h2 h3 ha=>by
  obtain⟨y,x,o',e1,e2,e3⟩:=ra.mem a ha;have:=R.ij r x o o' a h1 e2 h2 e3;subst this;rcases h3 y with z|⟨j,rfl,hj⟩
  ·exact z e1
  ·have:=u4 y j e1;lia
 refine⟨?_,fun r o a h e=>by
  obtain⟨o0,h0⟩:=fM r o h;rw[(up r o h).1] at e;obtain⟨b,e1,e2,_⟩:=R.ob r o0 h0;rw[e] at e1;cases e1
  exact e2.some⟩
 refine⟨p.s,R.g0.trans p.g,fun a o h1 h2=>?_,fun a o h=>?_,fun a h=>?_,by show(wb M rs ss).env.length=_;rw[oS.1];exact R.ls,by show(wb M rs ss).out.length=_;rw[oS.2];exact R.lo,?_,fun i t h=>?_,fun i k h=>?_,fun k t h=>?_,fun r o h=>?_,fun r r' o o' a h h' e e'=>?_,fun r o a h e=>?_⟩
 ·refine p.k a o (R.fra a o h1 h2) fun z=>?_
  rcases(Bv a z).1 with q|q
  ·exact h2 q
  ·rw[h1] at q;injection q
 ·rcases p.d a o h with z|z|z|z
  ·exact R.gd a o z
  ·exact .inr (.inl (R.new z).1)
  ·rcases(Bv a z).1 with q|q
   ·exact .inr (.inr (.inl q))
   ·exact .inr (.inl q)
  ·exact .inr (.inr (.inr z))
 ·obtain⟨o,e⟩:=R.pr a h;exact p.t a o e
 ·show(M.tmp.take t0.length).length=_;rw[T9,R.lt,Tg];lia
 ·rcases nq hl h with ⟨s,e,w⟩|⟨e,_⟩
  ·cases e
   obtain⟨o0,a,h1,h2,h3|⟨t',h3,h4⟩⟩:=ra.wr hp w
   ·obtain⟨_,z,_⟩:=h3;injection z
   ·cases h3
    refine⟨.ref a,?_,h4⟩;simp only [adr] at h2
    cases q:σ[i]? with
    |none=>simp [q] at h2
    |some x=>
     cases x with
     |none=>simp [q] at h2
     |some v=>cases v <;> simp [q,kb] at h2;subst h2;rfl
  ·obtain⟨v,h1,h2⟩:=R.fz i t e;exact⟨v,h1,h2.mono p.g⟩
 ·rcases nq hl h with ⟨s,e,w⟩|⟨e,_⟩
  ·cases e
   obtain⟨o0,a,h1,h2,⟨_,z,_⟩|⟨t',z,h4⟩⟩:=ra.wr hp w
   ·injection z
   ·injection z
  ·exact R.al i k e
 ·rcases oF hl h with w|⟨e,_⟩
  ·obtain⟨o0,a,h1,h2,⟨_,z,_⟩|⟨t',z,h4⟩⟩:=ra.wr hp w
   ·injection z
   ·cases z;exact⟨a,h2,h4⟩
  ·obtain⟨a,h1,h2⟩:=R.fo k t e;exact⟨a,h1,h2.mono p.g⟩
 ·obtain⟨u1,u2⟩:=up r o h
  rw[u1];rcases u2 with ⟨s,w,rfl⟩|⟨h1,h2⟩
  ·obtain⟨o0,a,h1,h2,⟨o',z,h3,h4⟩|⟨t',z,h4⟩⟩:=ra.wr hp w
   ·cases z;exact⟨a,h2,h3,h4⟩
   ·injection z
  ·obtain⟨a,e1,e2,e3⟩:=R.ob r o h1
   have na:=pU r o a h1 e1 h2;obtain⟨x,hx⟩:=e2.some;refine⟨a,e1,e2.mono p.g ((p.k a x hx na).trans hx.symm),?_⟩
   cases q:G' a with
   |none=>rfl
   |some y=>
    rcases p.d a y q with z|z|z|z
    ·rw[e3] at z;injection z
    ·rw[hx] at z;injection z
    ·exact absurd z na
    ·have q2:=p.s a y q;rw[p.k a x hx na] at q2;cases q2;exact absurd z (e2.notup hx)
 ·obtain⟨o0,h0⟩:=fM r o h;obtain⟨o1,h1⟩:=fM r' o' h';rw[(up r o h).1] at e;rw[(up r' o' h').1] at e';exact R.ij r r' o0 o1 a h0 h1 e e'
 ·obtain⟨o0,h0⟩:=fM r o h;rw[(up r o h).1] at e;exact R.nw r o0 a h0 e
theorem Rel.pushAt (R:Rel K F G ta M σ H){p:Addr}{o:Ob}(h:ObOk K G H p o)(n3:G p=none)(n1:F.H0 p=none)(bF:∀r u a,aF M r=some u->adr F ta σ r=some a->a≠p):Rel K F G (ta ++ [p]) { M with tmp:=M.tmp ++ [o] } σ H:=by
 have up:∀r u,aF { M with tmp:=M.tmp ++ [o] } r=some u->(aF M r=some u/\adr F (ta ++ [p]) σ r=adr F ta σ r)∨(r = .tmp ta.length/\u=o/\adr F (ta ++ [p]) σ r=some p):=fun r u h=>by
  cases r with
  |loc i=>exact .inl ⟨h,rfl⟩
  |out k=>exact .inl ⟨h,rfl⟩
  |tmp j=>
   have h':(M.tmp ++ [o])[j]? = some u:=h;rcases U0 j M.tmp.length with hj|hj
   ·rw[TR hj] at h';exact .inl ⟨h',by show(ta ++ [p])[j]? = _;rw[TR (by rw[<- R.lt];exact hj)];rfl⟩
   ·rw[TH hj] at h'
    have vJ:j-M.tmp.length=0:=by have:=(Tn.mp h').1;simp at this;lia
    rw[vJ] at h';simp at h';have qd:j=ta.length:=by rw[<- R.lt];lia
    exact .inr ⟨by rw[qd],h'.symm,by show(ta ++ [p])[j]? = _;rw[qd,TH (Tf _)];simp⟩
 refine⟨R.sub,R.g0,R.fra,R.gd,R.pr,R.ls,R.lo,by show(M.tmp ++ [o]).length=_;rw[Tg,Tg,R.lt];rfl,R.fz,R.al,R.fo,fun r u h=>?_,fun r r' u u' a h h' e e'=>?_,fun r u a h e=>?_⟩
 ·rcases up r u h with ⟨h1,h2⟩|⟨rfl,rfl,h2⟩
  ·rw[h2];exact R.ob r u h1
  ·rw[h2];exact⟨p,rfl,‹_›,n3⟩
 ·rcases up r u h with ⟨h1,h2⟩|⟨rfl,rfl,h2⟩
  ·rcases up r' u' h' with ⟨h3,h4⟩|⟨rfl,rfl,h4⟩
   ·rw[h2] at e;rw[h4] at e';exact R.ij r r' u u' a h1 h3 e e'
   ·rw[h2] at e;rw[h4] at e';cases e';exact absurd rfl (bF r u p h1 e)
  ·rcases up r' u' h' with ⟨h3,h4⟩|⟨rfl,_,h4⟩
   ·rw[h2] at e;rw[h4] at e';cases e;exact absurd rfl (bF r' u' p h3 e')
   ·rfl
 ·rcases up r u h with ⟨h1,h2⟩|⟨rfl,rfl,h2⟩
  ·rw[h2] at e;exact R.nw r u a h1 e
  ·rw[h2] at e;cases e;exact .inr n1
theorem uM {r:Rf}:∀{l:List (Sl×Option Rf)},m9 r l=true->∀y,(y,some r)∉l
 |[],_,_,h=>by cases h
 | (x,none)::l,hn,y,h=>by
  simp only [m9] at hn;rcases Ts.mp h with q|q
  ·cases q
  ·exact uM hn y q
 | (x,some r')::l,hn,y,h=>by
  simp only [m9,S5,U7,Ux] at hn;rcases Ts.mp h with q|q
  ·cases q;exact hn.1 rfl
  ·exact uM hn.2 y q
theorem Rel.args {n:Nat}(R:Rel K F G ta M σ H):∀{eD:List Ev} {vs:List V} {rs:List (Sl×Option Rf)},eO K F G ta σ eD vs->oG n M eD=some rs->lj rs=true →
  ∃as,RAs F ta σ M rs vs as/\AOk K G H (rs.map (·.1)) vs as/\as.Nodup/\∀y j,(y,some (Rf.tmp j))∈rs->n<=j:=by
 intro eD
 induction eD with
 |nil=>intro vs rs h e _;cases h;cases e;exact⟨[],.nil,.nil,.nil,fun _ _ z=>by cases z⟩
 |cons ev eD ih=>
  intro vs rs h e ok
  cases h with
  | @cons _ _ v vs h1 h2=>
  simp only [oG] at e
  split at e
  ·next a r ea er=>
   cases e;have lift:∀(sg:lj r=true),_:=fun sg=>ih h2 er sg;have wy:∀t,a=(.fz t,none)->IsT K G v t->∃as,RAs F ta σ M (a::r) (v::vs) as/\AOk K G H ((a::r).map (·.1)) (v::vs) as/\as.Nodup/\∀y j,(y,some (Rf.tmp j))∈a::r->n<=j:=fun t q ht=>by subst q;obtain⟨as,g1,g2,g3,g4⟩:=lift ok;exact⟨as,.fz g1,.fz ht g2,g3,fun y j z=>(Ts.mp z).elim (fun q=>by cases q) (g4 y j)⟩
   have ve:∀o x b,a=(.own o,some x)->v = .ref b->aF M x=some o->adr F ta σ x=some b->(∀j,x = .tmp j->n<=j)->∃as,RAs F ta σ M (a::r) (v::vs) as/\AOk K G H ((a::r).map (·.1)) (v::vs) as/\as.Nodup/\∀y j,(y,some (Rf.tmp j))∈a::r->n<=j:=fun o x b q hv ho hb hj=>by subst q;subst hv;simp only [lj,S5] at ok;obtain⟨as,g1,g2,g3,g4⟩:=lift ok.2;obtain⟨c,k1,k2,k3⟩:=R.ob x o ho;rw[hb] at k1;cases k1;refine⟨b::as,.own ho hb g1,.own k2 k3 g2,Vl.mpr ⟨fun z=>?_,g3⟩,fun y j z=>(Ts.mp z).elim (fun q=>by cases q;exact hj j rfl) (g4 y j)⟩;obtain⟨y,x',o',m1,m2,m3⟩:=g1.mem b z;have:=R.ij x x' o o' b ho m2 hb m3;subst this;exact uM ok.1 y m1
   cases ev with
   |fz t=>cases ea;exact wy t rfl h1
   |loc i=>
    obtain⟨q1,b,rfl⟩:=h1;simp only [tH] at ea
    split at ea
    ·next o q=>cases ea;exact ve o _ b rfl rfl (by simp [aF,q,b8]) (by simp [adr,q1,kb]) fun j z=>by injection z
    ·next t q=>
     cases ea;obtain⟨v',z1,z2⟩:=R.fz i t q;rw[q1] at z1;cases z1;exact wy t rfl z2
    ·injection ea
   |out k=>
    obtain⟨b,q1,rfl⟩:=h1;simp only [tH] at ea
    split at ea
    ·next o q=>cases ea;exact ve o _ b rfl rfl (by simp [aF,q,b8]) q1 fun j z=>by injection z
    ·next t q=>
     cases ea;obtain⟨b',z1,z2⟩:=R.fo k t q;rw[q1] at z1;cases z1;exact wy t rfl z2
    ·injection ea
   |tmp j=>
    obtain⟨b,q1,rfl⟩:=h1;simp only [tH] at ea
    split at ea
    ·next hj=>
     cases q:M.tmp[j]? with
     |none=>rw[q] at ea;injection ea
     |some o=>rw[q] at ea;cases ea;exact ve o _ b rfl rfl q q1 fun j' z=>by cases z;exact hj
    ·injection ea
  ·injection e
theorem LE.call {wr:iP}{E:XK}:LE X.K F (xV psp wr) σ H Q->Dw (iH X.K psp) [] E (LA X.K F wr) σ H Q:=fun⟨G,ta,M,K0,R,k,q⟩=>by
 refine⟨G,ta,M,_,R,k,fun eD M1 G1 t1 vs H1 k1 R1 s1 e1=>?_⟩;obtain⟨rs,h1,ok,k1⟩:=aN k1;obtain⟨as,g1,g2,g3,g4⟩:=R1.args e1 h1 ok;rw[TJ];refine⟨G1,_,as,_,R1.sub,g2,g3,k1,fun r ss v G' H' k2 p hp hr=>?_⟩;obtain⟨l,rfl⟩:=s1.t;have lt0:=R.lt;rw[lt0] at g4 k2;have B:=R1.back g1 hp p g4
 cases r with
 |fz t=>exact q _ _ G' ta v H' k2 (by rw[lH];exact B.1) ⟨s1.g.trans p.g,[],by simp⟩ hr
 |own o=>
  obtain⟨a,rfl,ha,h2,h3⟩:=hr;have n1:=R1.new ha;have B2:Rel X.K F G' (ta ++ [a]) { wb M1 rs ss with tmp:=M1.tmp.take ta.length ++ [o] } σ H':=B.1.pushAt h2 h3 n1.1 fun r u a' e1 e2 z=>by obtain⟨x,hx⟩:=B.2 r u a' e1 e2;rw[z,ha] at hx;cases hx
  refine q _ _ G' (ta ++ [a]) _ H' k2 (by rw[lH];exact B2) ⟨s1.g.trans p.g,[a],rfl⟩ ⟨a,?_,rfl⟩;rw[TH (Tf _)];simp
 |out j=>exact k2.elim
end
noncomputable def ib:Nat->List Sl->List (Option Sl)
 |_,[]=>[]
 |k,.own _::r=>some (.out k)::ib (k+1) r
 |k,s::r=>some s::ib k r
noncomputable def jm:List Sl->List Sl
 |[]=>[]
 | .own o::r=>.own o::jm r
 |_::r=>jm r
def aU (n:Nat)(args:List Sl):Ms:=⟨ib 0 args++List.replicate (n-args.length) none,jm args,[]⟩
noncomputable def fY:List Sl->List Sl->Option (List Sl)
 |[],_=>some []
 | .own _::r,.own o::os=>(fY r os).map (.own o :: ·)
 | .own _::r,.fz t::os=>(fY r os).map (.fz t :: ·)
 | .own _::_,_=>none
 | .fz t::r,os=>(fY r os).map (.fz t :: ·)
 | .out _::_,_=>none
noncomputable def Bl (M:Ms)(i:Nat):Option Sl:=match M.env[i]? with
 |some (some (.own o))=>some (.own o)
 |some (some (.fz t))=>some (.fz t)
 |_=>none
def tG (M:Ms):Ev->Option Sl
 | .fz t=>some (.fz t)
 | .tmp j=>(M.tmp[j]?).map .own
 | .loc i=>Bl M i
 | .out _=>none
def aS (args:List Sl)(k:ad):PD where
 nx:=fun M=>aP (fY args M.out) fun ss=>k (.fz (.at .non)) ss
 rt:=fun ev M=>aP (fY args M.out) fun ss=>aP (tG M ev) fun r=>k r ss
section
theorem AOk.len {args:List Sl}(h:AOk K G H args vs as):vs.length=args.length:=by
 induction h with
 |nil=>rfl
 |fz _ _ ih=>simp [ih]
 |own _ _ _ ih=>simp [ih]
theorem uD:∀{k:Nat} {args:List Sl},(ib k args).length=args.length
 |_,[]=>rfl
 |k,.own _::r=>by simp [ib,@uD (k+1) r]
 |k,.fz _::r=>by simp [ib,@uD k r]
 |k,.out _::r=>by simp [ib,@uD k r]
theorem AOk.ent {args:List Sl}(h:AOk K G H args vs as):∀(k i:Nat) (s:Sl),(ib k args)[i]? = some (some s)->∃v,vs[i]? = some v/\((∃t,s = .fz t/\IsT K G v t)∨∃j a,s = .out (k+j)/\as[j]? = some a/\v = .ref a):=by
 induction h with
 |nil=>intro k i s h;simp [ib] at h
 | @fz t ss v vs as ht r ih=>
  intro k i s h
  cases i with
  |zero=>simp [ib] at h;subst h;exact⟨v,rfl,.inl ⟨t,rfl,ht⟩⟩
  |succ i=>simp [ib] at h;simpa using ih k i s h
 | @own o a ss vs as h1 h2 r ih=>
  intro k i s h
  cases i with
  |zero=>simp [ib] at h;subst h;exact⟨_,rfl,.inr ⟨0,a,rfl,rfl,rfl⟩⟩
  |succ i=>
   simp [ib] at h;obtain⟨v,e,z⟩:=ih (k+1) i s h;refine⟨v,by simpa using e,?_⟩;rcases z with z|⟨j,a',rfl,e2,e3⟩
   ·exact .inl z
   ·exact .inr ⟨j+1,a',by congr 1;lia,by simpa using e2,e3⟩
theorem AOk.outs {args:List Sl}(h:AOk K G H args vs as):(jm args).length=as.length/\∀(k:Nat) (s:Sl),(jm args)[k]? = some s->∃o a,s = .own o/\as[k]? = some a/\ObOk K G H a o/\G a=none:=by
 induction h with
 |nil=>exact⟨rfl,fun k s h=>by simp [jm] at h⟩
 |fz _ _ ih=>exact ih
 | @own o a ss vs as h1 h2 r ih=>
  refine⟨by simp [jm,ih.1],fun k s h=>?_⟩
  cases k with
  |zero=>simp [jm] at h;exact⟨o,a,h.symm,rfl,h1,h2⟩
  |succ k=>simp [jm] at h;simpa using ih.2 k s h
theorem RU {l:List (Option α)}{n:Nat}{s:α}(h:(l++List.replicate n none)[i]? = some (some s)):l[i]? = some (some s):=by
 rcases U0 i l.length with hi|hi
 ·rw[TR hi] at h;exact h
 ·rw[TH hi,List.getElem?_replicate] at h
  split at h <;> cases h
theorem Ak {N:List Str}{args:List Sl}(s:Same G H)(h:AOk K G H args vs as)(nd:as.Nodup)(hl:args.length<=N.length):Rel K ⟨H,G,as⟩ G [] (aU N.length args) (gh N vs) H:=by
 have hv:=h.len;have slot:∀(i:Nat) (sl:Sl),(aU N.length args).env[i]? = some (some sl)->∃v,(gh N vs)[i]? = some (some v)/\((∃t,sl = .fz t/\IsT K G v t)∨∃j a,sl = .out (0+j)/\as[j]? = some a/\v = .ref a):=fun i sl e=>by obtain⟨v,e1,e2⟩:=h.ent 0 i sl (RU e);refine⟨v,?_,e2⟩;unfold gh;rw[TR (by rw[Ta];exact(Tn.mp e1).1),Ui,e1];rfl
 have ob:∀r o,aF (aU N.length args) r=some o->∃k,r = .out k/\(jm args)[k]? = some (.own o):=fun r o e=>by
  cases r with
  |loc i=>
   simp only [aF] at e
   cases q:(aU N.length args).env[i]? with
   |none=>simp [q] at e
   |some x=>
    cases x with
    |none=>simp [q] at e
    |some sl=>
     rw[q] at e;obtain⟨v,_,⟨t,rfl,_⟩|⟨j,a,rfl,_⟩⟩:=slot i sl q
     ·simp [b8] at e
     ·simp [b8] at e
  |out k=>
   simp only [aF] at e
   cases q:(aU N.length args).out[k]? with
   |none=>simp [q] at e
   |some x=>
    rw[q] at e
    cases x with
    |own u=>simp [b8] at e;subst e;exact⟨k,rfl,q⟩
    |fz t=>simp [b8] at e
    |out k=>simp [b8] at e
  |tmp j=>exact absurd (show([]:List Ob)[j]? = some o from e) (by simp)
 refine⟨s,Same.refl _,fun a o h1 _=>h1,fun a o h1=>.inl h1,fun a ha=>?_,?_,h.outs.1,rfl,fun i t e=>?_,fun i k e=>?_,fun k t e=>?_,fun r o e=>?_,fun r r' o o' a e e' ea Jy=>?_,fun r o a e ea=>?_⟩
 ·obtain⟨k,hk⟩:=List.getElem?_of_mem ha
  have vG:k<(jm args).length:=by rw[h.outs.1];exact(Tn.mp hk).1
  obtain⟨o,b,_,e2,e3,_⟩:=h.outs.2 k _ (Td vG);have iJ:as[k]? = some b:=e2;have d9:as[k]? = some a:=hk;rw[d9] at iJ;cases iJ;exact e3.some
 ·show(ib 0 args++_).length=(gh N vs).length;unfold gh;simp only [Tg,Ta,List.length_replicate,uD];lia
 ·obtain⟨v,e1,⟨t',z,e2⟩|⟨j,a,z,_⟩⟩:=slot i _ e
  ·cases z;exact⟨v,e1,e2⟩
  ·injection z
 ·obtain⟨v,e1,⟨t',z,e2⟩|⟨j,a,z,e3,rfl⟩⟩:=slot i _ e
  ·injection z
  ·cases z;exact⟨a,by show as[0+j]? = _;rw[Nat.zero_add];exact e3,e1⟩
 ·obtain⟨o,a,z,_⟩:=h.outs.2 k _ e;injection z
 ·obtain⟨k,rfl,e1⟩:=ob r o e;obtain⟨o',a,z,e2,e3,e4⟩:=h.outs.2 k _ e1;cases z;exact⟨a,e2,e3,e4⟩
 ·obtain⟨k,rfl,e1⟩:=ob r o e;obtain⟨k',rfl,jf⟩:=ob r' o' e';have q1:as[k]? = some a:=ea;have q2:as[k']? = some a:=Jy;have:=(List.getElem?_inj (Tn.mp q1).1 nd).mp (q1.trans q2.symm);rw[this]
 ·obtain⟨k,rfl,_⟩:=ob r o e;exact .inl ⟨k,rfl⟩
theorem OV {args:List Sl}(h:AOk K G H args vs as):∀{os ss:List Sl} {n:Nat},fY args os=some ss->(∀(k:Nat) (s:Sl),os[k]? = some s->∃a,as[k]? = some a/\match s with | .own o=>ObOk K G' H' a o/\G' a=none | .fz t=>IsT K G' (.ref a) t | .out _=>True)->iE K G' H' args vs ss:=by
 induction h with
 |nil=>intro os ss n e _;cases e;exact .nil
 | @fz t ss0 v vs as ht r ih=>
  intro os ss n e hs;simp only [fY] at e
  cases q:fY ss0 os with
  |none=>rw[q] at e;injection e
  |some x=>rw[q] at e;cases e;exact .fz (ih (n:=n) q hs)
 | @own o a ss0 vs as h1 h2 r ih=>
  intro os ss n e hs
  cases os with
  |nil=>injection e
  |cons s os=>
   have aj:∀(k:Nat) (s':Sl),os[k]? = some s'->∃b,as[k]? = some b/\match s' with | .own o=>ObOk K G' H' b o/\G' b=none | .fz t=>IsT K G' (.ref b) t | .out _=>True:=fun k s' e'=>by
    have:=hs (k+1) s' (by simpa using e')
    simpa using this
   obtain⟨b,e1,e2⟩:=hs 0 s rfl;cases e1
   cases s with
   |own o'=>
    simp only [fY] at e
    cases q:fY ss0 os with
    |none=>rw[q] at e;injection e
    |some x=>rw[q] at e;cases e;exact .own e2.1 e2.2 (ih (n:=n) q aj)
   |fz t=>
    simp only [fY] at e
    cases q:fY ss0 os with
    |none=>rw[q] at e;injection e
    |some x=>rw[q] at e;cases e;exact .gone e2 (ih (n:=n) q aj)
   |out k=>injection e
theorem Rel.post (R:Rel K ⟨H,G,as⟩ G' ta M σ H'):nI K G H as G' H':=
 ⟨R.g0,R.sub,R.fra,R.gd,fun a o h=>by
  by_cases ha:a∈as
  ·exact R.pr a ha
  ·exact⟨o,R.fra a o h ha⟩⟩
theorem Rel.aps {args:List Sl}{ss:List Sl}(R:Rel K ⟨H,G,as⟩ G' ta M σ H')(h:AOk K G H args vs as)(e:fY args M.out=some ss):iE K G' H' args vs ss:=
 OV h (n:=0) e fun k s hk=>by
  cases s with
  |own o=>obtain⟨a,h1,h2,h3⟩:=R.ob (.out k) o (by simp [aF,hk,b8]);exact⟨a,h1,h2,h3⟩
  |fz t=>obtain⟨a,h1,h2⟩:=R.fo k t hk;exact⟨a,h1,h2⟩
  |out j=>
   have:k<as.length:=by have:=(Tn.mp hk).1;rw[R.lo] at this;exact this
   exact⟨as[k],Td this,trivial⟩
theorem Rel.res (R:Rel K ⟨H,G,as⟩ G' ta M σ H'){ev:Ev}{v:V}{r:Sl}(h:EvOk K ⟨H,G,as⟩ G' ta σ ev v)(e:tG M ev=some r):A1 K H G' H' v r:=by
 have own:∀x o a,aF M x=some o->adr ⟨H,G,as⟩ ta σ x=some a->(∀k,x ≠ .out k)->A1 K H G' H' (.ref a) (.own o):=fun x o a h1 h2 h3=>by
  obtain⟨b,e1,e2,e3⟩:=R.ob x o h1;rw[h2] at e1;cases e1;rcases R.nw x o a h1 h2 with ⟨k,z⟩|z
  ·exact absurd z (h3 k)
  ·exact⟨a,rfl,z,e2,e3⟩
 cases ev with
 |fz t=>cases e;exact h
 |loc i=>
  obtain⟨h1,a,rfl⟩:=h;simp only [tG,Bl] at e
  split at e
  ·next o q=>cases e;exact own (.loc i) o a (by simp [aF,q,b8]) (by simp [adr,h1,kb]) fun k z=>by injection z
  ·next t q=>
   cases e;obtain⟨v',z1,z2⟩:=R.fz i t q;rw[h1] at z1;cases z1;exact z2
  ·injection e
 |out k=>injection e
 |tmp j=>
  obtain⟨a,h1,rfl⟩:=h;simp only [tG] at e
  cases q:M.tmp[j]? with
  |none=>rw[q] at e;injection e
  |some o=>rw[q] at e;cases e;exact own (.tmp j) o a q h1 fun k z=>by injection z
end
section
theorem Fun.okW {f:Addr}{N:List Str}{k:Nat}{wb:cx}(F:Fun K x aJ st f fd)(S:bo N ps (ej st))(len:∀args k,psp args k->args.length=ps.length)
  (body:∀(cj:Value) (A:Around) (outer:List Env) (s:Shared) (H:Hp) (E:XK) (Fr:Fr),Room k (A.deeper (envOfC aJ (ej st) s.heap.objs.size f cj))->PSs (m4 f6 P w K mg base N aJ (ej st) f cj A outer s H E).nox (ju st) (LS K Fr wb))
  (h:∀args k,psp args k->wb (aS args k) (aU N.length args)):FnOk P w K mg base f6 (k+1) f fd ps (iH K psp):=by
 have hN:ps.length<=N.length:=by have:=UP List.length S.pre;rw[T9] at this;lia
 refine F.ok S (fun vs H Q E ⟨G,args,as,K0,s,ha,nd,hp,q⟩=>by rw[ha.len,len _ _ hp]) fun cj A outer s H vs Q E hr ⟨G,args,as,K0,sm,ha,nd,hp,q⟩=>?_;refine⟨_,body cj A outer s H E ⟨H,G,as⟩ hr,G,_,_,Ak sm ha nd (by rw[len _ _ hp];exact hN),h args K0 hp,?_⟩;refine⟨fun M' G' σ' H' k' R' s'=>?_,fun ev M' G' dF σ' v H' k' R' s' e'=>?_,fun M' G' σ' H' k' R' s'=>k'.elim,fun M' G' σ' H' k' R' s'=>k'.elim⟩
 ·obtain⟨ss,e1,k'⟩:=aN k';exact q _ ss .non G' H' k' R'.post (R'.aps ha e1) (.at rfl)
 ·obtain⟨ss,e1,k'⟩:=aN k';obtain⟨r,e2,k'⟩:=aN k';exact q r ss v G' H' k' R'.post (R'.aps ha e1) (R'.res e' e2)
end
inductive Pt where
 |nm (i:Nat)
 |nil
 |cons (a b:Pt)
noncomputable def bd:Pt->Tv->Ms->Option Ms
 | .nm i,t,M=>some { M with env:=M.env.set i (some (.fz t)) }
 | .nil,.tup [],M=>some M
 | .cons a b,.tup (t::ts),M=>(bd a t M).bind fun M1=>bd b (.tup ts) M1
 |_,_,_=>none
inductive LG (K:W.Frag)(F:Fr)(b:Tv->Ms->Option Ms)(v:V)(σ:St)(H:Hp)(Q:(St->Hp->Prop)):Prop
 |mk (G M t M':_) (_:Rel K F G [] M σ H) (_:IsT K G v t) (_:b t M=some M') (_:∀ σ',Rel K F G [] M' σ' H->Q σ' H)
inductive LGs (K:W.Frag)(F:Fr)(b:List Tv->Ms->Option Ms)(vs:List V)(σ:St)(H:Hp)(Q:(St->Hp->Prop)):Prop
 |mk (G M ts M':_) (_:Rel K F G [] M σ H) (_:IsTs K G vs ts) (_:b ts M=some M') (_:∀ σ',Rel K F G [] M' σ' H->Q σ' H)
section
theorem PG.imp {t t':TG}(h:PG X e t)(i:∀v σ H Q,t' v σ H Q->t v σ H Q):PG X e t':=fun aa s σ H v u Q I r q=>h aa s σ H v u Q I r (i v σ H Q q)
theorem PGs.imp {e:List Expr}{t t':lS}(h:PGs X e t)(i:∀v σ H Q,t' v σ H Q->t v σ H Q):PGs X e t':=fun aa s σ H v u Q I r q=>h aa s σ H v u Q I r (i v σ H Q q)
theorem Nl (h:PG X e (qK i)):PG X e (LG X.K F (bd (.nm i))):=h.imp fun v σ H Q ⟨G,M,t,M',R,ht,e,q⟩=>by cases e;exact q _ (R.putS i (s:=.fz t) ht)
theorem LG.tup {n:Nat}{b:List Tv->Ms->Option Ms}{c:Tv->Ms->Option Ms}(hc:∀t M M',c t M=some M'->∃ts,t = .tup ts/\ts.length=n/\b ts M=some M'){v:V}{σ:St}{H:Hp}{Q:St->Hp->Prop}:LG X.K F c v σ H Q->CO X.K n (LGs X.K F b) v σ H Q:=fun⟨G,M,t,M',R,ht,e,q⟩=>by
 obtain⟨ts,rfl,hn,e⟩:=hc _ _ _ e
 cases ht with
 | @tup a vs _ h r=>exact⟨a,vs,rfl,.of (R.sub _ _ h),by rw[r.len];exact hn,G,M,ts,M',R,r,e,q⟩
theorem LGs.nil {b:List Tv->Ms->Option Ms}(hb:∀ts M M',b ts M=some M'->ts = []/\M'=M){vs:List V}{σ:St}{H:Hp}{Q:St->Hp->Prop}:LGs X.K F b vs σ H Q->qr vs σ H Q:=fun⟨G,M,ts,M',R,ht,e,q⟩=>by obtain⟨rfl,rfl⟩:=hb _ _ _ e;cases ht;exact⟨rfl,q σ R⟩
theorem LGs.cons {a:Tv->Ms->Option Ms}{b c:List Tv->Ms->Option Ms}(hb:∀ts M M',c ts M=some M'->∃t r M1,ts=t::r/\a t M=some M1/\b r M1=some M'){vs:List V}{σ:St}{H:Hp}{Q:St->Hp->Prop}:LGs X.K F c vs σ H Q->DA (LG X.K F a) (LGs X.K F b) vs σ H Q:=fun⟨G,M,ts,M',R,ht,e,q⟩=>by
 obtain⟨t,r,M1,rfl,e1,e2⟩:=hb _ _ _ e
 cases ht with
 | @cons v vs _ _ h1 h2=>exact⟨v,vs,rfl,G,M,t,M1,R,h1,e1,fun σ1 R1=>⟨G,M1,r,M',R1,h2,e2,q⟩⟩
structure rQ (K:W.Frag)(G:Hp)(J:It)(ts:List Tv):Prop where
 go:∀i G' H',Same G G'->Same G' H'->i<ts.length->J.go i H'
 stop:∀G' H',Same G G'->Same G' H'->J.stop ts.length H'
 yld:∀(i:Nat) (t:Tv) G' H' x jy,Same G G'->Same G' H'->ts[i]? = some t->J.yld i H' x jy->∃ik,Same G' ik/\Same ik jy/\Same H' jy/\(∀a o,ik a=some o->G' a=some o∨H' a=none∨lr o)/\IsT K ik x t
inductive LI (K:W.Frag)(F:Fr)(w:b5)(σ:St)(H:Hp)(R:(It->Hp->Prop)):Prop
 |mk (G ta M K0:_) (_:Rel K F G ta M σ H) (_:w M K0) (_:∀ts M' G' J H',K0 ts M'->Rel K F G' ta M' σ H'->Same G G'->rQ K G' J ts->R J H')
theorem PI.imp {t t':TI}(h:PI X tg e t)(i:∀ σ H Q,t' σ H Q->t σ H Q):PI X tg e t':=fun aa s σ H R I q=>h aa s σ H R I (i σ H R q)
def xA (K:W.Frag)(tl:TE):TI:=fun σ H R=>tl σ H fun x H1=>∃a,x = .ref a/\(((∃xs,SqL K H1 a xs)/\R (oW K a) H1)∨((∃xs,SqT K H1 a xs)/\R (HP K a) H1))
theorem ym {l:Expr}{tl:TE}(hl:PE X l tl):PI X tg l (xA X.K tl):=by
 intro aa s σ H R I h;refine ay (hl aa s σ H _ I h) fun v s1 ⟨x,H1,I1,r1,q1⟩=>?_;obtain⟨a,e,q1⟩:=q1;subst e;cases r1
 have fp:∀b ∈ [s1.heap.objs.size],da X aa H1 b:=fun b hb=>by
  have e:b=s1.heap.objs.size:=by simpa using hb
  subst e;exact I1.fpOk (Tf _) (I1.hok.fresh (Tf _))
 rcases q1 with ⟨⟨xs,hq⟩,q⟩|⟨⟨xs,hq⟩,q⟩
 ·obtain⟨af,rv,p,hz⟩:=I1.list hq;refine wpAny_pyIter_list p.isList ?_;exact⟨s1.heap.objs.size,[s1.heap.objs.size],_,_,H1,rfl,I1.kept (t':=s1.toks) fun b o e=>S7 _ e,GH a _,⟨_,Tu _ rfl,rfl,rfl⟩,fp,q⟩
 ·obtain⟨af,rv,p,hz⟩:=I1.tuple hq;refine Vk (show s1.heap.IsTuple a af.toArray from p) ?_;exact⟨s1.heap.objs.size,[s1.heap.objs.size],_,_,H1,rfl,I1.kept (t':=s1.toks) fun b o e=>S7 _ e,Rj a _,⟨_,Tu _ rfl,rfl,rfl⟩,fp,q⟩
noncomputable def Cp:Tv->Option (List Tv)
 | .tup l=>some l
 | .lst l=>some l
 | .ktp l=>some l
 |_=>none
def uY (wa:TW):b5:=fun M k=>wa M fun ev M1=>jn (eJ M.tmp.length M1 ev) fun t M2=>aP (Cp t) fun ts=>k ts M2
theorem LI.seq {R:It->Hp->Prop}:LI X.K F (uY wa) σ H R->xA X.K (LE X.K F wa) σ H R:=fun⟨G,ta,M,K0,R0,k,q⟩=>by
 refine⟨G,ta,M,_,R0,k,fun ev M1 G1 t1 v H1 k1 R1 s1 e1=>?_⟩;obtain⟨t,M2,h2,k1⟩:=jx k1;obtain⟨ts,h3,k1⟩:=aN k1;obtain⟨G2,R2,s2,s2',t2⟩:=R1.frz R0.lt s1 e1 h2
 cases t2 with
 | «at» f => injection h3
 |dic h r=>injection h3
 |scr h r=>injection h3
 | @ktp a vs _ h r=>
  cases h3;refine⟨a,rfl,.inr ⟨⟨vs,R2.sub.tup h⟩,q _ _ G2 _ H1 k1 R2 s2.g ⟨fun i G' H' z1 z2 hi=>?_,fun G' H' z1 z2=>⟨vs,(z1.trans z2).tup h,by rw[r.len];exact Tf _⟩,fun i u G' H' x jy z1 z2 hu hy=>?_⟩⟩⟩
  ·obtain⟨x,hx,_⟩:=r.get (Td hi);exact⟨vs,x,(z1.trans z2).tup h,hx⟩
  ·obtain⟨rfl,hy⟩:=hy;obtain⟨x',hx,fQ⟩:=r.get hu;have:=hy vs ((z1.trans z2).tup h);rw[hx] at this;cases this;exact⟨G',Same.refl _,z2,Same.refl _,fun _ _ e=>.inl e,fQ.mono z1⟩
 | @tup a vs _ h r=>
  cases h3;refine⟨a,rfl,.inr ⟨⟨vs,SqT.of (R2.sub _ _ h)⟩,q _ _ G2 _ H1 k1 R2 s2.g ⟨fun i G' H' z1 z2 hi=>?_,fun G' H' z1 z2=>⟨vs,SqT.of ((z1.trans z2) _ _ h),by rw[r.len];exact Tf _⟩,fun i u G' H' x jy z1 z2 hu hy=>?_⟩⟩⟩
  ·obtain⟨x,hx,_⟩:=r.get (Td hi);exact⟨vs,x,SqT.of ((z1.trans z2) _ _ h),hx⟩
  ·obtain⟨rfl,hy⟩:=hy;obtain⟨x',hx,fQ⟩:=r.get hu;have:=hy vs (SqT.of ((z1.trans z2) _ _ h));rw[hx] at this;cases this;exact⟨G',Same.refl _,z2,Same.refl _,fun _ _ e=>.inl e,fQ.mono z1⟩
 | @lst a vs _ h r=>
  cases h3;refine⟨a,rfl,.inl ⟨⟨vs,SqL.of (R2.sub _ _ h)⟩,q _ _ G2 _ H1 k1 R2 s2.g ⟨fun i G' H' z1 z2 hi=>?_,fun G' H' z1 z2=>⟨vs,SqL.of ((z1.trans z2) _ _ h),by rw[r.len];exact Tf _⟩,fun i u G' H' x jy z1 z2 hu hy=>?_⟩⟩⟩
  ·obtain⟨x,hx,_⟩:=r.get (Td hi);exact⟨vs,x,SqL.of ((z1.trans z2) _ _ h),hx⟩
  ·obtain⟨rfl,hy⟩:=hy;obtain⟨x',hx,fQ⟩:=r.get hu;have:=hy vs (SqL.of ((z1.trans z2) _ _ h));rw[hx] at this;cases this;exact⟨G',Same.refl _,z2,Same.refl _,fun _ _ e=>.inl e,fQ.mono z1⟩
def cN (p:Tv->Ms->Option Ms)(b:cx)(P:PD):List Tv->Ms->Prop
 |[],M=>P.nx M
 |t::ts,M=>aP (p t M) fun M1=>b { nx:=cN p b P ts,ct:=cN p b P ts,bk:=P.nx,rt:=P.rt } M1
def Co (wi:b5)(p:Tv->Ms->Option Ms)(b:cx):cx:=fun P M=>wi M fun ts M1=>cN p b P ts M1
theorem zG {l:List α}{x:α}(h:l[i]? = some x):l.drop i=x::l.drop (i+1):=by
 have hi:=(Tn.mp h).1;rw[drop_eq_getElem_cons hi]
 congr 1
 exact(Tn.mp h).2
theorem LS.for {wi:b5}{p:Tv->Ms->Option Ms}{b:cx}{D:bI}:LS X.K F (Co wi p b) D σ H->CM (LI X.K F wi) (LG X.K F p) (LS X.K F b) D σ H:=fun⟨G,M,P,R,k,ok⟩=>by
 refine⟨G,[],M,_,R,k,fun ts M1 G1 J H1 k1 R1 s1 io=>?_⟩;refine⟨fun i m σ H=>m+i=ts.length/\∃G' M,Rel X.K F G' [] M σ H/\Same G1 G'/\cN p b P (ts.drop i) M,⟨ts.length,by lia,G1,M1,R1,Same.refl _,k1⟩,?_⟩;rintro i m σ2 H2 ⟨hm,G2,M2,R2,s2,k2⟩;rcases U0 i ts.length with hi|hi
 ·right
  refine⟨io.go i G2 H2 s2 R2.sub hi,fun σ' H'=>∃m',m'<m/\m'+(i+1)=ts.length/\∃G' M,Rel X.K F G' [] M σ' H'/\Same G1 G'/\cN p b P (ts.drop (i+1)) M,fun σ' H' h=>h,fun x H' hy=>?_⟩;have ht:=Td hi;obtain⟨G3,z1,z2,z3,z4,z5⟩:=io.yld i _ G2 H2 x H' s2 R2.sub ht hy;have R3:=R2.more z1 z2 z3 z4;rw[zG ht] at k2;obtain⟨M3,e3,k2⟩:=aN k2;refine⟨G3,M2,_,M3,R3,z5,e3,fun σ4 R4=>⟨G3,M3,_,R4,k2,fun M5 G5 σ5 H5 k5 R5 s5=>?_,fun ev M5 G5 t5 σ5 v H5 k5 R5 s5 e5=>ok.rt ev M5 G5 t5 σ5 v H5 k5 R5 (s1.trans (s2.trans (z1.trans s5))) e5,fun M5 G5 σ5 H5 k5 R5 s5=>ok.nx M5 G5 σ5 H5 k5 R5 (s1.trans (s2.trans (z1.trans s5))),fun M5 G5 σ5 H5 k5 R5 s5=>?_⟩⟩
  ·exact⟨m-1,by lia,by lia,G5,M5,R5,s2.trans (z1.trans s5),k5⟩
  ·exact⟨m-1,by lia,by lia,G5,M5,R5,s2.trans (z1.trans s5),k5⟩
 ·left
  rw[U5 hi] at k2;have hi':i=ts.length:=by lia
  subst hi';exact⟨io.stop G2 H2 s2 R2.sub,ok.nx M2 G2 σ2 H2 k2 R2 (s1.trans s2)⟩
def Cn (p:Tv->Ms->Option Ms)(wa:TW):cx:=fun P M=>wa M fun ev M1=>jn (eJ 0 M1 ev) fun t M2=>aP (p t M2) P.nx
theorem LS.asgP {p:Tv->Ms->Option Ms}{D:bI}:LS X.K F (Cn p wa) D σ H->ox (LE X.K F wa) (LG X.K F p) D σ H:=fun⟨G,M,P,R,k,ok⟩=>by
 refine⟨G,[],M,_,R,k,fun ev M1 G1 t1 v H1 k1 R1 s1 e1=>?_⟩;obtain⟨t,M2,h2,k1⟩:=jx k1;obtain⟨M3,h3,k1⟩:=aN k1;have iI:eJ M.tmp.length M1 ev=some (t,M2):=by rw[R.lt];exact h2
 obtain⟨G2,R2,s2,s2',t2⟩:=R1.frz R.lt s1 e1 iI;exact⟨G2,M2,t,M3,R2,t2,h3,fun σ' R'=>ok.nx M3 G2 σ' H1 k1 R' s2.g⟩
end
def aY (p:Tv->Ms->Option Ms)(wt:cU)(we:TW)(k:List Tv->Ms->Prop):List Tv->List Tv->Ms->Prop
 |[],ys,M=>k ys M
 |t::ts,ys,M=>aP (p t M) fun M1=>wt M1 fun b M2=>if b=true then we M2 fun ev M3=>jn (eJ 0 M3 ev) fun y M4=>aY p wt we k ts (ys ++ [y]) M4 else aY p wt we k ts ys M2
noncomputable def qP (M:Ms):List Nat->Option (List Ev)
 |[]=>some []
 |i::r=>match ke M i,qP M r with
  |some e,some es=>some (e::es)
  |_,_=>none
def xU (au:List Nat)(own:Nat)(wi:b5)(p:Tv->Ms->Option Ms)(wt:cU)(we:TW):TW:=fun M k=>wi M fun ts M1=>ts.length<=16777216/\aP (qP M1 au) fun eD=>aP (oG M1.tmp.length M1 eD) fun rs=>lj rs=true ∧
 aY p wt we (fun ys Mb=>aP (fY (rs.map (·.1)) Mb.out) fun ss=>qG M1.tmp.length (wb M1 rs ss) k (.own (.lst ys))) ts [] (aU (au.length+own) (rs.map (·.1)))
inductive rO (K:W.Frag)(w:TW)(σ:St)(H:Hp)(Q:VK):Prop
 |mk (F:_) (_:LE K F w σ H Q)
inductive rP (K:W.Frag)(w:cU)(σ:St)(H:Hp)(Q:(Bool->Hp->Prop)):Prop
 |mk (F:_) (_:LB K F w σ H Q)
inductive rN (K:W.Frag)(b:Tv->Ms->Option Ms)(v:V)(σ:St)(H:Hp)(Q:(St->Hp->Prop)):Prop
 |mk (F:_) (_:LG K F b v σ H Q)
section
theorem PE.all {w:TW}(h:∀F,PE X e (LE X.K F w)):PE X e (rO X.K w):=fun aa s σ H Q I ⟨F,q⟩=>h F aa s σ H Q I q
theorem PTs.all {e:List Expr}{w:cU}(h:∀F,PTs X e (LB X.K F w)):PTs X e (rP X.K w):=fun aa s σ H Q I ⟨F,q⟩=>h F aa s σ H Q I q
theorem PG.all {b:Tv->Ms->Option Ms}(h:∀F,PG X e (LG X.K F b)):PG X e (rN X.K b):=fun aa s σ H v u Q I r ⟨F,q⟩=>h F aa s σ H v u Q I r q
theorem Rel.vars (R:Rel K F G ta M σ H):∀{au:List Nat} {eD:List Ev},qP M au=some eD->∃vs,au.map (fun j=>(σ[j]?).getD none)=vs.map some/\eO K F G ta σ eD vs
 |[],_,e=>by cases e;exact⟨[],rfl,.nil⟩
 |i::r,_,e=>by
  simp only [qP] at e
  split at e
  ·next x xs e1 e2=>
   cases e;obtain⟨v,h1,h2⟩:=R.var e1;obtain⟨vs,h3,h4⟩:=R.vars e2;exact⟨v::vs,by rw[TX,TX,h1,h3];rfl,.cons h2 h4⟩
  ·injection e
theorem FY:oJ (au.map some++List.replicate m none) σ=au.map (fun j=>(σ[j]?).getD none)++List.replicate m none:=by unfold oJ;rw[T2,map_map,List.map_replicate];rfl
theorem FX {N:List Str}:gh N vs=vs.map some++List.replicate (N.length-vs.length) none:=rfl
theorem LE.comp {wi:b5}{p:Tv->Ms->Option Ms}{wt:cU}{we:TW}(hN:N'.length=au.length+m){σ:St}{H:Hp}{Q:VK}:
  LE X.K F (xU au m wi p wt we) σ H Q->tJ (au.map some++List.replicate m none) (LI X.K F wi) (rN X.K p) (rP X.K wt) (rO X.K we) σ H Q:=fun⟨G,ta,M,K0,R,k,q⟩=>by
 refine⟨G,ta,M,_,R,k,fun ts M1 G1 J H1 k1 R1 s1 io=>?_⟩;obtain⟨hts,k1⟩:=k1;obtain⟨eD,h1,k1⟩:=aN k1;obtain⟨rs,h2,ok,k1⟩:=aN k1;obtain⟨vs,e1,e2⟩:=R1.vars h1;obtain⟨as,g1,g2,g3,g4⟩:=R1.args e2 h2 ok;have pY:vs.length=au.length:=by have:=UP List.length e1;simpa using this.symm
 have hal:(rs.map (·.1)).length=au.length:=by rw[<- g2.len,pY]
 have st:oJ (au.map some++List.replicate m none) σ=gh N' vs:=by
  rw[FY,e1,FX,hN,pY]
  congr 2;lia
 have E:=Ak (N:=N') R1.sub g2 g3 (by rw[hal,hN];lia);rw[hN] at E;rw[st]
 refine⟨fun i n ys σc H=>n+i=ts.length/\ys.length<=i/\∃Gc Mb iQ,Rel X.K ⟨H1,G1,as⟩ Gc [] Mb σc H/\IsTs X.K Gc ys iQ/\Same G1 Gc/\aY p wt we (fun ys Mb=>aP (fY (rs.map (·.1)) Mb.out) fun ss=>qG M1.tmp.length (wb M1 rs ss) K0 (.own (.lst ys))) (ts.drop i) iQ Mb,
  ⟨ts.length,by lia,T3 _,G1,_,[],E,.nil,Same.refl _,k1⟩,?_⟩
 rintro i n ys σc H2 ⟨hn,j3,G2,Mb,iQ,R2,hy,s2,k2⟩;rcases U0 i ts.length with hi|hi
 ·right
  refine⟨io.go i G2 H2 s2 R2.sub hi,by rw[TY];lia,fun x H' hx=>?_⟩;have ht:=Td hi;obtain⟨G3,z1,z2,z3,z4,z5⟩:=io.yld i _ G2 H2 x H' s2 R2.sub ht hx;have R3:=R2.more z1 z2 z3 z4;rw[zG ht] at k2;obtain⟨M3,e3,k2⟩:=aN k2;refine⟨_,G3,Mb,_,M3,R3,z5,e3,fun σ4 R4=>⟨_,G3,[],M3,_,R4,k2,fun b M5 G5 H5 k5 R5 s5=>?_⟩⟩
  cases b with
  |true=>
   refine⟨_,G5,[],M5,_,R5,k5,fun ev M6 G6 t6 v H6 k6 R6 s6 e6=>?_⟩;obtain⟨t,M7,h7,k6⟩:=jx k6;have l5:M5.tmp.length=0:=R5.lt;have wg:eJ M5.tmp.length M6 ev=some (t,M7):=by rw[l5];exact h7
   obtain⟨G7,R7,s7,s7',t7⟩:=R6.frz R5.lt s6 e6 wg;exact⟨n-1,by lia,by lia,by simp;lia,G7,M7,_,R7,(hy.mono (z1.trans (s5.trans s7.g))).app (.cons t7 .nil),s2.trans (z1.trans (s5.trans s7.g)),k6⟩
  |false=>exact⟨n-1,by lia,by lia,by lia,G5,M5,iQ,R5,hy.mono (z1.trans s5),s2.trans (z1.trans s5),k5⟩
 ·left
  have hi':i=ts.length:=by lia
  refine⟨by rw[hi'];exact io.stop G2 H2 s2 R2.sub,fun l hl=>?_⟩;rw[U5 hi] at k2;obtain⟨ss,e3,k2⟩:=aN k2;have pO:M1.tmp.length=ta.length:=R1.lt;rw[pO] at g4 k2;have A2:Rel X.K F G1 (ta ++ []) M1 σ H1:=by rw[TJ];exact R1
  have wx:RAs F (ta ++ []) σ M1 rs vs as:=by rw[TJ];exact g1
  have B:=A2.back wx (R2.aps g2 e3) R2.post g4;have B2:=B.1.push (o:=.lst iQ) hl (H':=ax H2 l (.lst ys)) (fun b x e=>by rw[az (cb e hl)];exact e) ⟨ys,bu,hy⟩;refine q _ _ G2 (ta ++ [l]) _ _ k2 (by rw[lH];exact B2) ⟨s1.trans s2,[l],rfl⟩ ⟨l,?_,rfl⟩;rw[TH (Tf _)];simp
end
section
variable {v x:V}
theorem IsR.at {u:V}(h:IsR K G H v (.at u)):v=u/\kL u=true:=by
 rcases h with h|⟨a,o,rfl,e,h⟩
 ·cases h with | «at» f => exact ⟨rfl, f⟩
 ·cases o <;> injection e
theorem IsR.lst {l:List Tv}(s:Same G H)(h:IsR K G H v (.lst l)):∃a vs,v = .ref a/\H a=some (.lst vs)/\IsTs K G vs l:=by
 rcases h with h|⟨a,o,rfl,e,h⟩
 ·cases h with|lst h r=>exact⟨_,_,rfl,s _ _ h,r⟩
 ·cases o with
  |lst l'=>cases e;obtain⟨vs,e,r⟩:=h;exact⟨a,vs,rfl,e,r⟩
  |dic l'=>injection e
theorem IsR.tup {l:List Tv}(s:Same G H)(h:IsR K G H v (.tup l)):∃a vs,v = .ref a/\H a=some (.tup vs)/\IsTs K G vs l:=by
 rcases h with h|⟨a,o,rfl,e,h⟩
 ·cases h with|tup h r=>exact⟨_,_,rfl,s _ _ h,r⟩
 ·cases o <;> injection e
theorem IsR.ktp {l:List Tv}(s:Same G H)(h:IsR K G H v (.ktp l)):∃a vs,v = .ref a/\SqT K H a vs/\IsTs K G vs l:=by
 rcases h with h|⟨a,o,rfl,e,h⟩
 ·cases h with|ktp h r=>exact⟨_,_,rfl,s.tup h,r⟩
 ·cases o <;> injection e
theorem IsR.dic {l:List (aw×Tv)}(s:Same G H)(h:IsR K G H v (.dic l)):∃a ae,v = .ref a/\H a=some (.dK ae)/\IsKs K G ae l:=by
 rcases h with h|⟨a,o,rfl,e,h⟩
 ·cases h with|dic h r=>exact⟨_,_,rfl,s _ _ h,r⟩
 ·cases o with
  |dic l'=>cases e;obtain⟨vs,e,r⟩:=h;exact⟨a,vs,rfl,e,r⟩
  |lst l'=>injection e
theorem IsR.scr {l:List Tv}(s:Same G H)(h:IsR K G H v (.scr l)):∃a vs,v = .ref a/\SqL K H a vs/\IsTs K G vs l:=by
 rcases h with h|⟨a,o,rfl,e,h⟩
 ·cases h with|scr h r=>exact⟨_,_,rfl,s.seq h,r⟩
 ·cases o <;> injection e
def nL (r r':R2):R2:=fun x y H Q=>r x y H Q∨r' x y H Q
noncomputable def vI (i:Int):Rs:=.v (.at (.int i))
noncomputable def vB (b:Bool):Rs:=.v (.at (.bl b))
noncomputable def vS (x:Str):Rs:=.v (.at (.str x))
def xy:Tv->Tv->Rz
 | .at (.int i),.at (.int j)=>.ok (vI (i+j))
 | .at (.str i),.at (.str j)=>.cd (i.length+j.length<=16777216) (vS (i++j))
 | .lst l,.lst m=>.cd (l.length+m.length<=16777216) (.n (.lst (l++m)))
 | .tup l,.tup m=>.cd (l.length+m.length<=16777216) (.v (.tup (l++m)))
 |_,_=>.no
def E8:R2:=fun x y H Q=>∃i j,x = .str i/\y = .str j/\i.length+j.length<=sizeLine/\Q (.str (i++j)) H
def Dp (K:W.Frag):R2:=nL (jC fun i j=>.int (i+j)) (nL E8 (nL pH kH))
theorem Nk:OpR X (binaryOp .Add) (Dp X.K):=op_add.or (OpR.or (r:=E8) Rg (op_cat.or Nr))
theorem lO {i j:Str}:(i++j).length=i.length+j.length:=by show(Str.mk (i.cps++j.cps)).cps.size=i.cps.size+j.cps.size;simp
theorem Nj:de K xy (Dp K):=fun G H x y t u s Q sm h1 h2 e q=>by
 have hz:=TY;unfold xy at e
 split at e
 ·next i j=>
  cases e
  obtain⟨rfl,_⟩:=h1.at;obtain⟨rfl,_⟩:=h2.at
  exact .inl ⟨i,j,rfl,rfl,cm sm (.at rfl) q⟩
 ·next i j=>
  cases e with|cd hl=>
  obtain⟨rfl,_⟩:=h1.at;obtain⟨rfl,_⟩:=h2.at
  exact .inr (.inl ⟨i,j,rfl,rfl,by rw[hz];exact hl,cm sm (.at (by show decide _=true;rw[lO];exact T8 hl)) q⟩)
 ·next l m=>
  cases e with|cd hl=>
  obtain⟨a,vs,rfl,e1,r1⟩:=h1.lst sm;obtain⟨b,ws,rfl,e2,r2⟩:=h2.lst sm;exact .inr (.inr (.inl ⟨a,b,vs,ws,rfl,rfl,e1,e2,by rw[hz,r1.len,r2.len];exact hl,kq (r1.app r2) q⟩))
 ·next l m=>
  cases e with|cd hl=>
  obtain⟨a,vs,rfl,e1,r1⟩:=h1.tup sm;obtain⟨b,ws,rfl,e2,r2⟩:=h2.tup sm;exact .inr (.inr (.inr ⟨a,b,vs,ws,rfl,rfl,e1,e2,by rw[hz,r1.len,r2.len];exact hl,fun p H' sH sq=>zH sm sH sq (r1.app r2) q⟩))
 ·cases e
noncomputable def om (C:Int->Int->Prop)(g:Int->Int->V):Tv->Tv->Rz
 | .at (.int i),.at (.int j)=>.cd (C i j) (.v (.at (g i j)))
 |_,_=>.no
theorem uo {C:Int->Int->Prop}{g:Int->Int->V}(hg:∀i j,kL (g i j)=true):de K (om C g) (rI C g):=fun G H x y t u s Q sm h1 h2 e q=>by
 unfold om at e
 split at e
 ·next i j=>
  cases e with|cd c=>
  obtain⟨rfl,_⟩:=h1.at;obtain⟨rfl,_⟩:=h2.at
  exact⟨i,j,rfl,rfl,c,cm sm (.at (hg i j)) q⟩
 ·cases e
noncomputable def m8 (g:Int->Int->V):Tv->Tv->Rz
 | .at (.int i),.at (.int j)=>.ok (.v (.at (g i j)))
 |_,_=>.no
theorem rm {g:Int->Int->V}(hg:∀i j,kL (g i j)=true):de K (m8 g) (jC g):=fun G H x y t u s Q sm h1 h2 e q=>by
 unfold m8 at e
 split at e
 ·next i j=>
  cases e
  obtain⟨rfl,_⟩:=h1.at;obtain⟨rfl,_⟩:=h2.at
  exact⟨i,j,rfl,rfl,cm sm (.at (hg i j)) q⟩
 ·cases e
def sT (g:Str->Str->Bool):Tv->Tv->Rz
 | .at (.str i),.at (.str j)=>.ok (vB (g i j))
 |_,_=>.no
noncomputable def iY (f g:Tv->Tv->Rz):Tv->Tv->Rz:=fun t u=>match f t u with | .no=>g t u|z=>z
theorem tX {f g:Tv->Tv->Rz}(h:de K f r)(h':de K g r'):de K (iY f g) (nL r r'):=fun G H x y t u s Q sm h1 h2 e q=>by
 unfold iY at e
 split at e
 ·exact .inr (h' G H x y t u s Q sm h1 h2 e q)
 ·exact .inl (h G H x y t u s Q sm h1 h2 e q)
theorem E7 {g:Str->Str->Bool}:de K (sT g) (fun x y H Q=>∃i j,x = .str i/\y = .str j/\Q (.bl (g i j)) H):=fun G H x y t u s Q sm h1 h2 e q=>by
 unfold sT at e
 split at e
 ·next i j=>
  cases e
  obtain⟨rfl,_⟩:=h1.at;obtain⟨rfl,_⟩:=h2.at
  exact⟨i,j,rfl,rfl,cm sm (.at rfl) q⟩
 ·cases e
def xT:Tv->Tv->Rz
 | .at (.bl b),.at (.bl c)=>.ok (vB (!decide (b=c)))
 |_,_=>.no
def iW:R2:=fun x y H Q=>∃b c,x = .bl b/\y = .bl c/\Q (.bl (!decide (b=c))) H
theorem OU:de K xT iW:=fun G H x y t u s Q sm h1 h2 e q=>by
 unfold xT at e
 split at e
 ·next b c=>
  cases e
  obtain⟨rfl,_⟩:=h1.at;obtain⟨rfl,_⟩:=h2.at
  exact⟨b,c,rfl,rfl,cm sm (.at rfl) q⟩
 ·cases e
def xx (bY:Bool):Tv->Tv->Rz
 | .at v,.at .non=>.ok (vB (xor bY (decide (v = .non))))
 | .tup _,.at .non=>.ok (vB bY)
 | .lst _,.at .non=>.ok (vB bY)
 |_,_=>.no
def Cm (bY:Bool):R2:=fun x y H Q=>y = .non/\Q (.bl (xor bY (decide (x = .non)))) H
theorem Ni:de K (xx bY) (Cm bY):=fun G H x y t u s Q sm h1 h2 e q=>by
 unfold xx at e
 split at e
 ·next v=>cases e;obtain⟨rfl,_⟩:=h1.at;obtain⟨rfl,_⟩:=h2.at;exact⟨rfl,cm sm (.at rfl) q⟩
 ·next l=>
  cases e;obtain⟨a,vs,rfl,_⟩:=h1.tup sm;obtain⟨rfl,_⟩:=h2.at
  exact⟨rfl,by have:=cm sm (.at rfl) q;simpa using this⟩
 ·next l=>
  cases e;obtain⟨a,vs,rfl,_⟩:=h1.lst sm;obtain⟨rfl,_⟩:=h2.at
  exact⟨rfl,by have:=cm sm (.at rfl) q;simpa using this⟩
 ·cases e
def nY (bY:Bool):Tv->Tv->Rz
 | .at a,.at b=>match xE a b with
  |true=>.ok (vB (xor bY (decide (a=b))))
  |false=>.no
 |_,_=>.no
theorem K6:de K (nY false) Bo:=fun G H x y t u s Q sm h1 h2 e q=>by
 unfold nY at e
 split at e
 ·next a b=>
  split at e
  ·next c=>
   cases e
   obtain⟨rfl,_⟩:=h1.at;obtain⟨rfl,_⟩:=h2.at
   exact⟨c,cm sm (.at rfl) (by simpa [vB] using q)⟩
  ·cases e
 ·cases e
theorem K5:de K (nY true) Bm:=fun G H x y t u s Q sm h1 h2 e q=>by
 unfold nY at e
 split at e
 ·next a b=>
  split at e
  ·next c=>
   cases e
   obtain⟨rfl,_⟩:=h1.at;obtain⟨rfl,_⟩:=h2.at
   exact⟨c,cm sm (.at rfl) (by simpa [vB] using q)⟩
  ·cases e
 ·cases e
noncomputable def dE:Tv->V
 | .at v=>v
 |_=>.non
def flatL (l:List Tv):Prop:=∀t∈l,∃v,t = .at v/\dz v=true
theorem flatL.is {l:List Tv}(f:flatL l):∀{vs:List V},IsTs K G vs l->vs=l.map dE/\vs.all dz=true:=by
 induction l with
 |nil=>intro vs h;cases h;exact⟨rfl,rfl⟩
 |cons t l ih=>
  intro vs h
  cases h with
  | @cons v vs _ _ h1 h2=>obtain⟨u,rfl,fu⟩:=f t Te;obtain⟨e,g⟩:=ih (fun x hx=>f x (Tb _ hx)) h2;cases h1;exact⟨by rw[TX,<- e];rfl,by simp [all_cons,fu,g]⟩
def sM (bY:Bool):Tv->Tv->Rz
 | .lst l,.lst m=>.cd (flatL l/\flatL m) (vB (xor bY (lu (l.map dE) (m.map dE))))
 |_,_=>.no
def xw (K:W.Frag)(bY:Bool):R2:=fun x y H Q=>∃a b xs ys,x = .ref a/\y = .ref b/\SqL K H a xs/\SqL K H b ys/\xs.all dz=true/\ys.all dz=true/\Q (.bl (xor bY (lu xs ys))) H
theorem E6:de K (sM bY) (xw K bY):=fun G H x y t u s Q sm h1 h2 e q=>by
 unfold sM at e
 split at e
 ·next l m=>
  cases e with|cd c=>
  obtain⟨a,vs,rfl,k1,r1⟩:=h1.lst sm;obtain⟨b,ws,rfl,k2,r2⟩:=h2.lst sm;obtain⟨rfl,f1⟩:=c.1.is r1;obtain⟨rfl,f2⟩:=c.2.is r2;exact⟨a,b,_,_,rfl,rfl,.of k1,.of k2,f1,f2,cm sm (.at rfl) q⟩
 ·cases e
theorem K4 (hu:X.A.units<cLine):OpR X (compareOp .Eq) (xw X.K false):=fun aa s σ H x y v u Q I rx ry ⟨a,b,xs,ys,h1,h2,h3,h4,h5,h6,q⟩=>Q5 hu aa s σ H x y v u Q I rx ry ⟨a,b,xs,ys,h1,h2,h3,h4,h5,h6,by simpa using q⟩
theorem K3 (hu:X.A.units<cLine):OpR X (compareOp .NotEq) (xw X.K true):=fun aa s σ H x y v u Q I rx ry ⟨a,b,xs,ys,h1,h2,h3,h4,h5,h6,q⟩=>Q4 hu aa s σ H x y v u Q I rx ry ⟨a,b,xs,ys,h1,h2,h3,h4,h5,h6,by simpa using q⟩
def so (bY:Bool):Tv->Tv->Rz
 | .at v,.lst l=>.cd (flatL l/\dz v=true) (vB (xor bY (dY v (l.map dE))))
 | .at v,.tup l=>.cd (flatL l/\dz v=true) (vB (xor bY (dY v (l.map dE))))
 | .at v,.ktp l=>.cd (flatL l/\dz v=true) (vB (xor bY (dY v (l.map dE))))
 |_,_=>.no
theorem DY:de K (so bY) (vd K bY):=fun G H x y t u s Q sm h1 h2 e q=>by
 unfold so at e
 split at e
 ·next w l=>
  cases e with|cd c=>
  obtain⟨rfl,_⟩:=h1.at;obtain⟨b,ws,rfl,k2,r2⟩:=h2.lst sm;obtain⟨rfl,f2⟩:=c.1.is r2;have q':∀bb,bb=xor bY (dY x (l.map dE))->Q (.bl bb) H:=fun bb z=>by subst z;exact cm sm (.at rfl) q
  exact⟨b,_,rfl,.inl (.of k2),c.2,f2,q' _ (by cases bY <;> simp)⟩
 ·next w l=>
  cases e with|cd c=>
  obtain⟨rfl,_⟩:=h1.at;obtain⟨b,ws,rfl,k2,r2⟩:=h2.tup sm;obtain⟨rfl,f2⟩:=c.1.is r2;have q':∀bb,bb=xor bY (dY x (l.map dE))->Q (.bl bb) H:=fun bb z=>by subst z;exact cm sm (.at rfl) q
  exact⟨b,_,rfl,.inr (.of k2),c.2,f2,q' _ (by cases bY <;> simp)⟩
 ·next w l=>
  cases e with|cd c=>
  obtain⟨rfl,_⟩:=h1.at;obtain⟨b,ws,rfl,k2,r2⟩:=h2.ktp sm;obtain⟨rfl,f2⟩:=c.1.is r2;have q':∀bb,bb=xor bY (dY x (l.map dE))->Q (.bl bb) H:=fun bb z=>by subst z;exact cm sm (.at rfl) q
  exact⟨b,_,rfl,.inr k2,c.2,f2,q' _ (by cases bY <;> simp)⟩
 ·cases e
noncomputable def ofO:Option Tv->Rz
 |some t=>.ok (.v t)
 |none=>.no
theorem ZH.ofO {o:Option Tv}{s:Rs}(h:ZH (L2.ofO o) s):∃t,o=some t/\s = .v t:=by
 cases o with
 |none=>cases h
 |some t=>cases h;exact⟨t,rfl,rfl⟩
noncomputable def eh {α : Type}(l:List α):Int->Option α
 | .ofNat j=>l[j]?
 | .negSucc j=>if j<l.length then l[l.length-(j+1)]? else none
theorem yW (l:List α)(i:Int):eh l i=atI l i:=by
 unfold eh atI gc
 cases i with
 |ofNat j=>
  simp only [Int.ofNat_eq_natCast,Int.natCast_nonneg,Vi]
  by_cases h:j<l.length
  ·rw[Tt (by lia)];simp
  ·rw[Tp (by lia)];simp;lia
 |negSucc j=>
  have h0:¬ (0:Int)<=Int.negSucc j:=by lia
  by_cases h:j<l.length
  ·have h1 : -(l.length:Int)<=Int.negSucc j:=by lia
   have h2:(Int.negSucc j+(l.length:Int)).toNat=l.length-(j+1):=by lia
   simp only [Tp h0,Tt h,Tt h1,h2];rfl
  ·have h1:¬ -(l.length:Int)<=Int.negSucc j:=by lia
   simp only [Tp h0,Tp h,Tp h1];rfl
def vp:Tv->Tv->Rz
 | .lst l,.at (.int i)=>ofO (eh l i)
 | .tup l,.at (.int i)=>ofO (eh l i)
 | .at (.str x),.at (.int i)=>ofO ((eh x.cps.toList i).map fun c=>.at (.str ⟨#[c]⟩))
 |_,_=>.no
theorem IsTs.atI {ts:List Tv}{i:Int}(r:IsTs K G vs ts)(h:L2.atI ts i=some t):∃v,L2.atI vs i=some v/\IsT K G v t:=by
 unfold L2.atI at h ⊢;rw[r.len]
 cases e:gc ts.length i with
 |none=>rw[e] at h;injection h
 |some j=>rw[e] at h;exact r.get h
theorem K1:de K vp (Bn K):=fun G H x y t u s Q sm h1 h2 e q=>by
 have hz:=TY;unfold vp at e
 split at e
 ·next l i=>
  obtain⟨w,z,rfl⟩:=e.ofO;rw[yW] at z
  obtain⟨a,vs,rfl,k1,r1⟩:=h1.lst sm;obtain⟨rfl,_⟩:=h2.at
  obtain⟨v,e1,e2⟩:=r1.atI z;exact .inl ⟨a,vs,i,v,rfl,rfl,.of k1,e1,cm sm e2 q⟩
 ·next l i=>
  obtain⟨w,z,rfl⟩:=e.ofO;rw[yW] at z
  obtain⟨a,vs,rfl,k1,r1⟩:=h1.tup sm;obtain⟨rfl,_⟩:=h2.at
  obtain⟨v,e1,e2⟩:=r1.atI z;exact .inr (.inl ⟨a,vs,i,v,rfl,rfl,.of k1,e1,cm sm e2 q⟩)
 ·next w i=>
  obtain⟨w',z,rfl⟩:=e.ofO;rw[yW] at z
  cases z2:L2.atI w.cps.toList i with
  |none=>rw[z2] at z;injection z
  |some c=>
   rw[z2] at z;cases z
   obtain⟨rfl,f⟩:=h1.at;obtain⟨rfl,_⟩:=h2.at
   exact .inr (.inr ⟨w,i,c,rfl,rfl,by rw[hz];exact Ub f,z2,cm sm (.at rfl) q⟩)
 ·cases e
def xu:Tv->Rz
 | .lst l=>.ok (vI l.length)
 | .tup l=>.ok (vI l.length)
 | .dic l=>.ok (vI l.length)
 | .at (.str x)=>.ok (vI x.length)
 |_=>.no
noncomputable def xS:Tv->Rz
 | .lst l=>.ok (.n (.lst l))
 | .tup l=>.ok (.n (.lst l))
 |_=>.no
noncomputable def yl:Tv->Rz
 | .lst l=>.ok (.v (.tup l))
 | .tup l=>.ok (.v (.tup l))
 |_=>.no
def Dn (K:W.Frag):V->Hp->VK->Prop:=fun x H Q=>(∃p ys,x = .ref p/\(SqL K H p ys∨SqT K H p ys)/\Q (.int ys.length) H)∨(∃z,x = .str z/\z.length<=sizeLine/\Q (.int z.length) H)∨∃a ae,x = .ref a/\H a=some (.dK ae)/\Q (.int ae.length) H
theorem IsKs.len {vs:List (aw×V)}:∀{ts:List (aw×Tv)},IsKs K G vs ts->vs.length=ts.length:=by
 induction vs with
 |nil=>intro ts h;cases h;rfl
 |cons v vs ih=>intro ts h;cases h with|cons _ r=>simp [ih r]
theorem Nh:iM K xu (Dn K):=fun G H x t s Q sm h1 e q=>by
 have hz:=TY;unfold xu at e
 split at e
 ·next l=>cases e;obtain⟨a,vs,rfl,k1,r1⟩:=h1.lst sm;exact .inl ⟨a,vs,rfl,.inl (.of k1),by rw[r1.len];exact cm sm (.at rfl) q⟩
 ·next l=>cases e;obtain⟨a,vs,rfl,k1,r1⟩:=h1.tup sm;exact .inl ⟨a,vs,rfl,.inr (.of k1),by rw[r1.len];exact cm sm (.at rfl) q⟩
 ·next l=>cases e;obtain⟨a,vs,rfl,k1,r1⟩:=h1.dic sm;exact .inr (.inr ⟨a,vs,rfl,k1,by rw[r1.len];exact cm sm (.at rfl) q⟩)
 ·next z=>cases e;obtain⟨rfl,f⟩:=h1.at;exact .inr (.inl ⟨z,rfl,by rw[hz];exact Ub f,cm sm (.at rfl) q⟩)
 ·cases e
theorem Qa:gH X (.builtin "len") (fun xs H Q=>∃x,xs = [x]/\Dn X.K x H Q):=fun aa s σ H xs us Q I r ⟨x,e,h⟩=>by
 subst e;rcases h with ⟨p,ys,rfl,h,q⟩|⟨z,rfl,h,q⟩|⟨a,ae,rfl,h,q⟩
 ·exact R8 aa s σ H _ us Q I r ⟨p,ys,rfl,h,q⟩
 ·exact RZ aa s σ H _ us Q I r ⟨z,rfl,h,q⟩
 ·exact Qh aa s σ H _ us Q I r ⟨a,ae,rfl,h,q⟩
def KZ (K:W.Frag):V->Hp->VK->Prop:=fun x H Q=>∃p ys,x = .ref p/\(SqL K H p ys∨SqT K H p ys)/\∀l,H l=none->Q (.ref l) (ax H l (.lst ys))
theorem OT:iM K xS (KZ K):=fun G H x t s Q sm h1 e q=>by
 unfold xS at e
 split at e
 ·next l=>cases e;obtain⟨a,vs,rfl,k1,r1⟩:=h1.lst sm;exact⟨a,vs,rfl,.inl (.of k1),kq r1 q⟩
 ·next l=>cases e;obtain⟨a,vs,rfl,k1,r1⟩:=h1.tup sm;exact⟨a,vs,rfl,.inr (.of k1),kq r1 q⟩
 ·cases e
def Ng (K:W.Frag):V->Hp->VK->Prop:=fun x H Q=>∃p ys,x = .ref p/\((SqL K H p ys/\∀l,H l=none->Q (.ref l) (ax H l (.tup ys)))∨(SqT K H p ys/\Q (.ref p) H))
theorem P9:iM K yl (Ng K):=fun G H x t s Q sm h1 e q=>by
 unfold yl at e
 split at e
 ·next l=>cases e;obtain⟨a,vs,rfl,k1,r1⟩:=h1.lst sm;exact⟨a,vs,rfl,.inl ⟨.of k1,yX sm r1 q⟩⟩
 ·next l=>cases e;obtain⟨a,vs,rfl,k1,r1⟩:=h1.tup sm;exact⟨a,vs,rfl,.inr ⟨.of k1,zH sm (Same.refl _) k1 r1 q⟩⟩
 ·cases e
theorem kh {r:List V->Hp->VK->Prop}{r1:V->Hp->VK->Prop}(hr:∀x H Q,r1 x H Q->r [x] H Q){σ:St}{H:Hp}{Q:VK}:pd r1 (LE K F wa) σ H Q->u5 r (jR (LE K F wa) iR) σ H Q:=fun⟨G,ta,M,K0,R,k,q⟩=>
 ⟨G,ta,M,K0,R,k,fun ev M' G' t' v H' k' R' s' e'=>hr _ _ _ (q ev M' G' t' v H' k' R' s' e')⟩
end
noncomputable def gE (M:Ms)(o:Ob):Rf->Ms
 | .loc i=>{ M with env:=M.env.set i (some (.own o)) }
 | .out k=>{ M with out:=M.out.set k (.own o) }
 | .tmp j=>{ M with tmp:=M.tmp.set j o }
noncomputable def tF:Ev->Option Rf
 | .loc i=>some (.loc i)
 | .out k=>some (.out k)
 | .tmp j=>some (.tmp j)
 | .fz _=>none
section
theorem Rel.chg (R:Rel K F G ta M σ H){r:Rf}{o o':Ob}{a:Addr}(h1:aF M r=some o)(h2:adr F ta σ r=some a)(hH:∀b,b≠a->H' b=H b)(ok:ObOk K G H' a o'):Rel K F G ta (gE M o' r) σ H':=by
 obtain⟨b,e1,e2,e3⟩:=R.ob r o h1;rw[h2] at e1;cases e1;have vj:∀b x,G b=some x->b≠a:=fun b x e z=>by rw[z,e3] at e;cases e
 have nr:∀x u,aF (gE M o' r) x=some u->(x=r/\u=o')∨(x≠r/\aF M x=some u):=fun x u h=>by
  cases r with
  |loc i=>
   cases x with
   |loc j=>
    simp only [aF,gE] at h
    cases q:(M.env.set i (some (.own o')))[j]? with
    |none=>simp [q] at h
    |some s=>
     rw[q] at h;rcases eN q with ⟨rfl,rfl⟩|⟨z,q'⟩
     ·simp [b8] at h;exact .inl ⟨rfl,h.symm⟩
     ·exact .inr ⟨(fun e=>by cases e;exact z rfl),by simp only [aF];rw[q'];exact h⟩
   |out k=>exact .inr ⟨(fun z=>by injection z),h⟩
   |tmp k=>exact .inr ⟨(fun z=>by injection z),h⟩
  |out i=>
   cases x with
   |out j=>
    simp only [aF,gE] at h
    cases q:(M.out.set i (.own o'))[j]? with
    |none=>simp [q] at h
    |some s=>
     rw[q] at h;rcases eN q with ⟨rfl,rfl⟩|⟨z,q'⟩
     ·simp [b8] at h;exact .inl ⟨rfl,h.symm⟩
     ·exact .inr ⟨(fun e=>by cases e;exact z rfl),by simp only [aF];rw[q'];exact h⟩
   |loc k=>exact .inr ⟨(fun z=>by injection z),h⟩
   |tmp k=>exact .inr ⟨(fun z=>by injection z),h⟩
  |tmp i=>
   cases x with
   |tmp j=>
    have q:(M.tmp.set i o')[j]? = some u:=h;rcases eN q with ⟨rfl,rfl⟩|⟨z,q'⟩
    ·exact .inl ⟨rfl,rfl⟩
    ·exact .inr ⟨(fun e=>by cases e;exact z rfl),q'⟩
   |loc k=>exact .inr ⟨(fun z=>by injection z),h⟩
   |out k=>exact .inr ⟨(fun z=>by injection z),h⟩
 have fM:∀x u,aF (gE M o' r) x=some u->∃u',aF M x=some u':=fun x u h=>by
  rcases nr x u h with ⟨rfl,_⟩|⟨_,h⟩
  ·exact⟨o,h1⟩
  ·exact⟨u,h⟩
 have lens:(gE M o' r).env.length=M.env.length/\(gE M o' r).out.length=M.out.length/\(gE M o' r).tmp.length=M.tmp.length:=by cases r <;> simp [gE]
 have qu:∀(i:Nat) (s:Sl),(gE M o' r).env[i]? = some (some s)->(∀u,s ≠ .own u)->M.env[i]? = some (some s):=fun i s h n=>by
  cases r with
  |loc j=>
   rcases eN (show(M.env.set j (some (.own o')))[i]? = some (some s) from h) with ⟨_,z⟩|⟨_,z⟩
   ·cases z;exact absurd rfl (n o')
   ·exact z
  |out j=>exact h
  |tmp j=>exact h
 have vf:∀(i:Nat) (s:Sl),(gE M o' r).out[i]? = some s->(∀u,s ≠ .own u)->M.out[i]? = some s:=fun i s h n=>by
  cases r with
  |out j=>
   rcases eN (show(M.out.set j (.own o'))[i]? = some s from h) with ⟨_,z⟩|⟨_,z⟩
   ·cases z;exact absurd rfl (n o')
   ·exact z
  |loc j=>exact h
  |tmp j=>exact h
 refine⟨fun b x e=>by rw[hH b (vj b x e)];exact R.sub b x e,R.g0,fun b x e1 e4=>?_,R.gd,fun b hb=>?_,by rw[lens.1];exact R.ls,by rw[lens.2.1];exact R.lo,by rw[lens.2.2];exact R.lt,fun i t h=>R.fz i t (qu i _ h fun u z=>by injection z),fun i k h=>R.al i k (qu i _ h fun u z=>by injection z),fun k t h=>R.fo k t (vf k _ h fun u z=>by injection z),fun x u h=>?_,fun x x' u u' b h h' e e'=>?_,fun x u b h e=>?_⟩
 ·have hb:b≠a:=fun z=>by
   rcases R.nw r o a h1 h2 with ⟨k,rfl⟩|q
   ·exact e4 (z▸T4 (show F.ao[k]? = some a from h2))
   ·rw[z,q] at e1;injection e1
  rw[hH b hb];exact R.fra b x e1 e4
 ·by_cases z:b=a
  ·rw[z];exact ok.some
  ·rw[hH b z];exact R.pr b hb
 ·rcases nr x u h with ⟨rfl,rfl⟩|⟨hx,h⟩
  ·exact⟨a,h2,ok,e3⟩
  ·obtain⟨b,k1,k2,k3⟩:=R.ob x u h;have hb:b≠a:=fun z=>hx (R.ij x r u o a h h1 (by rw[k1,z]) h2);exact⟨b,k1,k2.mono (Same.refl _) (hH b hb),k3⟩
 ·obtain⟨v,h⟩:=fM x u h;obtain⟨v',h'⟩:=fM x' u' h';exact R.ij x x' v v' b h h' e e'
 ·obtain⟨v,h⟩:=fM x u h;exact R.nw x v b h e
theorem EvOk.adr {ev:Ev}{v:V}{r:Rf}(h:EvOk K F G ta σ ev v)(e:tF ev=some r):∃a,v = .ref a/\L2.adr F ta σ r=some a:=by
 cases ev with
 |fz t=>injection e
 |loc i=>cases e;obtain⟨h1,a,rfl⟩:=h;exact⟨a,rfl,by simp [L2.adr,h1,kb]⟩
 |out k=>cases e;obtain⟨a,h1,rfl⟩:=h;exact⟨a,rfl,h1⟩
 |tmp j=>cases e;obtain⟨a,h1,rfl⟩:=h;exact⟨a,rfl,h1⟩
noncomputable def Ir:Ob->Bool
 | .lst _=>true
 |_=>false
def xt (f:Ob->List Tv->Option (Prop×Ob×Tv))(wo:TW)(wr:b5):TW:=fun M k=>wo M fun x M1=>aP (tF x) fun r=>aP (aF M1 r) fun o1=>Ir o1=true/\wr M1 fun ts M2=>aP (aF M2 r) fun o=>jn (f o ts) fun c p=>c/\k (.fz p.2) ((gE M2 p.1 r).cut M.tmp.length)
def tE (K:W.Frag)(f:Ob->List Tv->Option (Prop×Ob×Tv))(r:V->List V->Hp->VK->Prop):Prop:=∀G H a o o' t ts vs Q,Same G H->ObOk K G H a o->G a=none->IsTs K G vs ts->(∃c:Prop,c/\f o ts=some (c,o',t))->(∀v H',(∀b,b≠a->H' b=H b)->ObOk K G H' a o'->IsT K G v t->Q v H')->r (.ref a) vs H Q
theorem LE.mut {n:Nat}{f:Ob->List Tv->Option (Prop×Ob×Tv)}{r:V->List V->Hp->VK->Prop}{wo:TW}{wr:b5}(ok:tE X.K f r){σ:St}{H:Hp}{Q:VK}:LE X.K F (xt f wo wr) σ H Q->u6 X.K "list" r (LE X.K F wo) (LF X.K F n wr) σ H Q:=fun⟨G,ta,M,K0,R,k,q⟩=>by
 refine⟨G,ta,M,_,R,k,fun x M1 G1 t1 v H1 k1 R1 s1 e1=>?_⟩;obtain⟨r,hr,k1⟩:=aN k1;obtain⟨o1,ho1,hl,k1⟩:=aN k1;obtain⟨a,rfl,ha⟩:=e1.adr hr;obtain⟨b,z1,z2,z3⟩:=R1.ob r o1 ho1;rw[ha] at z1;cases z1;refine⟨?_,G1,t1,M1,_,R1,k1,fun ts M2 G2 vs H2 k2 R2 s2 e2 _=>?_⟩
 ·cases o1 with
  |lst l=>obtain⟨vs,e,_⟩:=z2;exact .inl ⟨rfl,_,SqL.of e⟩
  |dic l=>injection hl
 ·obtain⟨o,ho,k2⟩:=aN k2;obtain⟨c,⟨o',t⟩,hf,hc,k2⟩:=jx k2;obtain⟨b,y1,y2,y3⟩:=R2.ob r o ho;rw[ha] at y1;cases y1;refine ok G2 H2 a o o' t ts vs Q R2.sub y2 y3 e2 ⟨c,hc,hf⟩ fun v H' hH sg ht=>?_;have R3:=R2.chg ho ha hH sg;exact q _ _ G2 ta v H' k2 (R3.cutTo R.lt ⟨s1.g.trans s2,s1.t⟩) ⟨s1.g.trans s2,[],by simp⟩ ht
noncomputable def xr:Ob->List Tv->Option (Prop×Ob×Tv)
 | .lst l,[t]=>some (l.length<16777216,.lst (l ++ [t]),.at .non)
 |_,_=>none
theorem Nf:tE K xr gQ:=fun G H a o o' t ts vs Q sm h hg ht e q=>by
 obtain⟨c,hl,e⟩:=e;unfold xr at e
 split at e
 ·next l u=>
  cases e;obtain⟨ws,e1,e2⟩:=h
  cases ht with
  | @cons v _ _ _ k1 k2=>cases k2;exact⟨a,ws,v,rfl,rfl,e1,by rw[TY,e2.len];exact hl,q _ _ (fun b hb=>az hb) ⟨_,bu,e2.app (.cons k1 .nil)⟩ (.at rfl)⟩
 ·injection e
noncomputable def qF:Ob->List Tv->Option (Prop×Ob×Tv)
 | .lst l,[]=>(l[l.length-1]?).map fun t=>(True,.lst l.dropLast,t)
 |_,_=>none
theorem Nd:tE K qF pE:=fun G H a o o' t ts vs Q sm h hg ht e q=>by
 obtain⟨c,hl,e⟩:=e;unfold qF at e
 split at e
 ·next l=>
  cases z:l[l.length-1]? with
  |none=>rw[z] at e;injection e
  |some u=>rw[z] at e;cases e;obtain⟨ws,e1,e2⟩:=h;cases ht;obtain⟨v,e3,e4⟩:=e2.get z;rw[<- e2.len] at e3;refine⟨a,ws,v,rfl,rfl,e1,e3,q _ _ (fun b hb=>az hb) ⟨_,bu,?_⟩ e4⟩;rw[List.dropLast_eq_take,List.dropLast_eq_take,e2.len];exact e2.take _
 ·injection e
noncomputable def qE:Tv->Option aw
 | .at (.int i)=>some (.inl i)
 | .at (.str x)=>some (.inr x)
 |_=>none
noncomputable def dP (l:List (aw×Tv))(k:aw)(t:Tv):List (aw×Tv):=
 if (l.any fun kv=>decide (kv.1=k))=true then l.map (fun kv=>if kv.1=k then (kv.1,t) else kv) else l ++ [(k,t)]
noncomputable def bZ:List (aw×Tv)->aw->Option Tv
 |[],_=>none
 | (k',t)::r,k=>if k'=k then some t else bZ r k
theorem IsKs.look {vs:List (aw×V)}:∀{ts:List (aw×Tv)} {k:aw} {t:Tv},IsKs K G vs ts->bZ ts k=some t->∃v,bt vs k=some v/\IsT K G v t:=by
 induction vs with
 |nil=>intro ts k t h e;cases h;injection e
 |cons p vs ih=>
  intro ts k t h e
  cases h with
  | @cons k' v _ u ts h1 h2=>
   by_cases z:k'=k
   ·simp [bZ,z] at e;subst e;exact⟨v,by simp [bt,UE,z],h1⟩
   ·have e':bZ ts k=some t:=by simpa [bZ,z] using e
    obtain⟨w,h3,h4⟩:=ih h2 e';exact⟨w,by simpa [bt,UE,z] using h3,h4⟩
theorem IsKs.lookN {vs:List (aw×V)}:∀{ts:List (aw×Tv)} {k:aw},IsKs K G vs ts->bZ ts k=none->bt vs k=none:=by
 induction vs with
 |nil=>intro ts k h e;rfl
 |cons p vs ih=>
  intro ts k h e
  cases h with
  | @cons k' v _ u ts h1 h2=>
   by_cases z:k'=k
   ·simp [bZ,z] at e
   ·have e':bZ ts k=none:=by simpa [bZ,z] using e
    have h3:=ih h2 e'
    simpa [bt,UE,z] using h3
theorem IsKs.any {vs:List (aw×V)}{ts:List (aw×Tv)}{k:aw}(h:IsKs K G vs ts):(vs.any fun kv=>decide (kv.1=k))=ts.any fun kv=>decide (kv.1=k):=by
 induction vs generalizing ts with
 |nil=>cases h;rfl
 |cons p vs ih=>cases h with|cons h1 h2=>simp only [any_cons,ih h2]
theorem IsKs.map {vs:List (aw×V)}{k:aw}{v:V}(ht:IsT K G v t):∀{ts:List (aw×Tv)},IsKs K G vs ts->IsKs K G (vs.map fun kv=>if kv.1=k then (kv.1,v) else kv) (ts.map fun kv=>if kv.1=k then (kv.1,t) else kv):=by
 induction vs with
 |nil=>intro ts h;cases h;exact .nil
 |cons p vs ih=>
  intro ts h
  cases h with
  | @cons k' w _ u ts h1 h2=>
   rw[TX,TX]
   by_cases z:k'=k
   ·simp only [z,Tt];exact .cons ht (ih h2)
   ·simp only [Tp z];exact .cons h1 (ih h2)
theorem IsKs.snoc {vs:List (aw×V)}{k:aw}{v:V}(ht:IsT K G v t):∀{ts:List (aw×Tv)},IsKs K G vs ts->IsKs K G (vs ++ [(k,v)]) (ts ++ [(k,t)]):=by
 induction vs with
 |nil=>intro ts h;cases h;exact .cons ht .nil
 |cons p vs ih=>intro ts h;cases h with|cons h1 h2=>exact .cons h1 (ih h2)
theorem IsKs.put {vs:List (aw×V)}{ts:List (aw×Tv)}{k:aw}{v:V}(h:IsKs K G vs ts)(ht:IsT K G v t):IsKs K G (cc vs k v) (dP ts k t):=by
 unfold cc dP;rw[h.any]
 split
 ·exact h.map ht
 ·exact h.snoc ht
def wJ:Tv->Tv->Rz
 | .dic l,t=>match qE t with
  |some k=>ofO (bZ l k)
  |none=>.no
 |_,_=>.no
def kG:R2:=fun x y H Q=>∃a v,x = .ref a/\DGet H a y (some v)/\Q v H
theorem yV {k:aw}(h:IsR K G H y t)(e:qE t=some k):y=kV k:=by
 unfold qE at e
 split at e
 ·cases e;obtain⟨rfl,_⟩:=h.at;rfl
 ·cases e;obtain⟨rfl,_⟩:=h.at;rfl
 ·injection e
theorem KY:de K wJ kG:=fun G H x y t u s Q sm h1 h2 e q=>by
 unfold wJ at e
 split at e
 ·next l=>
  split at e
  ·next k z=>
   obtain⟨w,z2,rfl⟩:=e.ofO;obtain⟨a,ae,rfl,k1,r1⟩:=h1.dic sm;obtain⟨v,e1,e2⟩:=r1.look z2;have hy:=yV h2 z;subst hy;exact⟨a,v,rfl,by rw[<- e1];exact DGet.k k1,cm sm e2 q⟩
  ·cases e
 ·cases e
def Dm (wv wd wk:TW):cx:=fun P M=>wv M fun v M1=>jn (eJ 0 M1 v) fun t M2=>wd M2 fun x M2=>wk M2 fun y M3=>aP (tF x) fun r=>aP (aF M3 r) fun o=>aP (rd M3 y) fun u=>aP (qE u) fun k=>match o with
 | .dic l=>l.length<16777216/\P.nx ((gE M3 (.dic (dP l k t)) r).cut 0)
 |_=>False
theorem LS.dput {wv wd wk:TW}{D:bI}:LS X.K F (Dm wv wd wk) D σ H->Du (LE X.K F wd) (LE X.K F wk) (LE X.K F wv) D σ H:=fun⟨G,M,P,R,k,ok⟩=>by
 refine⟨G,[],M,_,R,k,fun ev M1 G1 t1 v H1 k1 R1 s1 e1=>?_⟩;obtain⟨t,M2,h2,k1⟩:=jx k1;have iI:eJ M.tmp.length M1 ev=some (t,M2):=by rw[R.lt];exact h2
 obtain⟨G2,R2,s2,s2',t2⟩:=R1.frz R.lt s1 e1 iI;refine⟨G2,[],M2,_,R2,k1,fun x M3 G3 t3 xv H3 k3 R3 s3 e3=>⟨G3,t3,M3,_,R3,k3,fun y M4 G4 t4 yv H4 k4 R4 s4 e4=>?_⟩⟩;obtain⟨r,hr,k4⟩:=aN k4;obtain⟨o,ho,k4⟩:=aN k4;obtain⟨u,hu,k4⟩:=aN k4;obtain⟨kk,hk,k4⟩:=aN k4;obtain⟨a,rfl,ha⟩:=(e3.stp s4).adr hr;obtain⟨b,z1,z2,z3⟩:=R4.ob r o ho;rw[ha] at z1;cases z1;have hy:=yV (R4.rd e4 hu) hk;subst hy
 cases o with
 |lst l=>exact k4.elim
 |dic l=>obtain⟨ae,e5,r5⟩:=z2;obtain⟨hl,k4⟩:=k4;refine⟨a,_,rfl,DPut.k e5 (by rw[TY,r5.len];exact hl),?_⟩;have R5:=R4.chg (o':=.dic (dP l kk t)) ho ha (H':=ax H4 a (.dK (cc ae kk v))) (fun b hb=>az hb) ⟨_,bu,r5.put (t2.mono (s3.g.trans s4.g))⟩;exact ok.nx _ G4 σ _ k4 (R5.cut 0) (s2.g.trans (s3.g.trans s4.g))
end
section
def aO {α : Type}(xs:List α)(lo hi:Option Int):List α := (xs.drop (HT.sIx xs.length 0 lo)).take (HT.sIx xs.length xs.length hi-HT.sIx xs.length 0 lo)
theorem IsTs.cut {ts:List Tv}(h:IsTs K G vs ts)(lo hi:Option Int):IsTs K G (jo vs lo hi) (aO ts lo hi):=by unfold jo aO;rw[h.len];exact(h.drop _).take _
abbrev nF:=Ms->(Option Int->Ms->Prop)->Prop
inductive LO (K:W.Frag)(F:Fr)(w:nF)(σ:St)(H:Hp)(Q:(Option Int->Hp->Prop)):Prop
 |mk (G ta M K0:_) (_:Rel K F G ta M σ H) (_:w M K0) (_:∀i M' G' dF H',K0 i M'->Rel K F G' dF M' σ H'->Stp G ta G' dF->Q i H')
noncomputable def qH:Tv->Option Int
 | .at (.int i)=>some i
 |_=>none
def Cj:nF:=fun M k=>k none M
def Dl (wa:TW):nF:=fun M k=>wa M fun x M1=>aP (rd M1 x) fun t=>aP (qH t) fun i=>k (some i) M1
theorem PO.imp {e:Option Expr}{t t':TO}(h:PO X e t)(i:∀ σ H Q,t' σ H Q->t σ H Q):PO X e t':=fun aa s σ H Q I q=>h aa s σ H Q I (i σ H Q q)
theorem Nc:PO X none (LO X.K F Cj):=po_none.imp fun σ H Q ⟨G,ta,M,K0,R,k,q⟩=>q _ _ G ta H k R .refl
theorem zF {i:Int}(h:qH t=some i):t = .at (.int i):=by
 unfold qH at h
 split at h
 ·cases h;rfl
 ·injection h
theorem Nb (h:PE X e (LE X.K F wa)):PO X (some e) (LO X.K F (Dl wa)):=(NG h).imp fun σ H Q ⟨G,ta,M,K0,R,k,q⟩=>by refine⟨G,ta,M,_,R,k,fun x M1 G1 t1 v1 H1 k1 R1 s1 e1=>?_⟩;obtain⟨t,ht,k1⟩:=aN k1;obtain⟨i,hi,k1⟩:=aN k1;have hr:=R1.rd e1 ht;rw[zF hi] at hr;exact⟨i,hr.at.1,q _ _ G1 t1 H1 k1 R1 s1⟩
def xq (lo hi:Option Int):Tv->Rz
 | .lst l=>.ok (.n (.lst (aO l lo hi)))
 | .scr l=>.ok (.n (.lst (aO l lo hi)))
 | .tup l=>.ok (.v (.tup (aO l lo hi)))
 | .at (.str z)=>.cd ((Txt.slice z lo hi).length<=16777216) (vS (Txt.slice z lo hi))
 |_=>.no
def xp (K:W.Frag):V->Option Int->Option Int->Hp->VK->Prop:=fun x lo hi H Q=>CH K x lo hi H Q∨(fun x lo hi H Q=>pB x lo hi H Q∨pz x lo hi H Q) x lo hi H Q
theorem JI:SlR X (xp X.K):=sl_list.or (sl_tupP.or Lf)
theorem KW (lo hi:Option Int):iM K (xq lo hi) (fun x H Q=>xp K x lo hi H Q):=fun G H x t s Q sm h1 e q=>by
 have hz:=TY;unfold xq at e
 split at e
 ·next l=>cases e;obtain⟨a,vs,rfl,k1,r1⟩:=h1.lst sm;exact .inl ⟨a,vs,rfl,.of k1,kq (r1.cut lo hi) q⟩
 ·next l=>cases e;obtain⟨a,vs,rfl,k1,r1⟩:=h1.scr sm;exact .inl ⟨a,vs,rfl,k1,kq (r1.cut lo hi) q⟩
 ·next l=>cases e;obtain⟨a,vs,rfl,k1,r1⟩:=h1.tup sm;exact .inr (.inl ⟨a,vs,rfl,k1,fun p H' sH e=>zH sm sH e (r1.cut lo hi) q⟩)
 ·next z=>
  cases e with|cd hc=>
  obtain⟨rfl,f⟩:=h1.at
  exact .inr (.inr ⟨z,rfl,by rw[hz];exact Ub f,cm sm (.at (T8 hc)) q⟩)
 ·cases e
def Ci (wa:TW)(wl wh:nF):TW:=fun M k=>wa M fun x M1=>wl M1 fun lo M2=>wh M2 fun hi M3=>aP (rd M3 x) fun t=>bz (xq lo hi t) (nc M.tmp.length M3 k)
theorem LE.slc {wl wh:nF}:LE X.K F (Ci wa wl wh) σ H Q->Bg (xp X.K) (LE X.K F wa) (LO X.K F wl) (LO X.K F wh) σ H Q:=fun⟨G,ta,M,K0,R,k,q⟩=>by refine⟨G,ta,M,_,R,k,fun x M1 G1 t1 v1 H1 k1 R1 s1 e1=>⟨G1,t1,M1,_,R1,k1,fun lo M2 G2 t2 H2 k2 R2 s2=>⟨G2,t2,M2,_,R2,k2,fun hi M3 G3 t3 H3 k3 R3 s3=>?_⟩⟩⟩;obtain⟨t,ht,k3⟩:=aN k3;obtain⟨s,hs,k3⟩:=kr k3;exact KW lo hi G3 H3 v1 t s Q R3.sub (R3.rd (e1.stp (s2.trans s3)) ht) hs (R3.done R.lt (s1.trans (s2.trans s3)) k3 q)
noncomputable def oZ:Tv->Option String
 | .at .non=>some "NoneType"
 | .at (.bl _)=>some "bool"
 | .at (.int _)=>some "int"
 | .at (.str _)=>some "str"
 | .tup _=>some "tuple"
 | .lst _=>some "list"
 | .dic _=>some "dict"
 |_=>none
theorem KU {v:V}{n:String}(h:IsT K H v t)(e:oZ t=some n):cJ K H v (.type n):=by
 cases h with
 | «at» f => cases v <;> cases e <;> constructor
 |tup h r=>cases e;exact .tup h
 |lst h r=>cases e;exact .lst h
 |dic h r=>cases e;exact .dK h
 |scr h r=>injection e
 |ktp h r=>injection e
noncomputable def iu (n T:String):Bool:=n==T||(n=="bool"&&T=="int")
def xo (T:String)(t:Tv):Rz:=match oZ t with
 |some n=>.ok (vB (iu n T))
 |none=>.no
noncomputable def u3:Tv->Int
 | .at (.int i)=>i
 |_=>0
noncomputable def Bd:Tv->Bool
 | .at (.bl b)=>b
 |_=>false
def intL (l:List Tv):Prop:=∀t∈l,∃i,t = .at (.int i)
def blL (l:List Tv):Prop:=∀t∈l,∃b,t = .at (.bl b)
theorem intL.is {l:List Tv}(f:intL l):∀{vs:List V},IsTs K G vs l->vs=(l.map u3).map V.int:=by
 induction l with
 |nil=>intro vs h;cases h;rfl
 |cons t l ih=>
  intro vs h
  cases h with
  | @cons v vs _ _ h1 h2=>obtain⟨i,rfl⟩:=f t Te;cases h1;rw[ih (fun x hx=>f x (Tb _ hx)) h2];rfl
theorem blL.is {l:List Tv}(f:blL l):∀{vs:List V},IsTs K G vs l->vs=(l.map Bd).map V.bl:=by
 induction l with
 |nil=>intro vs h;cases h;rfl
 |cons t l ih=>
  intro vs h
  cases h with
  | @cons v vs _ _ h1 h2=>obtain⟨i,rfl⟩:=f t Te;cases h1;rw[ih (fun x hx=>f x (Tb _ hx)) h2];rfl
def xn:Tv->Rz
 | .lst l=>.cd (intL l) (vI (l.map u3).sum)
 |_=>.no
def xm:Tv->Rz
 | .lst l=>.cd (blL l) (vB ((l.map Bd).all id))
 |_=>.no
def xR:Tv->Rz
 | .at (.int i)=>.ok (vI i)
 | .at (.bl b)=>.ok (vI (if b then 1 else 0))
 |_=>.no
def J6 (K:W.Frag):V->Hp->VK->Prop:=fun x H Q=>∃(a:Addr) (ns:List Int),x = .ref a/\SqL K H a (ns.map V.int)/\Q (.int ns.sum) H
def J5 (K:W.Frag)(f:List Bool->Bool):V->Hp->VK->Prop:=fun x H Q=>∃(a:Addr) (bs:List Bool),x = .ref a/\SqL K H a (bs.map V.bl)/\Q (.bl (f bs)) H
theorem Na:iM K xn (J6 K):=fun G H x t s Q sm h1 e q=>by
 unfold xn at e
 split at e
 ·next l=>
  cases e with|cd c=>
  obtain⟨a,vs,rfl,k1,r1⟩:=h1.lst sm;have:=c.is r1;subst this;exact⟨a,_,rfl,.of k1,cm sm (.at rfl) q⟩
 ·cases e
theorem M9:iM K xm (J5 K fun bs=>bs.all id):=fun G H x t s Q sm h1 e q=>by
 unfold xm at e
 split at e
 ·next l=>
  cases e with|cd c=>
  obtain⟨a,vs,rfl,k1,r1⟩:=h1.lst sm;have:=c.is r1;subst this;exact⟨a,_,rfl,.of k1,cm sm (.at rfl) q⟩
 ·cases e
def pG:V->Hp->VK->Prop:=fun x H Q=>(∃i,x = .int i/\Q (.int i) H)∨∃k,x = .bl k/\Q (.int (if k then 1 else 0)) H
theorem M8:iM K xR pG:=fun G H x t s Q sm h1 e q=>by
 unfold xR at e
 split at e
 ·next i=>cases e;obtain⟨rfl,_⟩:=h1.at;exact .inl ⟨i,rfl,cm sm (.at rfl) q⟩
 ·next b=>cases e;obtain⟨rfl,_⟩:=h1.at;exact .inr ⟨b,rfl,cm sm (.at rfl) q⟩
 ·cases e
noncomputable def fE (n:Nat):List Tv:=(List.range n).map fun(i:Nat)=>.at (.int (i:Int))
def Cg (wa:TW):b5:=fun M k=>wa M fun x M1=>aP (rd M1 x) fun t=>aP (qH t) fun j=>(-(2 ^ 62)<=j/\j<2 ^ 62)/\k (fE j.toNat) (M1.cut M.tmp.length)
theorem KS (n:Nat):rQ K G (uW 0 n) (fE n):=by
 have hl:(fE n).length=n:=by unfold fE;simp
 refine⟨fun i G' H' _ _ hi=>by rw[hl] at hi;exact hi,fun G' H' _ _=>by rw[hl];exact Tf _,fun i t G' H' x jy s1 s2 ht hy=>?_⟩;obtain⟨rfl,rfl⟩:=hy;have hi:i<n:=by have:=(Tn.mp ht).1;rw[hl] at this;exact this
 have:t = .at (.int (0+(i:Int))):=by
  unfold fE at ht;rw[Ui,List.getElem?_range hi] at ht
  simpa using ht.symm
 subst this;exact⟨G',Same.refl _,s2,Same.refl _,fun _ _ e=>.inl e,.at rfl⟩
theorem LI.rng {R:It->Hp->Prop}:LI X.K F (Cg wa) σ H R->Dz (jR (LE X.K F wa) iR) σ H R:=fun⟨G,ta,M,K0,R0,k,q⟩=>by refine⟨G,ta,M,_,R0,k,fun x M1 G1 t1 v1 H1 k1 R1 s1 e1=>?_⟩;obtain⟨t,ht,k1⟩:=aN k1;obtain⟨j,hj,hb,k1⟩:=aN k1;have hr:=R1.rd e1 ht;rw[zF hj] at hr;exact⟨j,by rw[hr.at.1],hb.1,hb.2,q _ _ G1 _ H1 k1 (R1.cutTo R0.lt s1) s1.g (KS _)⟩
theorem yk {x:Ev}{b:Bool}(hb:je x=some b):x = .fz (.at (.bl b)):=by
 cases x with
 |fz t=>cases t with
  | «at» v => cases v <;> simp [je] at hb; subst hb; rfl
  |_=>simp [je] at hb
 |_=>simp [je] at hb
def Dk (wa wb:TW):TW:=fun M k=>wa M fun x M1=>aP (je x) fun c=>if c=true then wb (M1.cut M.tmp.length) k else k (.fz (.at (.bl false))) (M1.cut M.tmp.length)
def Cf (wa wb:TW):TW:=fun M k=>wa M fun x M1=>aP (je x) fun c=>if c=true then k (.fz (.at (.bl true))) (M1.cut M.tmp.length) else wb (M1.cut M.tmp.length) k
def Dj (wa:TW):TW:=fun M k=>wa M fun x M1=>aP (je x) fun c=>k (.fz (.at (.bl (!c)))) (M1.cut M.tmp.length)
theorem LE.andV {wb:TW}:LE X.K F (Dk wa wb) σ H Q->DE (LE X.K F wa) (LE X.K F wb) σ H Q:=fun⟨G,ta,M,K0,R,k,q⟩=>by
 refine⟨G,ta,M,_,R,k,fun x M1 G1 t1 v1 H1 k1 R1 s1 e1=>?_⟩;obtain⟨b,hb,k1⟩:=aN k1;rw[yk hb] at e1;have jf:IsT X.K G1 v1 (.at (.bl b)):=e1;cases jf;have R2:=R1.cutTo R.lt s1;refine⟨b,rfl,?_⟩
 cases b with
 |true=>exact⟨G1,ta,_,K0,R2,k1,fun b M' G' t' v H' k' R' s' e'=>q b M' G' t' v H' k' R' (Stp.trans ⟨s1.g,[],by simp⟩ s') e'⟩
 |false=>exact q _ _ G1 ta _ H1 k1 R2 ⟨s1.g,[],by simp⟩ (.at rfl)
theorem LE.orV {wb:TW}:LE X.K F (Cf wa wb) σ H Q->CT (LE X.K F wa) (LE X.K F wb) σ H Q:=fun⟨G,ta,M,K0,R,k,q⟩=>by
 refine⟨G,ta,M,_,R,k,fun x M1 G1 t1 v1 H1 k1 R1 s1 e1=>?_⟩;obtain⟨b,hb,k1⟩:=aN k1;rw[yk hb] at e1;have jf:IsT X.K G1 v1 (.at (.bl b)):=e1;cases jf;have R2:=R1.cutTo R.lt s1;refine⟨b,rfl,?_⟩
 cases b with
 |false=>exact⟨G1,ta,_,K0,R2,k1,fun b M' G' t' v H' k' R' s' e'=>q b M' G' t' v H' k' R' (Stp.trans ⟨s1.g,[],by simp⟩ s') e'⟩
 |true=>exact q _ _ G1 ta _ H1 k1 R2 ⟨s1.g,[],by simp⟩ (.at rfl)
theorem LE.notV:LE X.K F (Dj wa) σ H Q->DD (LE X.K F wa) σ H Q:=fun⟨G,ta,M,K0,R,k,q⟩=>by refine⟨G,ta,M,_,R,k,fun x M1 G1 t1 v1 H1 k1 R1 s1 e1=>?_⟩;obtain⟨b,hb,k1⟩:=aN k1;rw[yk hb] at e1;have jf:IsT X.K G1 v1 (.at (.bl b)):=e1;cases jf;exact⟨b,rfl,q _ _ G1 ta _ H1 k1 (R1.cutTo R.lt s1) ⟨s1.g,[],by simp⟩ (.at rfl)⟩
noncomputable def vb:Rs->Option Bool
 | .v (.at (.bl b))=>some b
 |_=>none
theorem KR {r:Rs}{b:Bool}(h:vb r=some b):r = .v (.at (.bl b)):=by
 unfold vb at h
 split at h
 ·cases h;rfl
 ·injection h
def Ce (f f':Tv->Tv->Rz)(wa wb wc:TW):TW:=fun M k=>wa M fun x M1=>wb M1 fun y M2=>aP (rd M2 x) fun t=>aP (rd M2 y) fun u=>bz (f t u) fun r=>aP (vb r) fun c=>
 if c=true then wc M2 fun z M3=>aP (rd M3 y) fun u'=>aP (rd M3 z) fun v=>bz (f' u' v) (nc M.tmp.length M3 k) else k (.fz (.at (.bl false))) (M2.cut M.tmp.length)
theorem LE.chn {f f':Tv->Tv->Rz}(o:de X.K f r)(o':de X.K f' r'){wa wb wc:TW}{σ:St}{H:Hp}{Q:VK}:LE X.K F (Ce f f' wa wb wc) σ H Q->yt r r' (LE X.K F wa) (LE X.K F wb) (LE X.K F wc) σ H Q:=fun⟨G,ta,M,K0,R,k,q⟩=>by
 refine⟨G,ta,M,_,R,k,fun x M1 G1 t1 v1 H1 k1 R1 s1 e1=>⟨G1,t1,M1,_,R1,k1,fun y M2 G2 t2 v2 H2 k2 R2 s2 e2=>?_⟩⟩;obtain⟨t,ht,k2⟩:=aN k2;obtain⟨u,hu,k2⟩:=aN k2;obtain⟨s,hs,k2⟩:=kr k2;obtain⟨c,hc,k2⟩:=aN k2;have hs':=hs;rw[KR hc] at hs';refine o G2 H2 v1 v2 t u _ _ R2.sub (R2.rd (e1.stp s2) ht) (R2.rd e2 hu) hs' fun v G' H' z1 z2 z3 z4 z5=>?_;cases z5;have R3:=R2.more z1 z3 z2 z4;refine⟨c,rfl,?_⟩
 cases c with
 |true=>refine⟨G',t2,M2,_,R3,k2,fun z M4 G4 t4 v4 H4 k4 R4 s4 e4=>?_⟩;obtain⟨u',hu',k4⟩:=aN k4;obtain⟨v',pZ,k4⟩:=aN k4;obtain⟨s',hs',k4⟩:=kr k4;have st:Stp G2 t2 G4 t4:=Stp.trans ⟨z1,[],by simp⟩ s4;exact o' G4 H4 v2 v4 u' v' s' Q R4.sub (R4.rd (e2.stp st) hu') (R4.rd e4 pZ) hs' (R4.done R.lt (s1.trans (s2.trans st)) k4 q)
 |false=>exact q _ _ G' ta _ H' k2 (R3.cutTo R.lt (s1.trans (s2.trans ⟨z1,[],by simp⟩))) ⟨s1.g.trans (s2.g.trans z1),[],by simp⟩ (.at rfl)
def Di (wv wo wi:TW):cx:=fun P M=>wv M fun v M1=>jn (eJ 0 M1 v) fun t M2=>wo M2 fun x M3=>wi M3 fun y M4=>aP (tF x) fun r=>aP (aF M4 r) fun o=>aP (rd M4 y) fun u=>aP (qH u) fun i=>match o with
 | .lst l=>∃j,gc l.length i=some j/\P.nx ((gE M4 (.lst (l.set j t)) r).cut 0)
 |_=>False
theorem LS.lput {wv wo wi:TW}{D:bI}:LS X.K F (Di wv wo wi) D σ H->ox (LE X.K F wv) (CN (LE X.K F wo) (LE X.K F wi) kE) D σ H:=fun⟨G,M,P,R,k,ok⟩=>by
 refine⟨G,[],M,_,R,k,fun ev M1 G1 t1 v H1 k1 R1 s1 e1=>?_⟩;obtain⟨t,M2,h2,k1⟩:=jx k1;have iI:eJ M.tmp.length M1 ev=some (t,M2):=by rw[R.lt];exact h2
 obtain⟨G2,R2,s2,s2',t2⟩:=R1.frz R.lt s1 e1 iI;refine⟨G2,[],M2,_,R2,k1,fun x M3 G3 t3 xv H3 k3 R3 s3 e3=>⟨G3,t3,M3,_,R3,k3,fun y M4 G4 t4 yv H4 k4 R4 s4 e4=>?_⟩⟩;obtain⟨r,hr,k4⟩:=aN k4;obtain⟨o,ho,k4⟩:=aN k4;obtain⟨u,hu,k4⟩:=aN k4;obtain⟨i,hi,k4⟩:=aN k4;obtain⟨a,rfl,ha⟩:=(e3.stp s4).adr hr;obtain⟨b,z1,z2,z3⟩:=R4.ob r o ho;rw[ha] at z1;cases z1;have hy:=R4.rd e4 hu;rw[zF hi] at hy
 obtain⟨rfl,_⟩:=hy.at
 cases o with
 |dic l=>exact k4.elim
 |lst l=>obtain⟨vs,e5,r5⟩:=z2;obtain⟨j,hj,k4⟩:=k4;refine⟨a,vs,i,j,rfl,rfl,e5,by rw[r5.len];exact hj,?_⟩;have R5:=R4.chg (o':=.lst (l.set j t)) ho ha (H':=ax H4 a (.lst (vs.set j v))) (fun b hb=>az hb) ⟨_,bu,r5.set j (t2.mono (s3.g.trans s4.g))⟩;exact ok.nx _ G4 σ _ k4 (R5.cut 0) (s2.g.trans (s3.g.trans s4.g))
def Dh:TW:=fun M k=>nc M.tmp.length M k (.n (.dic []))
theorem MZ {pos:Pos}:PE X (.Dict [] [] pos) (LE X.K F Dh):=pe_dnewK.imp fun σ H Q ⟨G,ta,M,K0,R,k,q⟩ p hp=>
 R.done R.lt .refl k q p _ hp (fun b x e=>by rw[az (cb e hp)];exact e) ⟨[],bu,.nil⟩
noncomputable def xQ:Tv->Rz
 | .dic l=>.ok (.n (.dic l))
 |_=>.no
def mw:V->Hp->VK->Prop:=fun x H Q=>∃(p:Addr) (ae:List (aw×V)),x = .ref p/\H p=some (.dK ae)/\∀a,H a=none->Q (.ref a) (ax H a (.dK ae))
theorem OS:iM K xQ mw:=fun G H x t s Q sm h1 e q=>by
 unfold xQ at e
 split at e
 ·next l=>
  cases e;obtain⟨a,ae,rfl,k1,r1⟩:=h1.dic sm;exact⟨a,ae,rfl,k1,fun p hp=>q p _ hp (fun b x e=>by rw[az (cb e hp)];exact e) ⟨ae,bu,r1⟩⟩
 ·cases e
def oE (l:List (aw×Tv))(m:List (aw×Tv)):List (aw×Tv):=m.foldl (fun ak kv=>dP ak kv.1 kv.2) l
theorem IsKs.merge {vs:List (aw×V)}:∀{ts:List (aw×Tv)} {ws:List (aw×V)} {us:List (aw×Tv)},IsKs K G vs ts->IsKs K G ws us->IsKs K G (lI ws vs) (oE us ts):=by
 induction vs with
 |nil=>intro ts ws us h1 h2;cases h1;exact h2
 |cons p vs ih=>
  intro ts ws us h1 h2
  cases h1 with
  | @cons k v _ t ts a b=>show IsKs K G (lI (cc ws k v) vs) (oE (dP us k t) ts);exact ih b (h2.put a)
theorem IsKs.zip {ks:List Str}:∀{vs:List V} {ts:List Tv},IsTs K G vs ts->IsKs K G (ks.zip vs |>.map fun p=>(Sum.inr p.1,p.2)) (ks.zip ts |>.map fun p=>(Sum.inr p.1,p.2)):=by
 induction ks with
 |nil=>intro vs ts h;exact .nil
 |cons k ks ih=>
  intro vs ts h
  cases h with
  |nil=>exact .nil
  |cons a b=>exact .cons a (ih b)
noncomputable def sS (ks:List Str)(ts:List Tv):List (aw×Tv):=ks.zip ts |>.map fun p=>(Sum.inr p.1,p.2)
def Cd (ks:List Str)(wr:b5):TW:=fun M k=>wr { M with tmp:=M.tmp ++ [.dic []] } fun ts M2=>M2.tmp[M.tmp.length]? = some (.dic [])/\k (.tmp M.tmp.length) { M2 with tmp:=M2.tmp.take M.tmp.length ++ [.dic (oE [] (sS ks ts))] }
def LP (K:W.Frag)(F:Fr)(w:b5)(ks:List Str)(σ:St)(H:Hp)(Q:List (V×V)->Hp->Prop):Prop:=∃G ta M K0,Rel K F G ta M σ H/\w M K0/\∀ts M' G' vs H',K0 ts M'->Rel K F G' ta M' σ H'->Same G G'->IsTs K G' vs ts->Q (ks.zip vs |>.map fun p=>(V.str p.1,p.2)) H'
theorem LP.nil {Q:List (V×V)->Hp->Prop}:LP K F xW [] σ H Q->lJ [] σ H Q:=fun⟨G,ta,M,K0,R,k,q⟩=>q [] M G [] H k R (Same.refl _) .nil
theorem LP.cons {x:Str}{ks:List Str}{wa:TW}{wr:b5}{eo:List (TE×TE)}(hr:∀ σ H Q,LP K F wr ks σ H Q->lJ eo σ H Q){σ:St}{H:Hp}{Q:List (V×V)->Hp->Prop}:LP K F (qQ wa wr) (x::ks) σ H Q->lJ ((tC (.str x),LE K F wa)::eo) σ H Q:=fun⟨G,ta,M,K0,R,k,q⟩=>by refine⟨G,ta,M,_,R,k,fun ev M1 G1 t1 v1 H1 k1 R1 s1 e1=>?_⟩;obtain⟨t,M2,ht,k1⟩:=jx k1;obtain⟨G2,R2,s2,s2',t2⟩:=R1.frz R.lt s1 e1 ht;exact hr _ _ _ ⟨G2,ta,M2,_,R2,k1,fun ts M' G' vs H' k' R' s' e'=>q _ _ G' (v1::vs) H' k' R' (s2.g.trans s') (.cons (t2.mono s') e')⟩
theorem LE.dct {ks:List Str}{wr:b5}{eo:List (TE×TE)}(hk:ks.length<=15)(hr:∀ σ H Q,LP X.K F wr ks σ H Q->lJ eo σ H Q){σ:St}{H:Hp}{Q:VK}:LE X.K F (Cd ks wr) σ H Q->Dt eo σ H Q:=fun⟨G,ta,M,K0,R,k,q⟩ p hp=>by
 have R1:=R.push (o:=.dic []) hp (H':=ax H p (.dK [])) (fun b x e=>by rw[az (cb e hp)];exact e) ⟨[],bu,.nil⟩;refine hr _ _ _ ⟨G,ta ++ [p],_,_,R1,k,fun ts M2 G2 vs H2 k2 R2 s2 e2=>?_⟩;have Bt:M2.tmp.length=ta.length+1:=by have:=R2.lt;simpa using this
 obtain⟨ho,k2⟩:=k2;have l0:=R.lt;rw[l0] at ho k2;have ha:adr F (ta ++ [p]) σ (.tmp ta.length)=some p:=by show(ta ++ [p])[ta.length]? = _;rw[TH (Tf _)];simp
 obtain⟨b,z1,⟨ae,z2,z3⟩,z4⟩:=R2.ob (.tmp ta.length) (.dic []) ho;rw[ha] at z1;cases z1;cases z3;refine⟨z2,(ks.zip vs).map (fun p=>(Sum.inr p.1,p.2)),by rw[map_map];rfl,by rw[Ta,length_zip];lia,?_⟩;have R3:=R2.chg (r:=.tmp ta.length) (o:=.dic []) (o':=.dic (oE [] (sS ks ts))) ho ha (H':=ax H2 p (.dK (lI [] ((ks.zip vs).map fun p=>(Sum.inr p.1,p.2))))) (fun b hb=>az hb) ⟨_,bu,(IsKs.zip e2).merge .nil⟩;have em:M2.tmp.set ta.length (.dic (oE [] (sS ks ts)))=M2.tmp.take ta.length ++ [.dic (oE [] (sS ks ts))]:=by rw[List.set_eq_take_append_cons_drop,Tt (by lia),U5 (by lia)]
 simp only [gE] at R3;rw[em] at R3;exact q _ _ G2 (ta ++ [p]) _ _ k2 R3 ⟨s2,[p],rfl⟩ ⟨p,ha,rfl⟩
noncomputable def kX (l:List Tv):List Tv:=(List.range l.length).zip l |>.map fun p=>.tup [.at (.int (p.1:Nat)),p.2]
theorem nk (l:List Tv):(kX l).length=l.length:=by unfold kX;simp
theorem yj {l:List Tv}{u:Tv}(h:(kX l)[i]? = some u):∃t,l[i]? = some t/\u = .tup [.at (.int (i:Nat)),t]:=by
 have hi:i<l.length:=by have:=(Tn.mp h).1;rw[nk] at this;exact this
 unfold kX at h;have e:((List.range l.length).zip l)[i]? = some (i,l[i]):=List.getElem?_zip_eq_some.mpr ⟨List.getElem?_range hi,Td hi⟩;rw[Ui,e] at h;exact⟨_,Td hi,by simpa using h.symm⟩
def Cc (wa:TW):b5:=fun M k=>wa M fun ev M1=>jn (eJ M.tmp.length M1 ev) fun t M2=>aP (Cp t) fun l=>k (kX l) M2
theorem LI.enu {R:It->Hp->Prop}:LI X.K F (Cc wa) σ H R->Dr X.K (jR (LE X.K F wa) iR) σ H R:=fun⟨G,ta,M,K0,R0,k,q⟩=>by
 refine⟨G,ta,M,_,R0,k,fun ev M1 G1 t1 v H1 k1 R1 s1 e1=>?_⟩;obtain⟨t,M2,h2,k1⟩:=jx k1;obtain⟨l,h3,k1⟩:=aN k1;obtain⟨G2,R2,s2,s2',t2⟩:=R1.frz R0.lt s1 e1 h2
 have pP:∀{G' H':Hp} {i:Nat} {t:Tv} {x:V} {T:Addr},Same G' H'->H' T=none->IsT X.K G' x t->∃ik,Same G' ik/\Same ik (ax H' T (.tup [.int (i:Nat),x]))/\Same H' (ax H' T (.tup [.int (i:Nat),x]))/\(∀a o,ik a=some o->G' a=some o∨H' a=none∨lr o)/\IsT X.K ik (.ref T) (.tup [.at (.int (i:Nat)),t]):=fun {G' H' i t x T} z2 hT hx=>by
  have sH:Same H' (ax H' T (.tup [.int (i:Nat),x])):=fun b y e=>by rw[az (cb e hT)];exact e
  have sG:Same G' (ax G' T (.tup [.int (i:Nat),x])):=fun b y e=>by rw[az (cb e (z2.free hT))];exact e
  refine⟨ax G' T (.tup [.int (i:Nat),x]),sG,fun b y e=>?_,sH,fun b y e=>?_,.tup bu (.cons (.at rfl) (.cons (hx.mono sG) .nil))⟩
  ·by_cases z:b=T
   ·subst z;rw[bu] at e ⊢;exact e
   ·rw[az z] at e ⊢;exact z2 _ _ e
  ·by_cases z:b=T
   ·subst z;exact .inr (.inl hT)
   ·rw[az z] at e;exact .inl e
 cases t2 with
 | «at» f => injection h3
 |dic h r=>injection h3
 |scr h r=>injection h3
 | @lst a vs _ h r=>
  cases h3;refine⟨a,rfl,.inl ⟨⟨vs,.of (R2.sub _ _ h)⟩,q _ _ G2 _ H1 k1 R2 s2.g ⟨fun i G' H' z1 z2 hi=>?_,fun G' H' z1 z2=>⟨vs,.of ((z1.trans z2) _ _ h),by rw[nk,r.len]⟩,fun i u G' H' x jy z1 z2 hu hy=>?_⟩⟩⟩
  ·rw[nk,<- r.len] at hi;exact⟨vs,vs[i],.of ((z1.trans z2) _ _ h),Td hi⟩
  ·obtain⟨t,ht,rfl⟩:=yj hu;obtain⟨T,x',rfl,hT,hx,rfl⟩:=hy;obtain⟨w,hw,hw'⟩:=r.get ht;have:=hx vs (.of ((z1.trans z2) _ _ h));rw[hw] at this;cases this;exact pP z2 hT (hw'.mono z1)
 | @tup a vs _ h r=>
  cases h3;refine⟨a,rfl,.inr ⟨⟨vs,.of (R2.sub _ _ h)⟩,q _ _ G2 _ H1 k1 R2 s2.g ⟨fun i G' H' z1 z2 hi=>?_,fun G' H' z1 z2=>⟨vs,.of ((z1.trans z2) _ _ h),by rw[nk,r.len]⟩,fun i u G' H' x jy z1 z2 hu hy=>?_⟩⟩⟩
  ·rw[nk,<- r.len] at hi;exact⟨vs,vs[i],.of ((z1.trans z2) _ _ h),Td hi⟩
  ·obtain⟨t,ht,rfl⟩:=yj hu;obtain⟨T,x',rfl,hT,hx,rfl⟩:=hy;obtain⟨w,hw,hw'⟩:=r.get ht;have:=hx vs (.of ((z1.trans z2) _ _ h));rw[hw] at this;cases this;exact pP z2 hT (hw'.mono z1)
 | @ktp a vs _ h r=>
  cases h3;refine⟨a,rfl,.inr ⟨⟨vs,R2.sub.tup h⟩,q _ _ G2 _ H1 k1 R2 s2.g ⟨fun i G' H' z1 z2 hi=>?_,fun G' H' z1 z2=>⟨vs,(z1.trans z2).tup h,by rw[nk,r.len]⟩,fun i u G' H' x jy z1 z2 hu hy=>?_⟩⟩⟩
  ·rw[nk,<- r.len] at hi;exact⟨vs,vs[i],(z1.trans z2).tup h,Td hi⟩
  ·obtain⟨t,ht,rfl⟩:=yj hu;obtain⟨T,x',rfl,hT,hx,rfl⟩:=hy;obtain⟨w,hw,hw'⟩:=r.get ht;have:=hx vs ((z1.trans z2).tup h);rw[hw] at this;cases this;exact pP z2 hT (hw'.mono z1)
noncomputable def xl:Tv->Tv->Rz
 | .lst l,.at (.int n)=>.cd ((-(2 ^ 63)<=n/\n<2 ^ 63)/\l.length*n.toNat<=16777216) (.n (.lst (List.replicate n.toNat l).flatten))
 |_,_=>.no
theorem IsTs.rep {ts:List Tv}(h:IsTs K G vs ts):∀n:Nat,IsTs K G (List.replicate n vs).flatten (List.replicate n ts).flatten
 | 0=>.nil
 |n+1=>by rw[US,US,UO,UO];exact h.app (IsTs.rep h n)
theorem MY:de K xl pC:=fun G H x y t u s Q sm h1 h2 e q=>by
 unfold xl at e
 split at e
 ·next l n=>
  cases e with|cd c=>
  obtain⟨a,vs,rfl,k1,r1⟩:=h1.lst sm;obtain⟨rfl,_⟩:=h2.at
  exact⟨a,n,vs,rfl,rfl,k1,c.1.1,c.1.2,by rw[TY,r1.len];exact c.2,kq (r1.rep _) q⟩
 ·cases e
def Cb (wd wk wz:TW):TW:=fun M k=>wd M fun x M1=>aP (rd M1 x) fun t1=>isD t1=true/\wk M1 fun y M2=>wz M2 fun z M3=>jn (eJ M.tmp.length M3 z) fun tz M4=>aP (rd M3 x) fun t=>aP (rd M3 y) fun u=>aP (qE u) fun kk=>aP (getT t kk tz) fun r=>k (.fz r) M4
where
 isD:Tv->Bool
  | .dic _=>true
  |_=>false
 getT:Tv->aw->Tv->Option Tv
  | .dic l,k,z=>some ((bZ l k).getD z)
  |_,_,_=>none
theorem LE.get {wd wk wz:TW}:LE X.K F (Cb wd wk wz) σ H Q->D5 (LE X.K F wd) (LE X.K F wk) (LE X.K F wz) σ H Q:=fun⟨G,ta,M,K0,R,k,q⟩=>by
 refine⟨G,ta,M,_,R,k,fun x M1 G1 t1 v1 H1 k1 R1 s1 e1=>?_⟩;obtain⟨d1,hd1,hD,k1⟩:=aN k1;have hr1:=R1.rd e1 hd1
 cases d1 with
 |dic l1=>
  obtain⟨a,kvs1,rfl,ha1,_⟩:=hr1.dic R1.sub;refine⟨a,rfl,.inl ⟨_,.inl ha1⟩,G1,t1,M1,_,R1,k1,fun y M2 G2 t2 v2 H2 k2 R2 s2 e2=>⟨G2,t2,M2,_,R2,k2,fun z M3 G3 t3 v3 H3 k3 R3 s3 e3=>?_⟩⟩;obtain⟨tz,M4,h4,k3⟩:=jx k3;obtain⟨t,ht,k3⟩:=aN k3;obtain⟨u,hu,k3⟩:=aN k3;obtain⟨kk,hk,k3⟩:=aN k3;obtain⟨r,hr,k3⟩:=aN k3;obtain⟨G4,R4,s4,s4',t4⟩:=R3.frz R.lt (s1.trans (s2.trans s3)) e3 h4
  cases t with
  |dic l=>
   cases hr;have hx:=R3.rd (e1.stp (s2.trans s3)) ht;obtain⟨b,ae,eb,hb,rb⟩:=hx.dic R3.sub;cases eb;have hy:=yV (R3.rd (e2.stp s3) hu) hk;subst hy;refine⟨bt ae kk,DGet.k hb,?_⟩
   cases z:bZ l kk with
   |none=>rw[rb.lookN z];rw[z] at k3;exact q _ _ G4 ta v3 H3 k3 R4 s4 t4
   |some w=>obtain⟨w',hw,hw'⟩:=rb.look z;rw[hw];rw[z] at k3;exact q _ _ G4 ta w' H3 k3 R4 s4 (hw'.mono s4')
  |_=>injection hr
 |_=>injection hD
end
section
def gL:V->List V->Hp->VK->Prop:=fun x vs H Q=>∃(l:Addr) (ns:List Str) (i:Str) (j:Nat),x = .ref l/\vs = [.str i]/\H l=some (.lst (ns.map V.str))/\ns[j]? = some i/\(∀m,m<j->ns[m]? ≠ some i)/\Q (.int (j:Nat)) H
theorem P8:rK X "list.index" gL:=by
 intro aa s σ H x vs v us Q I rx rv h;obtain⟨l,ns,i,j,rfl,rfl,hH,hj,fj,q⟩:=h;cases rx;obtain⟨u,rfl,ru⟩:=rv.one;obtain⟨tk,rfl⟩:=ru;obtain⟨z,af,n,r,hl,e⟩:=I.lstM hH;have hlen:af.length=ns.length:=by have:=r.length;rw[Ta] at this;exact this.symm
 have nZ:∀(m:Nat) (y:Value),af[m]? = some y->∃k t,ns[m]? = some k/\y = .str k t:=by
  intro m y hy;have hm:m<ns.length:=by rw[<- hlen];exact(Tn.mp hy).1
  obtain⟨u2,f2,r2⟩:=r.get (i:=m) (x:=.str ns[m]) (by rw[Ui,Td hm];rfl);rw[hy] at f2;cases f2;obtain⟨t,rfl⟩:=r2;exact⟨_,t,Td hm,rfl⟩
 have jl:j<af.length:=by rw[hlen];exact(Tn.mp hj).1
 have val:∀(m:Nat) (hm:m<af.toArray.size),∃k t,ns[m]? = some k/\af.toArray[m] = .str k t:=fun m hm=>by simp only [Ti] at hm;obtain⟨k,t,a1,a2⟩:=nZ m af[m] (Td hm);exact⟨k,t,a1,by simpa using a2⟩
 have hsz:=TY
 refine Vm F.slot_list_index ⟨_,e,rfl⟩ F.entry_list_index (F.args_list_index_2 _ _) (SeqAt.list_indexAt l af.toArray n none #[] (.str i tk) (fun y=>match y with | .str k _=>k==i|_=>false) j (by simpa using jl) (by
  rw[Ta] at z
  lia) ?_ ?_) ⟨e,?_,?_⟩
 ·obtain⟨k,t,a1,a2⟩:=val j (by simpa using jl);rw[a2];rw[hj] at a1;cases a1;exact UW _
 ·intro m hm hmj;obtain⟨k,t,a1,a2⟩:=val m hm;rw[a2];show(k==i)=false;rw[Ux];intro w;subst w;exact fj m hmj a1
 ·intro y hy;obtain⟨m,hm,rfl⟩:=Array.mem_iff_getElem.mp hy;obtain⟨k,t,a1,a2⟩:=val m hm;rw[a2];exact nt (y:=.str k) (x:=.str i) ⟨t,rfl⟩ ⟨tk,rfl⟩ rfl rfl
 ·exact⟨.int (j:Nat),H,I.tok _,⟨_,rfl⟩,q⟩
theorem RT:gH X (.type "dict") (fun xs H Q=>∃(p:Addr) (ae:List (aw×V)),xs = [.ref p]/\H p=some (.dK ae)/\∀a,H a=none->Q (.ref a) (ax H a (.dK ae))):=by intro aa s σ H xs us Q I r h;obtain⟨p,ae,rfl,hp,q⟩:=h;obtain⟨u,rfl,rx⟩:=iN r;cases rx;exact O3 I (Rd.of hp) fun a s' ha I'=>⟨.ref a,_,I',rfl,q a ha⟩
end
end L2
namespace HT
open PySem PySem.Spec PyProof.Rows
variable {w:World}{prog:Program}{sl:Addr}{items:Array Value}
section
variable {A:Around}{E:am}{s:Shared}
theorem QY (n:Nat):Builtin.Slice.sliceAdjust none none (-1) (n:Int)=((n:Int)-1,-1):=by unfold Builtin.Slice.sliceAdjust;simp
theorem QX (n:Nat):Builtin.Slice.slicePlaces ((n:Int)-1) (-1) (-1)=n:=by
 unfold Builtin.Slice.slicePlaces;simp
 split <;> lia
theorem Sy {t:Tok}{n:Nat}{Q:Int×Int×Nat->Shared->Prop}(hs:s.heap.IsSliceOf sl .none .none (.int (-1) t))
  (h:Q ((n:Int)-1,-1,n) s):wpAny (model prog w) A (Builtin.Slice.sliceApplied (.ref sl) (pure (n:Int))) Q E s:=by
 obtain⟨os,hos,cR,hds⟩:=id hs;unfold Builtin.Slice.sliceApplied Builtin.Slice.sliceFields;refine S6 (S6 (TV hos hds (x:=.none) rfl (S6 (TV hos hds (x:=.none) rfl (S6 (TV hos hds (x:=.int (-1) t) rfl (Tj ?_)))))));refine S6 (slicePart_int ?_);show wpAny _ _ (if ((-1:Int)==0)=true then _ else _) _ _ s;rw[Tp (by decide)];refine S6 (slicePart_none (S6 (slicePart_none (S6 (Tj ?_)))));show wpAny _ _ (match Builtin.Slice.sliceAdjust none none (-1) (n:Int) with | (lo,hi)=>pure (lo,(-1:Int),Builtin.Slice.slicePlaces lo hi (-1))) _ _ s;rw[QY n];show wpAny _ _ (pure ((n:Int)-1,(-1:Int),Builtin.Slice.slicePlaces ((n:Int)-1) (-1) (-1))) _ _ s;rw[QX];exact Tj h
theorem OR (xs:Array Value):((List.range xs.size).filterMap fun(m:Nat)=>xs[((xs.size:Int)-1+(m:Int)*(-1)).toNat]?).toArray=xs.toList.reverse.toArray:=by
 have e:(fun(m:Nat)=>xs[((xs.size:Int)-1+(m:Int)*(-1)).toNat]?)=(fun k:Nat=>xs[k]?)∘fun m=>xs.size-1-m:=by
  funext m
  show _=xs[xs.size-1-m]?
  by_cases hm:m<xs.size
  ·have h1:((xs.size:Int)-1+(m:Int)*(-1)).toNat=xs.size-1-m:=by lia
   rw[h1]
  ·have h1:((xs.size:Int)-1+(m:Int)*(-1)).toNat=0:=by lia
   have h2:xs.size-1-m=0:=by lia
   rw[h1,h2]
 rw[e,<- List.filterMap_map,PySem.W.krv_range,List.filterMap_reverse,PySem.W.krv_all]
theorem getItem_tuple_rev {t:Addr}{tk:Tok}{Q:am}(ht:IsTup s.heap t items)(hs:s.heap.IsSliceOf sl .none .none (.int (-1) tk))
  (h:Q (.ref s.heap.objs.size) { s with heap:=s.heap.push { cls:=.type "tuple",data:=.seq items.toList.reverse.toArray } })
  (hsz:items.size<=sizeLine):wpAny (model prog w) A (getItem (.ref t) (.ref sl)) Q E s:=by
 have cF:sizeOk (.seq items.toList.reverse.toArray):=by show(items.toList.reverse).toArray.size<=sizeLine;rw[Ti,Uu,Array.length_toList];lia
 obtain⟨os,hos,cR,hds⟩:=id hs;have ql:s.TypeIs (.ref sl) "slice":=⟨os,hos,cR⟩;unfold getItem
 try with_reducible refine UR ?_
 first|refine S6 (Tj ?_)|skip
 refine S6 (wpAny_sequenceKey ht.typeIs (by decide) ?_)
 refine S6 (T6 (name:=Str.ofString "__getitem__") ht.typeIs Uc
  (Ud Uc ht.typeIs entry_tuple_getitem ?_ (args_tuple_getitem _ _)))
 show wpAny _ _ (Builtin.Tuple.tupleItemsOf (.ref t) >>= _) _ _ s;refine S6 (tupleItemsOf_ ht ?_);refine S6 (wpAny_typeOf ql ?_);rw[Tt (by decide)];refine S6 (Sy hs ?_);have fj:¬ ((((items.size:Int)-1)==0&&(-1:Int)==1&&items.size==items.size)=true):=by intro q;rw[S5,S5] at q;exact absurd q.1.2 (by decide)
 show wpAny _ _ (if (((items.size:Int)-1)==0&&(-1:Int)==1&&items.size==items.size)=true then _ else _) _ _ s;rw[Tp fj,OR]
 first
  |exact S6 (m:=Builtin.Tuple.tupleExact _) (TZ (Tj ⟨_,rfl,Tj h⟩) cF)
  |exact S6 (m:=Builtin.Tuple.tupleExact _) (TZ (S6 (Tj (Tj ⟨_,rfl,Tj h⟩))) cF)
  |exact S6 (S6 (m:=Builtin.Tuple.tupleExact _) (TZ (Tj (Tj ⟨_,rfl,Tj h⟩)) cF))
  |exact S6 (S6 (m:=Builtin.Tuple.tupleExact _) (TZ (Tj ⟨_,rfl,Tj h⟩) cF))
end
end HT
namespace L2
open PySem PySem.Spec PyProof.Rows
variable {H G:Hp}{a:Addr}{F:Fr}{e:Expr}{X:Cx}{aa:List (Addr×Obj)}{σ:St}{M:Ms}{i j m:Nat}{Q:VK}{K:W.Frag}{te:TE}{vs:List V}{af:List Value}{p2:Pos}{N':List Str}{wa:TW}{au:List Nat}{bY:Bool}
section
theorem MX {st:Expr}{ts:TE}{pos:Pos}(he:PE X e te)(gV:PE X st ts):PE X (.Subscript e (.Slice none none (some st) p2) pos)
  (fun σ H Q=>te σ H fun x H1=>ts σ H1 fun y H2=>y = .int (-1)/\∃a xs,x = .ref a/\SqT X.K H2 a xs/\∀p,H2 p=none->Q (.ref p) (ax H2 p (.tup xs.reverse))):=by
 intro aa s σ H Q I h;refine Subscript_ (ay (he aa s σ H _ I h) fun v s1 ⟨x,H1,I1,r1,q1⟩=>?_);refine wpAny_Slice ?_;rw[evalPart_none];refine Tj (Tj ?_);rw[evalPart_some];refine ay (gV aa s1 σ H1 _ I1 q1) fun vs s3 ⟨y,H3,I3,ry,ey,a,xs,ex,hx,q⟩=>?_;subst ey ex;cases r1;obtain⟨t,rfl⟩:=ry;have I4:Inv X aa σ H3 { s3 with heap:=s3.heap.push { cls:=.type "slice",data:=.fields #[.none,.none,.int (-1) t] } }:=I3.kept (t':=s3.toks) fun b ob q=>S7 _ q;obtain⟨af,r,ht,hz⟩:=I4.tuple hx;have hlen:=r.length;refine tail_any (ops:=[.ref a,.ref s3.heap.objs.size]) ht.typeIs PyProof.Rows.slot_tuple_getitem.lookup (HT.getItem_tuple_rev ht (Heap.IsSliceOf.new ..) ?_ (by rw[Ti] <;> lia)) (by with_unfolding_all rfl);refine⟨.ref _,_,I4.laid (t':=s3.toks) (o:=.tup xs.reverse) (fun b ob q=>S7 _ q) (Tf _) ?_,rfl,q _ (I4.hok.fresh (Tf _))⟩;refine⟨by rw[Uu];exact hz,af.reverse,r.reverse,?_⟩;rw[show(af.toArray.toList.reverse).toArray=af.reverse.toArray by simp];exact IsTupN.new _ _
end
section
noncomputable def xk:Ob->List Tv->Option (Prop×Ob×Tv)
 | .lst l,[.lst m]=>some (l.length+m.length<=16777216,.lst (l++m),.at .non)
 | .lst l,[.tup m]=>some (l.length+m.length<=16777216,.lst (l++m),.at .non)
 |_,_=>none
def kF:V->List V->Hp->VK->Prop:=fun x vs H Q=>gM x vs H Q∨fK x vs H Q
theorem MW:rL X "list.extend" kF:=fun aa s σ H x xs v us Q I rx rv h=>by
 rcases h with h|h
 ·exact Qm aa s σ H x xs v us Q I rx rv h
 ·exact Q3 aa s σ H x xs v us Q I rx rv h
theorem MV:tE K xk kF:=fun G H a o o' t ts vs Q sm h hg ht e q=>by
 obtain⟨c,hl,e⟩:=e;unfold xk at e
 split at e
 ·next l m=>
  cases e;obtain⟨ws,e1,e2⟩:=h
  cases ht with
  |cons k1 k2=>
   cases k2
   cases k1 with
   | @lst b zs _ h r=>exact .inl ⟨a,b,ws,zs,rfl,rfl,e1,sm _ _ h,by rw[TY,e2.len,r.len];exact hl,q _ _ (fun b hb=>az hb) ⟨_,bu,e2.app r⟩ (.at rfl)⟩
 ·next l m=>
  cases e;obtain⟨ws,e1,e2⟩:=h
  cases ht with
  |cons k1 k2=>
   cases k2
   cases k1 with
   | @tup b zs _ h r=>exact .inr ⟨a,b,ws,zs,rfl,rfl,e1,sm _ _ h,by rw[TY,e2.len,r.len];exact hl,q _ _ (fun b hb=>az hb) ⟨_,bu,e2.app r⟩ (.at rfl)⟩
 ·injection e
noncomputable def Ca:Bool->Tv->Rz
 |false,.lst l=>.ok (.n (.lst l.reverse))
 |true,.tup l=>.ok (.v (.tup l.reverse))
 |_,_=>.no
theorem KQ {b:Bool}{p1 p3 pos:Pos}(h:PE X e (LE X.K F wa)):PE X (.Subscript e (.Slice none none (some (.UnaryOp .USub (.Constant (.int 1) j p1) p2)) p3) pos) (LE X.K F (kz (Ca b) wa)):=by
 have gV:PE X (.UnaryOp .USub (.Constant (.int 1) j p1) p2) (pd (rU fun i=>.int (-i)) (tC (.int 1))):=x4 yw iC
 cases b with
 |false=>
  refine(Ld h gV).imp fun σ H Q ⟨G,ta,M,K0,R,k,q⟩=>⟨G,ta,M,_,R,k,fun x M1 G1 t1 v1 H1 k1 R1 s1 e1=>?_⟩;obtain⟨t,ht,k1⟩:=aN k1;obtain⟨s,hs,k1⟩:=kr k1;have hr:=R1.rd e1 ht;refine⟨1,rfl,rfl,?_⟩
  cases t with
  |lst l=>cases hs;obtain⟨a,vs,rfl,ha,r⟩:=hr.lst R1.sub;exact⟨a,vs,rfl,.of ha,kq r.rev (R1.done R.lt s1 k1 q)⟩
  |_=>cases hs
 |true=>
  refine(MX h gV).imp fun σ H Q ⟨G,ta,M,K0,R,k,q⟩=>⟨G,ta,M,_,R,k,fun x M1 G1 t1 v1 H1 k1 R1 s1 e1=>?_⟩;obtain⟨t,ht,k1⟩:=aN k1;obtain⟨s,hs,k1⟩:=kr k1;have hr:=R1.rd e1 ht;refine⟨1,rfl,rfl,?_⟩
  cases t with
  |tup l=>cases hs;obtain⟨a,vs,rfl,ha,r⟩:=hr.tup R1.sub;exact⟨a,vs,rfl,.of ha,yX R1.sub r.rev (R1.done R.lt s1 k1 q)⟩
  |_=>cases hs
noncomputable def JH:Tv->Bool
 | .lst _=>true
 |_=>false
def B9 (wa:TW)(wr:b5):TW:=fun M k=>wa M fun x M1=>aP (rd M1 x) fun t1=>JH t1=true/\wr M1 fun ts M2=>aP (rd M2 x) fun t=>∃(ns:List Str) (i:Str) (j:Nat),t = .lst (ns.map fun s=>.at (.str s))/\ts = [.at (.str i)]/\ns[j]? = some i/\(∀m,m<j->ns[m]? ≠ some i)/\k (.fz (.at (.int (j:Nat)))) (M2.cut M.tmp.length)
theorem E5:∀{ns:List Str},IsTs K G vs (ns.map fun s=>.at (.str s))->vs=ns.map V.str:=by
 induction vs with
 |nil=>intro ns h;cases ns with|nil=>rfl|cons _ _=>cases h
 |cons v vs ih=>
  intro ns h
  cases ns with
  |nil=>cases h
  |cons n ns=>cases h with|cons a b=>cases a;rw[ih b];rfl
theorem LE.idx {n:Nat}{wr:b5}:LE X.K F (B9 wa wr) σ H Q->u6 X.K "list" gL (LE X.K F wa) (LF X.K F n wr) σ H Q:=fun⟨G,ta,M,K0,R,k,q⟩=>by
 refine⟨G,ta,M,_,R,k,fun x M1 G1 t1 v H1 k1 R1 s1 e1=>?_⟩;obtain⟨u,hu,hl,k1⟩:=aN k1;have hr:=R1.rd e1 hu
 cases u with
 |lst l=>
  obtain⟨a,vs,rfl,ha,_⟩:=hr.lst R1.sub;refine⟨.inl ⟨rfl,_,SqL.of ha⟩,G1,t1,M1,_,R1,k1,fun ts M2 G2 ws H2 k2 R2 s2 e2 _=>?_⟩;obtain⟨t,ht,ns,i,j,rfl,rfl,h1,h2,k2⟩:=aN k2;have hr2:=R2.rd (e1.stp ⟨s2,[],by simp⟩) ht;obtain⟨b,vs2,eb,hb,r2⟩:=hr2.lst R2.sub;cases eb;rw[E5 r2] at hb
  cases e2 with
  |cons c1 c2=>cases c2;cases c1;exact⟨a,ns,i,j,rfl,rfl,hb,h1,h2,q _ _ G2 ta _ H2 k2 (R2.cutTo R.lt ⟨s1.g.trans s2,s1.t⟩) ⟨s1.g.trans s2,[],by simp⟩ (.at rfl)⟩
 |_=>injection hl
end
mutual
inductive TvTh:Tv->Th->Prop where
 |at {v:V} (h:yo v=true):TvTh (.at v) (.at v)
 |tup {l:List Tv} {m:List Th} (h:TvThs l m):TvTh (.tup l) (.tup m)
 |lst {l:List Tv} {m:List Th} (h:TvThs l m):TvTh (.lst l) (.lst m)
inductive TvThs:List Tv->List Th->Prop where
 |nil:TvThs [] []
 |cons {t:Tv} {u:Th} {l:List Tv} {m:List Th} (h:TvTh t u) (r:TvThs l m):TvThs (t::l) (u::m)
end
section
mutual
theorem TvTh.is:∀{t:Tv} {u:Th} {v:V},TvTh t u->IsT K H v t->fZ H v u
 |_,_,_,.at h,.at f=>.at h
 |_,_,_,.tup h,.tup e r=>.tup e (TvThs.is h r)
 |_,_,_,.lst h,.lst e r=>.lst e (TvThs.is h r)
theorem TvThs.is:∀{l:List Tv} {m:List Th} {vs:List V},TvThs l m->IsTs K H vs l->dU H vs m
 |_,_,_,.nil,.nil=>.nil
 |_,_,_,.cons h r,.cons e s=>.cons (TvTh.is h e) (TvThs.is r s)
end
def Dg (t:Tv):Rz:=.ex fun r=>∃u,isRf t=true/\TvTh t u/\(aR u).showable=true/\(aR u).depth<=60/\(aR u).shown.length<=16777216/\r=vS (aR u).shown
where isRf:Tv->Bool
 | .at _=>false
 |_=>true
def KP (n:Nat):V->Hp->VK->Prop:=fun x H Q=>∃(a:Addr) (t:Th),x = .ref a/\fZ H (.ref a) t/\(aR t).showable=true/\n+((aR t).depth+1)<cLine/\(aR t).shown.length<=sizeLine/\Q (.str (aR t).shown) H
theorem OQ {n:Nat}(hn:n+64<cLine):iM K Dg (KP n):=fun G H x t s Q sm h1 e q=>by
 cases e with
 |ex h=>
  obtain⟨u,hr,ht,h2,h3,h4,rfl⟩:=h;have hx:=h1.up sm;have hu:=ht.is hx
  have:∃a,x = .ref a:=by
   cases hx with
   | «at» f => injection hr
   |_=>exact⟨_,rfl⟩
  obtain⟨a,rfl⟩:=this;exact⟨a,u,rfl,hu,h2,by lia,by rw[TY];exact h4,cm sm (.at (T8 h4)) q⟩
end
def sL (bY:Bool):Tv->Tv->Rz
 | .lst l,.lst []=>.ok (vB (xor bY l.isEmpty))
 |_,_=>.no
def xj (K:W.Frag)(bY:Bool):R2:=fun x y H Q=>∃a b xs,x = .ref a/\y = .ref b/\SqL K H a xs/\SqL K H b []/\Q (.bl (xor bY xs.isEmpty)) H
theorem E4:de K (sL bY) (xj K bY):=fun G H x y t u s Q sm h1 h2 e q=>by
 unfold sL at e
 split at e
 ·next l=>
  cases e;obtain⟨a,vs,rfl,k1,r1⟩:=h1.lst sm;obtain⟨b,ws,rfl,k2,r2⟩:=h2.lst sm;cases r2;have hl:vs.isEmpty=l.isEmpty:=by cases r1 <;> rfl
  refine⟨a,b,_,rfl,rfl,.of k1,.of k2,?_⟩;rw[hl];exact cm sm (.at rfl) q
 ·cases e
section
theorem KO (hu:X.A.units<cLine):OpR X (compareOp .Eq) (xj X.K false):=fun aa s σ H x y v u Q I rx ry ⟨a,b,xs,h1,h2,h3,h4,q⟩=>Qe hu aa s σ H x y v u Q I rx ry ⟨a,b,xs,h1,h2,h3,h4,by simpa using q⟩
theorem KN (hu:X.A.units<cLine):OpR X (compareOp .NotEq) (xj X.K true):=by
 intro aa s σ H x y v u Q I rx ry h;obtain⟨a,b,xs,rfl,rfl,hx,hy,q⟩:=h;cases rx;cases ry;obtain⟨af,r,pl,hz⟩:=I.list hx;obtain⟨aA,r2,du,hz2⟩:=I.list hy;have hl:=r.length;have hl2:=r2.length
 cases xs with
 |nil=>
  refine SeqAt.RcNeAt.lists (e:=fun _=>true) pl.isList du.isList (by simp only [Ti];simp at hl hl2;lia) hu (fun j h1 h2=>?_) X.prog X.w _ _ ?_
  ·simp only [Ti] at h1;simp at hl;lia
  ·refine bH I q ?_;rw[Ti,<- hl];rfl
 |cons z zs=>refine SeqAt.RcNeAt.lists_lengths pl.isList du.isList (by simp only [Ti,bne_iff_ne];simp at hl hl2;lia) hu X.prog X.w _ _ ?_;exact bH I q rfl
end
mutual
noncomputable def cI:Tv->Tv->Bool
 | .at v,.at w=>ft v w
 | .tup l,.tup m=>d8 l m
 | .lst l,.lst m=>d8 l m
 |_,_=>false
noncomputable def d8:List Tv->List Tv->Bool
 |[],[]=>true
 |t::l,u::m=>cI t u&&d8 l m
 |_,_=>false
end
inductive fm:Nat->Tv->Tv->Prop where
 |at {n:Nat} {v w:V} (f:dz v=true) (g:dz w=true):fm n (.at v) (.at w)
 |tup {n:Nat} {l m:List Tv} (h:∀(j:Nat) (t u:Tv),l[j]? = some t->m[j]? = some u->fm n t u):fm (n+1) (.tup l) (.tup m)
 |lst {n:Nat} {l m:List Tv} (h:∀(j:Nat) (t u:Tv),l[j]? = some t->m[j]? = some u->fm n t u):fm (n+1) (.lst l) (.lst m)
theorem Gv:∀(ts us:List Tv),((List.range (min ts.length us.length)).all (fun j=>cI (ts.getD j (.at .non)) (us.getD j (.at .non)))&&ts.length==us.length)=d8 ts us
 |[],[]=>by unfold d8;rfl
 |[],_::_=>by unfold d8;simp
 |_::_,[]=>by unfold d8;simp
 |t::ts,u::us=>by have ih:=Gv ts us;unfold d8;rw[<- ih];simp only [Tz,Nat.add_min_add_right,List.range_succ_eq_map,all_cons,List.all_map,Bool.and_assoc];simp [Function.comp_def]
section
variable {s:Shared}
theorem Gu {n:Nat}(ih:∀{v:V} {t u:Tv},fm n t u->IsT X.K H v t->IsT X.K H v u->cI t u=true):∀(vs:List V) {ts us:List Tv},(∀(j:Nat) (t u:Tv),ts[j]? = some t->us[j]? = some u->fm n t u)->IsTs X.K H vs ts->IsTs X.K H vs us->d8 ts us=true:=by
 intro vs
 induction vs with
 |nil=>intro ts us _ h h';cases h;cases h';unfold d8;rfl
 |cons v vs ihv=>
  intro ts us hs h h'
  cases h with
  |cons a b=>
   cases h' with
   |cons a' b'=>unfold d8;rw[ih (hs 0 _ _ rfl rfl) a a',ihv (fun j t u h1 h2=>hs (j+1) t u h1 h2) b b'];rfl
theorem FW (I:Inv X aa σ H s):∀(n:Nat) {v:V} {t u:Tv},fm n t u->IsT X.K H v t->IsT X.K H v u->cI t u=true:=by
 intro n
 induction n with
 |zero=>
  intro v t u hs h h'
  cases hs with
  | «at» f g =>cases h;cases h';unfold cI;exact F2 f
 |succ n ih=>
  intro v t u hs h h'
  cases hs with
  | «at» f g =>cases h;cases h';unfold cI;exact F2 f
  |tup hs=>
   cases h with
   |tup a r=>
    cases h' with
    |tup a' r'=>have e:=I.tuple_inj (SqT.of a) (SqT.of a');subst e;unfold cI;exact Gu ih _ hs r r'
  |lst hs=>
   cases h with
   |lst a r=>
    cases h' with
    |lst a' r'=>have e:=I.list_inj (SqL.of a) (SqL.of a');subst e;unfold cI;exact Gu ih _ hs r r'
theorem DX {n:Nat}{A:Around}{ws:List V}{ts us:List Tv}{aA:List Value}(hs:∀(j:Nat) (t u:Tv),ts[j]? = some t->us[j]? = some u->fm n t u)(r:IsTs X.K H vs ts)(r':IsTs X.K H ws us)(v1:Vals vs af)(v2:Vals ws aA)
  (ih:∀{x y:V} {t u:Tv} {v w:Value},fm n t u->IsT X.K H x t->IsT X.K H y u->RelV x v->RelV y w->SeqAt.EqAt A s v w (cI t u)):
  (∀j (h1:j<af.toArray.size) (h2:j<aA.toArray.size),SeqAt.EqAt A s af.toArray[j] aA.toArray[j] ((fun j=>cI (ts.getD j (.at .non)) (us.getD j (.at .non))) j)) ∧
  ((List.range (min af.toArray.size aA.toArray.size)).all (fun j=>cI (ts.getD j (.at .non)) (us.getD j (.at .non)))&&af.toArray.size==aA.toArray.size)=d8 ts us:=by
 have l1:=v1.length;have l2:=v2.length;have l3:=r.len;have l4:=r'.len;constructor
 ·intro j h1 h2
  simp only [Ti] at h1 h2;have f1:ts[j]? = some ts[j]:=Td (by lia);have f2:us[j]? = some us[j]:=Td (by lia);obtain⟨x1,g1,p1⟩:=r.get f1;obtain⟨x2,g2,p2⟩:=r'.get f2;obtain⟨u1,e1,ru1⟩:=v1.get g1;obtain⟨u2,e2,ru2⟩:=v2.get g2
  have k1:af.toArray[j]=u1:=by
   have:af[j]? = some af[j]:=Td h1;rw[e1] at this
   simpa using (Tw this).symm
  have k2:aA.toArray[j]=u2:=by
   have:aA[j]? = some aA[j]:=Td h2;rw[e2] at this
   simpa using (Tw this).symm
  rw[k1,k2];show SeqAt.EqAt A s u1 u2 (cI (ts.getD j (.at .non)) (us.getD j (.at .non)));rw[show ts.getD j (.at .non)=ts[j] by simp [List.getD,f1],show us.getD j (.at .non)=us[j] by simp [List.getD,f2]];exact ih (hs j _ _ f1 f2) p1 p2 ru1 ru2
 ·rw[Ti,Ti,<- l1,<- l2,l3,l4];exact Gv ts us
theorem E3 {n:Nat}{A:Around}{b:Addr}{ws:List V}{ts us:List Tv}{aA:List Value}(hu:A.units<cLine)(hs:∀(j:Nat) (t u:Tv),ts[j]? = some t->us[j]? = some u->fm n t u)(r:IsTs X.K H vs ts)(r':IsTs X.K H ws us)(v1:Vals vs af)(v2:Vals ws aA)(pl:s.heap.IsList a af.toArray)(du:s.heap.IsList b aA.toArray)
  (ih:∀{x y:V} {t u:Tv} {v w:Value},fm n t u->IsT X.K H x t->IsT X.K H y u->RelV x v->RelV y w->SeqAt.EqAt A.in1 s v w (cI t u)):SeqAt.RcAt A s (.ref a) (.ref b) (d8 ts us):=by
 obtain⟨e1,e2⟩:=DX (A:=A.in1) hs r r' v1 v2 ih
 by_cases hz:af.length=aA.length
 ·have:d8 ts us=(List.range af.toArray.size).all (fun j=>cI (ts.getD j (.at .non)) (us.getD j (.at .non))):=by
   rw[<- e2];simp [hz]
  rw[this];exact SeqAt.RcAt.lists pl du (by simp only [Ti];exact hz) hu e1
 ·have:d8 ts us=false:=by rw[<- e2];simp [hz]
  rw[this];exact SeqAt.RcAt.lists_lengths pl du (by simp only [Ti,bne_iff_ne];exact hz) hu
theorem MU (I:Inv X aa σ H s):∀(n:Nat) (A:Around),A.units+n<cLine->∀{x y:V} {t u:Tv} {v w:Value},fm n t u->IsT X.K H x t->IsT X.K H y u->RelV x v->RelV y w->SeqAt.EqAt A s v w (cI t u):=by
 intro n
 induction n with
 |zero=>
  intro A hu x y t u v w hs hx hy rx ry
  cases hs with
  | «at» f g => cases hx; cases hy; unfold cI; exact nt rx ry f g
 |succ n ih=>
  intro A hu x y t u v w hs hx hy rx ry;have BB:A.units<cLine:=by lia
  have jE:A.in1.units+n<cLine:=by show A.units+1+n<cLine;lia
  have hs0:=hs
  cases hs with
  | «at» f g => cases hx; cases hy; unfold cI; exact nt rx ry f g
  |tup hs=>
   have hx0:=hx
   cases hx with
   | @tup a vs _ h r=>
    have hy0:=hy
    cases hy with
    | @tup b ws _ h' r'=>
     cases rx;cases ry
     by_cases j9:a=b
     ·subst j9;rw[FW I _ hs0 hx0 hy0];exact SeqAt.EqAt.same _
     ·obtain⟨af,v1,pl,_⟩:=I.tuple (SqT.of h);obtain⟨aA,v2,du,_⟩:=I.tuple (SqT.of h');obtain⟨e1,e2⟩:=DX (A:=A.in1) hs r r' v1 v2 (fun hs hx hy rx ry=>ih A.in1 jE hs hx hy rx ry);unfold cI;rw[<- e2];exact SeqAt.EqAt.of_refs j9 (SeqAt.RcAt.tuples pl du BB e1)
  |lst hs=>
   have hx0:=hx
   cases hx with
   | @lst a vs _ h r=>
    have hy0:=hy
    cases hy with
    | @lst b ws _ h' r'=>
     cases rx;cases ry
     by_cases j9:a=b
     ·subst j9;rw[FW I _ hs0 hx0 hy0];exact SeqAt.EqAt.same _
     ·obtain⟨af,v1,pl,_⟩:=I.list (SqL.of h);obtain⟨aA,v2,du,_⟩:=I.list (SqL.of h');unfold cI;exact SeqAt.EqAt.of_refs j9 (E3 BB hs r r' v1 v2 pl.isList du.isList (fun hs hx hy rx ry=>ih A.in1 jE hs hx hy rx ry))
end
def xh:Tv->Tv->Rz
 | .lst l,.lst m=>.cd (∀(j:Nat) (t u:Tv),l[j]? = some t->m[j]? = some u->fm 50 t u) (vB (d8 l m))
 |_,_=>.no
def Df (K:W.Frag):R2:=fun x y H Q=>∃a b vs ws l m,x = .ref a/\y = .ref b/\H a=some (.lst vs)/\H b=some (.lst ws)/\IsTs K H vs l/\IsTs K H ws m/\(∀(j:Nat) (t u:Tv),l[j]? = some t->m[j]? = some u->fm 50 t u)/\Q (.bl (d8 l m)) H
theorem OP:de K xh (Df K):=fun G H x y t u s Q sm h1 h2 e q=>by
 unfold xh at e
 split at e
 ·next l m=>
  cases e with|cd c=>
  obtain⟨a,vs,rfl,k1,r1⟩:=h1.lst sm;obtain⟨b,ws,rfl,k2,r2⟩:=h2.lst sm;exact⟨a,b,_,_,_,_,rfl,rfl,k1,k2,r1.mono sm,r2.mono sm,c,cm sm (.at rfl) q⟩
 ·cases e
theorem MT (hu:X.A.units+64<cLine):OpR X (compareOp .Eq) (Df X.K):=by intro aa s σ H x y v u Q I rx ry h;obtain⟨a,b,vs,ws,l,m,rfl,rfl,h1,h2,r1,r2,hs,q⟩:=h;cases rx;cases ry;obtain⟨af,v1,pl,_⟩:=I.list (SqL.of h1);obtain⟨aA,v2,du,_⟩:=I.list (SqL.of h2);exact E3 (A:=X.A) (by lia) hs r1 r2 v1 v2 pl.isList du.isList (fun hs hx hy rx ry=>MU I 50 X.A.in1 (by show X.A.units+1+50<cLine;lia) hs hx hy rx ry) X.prog X.w _ _ (bH I q rfl)
def xg (M:Ms)(i:Nat):Option (Rf×List Tv):=match ke M i with
 |some (.loc j)=>match aF M (.loc j) with
  |some (.lst ts)=>some (.loc j,ts)
  |_=>none
 |some (.out j)=>match aF M (.out j) with
  |some (.lst ts)=>some (.out j,ts)
  |_=>none
 |_=>none
def yi (au:List Nat)(own i:Nat)(p:Tv->Ms->Option Ms)(wt:cU)(we:TW):TW:=fun M k=>match xg M i with
 |some (r,ts)=>ts.length<=16777216/\aP (qP M au) fun eD=>aP (oG M.tmp.length M eD) fun rs=>(lj rs&&m9 r rs)=true ∧
   aY p wt we (fun ys Mb=>aP (fY (rs.map (·.1)) Mb.out) fun ss=>qG M.tmp.length (wb M rs ss) k (.own (.lst ys))) ts [] (aU (au.length+own) (rs.map (·.1)))
 |none=>xU au own (uY (oo i)) p wt we M k
theorem MS {r:Rf}{ts:List Tv}(h:xg M i=some (r,ts)):aF M r=some (.lst ts)/\((r = .loc i/\ke M i=some (.loc i))∨∃k,r = .out k/\ke M i=some (.out k)):=by
 unfold xg at h
 split at h
 ·next j e=>
  have hj:j=i:=by
   unfold ke at e
   split at e <;> cases e
   rfl
  subst hj
  split at h
  ·next ts' e2=>cases h;exact⟨e2,.inl ⟨rfl,e⟩⟩
  ·injection h
 ·next j e=>
  split at h
  ·next ts' e2=>cases h;exact⟨e2,.inr ⟨j,rfl,e⟩⟩
  ·injection h
 ·injection h
section
theorem LE.compV {i0:Nat}{p:Tv->Ms->Option Ms}{wt:cU}{we:TW}(hN:N'.length=au.length+m){σ:St}{H:Hp}{Q:VK}:
  LE X.K F (yi au m i0 p wt we) σ H Q->tJ (au.map some++List.replicate m none) (xA X.K (LE X.K F (oo i0))) (rN X.K p) (rP X.K wt) (rO X.K we) σ H Q:=fun⟨G,ta,M,K0,R,k,q⟩=>by
 unfold yi at k
 split at k
 ·next r ts hr=>
  obtain⟨ho,hev⟩:=MS hr;have hw:oo i0 M fun ev M'=>M'=M/\ke M i0=some ev:=by unfold oo;rcases hev with ⟨_,e⟩|⟨k',_,e⟩ <;> (rw[e];exact⟨rfl,rfl⟩)
  refine⟨G,ta,M,_,R,hw,fun ev M1 G1 t1 v H1 hk R1 s1 e1=>?_⟩;obtain⟨rfl,hv⟩:=hk;obtain⟨a,ha,⟨wvs,hH,hts⟩,hg⟩:=R1.ob r _ ho
  have Iz:v = .ref a:=by
   rcases hev with ⟨rfl,e⟩|⟨k',rfl,e⟩
   ·rw[e] at hv;cases hv;obtain⟨h1,b,h2⟩:=e1;simp only [adr] at ha;subst h2;rw[h1] at ha;cases ha;rfl
   ·rw[e] at hv;cases hv;obtain⟨b,h1,h2⟩:=e1;simp only [adr] at ha;subst h2;rw[h1] at ha;cases ha;rfl
  refine⟨a,Iz,.inl ⟨⟨wvs,SqL.of hH⟩,?_⟩⟩;obtain⟨hts',k1⟩:=k;obtain⟨eD,h1,k1⟩:=aN k1;obtain⟨rs,h2,ok,k1⟩:=aN k1;rw[S5] at ok;obtain⟨vs,jf,e2⟩:=R1.vars h1;obtain⟨as,g1,g2,g3,g4⟩:=R1.args e2 h2 ok.1;have IL:a∉as:=fun hm=>by obtain⟨y,x,o,m1,m2,m3⟩:=g1.mem a hm;have:=R1.ij r x _ o a ho m2 ha m3;subst this;exact uM ok.2 y m1
  have pY:vs.length=au.length:=by have:=UP List.length jf;simpa using this.symm
  have hal:(rs.map (·.1)).length=au.length:=by rw[<- g2.len,pY]
  have st:oJ (au.map some++List.replicate m none) σ=gh N' vs:=by
   rw[FY,jf,FX,hN,pY]
   congr 2;lia
  have E:=Ak (N:=N') R1.sub g2 g3 (by rw[hal,hN];lia);rw[hN] at E;rw[st]
  refine⟨fun i n ys σc H=>n+i=ts.length/\ys.length<=i/\∃Gc Mb iQ,Rel X.K ⟨H1,G1,as⟩ Gc [] Mb σc H/\IsTs X.K Gc ys iQ/\Same G1 Gc/\aY p wt we (fun ys Mb=>aP (fY (rs.map (·.1)) Mb.out) fun ss=>qG M1.tmp.length (wb M1 rs ss) K0 (.own (.lst ys))) (ts.drop i) iQ Mb,
   ⟨ts.length,by lia,T3 _,G1,_,[],E,.nil,Same.refl _,k1⟩,?_⟩
  rintro i n ys σc H2 ⟨hn,j3,G2,Mb,iQ,R2,hy,s2,k2⟩;have v5:H2 a=some (.lst wvs):=R2.fra a _ hH IL;rcases U0 i ts.length with hi|hi
  ·right
   have ht:=Td hi;obtain⟨xi,hxi,nN⟩:=hts.get ht;refine⟨⟨wvs,xi,SqL.of v5,hxi⟩,by rw[TY];lia,fun x H' hx=>?_⟩;obtain⟨rfl,hx⟩:=hx;have hxx:=hx wvs (SqL.of v5);rw[hxi] at hxx;cases hxx;have z5:=nN.mono s2;rw[zG ht] at k2;obtain⟨M3,e3,k2⟩:=aN k2;refine⟨_,G2,Mb,_,M3,R2,z5,e3,fun σ4 R4=>⟨_,G2,[],M3,_,R4,k2,fun b M5 G5 H5 k5 R5 s5=>?_⟩⟩
   cases b with
   |true=>
    refine⟨_,G5,[],M5,_,R5,k5,fun ev M6 G6 t6 v H6 k6 R6 s6 e6=>?_⟩;obtain⟨t,M7,h7,k6⟩:=jx k6;have l5:M5.tmp.length=0:=R5.lt;have wg:eJ M5.tmp.length M6 ev=some (t,M7):=by rw[l5];exact h7
    obtain⟨G7,R7,s7,s7',t7⟩:=R6.frz R5.lt s6 e6 wg;exact⟨n-1,by lia,by lia,by simp;lia,G7,M7,_,R7,(hy.mono (s5.trans s7.g)).app (.cons t7 .nil),s2.trans (s5.trans s7.g),k6⟩
   |false=>exact⟨n-1,by lia,by lia,by lia,G5,M5,iQ,R5,hy.mono s5,s2.trans s5,k5⟩
  ·left
   have hi':i=ts.length:=by lia
   refine⟨⟨wvs,SqL.of v5,by rw[hts.len,hi'];exact Tf _⟩,fun l hl=>?_⟩;rw[U5 hi] at k2;obtain⟨ss,e3,k2⟩:=aN k2;have pO:M1.tmp.length=t1.length:=R1.lt;rw[pO] at g4 k2;have A2:Rel X.K F G1 (t1 ++ []) M1 σ H1:=by rw[TJ];exact R1
   have wx:RAs F (t1 ++ []) σ M1 rs vs as:=by rw[TJ];exact g1
   have B:=A2.back wx (R2.aps g2 e3) R2.post g4;have B2:=B.1.push (o:=.lst iQ) hl (H':=ax H2 l (.lst ys)) (fun b x e=>by rw[az (cb e hl)];exact e) ⟨ys,bu,hy⟩;refine q _ _ G2 (t1 ++ [l]) _ _ k2 (by rw[lH];exact B2) (s1.trans ⟨s2,[l],rfl⟩) ⟨l,?_,rfl⟩;rw[TH (Tf _)];simp
 ·exact LI.seq (LE.comp hN ⟨G,ta,M,K0,R,k,q⟩)
end
end L2
namespace HT
open PySem PySem.Spec PyProof.Rows
variable {a:Addr}{w:World}{prog:Program}
theorem RS:typeLookup (.type "list") "keys"=pure none:=by rw[UL,Uj];kernel_rfl
section
variable {A:Around}{E:am}
theorem getAttrQ_miss_list {s:Shared}{xs:Array Value}{k:Nat}{sl:Array (Option Value)}{Q:Option Value->Shared->Prop}
  (hx:s.heap.get? a=some { cls:=.type "list",dict:=none,data:=.seq xs k,slots:=sl }) (hA:A.handled=none)
  (h:∀h' tk,(∀b o,s.heap.get? b=some o->h'.get? b=some o)->Q none { s with heap:=h',toks:=tk }):
  wpAny (model prog w) A (getAttr? (.ref a) "keys") Q E s:=by
 obtain⟨hp,g,d,tk,os⟩:=s;have hT:∀Bf,(⟨hp,g,d,Bf,os⟩:Shared).TypeIs (.ref a) "list":=fun _=>⟨_,hx,rfl⟩;have f1:=sub_AttributeError;have f3:=F.slot_list_getattribute.lookup;have f4:=F.slot_list_getattribute.bind (.ref a);have f5:=am_list_getattr_none;unfold getAttr? getAttrBy? getAttrBy
 repeat (any_goals (first|assumption|exact hT _ | ((with_reducible show wpAny _ _ (call (Value.builtin "list.__getattribute__") _ _) _ _ _);refine Vm F.slot_list_getattribute (hT _) am_entry_list_getattribute (F.args_list_getattribute_2 _ _) (meets_getattribute_miss_list a xs k sl "keys" _ RS (by decide+kernel) (by decide+kernel)) ⟨hx,hA,fun h' Bf e fQ=>?_⟩)|wp_step))
 obtain⟨t',u',he⟩:=fQ.there;show wpAny _ _ (getattributeRaised _ _ _ _ _ _ _) _ _ _;unfold getattributeRaised
 repeat (any_goals (first|assumption|wp_step))
 exact h _ _ fQ.keeps
end
end HT
namespace L2
open PySem PySem.Spec PyProof.Rows PySem.Builtin
variable {X:Cx}{aa:List (Addr×Obj)}{σ:St}{it:Addr}
theorem HL : entryFor table "dict.update.loop" = some Builtin.«dict.update.loop» := entryFor_of_fast (by kernel_rfl)
theorem uT:plainId "dict.update.loop"=true:=by decide+kernel
noncomputable def nj:List (aw×V)->List (Str×V)->List (aw×V)
 |ae,[]=>ae
 |ae,(x,v)::r=>nj (cc ae (Sum.inr x) v) r
def yU (H:Hp)(ps:List V)(rows:List (Str×V)):Prop:=ps.length=rows.length/\∀(j:Nat) (y:V),ps[j]? = some y->∃q x v,y = .ref q/\rows[j]? = some (x,v)/\H q=some (.tup [.str x,v])
section
theorem OO {D p:Addr}{ps:List V}{rows:List (Str×V)}{A:Around}(hA:A.handled=none){R:Result->Shared->Prop}{H0:Hp}
  (hp:SqL X.K H0 p ps) (gW:yU H0 ps rows) (nD:H0 D=none) (iZ:it≠D) (Bp:p≠D) (hz:rows.length<=1000)
  (hR:∀s' mE,mE=nj [] rows->Inv X aa σ (ax H0 D (.dK mE)) s'->R (.ok (.ret .none)) s'):
  ∀(k i:Nat) (s:Shared) (ae:List (aw×V)) (u:Tok) (n:Int),ps.length-i=k->i<=ps.length->Inv X aa σ (ax H0 D (.dK ae)) s->da X aa (ax H0 D (.dK ae)) it->s.heap.IsListIter it p i->nj ae (rows.drop i)=nj [] rows->ae.length<=i →
   codeAny (model X.prog X.w) A (.builtin "dict.update.loop" ⟨[.ref D,.ref it,.int n u,.none],[]⟩) R s:=by
 have hsz:=TY
 have BE:∀ae,SqL X.K (ax H0 D (.dK ae)) p ps:=by
  intro ae;rcases hp with (h|h)|h
  ·exact .inl (.inl (by rw[az Bp];exact h))
  ·refine .inl (.inr ?_)
   obtain⟨c,h⟩:=h
   first
    |exact⟨c,by rw[az Bp];exact h⟩
    |exact⟨c,h⟩
  ·exact .inr h
 intro k
 induction k with
 |zero=>
  intro i s ae u n hk hi I hf Z fk vG;have gf:i=ps.length:=by lia
  subst gf;obtain⟨af,r,pl,_⟩:=I.list (BE ae);have hlen:=r.length;refine codeAny_builtin HL ?_;rw[Around.under_plainId uT _];show wpAny _ A.in1 (pyNext (.ref it) >>= _) _ _ s;refine S6 (wpAny_pyNext_list_end (A:=A.in1) hA Z pl.isList (by simp;lia) fun h' kk=>?_);refine S6 (m:=Dict.addKeywords D []) (Tj (Tj (hR _ ae ?_ (I.turnedL (t':=s.toks) (ch:=[it]) (fun b o hb e=>?_) (fun b hb=>?_)))))
  ·rw[<- fk,gW.1,List.drop_length];rfl
  ·simp only [Uk] at hb;exact kk b o hb e
  ·rw[Uk] at hb;rw[hb];exact hf
 |succ k ih=>
  intro i s ae u n hk hi I hf Z fk vG;have hlt:i<ps.length:=by lia
  obtain⟨af,r,pl,_⟩:=I.list (BE ae);have hlen:=r.length;have e1:ps[i]? = some ps[i]:=Td hlt;obtain⟨u1,f1,r1⟩:=r.get e1;obtain⟨q,x,v,ey,hrow,hq⟩:=gW.2 i _ e1;rw[ey] at r1;cases r1;have IH:q≠D:=cb hq nD;refine codeAny_builtin HL ?_;rw[Around.under_plainId uT _];show wpAny _ A.in1 (pyNext (.ref it) >>= _) _ _ s;refine S6 (wpAny_pyNext_list_item (A:=A.in1) Z pl.isList (x:=.ref q) (by simpa using f1) fun h' Z' kk=>?_)
  have I1:Inv X aa σ (ax H0 D (.dK ae)) { s with heap:=h',toks:=s.toks }:=I.turnedL (ch:=[it]) (fun b o hb e=>by
   simp only [Uk] at hb
   exact(kk.2 b hb).trans e) (fun b hb=>by rw[Uk] at hb;rw[hb];exact hf)
  have sC:ax H0 D (.dK ae) q=some (.tup [.str x,v]):=by rw[az IH];exact hq
  obtain⟨aA,r2,ht,_⟩:=I1.tuple (SqT.of sC)
  cases r2 with
  |cons rx r3=>
   cases r3 with
   |cons rv r4=>
    cases r4;obtain⟨o,ho,hc,m,hd⟩:=id ht;obtain⟨zk,hdm,vs,bW,dd⟩:=tK I1.hok (a:=D) (by rw[bu]);refine S6 (UR (S6 (wpAny_tryCatch ?_)));unfold Dict.pairItems;refine S6 (wpAny_typeOf ht.typeIs ?_);rw[Tt (by decide)];refine S6 (UI ho hd (Tj ?_));refine UR (wpAny_dictSet_pairs (knd:=dR X.prog X.w) (k:=Sum.inr x) (lz rx) dd (fun h2 jg sy=>?_) (by rw[<- bW.length];have:=gW.1;lia));have hl2:(cc ae (Sum.inr x) v).length<=i+1:=by have:=oV ae (Sum.inr x) v;lia
    have he:∃q,h2.get? D=some q:=let ⟨q,_,_,hq,_⟩:=jg;⟨q,hq⟩
    have I2:=qY (t':=s.toks+1) I1 (a:=D) (ob:=.dK (cc ae (Sum.inr x) v)) (by rw[bu];exact True.intro) sy he (qR (by have e9:=gW.1;have e8:=hlt;rw[hsz];lia) hdm (bW.put (Sum.inr x) rv) jg)
    have eu:ax (ax H0 D (.dK ae)) D (.dK (cc ae (Sum.inr x) v))=ax H0 D (.dK (cc ae (Sum.inr x) v)):=by
     funext c
     by_cases hc:c=D
     ·rw[hc,bu,bu]
     ·rw[az hc,az hc,az hc]
    rw[eu] at I2;refine Tj ⟨plainId_quiet uT _,?_⟩;refine ih (i+1) _ _ _ _ (by lia) hlt I2 ?_ ?_ ?_ hl2
    ·refine⟨?_,hf.2⟩;have:=hf.1;rw[az iZ] at this ⊢;exact this
    ·obtain⟨oi,hoi,hci,hdi⟩:=Z';exact⟨oi,(sy.2 it iZ).trans hoi,hci,hdi⟩
    ·have BJ:i<rows.length:=by have:=gW.1;lia
     have e9:rows.drop i=(x,v)::rows.drop (i+1):=by rw[drop_eq_getElem_cons BJ];have h1:=Td BJ;rw[hrow] at h1;rw[<- Tw h1]
     rw[<- fk,e9];rfl
theorem Sw (hc:X.calm=true):gH X (.type "dict") (fun xs H Q=>∃(p:Addr) (ps:List V) (rows:List (Str×V)),xs = [.ref p]/\H p=some (.lst ps)/\yU H ps rows/\rows.length<=1000/\∀a,H a=none->Q (.ref a) (ax H a (.dK (nj [] rows)))):=by
 intro aa s σ H xs us Q I r h;obtain⟨p,ps,rows,rfl,hp,gW,hz,q⟩:=h;obtain⟨u,rfl,rx⟩:=iN r;cases rx;refine callType_codes (Q₁:=fun obj s₁=>obj = .ref s.heap.objs.size/\s₁={ s with heap:=s.heap.push { cls:=.type "dict",data:=.dict #[] } }) F.kt_called_dict (F.kt_typeCall_dict_1 _) F.entry_dict_init (kt_code_dict_new _ ⟨rfl,rfl⟩) ?_;rintro obj s₁ ⟨rfl,rfl⟩;have i8:(s.heap.push { cls:=.type "dict",data:=.dict #[] }).DictOf (dR X.prog X.w) s.heap.objs.size []:=Heap.DictOf.new s.heap;have v7:H s.heap.objs.size=none:=I.fresh;have BF:p≠s.heap.objs.size:=cb hp v7
 have I1:Inv X aa σ (ax H s.heap.objs.size (.dK [])) { s with heap:=s.heap.push { cls:=.type "dict",data:=.dict #[] },toks:=s.toks }:=
  I.laid (fun b ob e=>S7 _ e) (Tf _) (zJ s.heap I.big)
 have p8:ax H s.heap.objs.size (.dK []) p=some (.lst ps):=by rw[az BF];exact hp
 obtain⟨zz,af,n,rv,hll,hget⟩:=I1.lstM p8;refine⟨i8.typeIs,F.args_dict_init_2 _ _,?_⟩;unfold Builtin.«dict.__init__»;refine S6 ?_;unfold Builtin.Dict.selfAndRest;refine S6 (wpAny_notOrdered_dict i8.typeIs ?_);show wpAny _ _ (pure (s.heap.objs.size,[Value.ref p])) _ _ _;refine Tj ?_;show wpAny _ _ (Builtin.Dict.updateFrom "dict.__init__" s.heap.objs.size (.ref p) [] .none) _ _ _;unfold Builtin.Dict.updateFrom;refine S6 (wpAny_typeOf (T:="list") ⟨_,hget,rfl⟩ ?_);rw[Tt (by decide)];refine S6 (HT.getAttrQ_miss_list (s:={ s with heap:=s.heap.push { cls:=.type "dict",data:=.dict #[] },toks:=s.toks }) hget (I.ok.hd hc) fun h' tk kk=>?_);rw[Tt (by decide)];refine S6 (wpAny_rule ?_);have I2:Inv X aa σ (ax H s.heap.objs.size (.dK [])) { s with heap:=h',toks:=tk }:=I1.kept (t':=tk) kk;obtain⟨aA,rv2,du,_⟩:=I2.list (SqL.of p8);refine S6 (wpAny_pyIter_list du.isList ?_);have I3:Inv X aa σ (ax H s.heap.objs.size (.dK [])) { s with heap:=h'.push { cls:=.type "list_iterator",data:=.fields #[.ref p,.int 0 0] },toks:=tk }:=I2.kept (t':=tk) fun b o e=>S7 _ e;have hlt:s.heap.objs.size<h'.objs.size:=by obtain⟨o,es,ep,ho,_⟩:=i8;exact To (kk _ _ ho)
 refine Tj ⟨plainId_quiet uT _,?_⟩;refine OO (H0:=H) (D:=s.heap.objs.size) (it:=h'.objs.size) (p:=p) (A:=X.A.in1) (I.ok.hd hc) (SqL.of hp) gW v7 (UQ hlt) BF hz (fun s' mE ek I'=>⟨rfl,.ref s.heap.objs.size,_,I',rfl,by rw[ek];exact q _ v7⟩) _ 0 _ [] _ _ rfl (T3 _) I3 ?_ ?_ rfl (Tf _)
 ·refine I2.fpOk (Tf _) ?_;exact I2.hok.fresh (Tf _)
 ·exact⟨_,Tu _ rfl,rfl,rfl⟩
end
end L2
namespace L2
open PySem PySem.Spec PyProof.Rows
variable {β:Type}{e:Expr}{X:Cx}{es:List Expr}{bV aK:Pos}{id:String}
theorem SE {M:Model}{A:Around}{E:am}{s:Shared}{n:Nat}(f:Nat -> β -> Sem (ForInStep β))(I:Nat -> β -> Shared->Prop)(Q : β -> Shared->Prop)
  (eE:∀i b s,i<n->I i b s->wpAny M A (f i b) (fun r s'=>match r with | .yield b'=>I (i+1) b' s' | .done b'=>Q b' s') E s)
  (fin:∀b s,I n b s->Q b s) (b : β) (h:I 0 b s):wpAny M A (forIn [:n] b f) Q E s:=by
 rw[Std.Legacy.Range.forIn_eq_forIn_range'];have e:(List.range' 0 n 1)=List.range' 0 n:=rfl;refine wpAny_forIn_list f (fun aj b s=>∃i,i<=n/\aj=List.range' i (n-i)/\I i b s) Q ?_ ?_ _ b ⟨0,T3 _,by simp [Std.Legacy.Range.size],h⟩
 ·rintro x aj b s ⟨i,hi,e1,h1⟩
  have hlt:i<n:=by
   rcases U0 i n with z|z
   ·exact z
   ·rw[Nat.sub_eq_zero_of_le z] at e1;injection e1
  obtain⟨m,hm⟩:∃m,n-i=m+1:=⟨n-i-1,by lia⟩;rw[hm,List.range'_succ] at e1;cases e1;refine Uz (eE x b s hlt h1) (fun r s' hr=>?_) fun _ _ h=>h
  cases r with
  |done b'=>exact hr
  |yield b'=>exact⟨x+1,by lia,by rw[show n-(x+1)=m by lia],hr⟩
 ·rintro b s ⟨i,hi,e1,h1⟩
  have:n-i=0:=by
   cases z:n-i with
   |zero=>rfl
   |succ m=>rw[z,List.range'_succ] at e1;injection e1
  have:i=n:=by lia
  subst this;exact fin b s h1
theorem Sn (l:Addr)(items:Array Value)(n:Nat)(dd:Option Addr)(sl:Array (Option Value))(x:Value)(e:Value->Bool)(j:Nat)(hj:j<items.size)
  (gZ:e items[j]=true) (fj:∀m (hm:m<items.size),m<j->e items[m]=false):
  Meets (Builtin.«tuple.index» ⟨[.ref l, x], []⟩)
   (fun A R s=>s.heap.get? l=some { cls:=.type "tuple",dict:=dd,data:=.seq items n,slots:=sl }/\(∀y,y∈items->SeqAt.EqAt A.in1 s y x (e y))/\R (.ok (.ret (.int j s.toks))) { s with toks:=s.toks+1 }):=
 .of_wp fun prog w A R s h=>by
  obtain⟨hp,g,d,tk,os⟩:=s;obtain⟨hl,he,h⟩:=h
  wp_walk using wpAny_loadPart' hl,SE _ (fun i (b:Option Fin×Unit) s'=>i<=j/\b.1=none/\s'=⟨hp,g,d,tk,os⟩) _
  case eE=>
   rintro i b s' hi ⟨hij,hb,rfl⟩;have hi':i<items.size:=by lia
   have e1:items[i]? = some items[i]:=Ve hi';rw[e1];refine S6 (he items[i] (Array.getElem_mem hi') prog w _ _ ?_);rcases U0 i j with z|z
   ·rw[fj i hi' z]
    wp_walk
    exact⟨z,rfl,rfl⟩
   ·have:i=j:=by lia
    subst this;rw[gZ]
    wp_walk
    exact⟨_,rfl,h⟩
  case fin=>
   rintro b s' ⟨hij,hb,rfl⟩;lia
  case h=>exact⟨T3 _,rfl,rfl⟩
section
def E2 (K:W.Frag):V->List V->Hp->VK->Prop:=fun x vs H Q=>∃(l:Addr) (ns:List Str) (i:Str) (j:Nat),x = .ref l/\vs = [.str i]/\SqT K H l (ns.map V.str)/\ns[j]? = some i/\(∀m,m<j->ns[m]? ≠ some i)/\Q (.int (j:Nat)) H
theorem P7:rK X "tuple.index" (E2 X.K):=by
 intro aa s σ H x vs v us Q I rx rv h;obtain⟨l,ns,i,j,rfl,rfl,hH,hj,fj,q⟩:=h;cases rx;obtain⟨u,rfl,ru⟩:=rv.one;obtain⟨tk,rfl⟩:=ru;obtain⟨af,r,pl,hz⟩:=I.tuple hH;have hlen:af.length=ns.length:=by have:=r.length;rw[Ta] at this;exact this.symm
 have nZ:∀(m:Nat) (y:Value),af[m]? = some y->∃k t,ns[m]? = some k/\y = .str k t:=by
  intro m y hy;have hm:m<ns.length:=by rw[<- hlen];exact(Tn.mp hy).1
  obtain⟨u2,f2,r2⟩:=r.get (i:=m) (x:=.str ns[m]) (by rw[Ui,Td hm];rfl);rw[hy] at f2;cases f2;obtain⟨t,rfl⟩:=r2;exact⟨_,t,Td hm,rfl⟩
 have jl:j<af.length:=by rw[hlen];exact(Tn.mp hj).1
 have val:∀(m:Nat) (hm:m<af.toArray.size),∃k t,ns[m]? = some k/\af.toArray[m] = .str k t:=fun m hm=>by simp only [Ti] at hm;obtain⟨k,t,a1,a2⟩:=nZ m af[m] (Td hm);exact⟨k,t,a1,by simpa using a2⟩
 obtain⟨⟨cls,dd,data,sl⟩,ho,hc,n,hd⟩:=id pl;simp only at hc hd;subst hc hd;refine Vm F.slot_tuple_index ⟨_,ho,rfl⟩ F.entry_tuple_index (F.args_tuple_index_2 _ _) (Sn l af.toArray n dd sl (.str i tk) (fun y=>match y with | .str k _=>k==i|_=>false) j (by simpa using jl) ?_ ?_) ⟨ho,?_,?_⟩
 ·obtain⟨k,t,a1,a2⟩:=val j (by simpa using jl);rw[a2];rw[hj] at a1;cases a1;exact UW _
 ·intro m hm hmj;obtain⟨k,t,a1,a2⟩:=val m hm;rw[a2];show(k==i)=false;rw[Ux];intro w;subst w;exact fj m hmj a1
 ·intro y hy;obtain⟨m,hm,rfl⟩:=Array.mem_iff_getElem.mp hy;obtain⟨k,t,a1,a2⟩:=val m hm;rw[a2];exact nt (y:=.str k) (x:=.str i) ⟨t,rfl⟩ ⟨tk,rfl⟩ rfl rfl
 ·exact⟨.int (j:Nat),H,I.tok _,⟨_,rfl⟩,q⟩
def Bk (r:V->List V->Hp->VK->Prop)(to:TE)(t:TA):TE:=fun σ H Q=>to σ H fun x H1=>(∃a xs,x = .ref a/\H1 a=some (.tup xs))/\t σ H1 fun xs H2=>r x xs H2 Q
theorem KL {o:Expr}{to:TE}{t:TA}{name:Str}{r:V->List V->Hp->VK->Prop}(pa:PlainAttrs "tuple")(slot:Slot "tuple" name id)(p0:typeOf (.builtin id)=pure (.type "method_descriptor"))(hm:rK X id r)(ho:PE X o to)(ha:PA X (e::es) t)
  (fU:attributeBase o name X.env (eval o X.env)=eval o X.env:=by rfl)
  (mL:((backTo aK (starEach (e::es) X.env)).all (fun x => !x.1)&&(backToKw aK (keywordEach [] X.env)).all (fun x=>x.1.isSome)
   && decide ((e::es).length+([]:List Keyword).length+(if ([]:List Keyword).isEmpty then 0 else 1)<30))=true:=by rfl)
  (fT:(bV.endLine==aK.line)=true:=by rfl) (hs:starEach (e::es) X.env=(false,eval e X.env)::starEach es X.env:=by rfl) (gy:(backTo aK (starEach es X.env)).any (·.1)=false:=by rfl):
  PE X (.Call (.Attribute o name bV) (e::es) [] aK) (Bk r to t):=by
 intro aa s σ H Q I h;refine wpAny_Call_method_late fU mL fT rfl (ay (ho aa s σ H _ I h) fun v s1 ⟨x,H1,I1,r1,ty,q1⟩=>?_);obtain⟨a,xs,rfl,hx⟩:=ty;have r1':=r1;cases r1;obtain⟨_,af,_,ob,h1,h2,n,h3,h4⟩:=(show ObjOk X.prog X.w H1 s1.heap a (.tup xs) from I1.hok a _ hx);refine⟨"tuple",id,pa,slot,p0,⟨ob,h1,h2⟩,fun b eb=>by cases eb;exact⟨ob,h1,h4⟩,?_⟩;have hA:=ha aK aa s1 σ H1 _ I1 q1;rw[hs] at hA ⊢;refine UG (by show(false||(backTo aK (starEach es X.env)).any (·.1))=false;rw[gy] <;> rfl) (Vc ?_);exact ay hA fun us s2 ⟨vs,H2,I2,r2,q2⟩=>hm aa s2 σ H2 _ vs _ us Q I2 r1' r2 q2
end
end L2
namespace L2.Ztl
open L2
open PySem PySem.Spec PyProof.Rows PySem.Builtin PySem.AutoSeq1
variable {P prog:Program}{w:World}{h:Heap}{X:Cx}{i:Nat}{ys:Array Value}{K:W.Frag}{l z i1 i2:Addr}{p:Pos}{bU:List Expr}
theorem MR {t:Addr}{xs:Array Value}(x:h.IsList t xs)(o:Obj):(h.push o).IsList t xs:=by obtain⟨q,q1,q2⟩:=x;exact⟨q,S7 _ q1,q2⟩
structure lB (h:Heap)(z TI TO i1 i2 l t:Addr)(i:Nat)(f0:Value):Prop where
 z:IsZip h z TI TO f0
 ti:IsPair h TI (.ref i1) (.ref i2)
 to:∃a b,IsPair h TO a b
 g1:h.IsTupleIter i1 l i
 g2:h.IsListIter i2 t i
section
variable {A:Around}{E:am}{s:Shared}
theorem P6 {TI TO t:Addr}{xs:Array Value}{x y:Value}{Q:am}(D:ZipApart z TI TO i1 i2 l t)(Z:lB s.heap z TI TO i1 i2 l t i .none)(hl1:s.heap.IsTuple l xs)(hl2:s.heap.IsList t ys)
  (hx:xs[i]? = some x) (hy:ys[i]? = some y)
  (hQ:∀h',lB h' z TI TO i1 i2 l t (i+1) (rawInt s.heap.objs.size)->IsPair h' s.heap.objs.size x y->(∀c o,c≠z->c≠TO->c≠i1->c≠i2->s.heap.get? c=some o->h'.get? c=some o)->Q (.ref s.heap.objs.size) { s with heap:=h' }):
  wpAny (model prog w) A (Builtin.«zip.__next__» ⟨[.ref z], []⟩) (fun fin s' => ∃ v, fin = .done (.ret v) /\ Q v s') E s := by
 obtain⟨hz,hTI,⟨a,b,hTO⟩,h1,h2⟩:=Z;show wpAny _ _ (field (.ref z) 2 >>= _) _ _ _;refine S6 (TV hz rfl (x:=.bool false) rfl ?_);show wpAny _ _ (field (.ref z) 3 >>= _) _ _ _;refine S6 (TV hz rfl (x:=.ref TI) rfl ?_);refine S6 (UI hTI rfl ?_);show wpAny _ _ (Builtin.SmallTypes.ownedTupleIsFree (.ref z) >>= _) _ _ _;refine S6 ?_;unfold Builtin.SmallTypes.ownedTupleIsFree;refine S6 (TV hz rfl (x:=.none) rfl (Tj ?_));simp only [Vi];refine S6 (wpAny_rule ?_);refine S6 (TV hz rfl (x:=.ref TO) rfl ?_);refine S6 (Vj hz (by simp) fun h₁ hz₁ hs₁=>?_);replace hz₁:oq h₁ z TI TO .ellipsis (.bool false):=hz₁;refine S6 ?_;simp only [List.zipIdx_cons,List.zipIdx_nil,forIn_cons,List.forIn_nil];refine S6 (S6 (wpAny_onRaise ?_));show wpAny _ _ (Builtin.SmallTypes.nextOf (.ref i1) >>= _) _ _ _;refine S6 (Hf (h1.extBut hs₁.extBut D.i1z) (D3 hl1 hs₁.extBut D.l1z) hx fun h₂ h1₂ hs₂=>Tj ?_);have hTO₂:IsPair h₂ TO a b:=hs₂.extBut _ _ D.TOi1 (hs₁.extBut _ _ D.TOz hTO);refine S6 (UI hTO₂ rfl ?_);refine S6 (wpAny_updateSeq_pair hTO₂ fun h₃ hTO₃ hs₃=>?_);replace hTO₃:IsPair h₃ TO x b:=hTO₃;refine S6 (wpAny_letGo (Tj ?_));refine S6 (S6 (wpAny_onRaise ?_));show wpAny _ _ (Builtin.SmallTypes.nextOf (.ref i2) >>= _) _ _ _
 refine S6 (wpAny_nextOf_list_item (((h2.extBut hs₁.extBut D.i2z).extBut hs₂.extBut D.i12.symm).extBut hs₃.extBut D.TOi2.symm)
  (((hl2.extBut hs₁.extBut D.l2z).extBut hs₂.extBut D.l2i1).extBut hs₃.extBut D.l2TO) hy fun h₄ h2₄ hs₄=>Tj ?_)
 have hTO₄:IsPair h₄ TO x b:=hs₄.extBut _ _ D.TOi2 hTO₃;refine S6 (UI hTO₄ rfl ?_);refine S6 (wpAny_updateSeq_pair hTO₄ fun h₅ hTO₅ hs₅=>?_);replace hTO₅:IsPair h₅ TO x y:=hTO₅;refine S6 (wpAny_letGo (Tj (Tj ?_)));refine S6 (UI hTO₅ rfl ?_);refine S6 (wpAny_newTuple ?_);have hsz:h₅.objs.size=s.heap.objs.size:=by rw[hs₅.1,hs₄.1,hs₃.1,hs₂.1,hs₁.1]
 have hz₅:oq h₅ z TI TO .ellipsis (.bool false):=hs₅.extBut _ _ D.TOz.symm (hs₄.extBut _ _ D.i2z.symm (hs₃.extBut _ _ D.TOz.symm (hs₂.extBut _ _ D.i1z.symm hz₁)))
 have hk₅:∀c o,c≠z->c≠TO->c≠i1->c≠i2->s.heap.get? c=some o->h₅.get? c=some o:=fun c o c1 c2 c3 c4 e=>
  hs₅.extBut _ _ c2 (hs₄.extBut _ _ c4 (hs₃.extBut _ _ c2 (hs₂.extBut _ _ c3 (hs₁.extBut _ _ c1 e))))
 have h1₅:h₅.IsTupleIter i1 l (i+1):=((h1₂.extBut hs₃.extBut D.TOi1.symm).extBut hs₄.extBut D.i12).extBut hs₅.extBut D.TOi1.symm;have h2₅:h₅.IsListIter i2 t (i+1):=h2₄.extBut hs₅.extBut D.TOi2.symm;have pW:z<h₅.objs.size:=To hz₅;show wpAny _ _ (Builtin.SmallTypes.ownedTupleHandOut (.ref z) (.ref h₅.objs.size) >>= _) _ _ _;refine S6 ?_;unfold Builtin.SmallTypes.ownedTupleHandOut;have hz₆:oq (h₅.push { cls:=.type "tuple",data:=.seq #[x,y] }) z TI TO .ellipsis (.bool false):=S7 _ hz₅;refine S6 (Vj hz₆ (by simp) fun h₇ hz₇ hs₇=>?_);replace hz₇:oq h₇ z TI TO (rawInt h₅.objs.size) (.bool false):=hz₇;refine Vj hz₇ (by simp) fun h₈ hz₈ hs₈=>?_;replace hz₈:IsZip h₈ z TI TO (rawInt h₅.objs.size):=hz₈;have up:∀c o,c≠z->h₅.get? c=some o->h₈.get? c=some o:=fun c o c1 e=>hs₈.extBut _ _ c1 (hs₇.extBut _ _ c1 (S7 _ e));have hT₈:IsPair h₈ h₅.objs.size x y:=hs₈.extBut _ _ (UQ pW) (hs₇.extBut _ _ (UQ pW) (Tu _ rfl));have al:∀c o,c≠z->c≠TO->c≠i1->c≠i2->s.heap.get? c=some o->h₈.get? c=some o:=fun c o c1 c2 c3 c4 e=>up c o c1 (hk₅ c o c1 c2 c3 c4 e);rw[hsz] at hz₈ hT₈ ⊢;exact Tj ⟨_,rfl,hQ h₈ ⟨hz₈,al _ _ D.TIz D.TITO D.TIi1 D.TIi2 hTI,⟨_,_,up _ _ D.TOz hTO₅⟩,h1₅.at fun o e=>up _ o D.i1z e,h2₅.at fun o e=>up _ o D.i2z e⟩ hT₈ al⟩
theorem P5 {TI TO t:Addr}{xs:Array Value}{Q:Fin->Shared->Prop}(hh:A.handled=none)(D:ZipApart z TI TO i1 i2 l t)(Z:lB s.heap z TI TO i1 i2 l t i .none)(hl1:s.heap.IsTuple l xs)(hx:xs[i]? = none)
  (hE:∀h' e,(∀c o,c≠z->c≠TO->c≠i1->c≠i2->s.heap.get? c=some o->h'.get? c=some o)->(∃o,h'.get? e=some o/\o.cls = .type "StopIteration")->E (.ref e) { s with heap:=h' }):
  wpAny (model prog w) A (Builtin.«zip.__next__» ⟨[.ref z], []⟩) Q E s := by
 obtain⟨hz,hTI,⟨a,b,hTO⟩,h1,h2⟩:=Z;show wpAny _ _ (field (.ref z) 2 >>= _) _ _ _;refine S6 (TV hz rfl (x:=.bool false) rfl ?_);show wpAny _ _ (field (.ref z) 3 >>= _) _ _ _;refine S6 (TV hz rfl (x:=.ref TI) rfl ?_);refine S6 (UI hTI rfl ?_);show wpAny _ _ (Builtin.SmallTypes.ownedTupleIsFree (.ref z) >>= _) _ _ _;refine S6 ?_;unfold Builtin.SmallTypes.ownedTupleIsFree;refine S6 (TV hz rfl (x:=.none) rfl (Tj ?_));simp only [Vi];refine S6 (wpAny_rule ?_);refine S6 (TV hz rfl (x:=.ref TO) rfl ?_);refine S6 (Vj hz (by simp) fun h₁ hz₁ hs₁=>?_);replace hz₁:oq h₁ z TI TO .ellipsis (.bool false):=hz₁;refine S6 ?_;simp only [List.zipIdx_cons,List.zipIdx_nil,forIn_cons,List.forIn_nil];refine S6 (S6 (wpAny_onRaise ?_));show wpAny _ _ (Builtin.SmallTypes.nextOf (.ref i1) >>= _) _ _ _;refine S6 (Gx hh (h1.extBut hs₁.extBut D.i1z) (D3 hl1 hs₁.extBut D.l1z) hx fun h₂ e hs₂ he=>?_);obtain⟨oe,hoe,cG⟩:=he;have hz₂:oq h₂ z TI TO .ellipsis (.bool false):=hs₂ _ _ D.i1z.symm hz₁;have Je:e≠z:=fun x=>by subst x;rw[hz₂] at hoe;cases hoe;simp at cG
 refine Vj hz₂ (by simp) fun h₃ _ hs₃=>hE h₃ e (fun c o c1 _ c3 _ x=>hs₃.extBut _ _ c1 (hs₂ _ _ c3 (hs₁.extBut _ _ c1 x))) ⟨oe,hs₃.extBut _ _ Je hoe,cG⟩
theorem P4 {TI TO t:Addr}{xs:Array Value}{x y:Value}{Q:Option Value->Shared->Prop}(D:ZipApart z TI TO i1 i2 l t)(Z:lB s.heap z TI TO i1 i2 l t i .none)(hl1:s.heap.IsTuple l xs)(hl2:s.heap.IsList t ys)
  (hx:xs[i]? = some x) (hy:ys[i]? = some y)
  (hQ:∀h',lB h' z TI TO i1 i2 l t (i+1) (rawInt s.heap.objs.size)->IsPair h' s.heap.objs.size x y->(∀c o,c≠z->c≠TO->c≠i1->c≠i2->s.heap.get? c=some o->h'.get? c=some o)->Q (some (.ref s.heap.objs.size)) { s with heap:=h' }):
  wpAny (model prog w) A (pyNext (.ref z)) Q E s:=by
 have hT:s.TypeIs (.ref z) "zip":=⟨_,Z.z,rfl⟩;unfold pyNext
 exact S6 (wpAny_attempt (T6 (name:=Str.ofString "__next__") hT F.slot_zip_next
  (Ud F.slot_zip_next hT F.entry_zip_next
   (P6 D Z hl1 hl2 hx hy fun h' a1 a2 a3=>Tj (hQ h' a1 a2 a3)) (F.args_zip_next_1 _))))
theorem QW {TI TO t:Addr}{xs:Array Value}{Q:Option Value->Shared->Prop}(hh:A.handled=none)(D:ZipApart z TI TO i1 i2 l t)(Z:lB s.heap z TI TO i1 i2 l t i .none)(hl1:s.heap.IsTuple l xs)(hx:xs[i]? = none)
  (hQ:∀h',(∀c o,c≠z->c≠TO->c≠i1->c≠i2->s.heap.get? c=some o->h'.get? c=some o)->Q none { s with heap:=h' }):wpAny (model prog w) A (pyNext (.ref z)) Q E s:=by
 have hT:s.TypeIs (.ref z) "zip":=⟨_,Z.z,rfl⟩;unfold pyNext
 refine S6 (wpAny_attempt (T6 (name:=Str.ofString "__next__") hT F.slot_zip_next
  (Ud F.slot_zip_next hT F.entry_zip_next (P5 hh D Z hl1 hx fun h' e hk he=>?_) (F.args_zip_next_1 _))))
 obtain⟨o,ho,hc⟩:=he;refine S6 (wpAny_isInstance (T:="StopIteration") (b:=true) ⟨o,ho,hc⟩ isSubtype_stop ?_);exact Tj (hQ _ hk)
end
noncomputable abbrev rX (h:Heap)(l1:Addr):Heap:=h.push { cls:=.type "tuple_iterator",data:=.fields #[.ref l1,.int 0 0] }
abbrev rW (h:Heap)(l1 l2:Addr):Heap:=(rX h l1).push { cls:=.type "list_iterator",data:=.fields #[.ref l2,.int 0 0] }
abbrev rV (h:Heap)(l1 l2:Addr):Heap:=(rW h l1 l2).push { cls:=.type "tuple",data:=.seq #[.ref h.objs.size,.ref (rX h l1).objs.size] }
abbrev rS (h:Heap)(l1 l2:Addr):Heap:=(rV h l1 l2).push { cls:=.type "tuple",data:=.seq #[.none,.none] }
abbrev lV (h:Heap)(l1 l2:Addr):Heap:=(rS h l1 l2).push { cls:=.type "zip",data:=.fields #[.none,.bool false,.bool false,.ref (rW h l1 l2).objs.size,.ref (rV h l1 l2).objs.size] }
theorem ON (l1 l2:Addr)(xs ys:Array Value):
  Meets (Builtin.«zip.__new__» ⟨[.type "zip", .ref l1, .ref l2], []⟩) (fun _ R s => s.heap.IsTuple l1 xs /\ s.heap.IsList l2 ys ∧
   R (.ok (.ret (.ref (rS s.heap l1 l2).objs.size))) { s with heap:=lV s.heap l1 l2 }):=
 .of_wp fun prog w A R s h=>by
  obtain⟨hp,g,d,tk,os⟩:=s;obtain⟨hl1,hl2,h⟩:=h;have hsub:=sub_zip;have Jr:Heap.IsTuple (Shared.heap ⟨hp,g,d,tk,os⟩) l1 xs:=hl1;have Jq:Heap.IsList (Shared.heap ⟨hp.push { cls:=.type "tuple_iterator",data:=.fields #[.ref l1,.int 0 0] },g,d,tk,os⟩) l2 ys:=MR hl2 _
  wp_walk using Vk Jr,wpAny_pyIter_list Jq
  exact⟨_,rfl,h⟩
section
variable {A:Around}{E:am}{s:Shared}
theorem P2 {l1 l2:Addr}{xs:Array Value}{Q:am}(hl1:s.heap.IsTuple l1 xs)(hl2:s.heap.IsList l2 ys)
  (h:∀h',lB h' (s.heap.objs.size+4) (s.heap.objs.size+2) (s.heap.objs.size+3) s.heap.objs.size (s.heap.objs.size+1) l1 l2 0 .none->ZipApart (s.heap.objs.size+4) (s.heap.objs.size+2) (s.heap.objs.size+3) s.heap.objs.size (s.heap.objs.size+1) l1 l2 →
   (∀c o,s.heap.get? c=some o->h'.get? c=some o)->Q (.ref (s.heap.objs.size+4)) { s with heap:=h' }):
  wpAny (model prog w) A (call (.type "zip") [.ref l1,.ref l2]) Q E s:=by
 refine callType_new F.called_zip (by decide) (F.typeCall_zip_2 _ _) (F.newCall_zip_2 _ _) (fun obj=>F.args_object_init_3 obj _ _) F.entry_zip_new
  (ON l1 l2 xs ys) ⟨hl1,hl2,?_⟩
 have z1:(rX s.heap l1).objs.size=s.heap.objs.size+1:=UX ..;have z2:(rW s.heap l1 l2).objs.size=s.heap.objs.size+2:=by rw[UX,z1]
 have z3:(rV s.heap l1 l2).objs.size=s.heap.objs.size+3:=by rw[UX,z2]
 have z4:(rS s.heap l1 l2).objs.size=s.heap.objs.size+4:=by rw[UX,z3]
 have g5:(lV s.heap l1 l2).get? (rS s.heap l1 l2).objs.size=some _:=Tu _ rfl;have g4:(lV s.heap l1 l2).get? (rV s.heap l1 l2).objs.size=some _:=S7 _ (Tu _ rfl);have g3:(lV s.heap l1 l2).get? (rW s.heap l1 l2).objs.size=some _:=S7 _ (S7 _ (Tu _ rfl));have g2:(lV s.heap l1 l2).get? (rX s.heap l1).objs.size=some _:=S7 _ (S7 _ (S7 _ (Tu _ rfl)));have g1:(lV s.heap l1 l2).get? s.heap.objs.size=some _:=S7 _ (S7 _ (S7 _ (S7 _ (Tu _ rfl))));show _/\_;rw[z2,z3,z4] at g5;rw[z1,z2] at g3;rw[z3] at g4;rw[z1] at g2;rw[z4]
 have kp:∀c o,s.heap.get? c=some o->(lV s.heap l1 l2).get? c=some o:=fun c o x=>
  S7 _ (S7 _ (S7 _ (S7 _ (S7 _ x))))
 have pO:l1<s.heap.objs.size:=let ⟨_,e,_⟩:=hl1;To e
 have Bt:l2<s.heap.objs.size:=let ⟨_,e,_⟩:=hl2;To e
 exact⟨⟨_,g5,rfl⟩,h _ ⟨g5,g3,⟨_,_,g4⟩,⟨_,g1,rfl,rfl⟩,⟨_,g2,rfl,rfl⟩⟩ (zipApart_new pO Bt) kp⟩
end
def HN (K:W.Frag)(a b:Addr):It:=
 ⟨fun i H=>∃xs ys x y,SqT K H a xs/\SqL K H b ys/\xs[i]? = some x/\ys[i]? = some y,
  fun i H v H'=>∃T x y,v = .ref T/\H T=none/\(∀xs,SqT K H a xs->xs[i]? = some x)/\(∀ys,SqL K H b ys->ys[i]? = some y)/\H'=ax H T (.tup [x,y]),
  fun i H=>∃xs,SqT K H a xs/\xs.length=i⟩
theorem P1 {k:Nat}{pos:Pos}(a b z TI TO i1 i2:Addr)(D:ZipApart z TI TO i1 i2 a b):
  en P w K (.Tuple bU k pos) (HN K a b) [z,TI,TO,i1,i2] z (fun i h=>lB h z TI TO i1 i2 a b i .none) where
 mem:=by simp
 obj:=fun i h st c hc=>by
  obtain⟨hz,hTI,⟨p,q,hTO⟩,⟨o1,e1,_,d1⟩,⟨o2,e2,_,d2⟩⟩:=st;simp only [Ts,TQ,T7] at hc;rcases hc with rfl|rfl|rfl|rfl|rfl
  ·exact⟨_,hz,fun v z=>by injection z⟩
  ·exact⟨_,hTI,fun v z=>by injection z⟩
  ·exact⟨_,hTO,fun v z=>by injection z⟩
  ·exact⟨_,e1,fun v z=>by rw[d1] at z;injection z⟩
  ·exact⟨_,e2,fun v z=>by rw[d2] at z;injection z⟩
 keep:=fun i h h' st k=>by obtain⟨hz,hTI,⟨p,q,hTO⟩,g1,g2⟩:=st;exact⟨k z (by simp) _ hz,k TI (by simp) _ hTI,⟨p,q,k TO (by simp) _ hTO⟩,g1.at fun o e=>k i1 (by simp) o e,g2.at fun o e=>k i2 (by simp) o e⟩
 item:=by
  intro X hP hw hK hc i aa s σ H E I hf st hg;subst hP hw hK;obtain⟨xs,ys,x,y,hq,hq2,hx,hy⟩:=hg;obtain⟨af,rv,p,hz⟩:=I.tuple hq;have p':s.heap.IsTuple a af.toArray:=p;obtain⟨u,hu,ru⟩:=rv.get hx;obtain⟨aA,rv2,p2,hz2⟩:=I.list hq2;obtain⟨u2,hu2,ru2⟩:=rv2.get hy;refine P4 D st p' p2.isList (x:=u) (y:=u2) (by simpa using hu) (by simpa using hu2) fun h' Z' hT hk=>?_;refine⟨_,rfl,wpAny_letOwnedTupleGo_zip Z'.z fun BR vv iw=>?_⟩;have dM:H s.heap.objs.size=none:=I.hok.fresh (Tf _);have lt:∀{c o},s.heap.get? c=some o->s.heap.objs.size≠c:=fun e=>UQ (To e);have nz:s.heap.objs.size≠z:=lt st.z;obtain⟨ta,tb,hTO⟩:=st.to;obtain⟨hz3,hTI3,⟨pa,pb,hTO3⟩,g13,g23⟩:=Z';refine⟨.ref s.heap.objs.size,_,I.turnedLaid (a:=s.heap.objs.size) (o:=.tup [x,y]) (ch:=[z,TI,TO,i1,i2]) (fun c o hc' q=>?_) hf (Tf _) ?_,rfl,⟨s.heap.objs.size,x,y,rfl,dM,fun zs vt=>by rw[I.tuple_inj vt hq];exact hx,fun zs vt=>by rw[I.list_inj vt hq2];exact hy,rfl⟩,?_,fun c hc'=>?_⟩
  ·simp only [Ts,TQ,T7,not_or] at hc';exact iw.extBut _ _ hc'.1 (hk c o hc'.1 hc'.2.2.1 hc'.2.2.2.1 hc'.2.2.2.2 q)
  ·refine⟨by show 2<=sizeLine;decide,[u,u2],.cons ru (.cons ru2 .nil),?_⟩;exact⟨_,iw.extBut _ _ nz hT,rfl,_,rfl,rfl⟩
  ·exact⟨vv,iw.extBut _ _ D.TIz hTI3,⟨pa,pb,iw.extBut _ _ D.TOz hTO3⟩,g13.extBut iw.extBut D.i1z,g23.extBut iw.extBut D.i2z⟩
  ·have bj:c≠s.heap.objs.size:=by
    simp only [Ts,TQ,T7] at hc';rcases hc' with rfl|rfl|rfl|rfl|rfl
    ·exact(lt st.z).symm
    ·exact(lt st.ti).symm
    ·exact(lt hTO).symm
    ·obtain⟨o,e,_⟩:=st.g1;exact(lt e).symm
    ·obtain⟨o,e,_⟩:=st.g2;exact(lt e).symm
   rw[az bj];exact(hf c hc').1
 done:=by intro X hP hw hK hc i aa s σ H E I hf st hg;subst hP hw hK;obtain⟨xs,hq,hx⟩:=hg;obtain⟨af,rv,p,hz⟩:=I.tuple hq;have p':s.heap.IsTuple a af.toArray:=p;have hl:=rv.length;refine QW (I.ok.hd hc) D st p' (by rw[Array.getElem?_eq_none];rw[Ti];lia) fun h' hk=>⟨rfl,I.turnedL (t':=s.toks) (ch:=[z,TI,TO,i1,i2]) (fun c o hc' q=>?_) hf⟩;simp only [Ts,TQ,T7,not_or] at hc';exact hk c o hc'.1 hc'.2.2.1 hc'.2.2.2.1 hc'.2.2.2.2 q
 self:=by intro A i s Q E st h;exact wpAny_pyIter_zip st.z h
section
def iZip (K:W.Frag)(ta:TA):TI:=fun σ H R=>ta σ H fun vs H1=>∃a b,vs = [.ref a,.ref b]/\(∃xs,SqT K H1 a xs)/\(∃ys,SqL K H1 b ys)/\R (HN K a b) H1
theorem pi_zip {a b:Expr}{ta:TA}{pos qq:Pos}{kn:Nat}(hg:Gl X "zip")(hm:X.mg "zip"=none)(ha:PA X [a,b] ta)(he:starEach [a,b] X.env=(false,eval a X.env)::starEach [b] X.env:=by rfl)
  (bA:(backTo pos (starEach [b] X.env)).any (·.1)=false:=by rfl):
  PI X (.Tuple bU kn qq) (.Call (.Name "zip" p) [a,b] [] pos) (iZip X.K ta):=by
 intro aa s σ H R I h;refine UY (lK I hg hm (by decide+kernel:bootBuiltins "zip"=some (.type "zip")) ?_);refine Us (ay (ha pos aa s σ H _ I h) fun us s1 ⟨vs,H1,I1,r1,q1⟩=>?_) he bA;obtain⟨x,y,rfl,⟨xs,hx⟩,⟨ys,hy⟩,hR⟩:=q1
 cases r1 with
 |cons r rr=>
  cases rr with
  |cons r' rr=>
   cases rr;cases r;cases r';obtain⟨af,v1,pl,hz⟩:=I1.tuple hx;obtain⟨aA,v2,du,hz2⟩:=I1.list hy;refine P2 (show s1.heap.IsTuple x af.toArray from pl) du.isList fun h' Z D kk=>?_;refine wpAny_pyIter_zip Z.z ?_;refine⟨_,_,_,_,H1,rfl,I1.kept (t':=s1.toks) kk,P1 x y _ _ _ _ _ D,Z,fun b hb=>?_,hR⟩;have hn:∀j,s1.heap.objs.size<=j->da X aa H1 j:=fun j hj=>I1.fpOk hj (I1.hok.fresh hj);simp only [Ts,TQ,T7] at hb;rcases hb with rfl|rfl|rfl|rfl|rfl
   all_goals exact hn _ (by lia)
end
end L2.Ztl
namespace L2
open PySem PySem.Spec PyProof.Rows PySem.Builtin PySem.AutoSeq1
variable {w:World}{it l I:Addr}{prog:Program}{items:Array Value}
theorem Rv:typeLookup (.type "tuple") "__reversed__"=pure none:=by rw[UL,Uj];kernel_rfl
theorem Sj:Slot "reversed" "__init__" "object.__init__":=
 .of (owner:="object") (n:="__init__") (by rw[UL,Uj];kernel_rfl) (by decide+kernel) (by decide+kernel) (by decide+kernel)
  (by first|exact .inl (by decide+kernel)|exact .inr (by decide+kernel)) (by rw[UT];kernel_rfl)
theorem QV:TypeCalled "reversed" "reversed.__new__" "object.__init__":=
 ⟨by decide+kernel,by decide+kernel,⟨_,_,HG⟩,So,by decide+kernel,by rw[UT];kernel_rfl,Sj⟩
theorem RR:isSubtype (.type "tuple") (.type "dict")=pure false:=by rw[UT];kernel_rfl
def IsRvT (h:Heap)(it t:Addr)(k:Int):Prop:=∃o,h.get? it=some o/\o.cls = .type "reversed"/\o.data = .fields #[.ref t,.int k 0]
section
variable {A:Around}{E:am}{s:Shared}
theorem IsRvT.typeIs {k:Int}(x:IsRvT s.heap it l k):s.TypeIs (.ref it) "reversed":=let ⟨o,ho,hc,_⟩:=x;⟨o,ho,hc⟩
end
theorem Si (t:Addr)(items:Array Value)(hsz:(items.size:Int)<2 ^ 63):
  Meets (Builtin.«reversed.__new__» ⟨[.type "reversed", .ref t], []⟩) (fun _ R s => IsTup s.heap t items ∧
   R (.ok (.ret (Value.ref s.heap.objs.size))) { s with heap:=s.heap.push { cls:=Value.type "reversed",data:=.fields #[.ref t,rawInt ((items.size:Int)-1)] },toks:=s.toks+1+1 }):=
 .of_wp fun prog w A R s h=>by
  obtain⟨hp,g,d,tk,os⟩:=s;obtain⟨hl,h⟩:=h;have hsub:=RV;have hT:Shared.TypeIs ⟨hp,g,d,tk,os⟩ (.ref t) "tuple":=hl.typeIs;have hlk:=Rv;have hg:=F.slot_tuple_getitem.lookup;have hd:=RR
  wp_walk using len_tuple hl hsz
  exact⟨_,rfl,h⟩
theorem slot_rvt_next:Slot "reversed" "__next__" "reversed.__next__":=
 .of (owner:="reversed") (n:="__next__") (by rw[UL,Uj];kernel_rfl) (by decide+kernel) (by decide+kernel) (by decide+kernel)
  (by first|exact .inl (by decide+kernel)|exact .inr (by decide+kernel)) (by rw[UT];kernel_rfl)
theorem HI:Slot "reversed" "__iter__" "reversed.__iter__":=
 .of (owner:="reversed") (n:="__iter__") (by rw[UL,Uj];kernel_rfl) (by decide+kernel) (by decide+kernel) (by decide+kernel)
  (by first|exact .inl (by decide+kernel)|exact .inr (by decide+kernel)) (by rw[UT];kernel_rfl)
theorem slot_rvt_hint:Slot "reversed" "__length_hint__" "reversed.__length_hint__":=
 .of (owner:="reversed") (n:="__length_hint__") (by rw[UL,Uj];kernel_rfl) (by decide+kernel) (by decide+kernel) (by decide+kernel)
  (by first|exact .inl (by decide+kernel)|exact .inr (by decide+kernel)) (by rw[UT];kernel_rfl)
theorem P0:typeLookup (.type "reversed") "__len__"=pure none:=by rw[UL,Uj];kernel_rfl
theorem HK : entryFor table "reversed.__next__" = some Builtin.«reversed.__next__» := entryFor_of_tree (by kernel_rfl)
theorem Su : entryFor table "reversed.__length_hint__" = some Builtin.«reversed.__length_hint__» := entryFor_of_tree (by kernel_rfl)
theorem Ss : entryFor table "reversed.__iter__" = some Builtin.«dict_keyiterator.__iter__» :=
 entryFor_alias (id':="dict_keyiterator.__iter__") (by kernel_rfl) (by first|rfl|decide+kernel | (unfold String.splitOn;simp +decide [String.splitOnAux])) (by decide+kernel) (by kernel_rfl)
theorem HH (a:Value):argsOk "reversed.__next__" ⟨[a],[]⟩:=by unfold argsOk;kernel_rfl
theorem Sh (a:Value):argsOk "reversed.__iter__" ⟨[a],[]⟩:=by unfold argsOk;kernel_rfl
theorem Sg (a:Value):argsOk "reversed.__length_hint__" ⟨[a],[]⟩:=by unfold argsOk;kernel_rfl
section
variable {A:Around}{E:am}{s:Shared}
theorem Hd {k:Int}{Q:am}(hz:IsRvT s.heap it l k)(h:Q (.ref it) s):wpAny (model prog w) A (pyIter (.ref it)) Q E s:=by refine wpAny_pyIter_slot hz.typeIs HI (Ud HI hz.typeIs Ss ?_ (Sh _));show wpAny _ _ (ret (.ref it)) _ _ s;exact Tj ⟨_,rfl,"reversed",_,hz.typeIs,slot_rvt_next.lookup,h⟩
theorem Sf {k:Nat}{x:Value}{Q:Option Value->Shared->Prop}(gZ:IsRvT s.heap it l k)(hl:IsTup s.heap l items)(hx:items[k]? = some x)(hk:(k:Int)<2 ^ 63)
  (hQ:∀h' tk,IsRvT h' it l ((k:Int)-1)->Heap.SameBut it s.heap h'->Q (some x) { s with heap:=h',toks:=tk }):wpAny (model prog w) A (pyNext (.ref it)) Q E s:=by
 obtain⟨o,ho,hc,hd⟩:=id gZ;have hsz:k<items.size:=(Array.getElem?_eq_some_iff.mp hx).1;unfold pyNext
 refine S6 (wpAny_attempt (T6 (name:=Str.ofString "__next__") gZ.typeIs slot_rvt_next
  (Ud slot_rvt_next gZ.typeIs HK ?_ (HH _))))
 show wpAny _ _ (field (.ref it) 0 >>= _) _ _ s;refine S6 (TV ho hd (x:=.ref l) rfl ?_);show wpAny _ _ (field (.ref it) 1 >>= _) _ _ s;refine S6 (TV ho hd (x:=.int k 0) rfl ?_);show wpAny _ _ (if ((k:Int)<0) then _ else _) _ _ s;rw[Tp (by lia)];show wpAny _ _ (specialOf (.ref l) (Str.ofString "__getitem__") >>= _) _ _ s;refine S6 (wpAny_specialOf hl.typeIs slot_tuple_getitem.lookup ?_);show wpAny _ _ (if false=true then _ else _) _ _ s;rw[Tp (by decide)];refine S6 (wpAny_mkInt ?_);refine S6 (wpAny_attempt (getItem_tuple (j:=k) (x:=x) hl (by lia) hk (by unfold seqIndex?;simp;lia) hx ?_));show wpAny _ _ (field (.ref it) 1 >>= _) _ _ _;refine S6 (TV ho hd (x:=.int k 0) rfl ?_);refine S6 (wpAny_setField ho hd (by simp) (Tj ⟨x,rfl,Tj (hQ _ _ ?_ (Heap.SameBut.update ..))⟩))
 exact⟨_,Uy _ ho (Obj.isFreed_of_fields (UZ hd _)),(Obj.cls_mapFields ..).trans hc,by
  rw[UZ hd];simp [rawInt]⟩
theorem RQ {Q:Option Value->Shared->Prop}(hh:A.handled=none)(gZ:IsRvT s.heap it l (-1))
  (hQ:∀h',(∀b o,b≠it->s.heap.get? b=some o->h'.get? b=some o)->Q none { s with heap:=h' }):wpAny (model prog w) A (pyNext (.ref it)) Q E s:=by
 obtain⟨o,ho,hc,hd⟩:=id gZ;unfold pyNext
 refine S6 (wpAny_attempt (T6 (name:=Str.ofString "__next__") gZ.typeIs slot_rvt_next
  (Ud slot_rvt_next gZ.typeIs HK ?_ (HH _))))
 show wpAny _ _ (field (.ref it) 0 >>= _) _ _ s;refine S6 (TV ho hd (x:=.ref l) rfl ?_);show wpAny _ _ (field (.ref it) 1 >>= _) _ _ s;refine S6 (TV ho hd (x:=.int (-1) 0) rfl ?_);show wpAny _ _ (if ((-1:Int)<0) then _ else _) _ _ s;rw[Tt (by decide)];refine S6 (wpAny_rule ?_);refine S6 ?_;show wpAny _ _ (setField (.ref it) 1 (rawInt (-1)) >>= fun _=>setField (.ref it) 0 .none) _ _ s;refine S6 (wpAny_setField ho hd (by simp) ?_);have hz:=Obj.isFreed_of_fields (UZ hd fun x=>x.setIfInBounds 1 (rawInt (-1)));have ho2:=Uy (Obj.mapFields fun x=>x.setIfInBounds 1 (rawInt (-1))) ho hz;refine wpAny_setField ho2 (UZ hd _) (by simp) ?_;refine S6 ?_;show wpAny _ _ (newExc (.type "StopIteration") [] >>= _) _ _ _;refine S6 ?_;simp only [newExc,newTuple];refine S6 (TZ ?_ (by size_fits));refine S6 (m:=firstArgMember _ _) (wpAny_of_eq (a:=Value.none) (by first|rfl | (simp only [firstArgMember];rfl)) ?_);refine TZ ?_ (by size_fits);simp only [raiseNew];refine S6 (wpAny_handled ?_);rw[show A.in1.handled=none from hh];refine S6 (Tj (wpAny_throw ?_));refine S6 (wpAny_isInstance (T:="StopIteration") (b:=true) ⟨_,Tu _ rfl,rfl⟩ isSubtype_stop ?_);exact Tj (hQ _ fun b o' hb e=>S7 _ (S7 _ ((Uw _ _ (Ne.symm hb)).trans ((Uw _ _ (Ne.symm hb)).trans e))))
theorem PZ (hh:A.handled=none)(I t:Addr)(bj:I≠t)(items:Array Value)(hsz:(items.size:Int)<2 ^ 63):
  Walks prog w A I [I,t] [I] items.size (fun i v=>items[items.size-1-i]? = some v) (fun i h=>IsRvT h I t ((items.size:Int)-1-i)/\IsTup h t items) where
 sub:=fun b hb=>by simp at hb;simp [hb]
 frame:=fun i h h' ⟨⟨o,ho,hc,hd⟩,⟨p,hp,r⟩⟩ hk=>⟨⟨o,hk I (by simp) o ho,hc,hd⟩,⟨p,hk t (by simp) p hp,r⟩⟩
 item:=fun i s Q E hi ⟨h1,h2⟩ hQ=>by
  have e1:(items.size:Int)-1-i=((items.size-1-i:Nat):Int):=by lia
  rw[e1] at h1;have hx:items[items.size-1-i]? = some items[items.size-1-i]:=Ve (by lia);refine Sf h1 h2 hx (by lia) fun h' tk g1 g2=>hQ _ h' tk hx ⟨?_,?_⟩ fun b o hb e=>?_
  ·have e2:((items.size-1-i:Nat):Int)-1=(items.size:Int)-1-((i+1:Nat):Int):=by lia
   rw[<- e2];exact g1
  ·obtain⟨p,hp,r⟩:=h2;exact⟨p,g2.extBut _ _ (Ne.symm bj) hp,r⟩
  ·exact g2.extBut _ _ (by simpa using hb) e
 done:=fun s Q E ⟨h1,h2⟩ hQ=>by
  have e1:(items.size:Int)-1-(items.size:Nat) = -1:=by lia
  rw[e1] at h1;exact RQ hh h1 fun h' hk=>hQ h' s.toks fun b o hb e=>hk b o (by simpa using hb) e
 self:=fun i s Q E ⟨h1,h2⟩ hq=>Hd h1 hq
theorem OM {t:Addr}{Q:Bool->Shared->Prop}(hI:IsRvT s.heap I t ((items.size:Int)-1))(ht:IsTup s.heap t items)(hsz:items.size<=16777216)
  (h:∀tk b,s.toks<=tk->Q b { s with toks:=tk }):wpAny (model prog w) A (Builtin.List.listLengthHint (.ref I)) Q E s:=by
 obtain⟨o,ho,hc,hd⟩:=id hI;unfold Builtin.List.listLengthHint;refine S6 (wpAny_specialOf hI.typeIs P0 ?_);show wpAny _ _ (specialOf (Value.ref I) (Str.ofString "__length_hint__") >>= _) _ _ _;refine S6 (wpAny_specialOf hI.typeIs slot_rvt_hint.lookup ?_)
 (generalize BK:("reversed.__length_hint__":String)=id0;wp_delta;rw[show splitId id0=some ("reversed","__length_hint__") from by subst BK;decide+kernel];subst BK)
 refine S6 (wpAny_isInstance (b:=true) hI.typeIs (by rw[UT];kernel_rfl) ?_);refine wpAny_ite_split (fun j9=>absurd j9 (by decide)) (fun _=>?_);refine wpAny_ite_split (fun j9=>absurd j9 (by decide+kernel)) (fun _=>?_);refine S6 (wpAny_rule ?_);refine S6 (wpAny_of_eq (slot_rvt_hint.bind (.ref I)) ?_);show wpAny _ _ (Sem.attempt (call (.builtin "reversed.__length_hint__") [.ref I]) >>= _) _ _ _;refine S6 (wpAny_attempt (Ud slot_rvt_hint hI.typeIs Su ?_ (Sg _)));show wpAny _ _ (field (.ref I) 0 >>= _) _ _ s;refine S6 (TV ho hd (x:=.ref t) rfl ?_);show wpAny _ _ (if (Value.ref t==Value.none)=true then _ else _) _ _ s;rw[Tp (by simp)];refine S6 (len_tuple ht (by lia) ?_);refine S6 (m:=asInt? _) (Tj ?_);show wpAny _ _ (field (.ref I) 1 >>= _) _ _ _;refine S6 (TV ho hd (x:=.int ((items.size:Int)-1) 0) rfl ?_);show wpAny _ _ (if ((items.size:Int)<(items.size:Int)-1+1) then _ else _) _ _ _;rw[Tp (by lia)];refine S6 (wpAny_mkInt ?_);refine Tj ⟨_,rfl,?_⟩;have e1:(items.size:Int)-1+1=(items.size:Nat):=by lia
 rw[e1];have IB:Builtin.List.listTooLong ((items.size:Int).toNat)=false:=by simp [Builtin.List.listTooLong,sizeLine];lia
 have Jc:Builtin.List.listFitsIndex (items.size:Int)=true:=by simp [Builtin.List.listFitsIndex];lia
 have IK:¬ (items.size:Int)<0:=by lia
 have fin:∀b,Q b { s with toks:=s.toks+1+1+1 }:=fun b=>h _ b (by lia);clear h hsz;generalize (items.size:Int)=N at IB Jc IK
 wp_walk
 exact fin _
theorem QU {R:Result->Shared->Prop}{t:Addr}(hh:A.handled=none)(hI:IsRvT s.heap I t ((items.size:Int)-1))(ht:IsTup s.heap t items)(bj:I≠t)(hsz:items.size<=16777216)
  (S:Addr) (res:Value) (c₀:Nat) (hS:s.heap.get? S=some { cls:=.type "list",data:=.seq #[] c₀ })
  (hR:∀h' tk aW c',(∀b o,b≠S->b≠I->s.heap.get? b=some o->h'.get? b=some o)->h'.get? S=some { cls:=.type "list",dict:=none,data:=.seq aW c',slots:=#[] } →
   ItemsOf (fun i v=>items[items.size-1-i]? = some v) aW items.size->R (.ok (.ret res)) { s with heap:=h',toks:=tk }):
  wpAny (model prog w) A.in1 (Builtin.List.listExtendWith (.ref S) (.ref I) res)
   (fun fin s'=>match fin with | .done f=>R (.ok f) s' | .again c'=>c'.quiet=true/\codeAny (model prog w) A c' R s') (fun e s'=>R (.error e) s') s:=by
 obtain⟨oI,hoI,hcI,hdI⟩:=id hI;obtain⟨oT,hoT,hcT,nT,hdT⟩:=id ht;have qm:S≠I:=fun e=>by subst e;rw[hS] at hoI;cases hoI;simp at hcI
 have sF:S≠t:=fun e=>by subst e;rw[hS] at hoT;cases hoT;simp at hcT
 have Jn:S ∉ [I,t]:=fun hm=>by simp at hm;rcases hm with e|e;exact qm e;exact sF e
 have W:=(PZ (prog:=prog) (w:=w) (A:=A.in1) hh I t bj items (by lia)).toS
 have gx:∀(h:Heap) (c₁ tk:Nat),IsRvT h I t ((items.size:Int)-1-((0:Nat):Int))/\IsTup h t items->(∀b o,b≠S->s.heap.get? b=some o->h.get? b=some o) →
   h.get? S=some { cls:=.type "list",data:=.seq #[] c₁ }->codeAny (model prog w) A (.builtin "list.extend.loop" ⟨[.ref S,.ref I,res],[]⟩) R { s with heap:=h,toks:=tk }:=by
  intro h c₁ tk gZ hk hS₁;refine codeAny_extend_loopS W (by rw[TY];lia) S Jn res items.size 0 _ #[] c₁ rfl (T3 _) gZ hS₁ (ItemsOf.nil _) fun s' aW c' hm mT cS=>?_;rw[Moved.eq_with hm];refine hR s'.heap s'.toks aW c' (fun b o hb vY e=>hm.heap b o (fun bT=>?_) (hk b o hb e)) mT cS;simp at bT;rcases bT with e'|e'
  ·exact hb e'
  ·exact vY e'
 unfold Builtin.List.listExtendWith;refine S6 (wpAny_typeOf (T:="reversed") hI.typeIs ?_);have h1:Builtin.List.listSameRef (.ref S) (.ref I)=false:=by simp [Builtin.List.listSameRef,qm]
 have h2:(Value.type "reversed"==Value.type "list")=false:=by decide
 have h3:(Value.type "reversed"==Value.type "tuple")=false:=by decide
 simp only [h1,h2,h3,Bool.or_false,Uo,UU];refine S6 (Hd hI ?_);refine S6 (UR (OM hI ht hsz fun tk b vA=>?_));have e0:(items.size:Int)-1-((0:Nat):Int)=(items.size:Int)-1:=by lia
 refine wpAny_ite_split (fun _=>?_) (fun _=>Tj ⟨plainId_quiet F.plain_extend_loop _,gx s.heap c₀ tk ⟨by rw[e0];exact hI,ht⟩ (fun b o _ e=>e) hS⟩);refine S6 (wpAny_rule ?_);refine S6 ?_;show wpAny _ _ (updateSeq S (·.push .none) >>= fun _=>updateSeq S (·.pop)) _ _ _;refine S6 (wpAny_updateSeq hS rfl ?_);have hS₂:=Uy (Obj.mapSeq (·.push Value.none)) hS rfl;refine wpAny_updateSeq (hz:=by seq_fits) hS₂ rfl ?_;have hS₃:=Uy (Obj.mapSeq (·.pop)) hS₂ rfl
 have oth:∀b o,b≠S->s.heap.get? b=some o->((s.heap.update S (Obj.mapSeq (·.push Value.none))).update S (Obj.mapSeq (·.pop))).get? b=some o:=fun b o hb e=>
  (Uw _ _ (Ne.symm hb)).trans ((Uw _ _ (Ne.symm hb)).trans e)
 refine Tj ⟨plainId_quiet F.plain_extend_loop _,gx _ _ _ ⟨⟨oI,oth I _ (Ne.symm qm) hoI,hcI,by rw[e0];exact hdI⟩,⟨oT,oth t _ (Ne.symm sF) hoT,hcT,nT,hdT⟩⟩ oth hS₃⟩
theorem OL {R:Result->Shared->Prop}{t:Addr}(hh:A.handled=none)(hI:IsRvT s.heap I t ((items.size:Int)-1))(ht:IsTup s.heap t items)(bj:I≠t)(hsz:items.size<=16777216)
  (S:Addr) (hS:s.heap.get? S=some { cls:=.type "list",data:=.seq #[] })
  (hR:∀h' tk aW c',(∀b o,b≠S->b≠I->s.heap.get? b=some o->h'.get? b=some o)->h'.get? S=some { cls:=.type "list",dict:=none,data:=.seq aW c',slots:=#[] } →
   ItemsOf (fun i v=>items[items.size-1-i]? = some v) aW items.size->R (.ok (.ret .none)) { s with heap:=h',toks:=tk }):
  wpAny (model prog w) A.in1 (Builtin.«list.__init__» ⟨[.ref S, .ref I], []⟩)
   (fun fin s'=>match fin with | .done f=>R (.ok f) s' | .again c'=>c'.quiet=true/\codeAny (model prog w) A c' R s') (fun e s'=>R (.error e) s') s:=by
 obtain⟨oI,hoI,hcI,hdI⟩:=id hI;obtain⟨oT,hoT,hcT,nT,hdT⟩:=id ht;have qm:S≠I:=fun e=>by subst e;rw[hS] at hoI;cases hoI;simp at hcI
 have sF:S≠t:=fun e=>by subst e;rw[hS] at hoT;cases hoT;simp at hcT
 show wpAny _ _ (do let bF ← Builtin.List.listItems (.ref S);Builtin.List.listUpdate (.ref S) (fun _=>#[]);letGo bF.toList.reverse;Builtin.List.listExtendWith (.ref S) (.ref I) .none) _ _ s;refine S6 ?_;unfold Builtin.List.listItems;refine S6 (UI hS rfl (Tj ?_));show wpAny _ _ (updateSeq S (fun _=>#[]) >>= fun _=>letGo (#[]:Array Value).toList.reverse >>= fun _=>Builtin.List.listExtendWith (.ref S) (.ref I) .none) _ _ s;refine S6 (wpAny_updateSeq hS rfl ?_);have hS₂:=Uy (Obj.mapSeq (fun _=>(#[]:Array Value))) hS rfl
 have oth:∀b o,b≠S->s.heap.get? b=some o->(s.heap.update S (Obj.mapSeq (fun _=>(#[]:Array Value)))).get? b=some o:=
  fun b o hb e=>(Uw _ _ (Ne.symm hb)).trans e
 refine S6 (wpAny_letGo ?_);refine QU hh ⟨oI,oth I _ (Ne.symm qm) hoI,hcI,hdI⟩ ⟨oT,oth t _ (Ne.symm sF) hoT,hcT,nT,hdT⟩ bj hsz S .none _ hS₂ fun h' tk aW c' hk mT cS=>?_;exact hR h' tk aW c' (fun b o hb vY e=>hk b o hb vY (oth b o hb e)) mT cS
theorem Se {Q:am}{t:Addr}(hh:A.handled=none)(hI:IsRvT s.heap I t ((items.size:Int)-1))(ht:IsTup s.heap t items)(bj:I≠t)(hsz:items.size<=16777216)
  (hQ:∀h' tk aW c',(∀b o,b≠I->s.heap.get? b=some o->h'.get? b=some o)->h'.get? s.heap.objs.size=some { cls:=.type "list",dict:=none,data:=.seq aW c',slots:=#[] } →
   ItemsOf (fun i v=>items[items.size-1-i]? = some v) aW items.size->Q (.ref s.heap.objs.size) { s with heap:=h',toks:=tk }):
  wpAny (model prog w) A (call (.type "list") [.ref I]) Q E s:=by
 obtain⟨oI,hoI,hcI,hdI⟩:=id hI;obtain⟨oT,hoT,hcT,nT,hdT⟩:=id ht
 refine callType_codes (Q₁:=fun obj s₁=>obj = .ref s.heap.objs.size/\s₁={ s with heap:=s.heap.push { cls:=.type "list",data:=.seq #[] } }) F.called_list (F.typeCall_list_1 _) F.entry_list_init
  (code_list_new _ ⟨rfl,rfl⟩) fun obj s₁ h₁=>?_
 obtain⟨rfl,rfl⟩:=h₁;have hS:(s.heap.push { cls:=.type "list",data:=.seq #[] }).get? s.heap.objs.size=some { cls:=.type "list",data:=.seq #[] }:=Tu _ rfl;refine⟨⟨_,hS,rfl⟩,F.args_list_init_2 _ _,OL (A:=A.in1) hh ⟨oI,S7 _ hoI,hcI,hdI⟩ ⟨oT,S7 _ hoT,hcT,nT,hdT⟩ bj hsz _ hS fun h' tk aW c' hk mT cS=>?_⟩;exact⟨rfl,hQ h' tk aW c' (fun b o hb e=>hk b o (TU (To e)) hb (S7 _ e)) mT cS⟩
theorem SG {Q:am}{t:Addr}(hh:A.handled=none)(ht:IsTup s.heap t items)(hsz:items.size<=16777216)
  (hQ:∀h' tk aW c' a,s.heap.objs.size<=a->(∀b o,s.heap.get? b=some o->h'.get? b=some o)->h'.get? a=some { cls:=.type "list",dict:=none,data:=.seq aW c',slots:=#[] } →
   ItemsOf (fun i v=>items[items.size-1-i]? = some v) aW items.size->Q (.ref a) { s with heap:=h',toks:=tk }):
  wpAny (model prog w) A (call (.type "reversed") [.ref t]) (fun v s'=>wpAny (model prog w) A (call (.type "list") [v]) Q E s') E s:=by
 obtain⟨oT,hoT,hcT,nT,hdT⟩:=id ht;refine callType_new QV (by decide) (SF _) (Sz _) (fun obj=>F.args_object_init_2 obj _) SH (Si t items (by lia)) ⟨ht,?_⟩;refine⟨⟨_,Tu _ rfl,rfl⟩,?_⟩;have bj:s.heap.objs.size≠t:=fun e=>Ul _ (e▸To hoT);refine Se (t:=t) (items:=items) hh ⟨_,Tu _ rfl,rfl,rfl⟩ ⟨oT,S7 _ hoT,hcT,nT,hdT⟩ bj hsz fun h' tk aW c' hk mT cS=>?_;refine hQ h' tk aW c' _ ?_ (fun b o e=>hk b o (TU (To e)) (S7 _ e)) mT cS;show s.heap.objs.size<=(s.heap.push _).objs.size;rw[UX];lia
end
end L2
namespace L2
open PySem PySem.Spec PyProof.Rows
variable {x aJ:Str}{H G:Hp}{P:Program}{w:World}{α:Type}{F:Fr}{e tg iter elt:Expr}{X:Cx}{σ:St}{M M':Ms}{i:Nat}{Q:VK}{t:Tv}{K:W.Frag}{st:Stmt}{te:TE}{es ifs:List Expr}{bQ p:Pos}{vs:List V}{r r':R2}{mg:Str->Option Value}{base:Heap}{fd:FuncData}{ps N':List Str}{scope:Scope}{T:String}{env:Env}{cl:List (Str×Addr)}{wa:TW}{psp:aM}{au:List Nat}
section
theorem FV:∀{xs:List V} {us:List Value},Vals xs us->Vals xs.reverse us.reverse
 |[],_,h=>by cases h;exact .nil
 |x::xs,_,h=>by
  cases h with
  |cons a b=>rw[UM,UM];exact(FV b).append (.cons a .nil)
def B8 (K:W.Frag):V->Hp->VK->Prop:=fun x H Q=>∃a vs,x = .ref a/\SqT K H a vs/\∀l,H l=none->Q (.ref l) (ax H l (.lst vs.reverse))
theorem QT {p' pos:Pos}(hc:X.calm=true)(hg:Gl X "list")(hm:X.mg "list"=none)(vP:Gl X "reversed")(qa:X.mg "reversed"=none)(he:PE X e te)
  (hs:starEach [e] X.env=(false,eval e X.env)::starEach [] X.env:=by rfl):
  PE X (.Call (.Name "list" p) [.Call (.Name "reversed" p') [e] [] bQ] [] pos) (pd (B8 X.K) te):=by
 intro aa s σ H Q I h;refine UY (lK I hg hm (by decide+kernel:bootBuiltins "list"=some (.type "list")) ?_);refine Us ?_ rfl rfl;show wpAny _ _ (spliced ((false,eval (.Call (.Name "reversed" p') [e] [] bQ) X.env)::backTo pos (starEach [] X.env))) _ _ s;refine UA ?_;refine UY (lK I vP qa (by decide+kernel:bootBuiltins "reversed"=some (.type "reversed")) ?_);refine Us ?_ hs rfl;rw[hs];show wpAny _ _ (spliced ((false,eval e X.env)::backTo bQ (starEach [] X.env))) _ _ s;refine UA (ay (he aa s σ H _ I h) fun u s1 ⟨x,H1,I1,r1,q1⟩=>?_);obtain⟨a,xs,rfl,hq,q⟩:=q1;cases r1;refine U6 ?_;obtain⟨af,rv,pl,hz⟩:=I1.tuple hq;have hlen:=rv.length;have hzz:=TY;refine Uz (SG (Q:=EP X aa σ Q) (E:=X.xe) (I1.ok.hd hc) pl (by simp only [Ti];lia) fun h' tk aW c' b hb hk hS cS=>?_) (fun v s2 hv=>U6 hv) fun _ _ e=>e;have hf:H1 b=none:=I1.hok.fresh hb;refine⟨.ref b,ax H1 b (.lst xs.reverse),I1.laid (t':=tk) hk hb ⟨by rw[Uu];exact hz,aW.toList,c',?_,?_⟩,rfl,q b hf⟩
 ·have el:aW.toList=af.reverse:=by
   obtain⟨a1,a2⟩:=cS;simp only [Ti] at a1;apply List.ext_getElem?;intro j;rcases U0 j af.length with hj|hj
   ·have h1:aW[j]? = some aW[j]:=Ve (by lia)
    have h2:=a2 j _ h1;simp only [Ti] at h2;rw[List.getElem?_reverse hj,Array.getElem?_toList,h1]
    simpa using h2.symm
   ·rw[List.getElem?_eq_none (by simp;lia),List.getElem?_eq_none (by simp;lia)]
  rw[el];exact FV rv
 ·simpa using hS
end
section
noncomputable def xc:Tv->Rz
 | .tup l=>.ok (.n (.lst l.reverse))
 |_=>.no
theorem MQ:iM K xc (B8 K):=fun G H x t s Q sm h1 e q=>by
 unfold xc at e
 split at e
 ·next l=>cases e;obtain⟨a,vs,rfl,ha,r⟩:=h1.tup sm;exact⟨a,vs,rfl,.of ha,kq r.rev q⟩
 ·cases e
noncomputable def kI (p:Str×Tv):Tv:=.tup [.at (.str p.1),p.2]
def xb:Tv->Rz
 | .lst l=>.ex fun r=>∃rows:List (Str×Tv),l=rows.map kI/\rows.length<=1000/\r = .n (.dic (rows.foldl (fun d p=>dP d (.inr p.1) p.2) []))
 |_=>.no
def my:V->Hp->VK->Prop:=fun x H Q=>∃(p:Addr) (ps:List V) (rows:List (Str×V)),x = .ref p/\H p=some (.lst ps)/\yU H ps rows/\rows.length<=1000/\∀a,H a=none->Q (.ref a) (ax H a (.dK (nj [] rows)))
theorem OK:∀{rows:List (Str×Tv)} {us:List (aw×V)} {ts:List (aw×Tv)},IsTs K G vs (rows.map kI)->IsKs K G us ts->∃rv:List (Str×V),rv.length=rows.length/\vs.length=rv.length/\(∀(j:Nat) (y:V),vs[j]? = some y->∃q x v,y = .ref q/\rv[j]? = some (x,v)/\G q=some (.tup [.str x,v]))/\IsKs K G (nj us rv) (rows.foldl (fun d p=>dP d (.inr p.1) p.2) ts):=by
 induction vs with
 |nil=>
  intro rows us ts h hk
  cases rows with
  |nil=>exact⟨[],rfl,rfl,fun j y e=>by simp at e,hk⟩
  |cons _ _=>cases h
 |cons v vs ih=>
  intro rows us ts h hk
  cases rows with
  |nil=>cases h
  |cons p rows=>
   cases h with
   |cons h1 h2=>
    cases h1 with
    |tup e r=>
     cases r with
     |cons c1 c2=>
      cases c2 with
      | @cons w _ _ _ c3 c4=>
       cases c4;cases c1;obtain⟨rv,a1,a2,a3,a4⟩:=ih h2 (hk.put c3 (k:=.inr p.1));refine⟨(p.1,w)::rv,by rw[Tz,Tz,a1],by rw[Tz,Tz,a2],fun j y ey=>?_,a4⟩
       cases j with
       |zero=>cases ey;exact⟨_,_,_,rfl,rfl,e⟩
       |succ j=>exact a3 j y ey
theorem MP:iM K xb my:=fun G H x t s Q sm h1 e q=>by
 unfold xb at e
 split at e
 ·next l=>
  cases e with
  |ex h=>obtain⟨rows,rfl,hr,rfl⟩:=h;obtain⟨a,vs,rfl,ha,r⟩:=h1.lst sm;obtain⟨rv,a1,a2,a3,a4⟩:=OK r (us:=[]) (ts:=[]) .nil;refine⟨a,vs,rv,rfl,ha,⟨a2,fun j y ey=>?_⟩,by lia,fun p hp=>q p _ hp (fun b x e=>by rw[az (cb e hp)];exact e) ⟨_,bu,a4⟩⟩;obtain⟨q',x,v,rfl,b1,b2⟩:=a3 j y ey;exact⟨q',x,v,rfl,b1,sm _ _ b2⟩
 ·cases e
noncomputable def JG:Tv->Bool
 | .tup _=>true
 |_=>false
def B7 (wa:TW)(wr:b5):TW:=fun M k=>wa M fun x M1=>aP (rd M1 x) fun t1=>JG t1=true/\wr M1 fun ts M2=>aP (rd M2 x) fun t=>∃(ns:List Str) (i:Str) (j:Nat),t = .tup (ns.map fun s=>.at (.str s))/\ts = [.at (.str i)]/\ns[j]? = some i/\(∀m,m<j->ns[m]? ≠ some i)/\k (.fz (.at (.int (j:Nat)))) (M2.cut M.tmp.length)
theorem LE.idt {n:Nat}{wr:b5}:LE X.K F (B7 wa wr) σ H Q->Bk (E2 X.K) (LE X.K F wa) (LF X.K F n wr) σ H Q:=fun⟨G,ta,M,K0,R,k,q⟩=>by
 refine⟨G,ta,M,_,R,k,fun x M1 G1 t1 v H1 k1 R1 s1 e1=>?_⟩;obtain⟨u,hu,hl,k1⟩:=aN k1;have hr:=R1.rd e1 hu
 cases u with
 |tup l=>
  obtain⟨a,vs,rfl,ha,_⟩:=hr.tup R1.sub;refine⟨⟨a,vs,rfl,ha⟩,G1,t1,M1,_,R1,k1,fun ts M2 G2 ws H2 k2 R2 s2 e2 _=>?_⟩;obtain⟨t,ht,ns,i,j,rfl,rfl,h1,h2,k2⟩:=aN k2;have hr2:=R2.rd (e1.stp ⟨s2,[],by simp⟩) ht;obtain⟨b,vs2,eb,hb,r2⟩:=hr2.tup R2.sub;cases eb;rw[E5 r2] at hb
  cases e2 with
  |cons c1 c2=>cases c2;cases c1;exact⟨a,ns,i,j,rfl,rfl,SqT.of hb,h1,h2,q _ _ G2 ta _ H2 k2 (R2.cutTo R.lt ⟨s1.g.trans s2,s1.t⟩) ⟨s1.g.trans s2,[],by simp⟩ (.at rfl)⟩
 |_=>injection hl
noncomputable def oj (l m:List Tv):List Tv:=(l.zip m).map fun p=>.tup [p.1,p.2]
def B6 (w:b5):b5:=fun M k=>w M fun ts M1=>match ts with
 |[.tup l,.lst m]=>l.length=m.length/\k (oj l m) M1
 |_=>False
theorem um {l m:List Tv}(h:l.length=m.length):(oj l m).length=l.length:=by unfold oj;rw[Ta,length_zip];lia
theorem LI.zip {w:b5}{R:It->Hp->Prop}:LI X.K F (B6 w) σ H R->Ztl.iZip X.K (LF X.K F 2 w) σ H R:=fun⟨G,ta,M,K0,R0,k,q⟩=>by
 refine⟨G,ta,M,_,R0,k,fun ts M1 G1 vs H1 k1 R1 s1 e1 l1=>?_⟩
 split at k1
 ·next l m=>
  obtain⟨hlm,k1⟩:=k1
  cases e1 with
  |cons c1 c2=>
   cases c2 with
   |cons c3 c4=>
    cases c4
    cases c1 with
    | @tup a xs _ ha rx=>
     cases c3 with
     | @lst b ys _ hb ry=>
      have pP:∀{G' H':Hp} {t u:Tv} {x y:V} {T:Addr},Same G' H'->H' T=none->IsT X.K G' x t->IsT X.K G' y u->∃ik,Same G' ik/\Same ik (ax H' T (.tup [x,y]))/\Same H' (ax H' T (.tup [x,y]))/\(∀a o,ik a=some o->G' a=some o∨H' a=none∨lr o)/\IsT X.K ik (.ref T) (.tup [t,u]):=fun {G' H' t u x y T} z2 hT hx hy=>by
       have sH:Same H' (ax H' T (.tup [x,y])):=fun b y e=>by rw[az (cb e hT)];exact e
       have sG:Same G' (ax G' T (.tup [x,y])):=fun b y e=>by rw[az (cb e (z2.free hT))];exact e
       refine⟨ax G' T (.tup [x,y]),sG,fun b y e=>?_,sH,fun b y e=>?_,.tup bu (.cons (hx.mono sG) (.cons (hy.mono sG) .nil))⟩
       ·by_cases z:b=T
        ·subst z;rw[bu] at e ⊢;exact e
        ·rw[az z] at e ⊢;exact z2 _ _ e
       ·by_cases z:b=T
        ·subst z;exact .inr (.inl hT)
        ·rw[az z] at e;exact .inl e
      have hx:=rx.len;have hy:=ry.len;refine⟨a,b,rfl,⟨xs,SqT.of (R1.sub _ _ ha)⟩,⟨ys,SqL.of (R1.sub _ _ hb)⟩,q _ _ G1 _ H1 k1 R1 s1 ⟨fun i G' H' z1 z2 hi=>?_,fun G' H' z1 z2=>⟨xs,SqT.of ((z1.trans z2) _ _ ha),by rw[um hlm,hx]⟩,fun i u G' H' x jy z1 z2 hu j3=>?_⟩⟩
      ·rw[um hlm] at hi;exact⟨xs,ys,xs[i],ys[i],SqT.of ((z1.trans z2) _ _ ha),SqL.of ((z1.trans z2) _ _ hb),Td (by lia),Td (by lia)⟩
      ·obtain⟨T,x',y',rfl,hT,h1,h2,rfl⟩:=j3
       have hi:i<l.length:=by have:=(Tn.mp hu).1;rw[um hlm] at this;exact this
       have e:(l.zip m)[i]? = some (l[i],m[i]):=List.getElem?_zip_eq_some.mpr ⟨Td hi,Td (by lia)⟩;unfold oj at hu;rw[Ui,e] at hu;cases hu;obtain⟨w1,hw1,hw1'⟩:=rx.get (Td hi);obtain⟨w2,hw2,hw2'⟩:=ry.get (Td (by lia:i<m.length));have f1:=h1 xs (SqT.of ((z1.trans z2) _ _ ha));have f2:=h2 ys (SqL.of ((z1.trans z2) _ _ hb));rw[hw1] at f1;cases f1;rw[hw2] at f2;cases f2;exact pP z2 hT (hw1'.mono z1) (hw2'.mono z1)
 ·exact k1.elim
end
def mZ {α : Type}:List α -> (List α -> Prop)->Prop
 |[],k=>k []
 |a::l,k=>mZ l fun l'=>k (a::l')
def sR (M:Ms)(k:Ms->Prop):Prop:=match M with
 |⟨e,o,t⟩=>mZ e fun e'=>mZ o fun o'=>mZ t fun t'=>k ⟨e',o',t'⟩
theorem uk:∀{l:List α} {k:List α -> Prop},mZ l k=k l
 |[],_=>rfl
 |a::l,k=>by unfold mZ;rw[uk]
theorem yT {k:Ms->Prop}:sR M k=k M:=by cases M;show mZ _ _=_;rw[uk,uk,uk]
def xa (w:b5):b5:=fun M k=>sR M fun M'=>w M' k
theorem MO (w:b5):xa w=w:=by funext M k;exact yT
def w8 (w:iP):iP:=fun M k=>sR M fun M'=>w M' k
theorem MN (w:iP):w8 w=w:=by funext M k;exact yT
inductive O2 where
 |add|sub|mul|fdiv|mod|pow
inductive C2 where
 |eq|ne|lt|le|gt|ge|isin|notin|isnt|eqt
inductive F1 where
 |len|list|tuple|sum|all|int|dict|repr|dpr
inductive Mt where
 |app|pop|ext
inductive IE where
 |var (i:Nat)|cst (v:V)
 |bin (o:O2) (a b:IE)|cmp (o:C2) (a b:IE)|ix (a b:IE)|dg (a b:IE)|b1 (f:F1) (a:IE)
 |and (a b:IE)|or (a b:IE)|not (a:IE)|ite (c a b:IE)
 |nil|cons (a r:IE)|tup (r:IE)|lst (r:IE)
 |call (j:Nat) (r:IE)|mth (m:Mt) (o r:IE)
 |comp (au:List Nat) (own:List Str) (p:Pt) (it c e:IE)
 |cmpv (au:List Nat) (own:List Str) (p:Pt) (i:Nat) (c e:IE)
 |tt|isi (T:String) (a:IE)|slc (a lo hi:IE)|rng (a:IE)
 |chn (o o':C2) (a b c:IE)|dnew|dct (ks:List Str) (r:IE)|glb (j:Nat)|rvs (b:Bool) (a:IE)|idx (a r:IE)|enu (a:IE)|get (d k z:IE)|lrv (a:IE)|idt (a r:IE)|zip (r:IE)
noncomputable abbrev IE.v (i:Nat):IE:=.var i
noncomputable abbrev IE.s (x:Str):IE:=.cst (.str x)
noncomputable abbrev IE.n (i:Int):IE:=.cst (.int i)
noncomputable abbrev IE.k (a r:IE):IE:=.cons a r
noncomputable abbrev IE.o:IE:=.nil
noncomputable abbrev Pt.k (a r:Pt):Pt:=.cons a r
noncomputable abbrev Pt.o:Pt:=.nil
noncomputable def O2.op:O2->Operator
 | .add=>.Add | .sub=>.Sub | .mul=>.Mult | .fdiv=>.FloorDiv | .mod=>.Mod | .pow=>.Pow
def O2.f:O2->Tv->Tv->Rz
 | .add=>xy
 | .sub=>m8 fun i j=>.int (i-j)
 | .mul=>iY (om CMul fun i j=>.int (i*j)) xl
 | .fdiv=>om xX fun i j=>.int (i / j)
 | .mod=>om (fun _ j=>0<j) fun i j=>.int (i % j)
 | .pow=>om CK fun i j=>.int (i ^ j.toNat)
noncomputable def C2.op:C2->CmpOp
 | .eq=>.Eq | .ne=>.NotEq | .lt=>.Lt | .le=>.LtE | .gt=>.Gt | .ge=>.GtE | .isin=>.In | .notin=>.NotIn | .isnt=>.IsNot | .eqt=>.Eq
def C2.f:C2->Tv->Tv->Rz
 | .eq=>iY (nY false) (iY (sL false) (sM false))
 | .ne=>iY (nY true) (iY (sL true) (sM true))
 | .lt=>m8 fun i j=>.bl (decide (i<j))
 | .le=>iY (m8 fun i j=>.bl (decide (i<=j))) (sT fun i j => !decide (j.cps.toList<i.cps.toList))
 | .gt=>iY (m8 fun i j=>.bl (decide (j<i))) (sT fun i j=>decide (j.cps.toList<i.cps.toList))
 | .ge=>m8 fun i j=>.bl (decide (j<=i))
 | .isin=>so false
 | .notin=>so true
 | .isnt=>iY xT (xx true)
 | .eqt=>xh
def F1.f:F1->Tv->Rz
 | .len=>xu
 | .list=>xS
 | .tuple=>yl
 | .sum=>xn
 | .all=>xm
 | .int=>xR
 | .dict=>xQ
 | .repr=>Dg
 | .dpr=>xb
noncomputable def F1.nm:F1->Str
 | .len=>"len" | .list=>"list" | .tuple=>"tuple" | .sum=>"sum" | .all=>"all" | .int=>"int" | .dict=>"dict" | .repr=>"repr" | .dpr=>"dict"
def Mt.f:Mt->Ob->List Tv->Option (Prop×Ob×Tv)
 | .app=>xr
 | .pop=>qF
 | .ext=>xk
noncomputable def Mt.nm:Mt->Str
 | .app=>"append" | .pop=>"pop" | .ext=>"extend"
structure Gm where
 bl:List Str
 fns:List (Str×aM)
 kt:List String:=[]
 gl:List (Str×Tv):=[]
structure Sm where
 e:TW
 t:cU
 f:b5
 a:iP
 i:b5
 o:nF:=fun _ _=>False
def j1:TW:=fun _ _=>False
def kM:cU:=fun _ _=>False
def dX:b5:=fun _ _=>False
def fN:iP:=fun _ _=>False
def ip:nF:=fun _ _=>False
noncomputable def dC (w:TW):Sm:=⟨w,CB w,dX,fN,uY w,Dl w⟩
noncomputable def JB (w:TW):Sm:=⟨w,sU w,dX,fN,dX,ip⟩
def Gm.sp (Γ : Gm)(j:Nat):aM:=match Γ.fns[j]? with
 |some p=>p.2
 |none=>fun _ _=>False
noncomputable def av (Γ : Gm):IE->Sm
 | .var i=>dC (oo i)
 | .cst v=>dC (wC (.at v))
 | .bin o a b=>dC (lq o.f (av Γ a).e (av Γ b).e)
 | .cmp o a b=>⟨lq o.f (av Γ a).e (av Γ b).e,sU (lq o.f (av Γ a).e (av Γ b).e),dX,fN,dX,ip⟩
 | .ix a b=>dC (lq vp (av Γ a).e (av Γ b).e)
 | .dg a b=>dC (lq wJ (av Γ a).e (av Γ b).e)
 | .b1 f a=>dC (kz f.f (av Γ a).e)
 | .and a b=>⟨Dk (av Γ a).e (av Γ b).e,CA (av Γ a).t (av Γ b).t,dX,fN,dX,ip⟩
 | .or a b=>⟨Cf (av Γ a).e (av Γ b).e,Bb (av Γ a).t (av Γ b).t,dX,fN,dX,ip⟩
 | .not a=>⟨Dj (av Γ a).e,Cz (av Γ a).t,dX,fN,dX,ip⟩
 | .ite c a b=>⟨Cy (av Γ c).t (av Γ a).e (av Γ b).e,kM,dX,fN,dX,ip⟩
 | .nil=>⟨j1,kM,xW,CF,dX,Cj⟩
 | .cons a r=>⟨j1,kM,qQ (av Γ a).e (xa (av Γ r).f),tI (av Γ a).e (w8 (av Γ r).a),dX,ip⟩
 | .tup r=>dC (qI Cw (av Γ r).f)
 | .lst r=>dC (qI Cv (av Γ r).f)
 | .call j r=>dC (xV (Γ.sp j) (av Γ r).a)
 | .mth m o r=>dC (xt m.f (av Γ o).e (av Γ r).f)
 | .comp au own p it c e=>dC (xU au own.length (av Γ it).i (bd p) (av Γ c).t (av Γ e).e)
 | .cmpv au own p i c e=>dC (yi au own.length i (bd p) (av Γ c).t (av Γ e).e)
 | .tt=>⟨j1,fun M k=>k true M,dX,fN,dX,ip⟩
 | .isi T a=>dC (kz (xo T) (av Γ a).e)
 | .slc a lo hi=>dC (Ci (av Γ a).e (av Γ lo).o (av Γ hi).o)
 | .rng a=>⟨j1,kM,dX,fN,Cg (av Γ a).e,ip⟩
 | .chn o o' a b c=>JB (Ce o.f o'.f (av Γ a).e (av Γ b).e (av Γ c).e)
 | .dnew=>dC Dh
 | .dct ks r=>dC (Cd ks (av Γ r).f)
 | .rvs b a=>dC (kz (Ca b) (av Γ a).e)
 | .idx a r=>dC (B9 (av Γ a).e (av Γ r).f)
 | .glb j=>dC (match Γ.gl[j]? with|some p=>wC p.2|none=>j1)
 | .enu a=>⟨j1,kM,dX,fN,Cc (av Γ a).e,ip⟩
 | .get d k z=>dC (Cb (av Γ d).e (av Γ k).e (av Γ z).e)
 | .lrv a=>dC (kz xc (av Γ a).e)
 | .idt a r=>dC (B7 (av Γ a).e (av Γ r).f)
 | .zip r=>⟨j1,kM,dX,fN,B6 (av Γ r).f,ip⟩
structure Cs where
 N:List Str
 names:List (Str×NameKind)
 fn:Bool
structure Ck where
 e:Expr->Bool
 t:Expr->Bool
 l:List Expr->Bool
 i:Expr->Expr->Bool
 ts:List Expr->Bool
 o:Option Expr->Bool:=fun _=>false
noncomputable def gT:List Expr->Bool:=fun _=>false
noncomputable def iq:Expr->Bool:=fun _=>false
noncomputable def nM:Expr->Expr->Bool:=fun _ _=>false
noncomputable def qO:Expr->Bool
 | .UnaryOp .Not _ _=>false
 | .BoolOp _ _ _=>false
 | .IfExp _ _ _ _=>false
 | .Compare _ _ _ _=>false
 |_=>true
noncomputable def bf:Expr->Bool
 | .Starred _ _=>false
 |_=>true
noncomputable def eK:Expr->Bool
 | .Set _ _ _=>false
 |_=>true
noncomputable def jt:Expr->Bool
 | .ListComp _ _ _ _=>false
 | .SetComp _ _ _ _=>false
 | .DictComp _ _ _ _ _=>false
 |_=>true
noncomputable def lN:Expr->Bool
 | .Slice _ _ _ _=>false
 |_=>true
noncomputable def Cs.gl (C:Cs)(x:Str):Bool:=C.names.lookup x==some .globalImplicit
noncomputable def Cs.vis (C:Cs)(x:Str):Bool:=match C.names.lookup x with
 |some .local=>true
 |some .cell=>true
 |some .free=>true
 |_=>false
noncomputable def Cs.loc (C:Cs)(x:Str):Bool:=match C.names.lookup x with
 |some .local=>true
 |some .cell=>C.fn
 |_=>false
noncomputable def gI (x:Str):Bool := !(x==("__debug__":Str)) && !(x==("__classdict__":Str)) && !(x==("__name__":Str))
noncomputable def ckP (C:Cs):Pt->Expr->Bool
 | .nm i,.Name x _=>C.N[i]? == some x&&C.loc x
 | .cons a b,.Tuple (e::es) _ _=>ckP C a e&&bf e&&ckPs C b es
 |_,_=>false
where ckPs (C:Cs):Pt->List Expr->Bool
 | .nil,[]=>true
 | .cons a b,e::es=>ckP C a e&&bf e&&ckPs C b es
 |_,_=>false
noncomputable def Cs.in (C:Cs)(scope:Scope)(N':List Str):Cs:=⟨N',scope.names.map fun(n,k)=>if (k==NameKind.free&&C.names.lookup n==some .cell) then (n,NameKind.cell) else (n,k),false⟩
noncomputable def iL:Expr->Bool
 | .Name _ _=>true
 | .Subscript _ _ _=>true
 |_=>false
noncomputable def w6:Mt->IE->List Expr->Bool
 | .app,_,[_]=>true
 | .ext,_,[_]=>true
 | .pop,.nil,[]=>true
 |_,_,_=>false
noncomputable def cv (c:Str->Bool):Expr->Bool
 | .Name x _=>c x
 |_=>false
noncomputable def w4 (c:Operator->Expr->Expr->Bool):Expr->Bool
 | .BinOp l op r _=>c op l r
 |_=>false
noncomputable def qD (c:CmpOp->Expr->Expr->Bool):Expr->Bool
 | .Compare l [op] [r] _=>c op l r
 |_=>false
noncomputable def lh (c:Expr->Expr->Bool):Expr->Bool
 | .Subscript a b _=>c a b
 |_=>false
noncomputable def gG (c:Expr->List Expr->Pos->Bool):Expr->Bool
 | .Call f es [] p=>c f es p
 |_=>false
noncomputable def jP (c:Expr->Str->Pos->Bool):Expr->Bool
 | .Attribute o x p=>c o x p
 |_=>false
noncomputable def eI (c:Expr->Bool):List Expr->Bool
 |[e]=>c e
 |_=>false
noncomputable def tD (c:List Expr->Bool):List Expr->Bool
 |[]=>false
 |e::es=>c (e::es)
noncomputable def oA (o:BoolOp)(a b:Expr->Bool):Expr->Bool
 | .BoolOp op (l::r) p=>op==o&&a l&&(match r with | []=>false | [x]=>b x|x::y::z=>b (.BoolOp op (x::y::z) p))
 |_=>false
noncomputable def sQ (c:Expr->Bool):Expr->Bool
 | .UnaryOp .Not r _=>c r
 |_=>false
noncomputable def wZ (c a b:Expr->Bool):Expr->Bool
 | .IfExp t l r _=>c t&&a l&&b r
 |_=>false
noncomputable def wY:List Expr->Bool
 |[]=>true
 |_=>false
def De (a:Expr->Bool)(r:List Expr->Bool):List Expr->Bool
 |e::es=>a e&&bf e&&r es
 |_=>false
noncomputable def wX (c:List Expr->Bool):Expr->Bool
 | .Tuple es _ _=>c es&&decide (es.length<=1000)
 |_=>false
noncomputable def wW (c:List Expr->Bool):Expr->Bool
 | .List es _=>c es&&decide (es.length<=1000)
 |_=>false
noncomputable def tw (c:Expr->Expr->Expr->List Expr->Scope->Bool):Expr->Bool
 | .ListComp elt [⟨tg,iter,ifs,n⟩] scope _=>n==0&&c elt tg iter ifs scope
 |_=>false
noncomputable def Dc (c:Expr->Bool):Option Expr->Bool
 |some e=>c e
 |none=>false
noncomputable def C9:Option Expr->Bool
 |some _=>false
 |none=>true
noncomputable def kN:Option Expr->Bool:=fun _=>false
def dD (c:Expr->Bool):Ck:=⟨c,fun e=>c e&&qO e,gT,fun _ e=>c e,eI fun e=>c e&&qO e,Dc c⟩
noncomputable def cL (C:Cs)(au:List Nat)(own:List Str):List Str:=(au.map fun j=>(C.N[j]?).getD ("":Str))++own
def qz (e c:Expr->Bool):Ck:=⟨e,c,gT,nM,eI c,kN⟩
noncomputable def qC (c:CmpOp->CmpOp->Expr->Expr->Expr->Bool):Expr->Bool
 | .Compare l [op,eA] [m,r] _=>c op eA l m r
 |_=>false
noncomputable def vo:Expr->Bool
 | .Dict [] [] _=>true
 |_=>false
noncomputable def xP (c:List (Option Expr)->List Expr->Bool):Expr->Bool
 | .Dict ks vs _=>c ks vs
 |_=>false
noncomputable def ni:List Str->List (Option Expr)->Bool
 |[],[]=>true
 |k::ks,some e::es=>oH e==some (.str k)&&ni ks es
 |_,_=>false
noncomputable def lg (c:Expr->Expr->Bool):List Expr->Bool
 |[a,b]=>c a b
 |_=>false
noncomputable def wV (a:Expr->Bool)(l h:Option Expr->Bool):Expr->Bool
 | .Subscript e (.Slice lo hi none _) _=>a e&&l lo&&h hi
 |_=>false
noncomputable def tW:Expr->Bool
 | .Tuple _ _ _=>false
 |_=>true
noncomputable def wU (c:Expr->Bool):Expr->Bool
 | .Subscript e (.Slice none none (some (.UnaryOp .USub (.Constant (.int 1) _ _) _)) _) _=>c e
 |_=>false
noncomputable def oh (T:String):Bool:=["int","bool","str","tuple","list","dict"].contains T
noncomputable def ck (Γ : Gm):IE->Cs->Ck
 | .var i,C=>dD (cv fun x=>C.N[i]? == some x&&C.vis x&&gI x)
 | .cst v,C=>dD fun e=>oH e==some v&&kL v
 | .bin o a b,C=>dD (w4 fun op l r=>op==o.op&&(ck Γ a C).e l&&(ck Γ b C).e r)
 | .cmp o a b,C=>⟨qD fun op l r=>op==o.op&&(ck Γ a C).e l&&(ck Γ b C).e r&&eK r,qD fun op l r=>op==o.op&&(ck Γ a C).e l&&(ck Γ b C).e r&&eK r,gT,nM,eI (qD fun op l r=>op==o.op&&(ck Γ a C).e l&&(ck Γ b C).e r&&eK r),kN⟩
 | .ix a b,C=>dD (lh fun l r=>(ck Γ a C).e l&&(ck Γ b C).e r&&lN r)
 | .dg a b,C=>dD (lh fun l r=>(ck Γ a C).e l&&(ck Γ b C).e r&&lN r)
 | .b1 f a,C=>dD (gG fun g es _=>cv (fun x=>x==f.nm&&C.gl x && Γ.bl.contains x) g&&eI (fun r=>(ck Γ a C).e r&&bf r) es)
 | .and a b,C=>qz (oA .And (ck Γ a C).e (ck Γ b C).e) (oA .And (ck Γ a C).t (ck Γ b C).t)
 | .or a b,C=>qz (oA .Or (ck Γ a C).e (ck Γ b C).e) (oA .Or (ck Γ a C).t (ck Γ b C).t)
 | .not a,C=>qz (sQ (ck Γ a C).e) (sQ (ck Γ a C).t)
 | .ite c a b,C=>⟨wZ (ck Γ c C).t (ck Γ a C).e (ck Γ b C).e,iq,gT,nM,gT,kN⟩
 | .nil,_=>⟨iq,iq,wY,nM,gT,C9⟩
 | .cons a r,C=>⟨iq,iq,De (ck Γ a C).e (ck Γ r C).l,nM,gT,kN⟩
 | .tup r,C=>dD (wX (ck Γ r C).l)
 | .lst r,C=>dD (wW (ck Γ r C).l)
 | .call j r,C=>dD (gG fun g es _=>cv (fun x=>(Γ.fns[j]?).map (·.1)==some x&&C.gl x&&gI x) g&&tD (ck Γ r C).l es)
 | .mth m o r,C=>dD (gG fun g es cp=>jP (fun l x ap=>x==m.nm&&(ck Γ o C).e l&&iL l&&ap.endLine==cp.line) g&&(ck Γ r C).l es&&w6 m r es)
 | .comp au own p it c e,C=>dD (tw fun elt tg iter ifs scope=>lQ (fun x=>C.names.lookup x) C.N scope (cL C au own) (au.map some++List.replicate own.length none)&&(ck Γ it C).i tg iter&&eK iter&&ckP (C.in scope (cL C au own)) p tg&&(ck Γ c (C.in scope (cL C au own))).ts ifs&&(ck Γ e (C.in scope (cL C au own))).e elt&&decide (cL C au own).Nodup)
 | .cmpv au own p i c e,C=>dD (tw fun elt tg iter ifs scope=>lQ (fun x=>C.names.lookup x) C.N scope (cL C au own) (au.map some++List.replicate own.length none)&&cv (fun x=>C.N[i]? == some x&&C.vis x&&gI x) iter&&eK iter&&ckP (C.in scope (cL C au own)) p tg&&(ck Γ c (C.in scope (cL C au own))).ts ifs&&(ck Γ e (C.in scope (cL C au own))).e elt&&decide (cL C au own).Nodup)
 | .tt,_=>⟨iq,iq,gT,nM,wY,kN⟩
 | .isi T a,C=>dD (gG fun g es _=>cv (fun x=>x==("isinstance":Str)&&C.gl x && Γ.bl.contains x) g&&lg (fun r y=>(ck Γ a C).e r&&bf r&&cv (fun z=>z==Str.ofString T&&C.gl z && Γ.bl.contains z) y && Γ.kt.contains T&&oh T) es)
 | .slc a lo hi,C=>dD (wV (ck Γ a C).e (ck Γ lo C).o (ck Γ hi C).o)
 | .rng a,C=>⟨iq,iq,gT,fun _=>gG fun g es _=>cv (fun x=>x==("range":Str)&&C.gl x && Γ.bl.contains x) g&&eI (fun r=>(ck Γ a C).e r&&bf r) es,gT,kN⟩
 | .chn o o' a b c,C=>qz (qC fun op eA l m r=>op==o.op&&eA==o'.op&&(ck Γ a C).e l&&(ck Γ b C).e m&&(ck Γ c C).e r&&eK r) (qC fun op eA l m r=>op==o.op&&eA==o'.op&&(ck Γ a C).e l&&(ck Γ b C).e m&&(ck Γ c C).e r&&eK r)
 | .dnew,_=>dD vo
 | .dct ks r,C=>dD (xP fun es vs=>ni ks es&&(ck Γ r C).l vs&&decide (ks.length<=15) && !ks.isEmpty&&es.length==vs.length)
 | .rvs _ a,C=>dD (wU (ck Γ a C).e)
 | .idx a r,C=>dD (gG fun g es cp=>jP (fun l x ap=>x==("index":Str)&&(ck Γ a C).e l&&iL l&&ap.endLine==cp.line) g&&(ck Γ r C).l es&&eI (fun _=>true) es)
 | .idt a r,C=>dD (gG fun g es cp=>jP (fun l x ap=>x==("index":Str)&&(ck Γ a C).e l&&iL l&&ap.endLine==cp.line) g&&(ck Γ r C).l es&&eI (fun _=>true) es)
 | .lrv a,C=>dD (gG fun g es _=>cv (fun x=>x==("list":Str)&&C.gl x && Γ.bl.contains x) g&&eI (gG fun g' fV _=>cv (fun x=>x==("reversed":Str)&&C.gl x && Γ.bl.contains x) g'&&eI (fun r=>(ck Γ a C).e r&&bf r) fV) es)
 | .zip r,C=>⟨iq,iq,gT,fun tg=>gG fun g es _=>cv (fun x=>x==("zip":Str)&&C.gl x && Γ.bl.contains x) g&&(ck Γ r C).l es&&lg (fun _ _=>true) es && !tW tg,gT,kN⟩
 | .glb j,C=>dD (cv fun x=>(Γ.gl[j]?).map (·.1)==some x&&C.gl x&&gI x)
 | .enu a,C=>⟨iq,iq,gT,fun tg=>gG fun g es _=>cv (fun x=>x==("enumerate":Str)&&C.gl x && Γ.bl.contains x) g&&eI (fun r=>(ck Γ a C).e r&&bf r) es && !tW tg,gT,kN⟩
 | .get d k z,C=>dD (gG fun g es cp=>jP (fun l x ap=>x==("get":Str)&&(ck Γ d C).e l&&iL l&&ap.endLine==cp.line) g&&lg (fun a b=>(ck Γ k C).e a&&bf a&&(ck Γ z C).e b&&bf b) es)
variable {Γ:Gm}
theorem MM {c:Expr->Bool}(h:wU c e=true):∃x j p1 p2 p3 p,e = .Subscript x (.Slice none none (some (.UnaryOp .USub (.Constant (.int 1) j p1) p2)) p3) p/\c x=true:=by
 unfold wU at h
 split at h
 ·exact⟨_,_,_,_,_,_,rfl,h⟩
 ·injection h
theorem ML {c:CmpOp->CmpOp->Expr->Expr->Expr->Bool}(h:qC c e=true):∃l op eA m r p,e = .Compare l [op,eA] [m,r] p/\c op eA l m r=true:=by cases e with|Compare l a b p=>(rcases a with _|⟨o,_|⟨q,_|_⟩⟩ <;> rcases b with _|⟨m,_|⟨r,_|_⟩⟩ <;> first|exact⟨_,_,_,_,_,_,rfl,h⟩|exact(Tq h).elim)|_=>exact(Tq h).elim
theorem KJ (h:vo e=true):∃p,e = .Dict [] [] p:=by cases e with|Dict a b p=>(cases a <;> cases b <;> first|exact⟨_,rfl⟩|exact(Tq h).elim)|_=>exact(Tq h).elim
theorem OJ {c:List (Option Expr)->List Expr->Bool}(h:xP c e=true):∃ks vs p,e = .Dict ks vs p/\c ks vs=true:=by cases e with|Dict ks vs p=>(exact⟨_,_,_,rfl,h⟩)|_=>exact(Tq h).elim
theorem OI {o:Option Expr}{c:Expr->Bool}(h:Dc c o=true):∃e,o=some e/\c e=true:=by cases o with|none=>injection h|some e=>exact⟨e,rfl,h⟩
theorem OH {o:Option Expr}(h:C9 o=true):o=none:=by cases o with|none=>rfl|some e=>injection h
theorem yS {c:Expr->Expr->Bool}(h:lg c es=true):∃a b,es = [a,b]/\c a b=true:=by
 unfold lg at h
 split at h
 ·exact⟨_,_,rfl,h⟩
 ·injection h
theorem MK {a:Expr->Bool}{l h:Option Expr->Bool}(q:wV a l h e=true):∃x lo hi p p2,e = .Subscript x (.Slice lo hi none p2) p/\a x=true/\l lo=true/\h hi=true:=by
 unfold wV at q
 split at q
 ·simp only [S5] at q;exact⟨_,_,_,_,_,rfl,q.1.1,q.1.2,q.2⟩
 ·injection q
theorem gJ {c:Str->Bool}(h:cv c e=true):∃x p,e = .Name x p/\c x=true:=by cases e with|Name x p=>(exact⟨_,_,rfl,h⟩)|_=>exact(Tq h).elim
theorem MJ {c:Operator->Expr->Expr->Bool}(h:w4 c e=true):∃l op r p,e = .BinOp l op r p/\c op l r=true:=by cases e with|BinOp l op r p=>(exact⟨_,_,_,_,rfl,h⟩)|_=>exact(Tq h).elim
theorem MI {c:CmpOp->Expr->Expr->Bool}(h:qD c e=true):∃l op r p,e = .Compare l [op] [r] p/\c op l r=true:=by cases e with|Compare l a b p=>(rcases a with _|⟨o,_|_⟩ <;> rcases b with _|⟨r,_|_⟩ <;> first|exact⟨_,_,_,_,rfl,h⟩|exact(Tq h).elim)|_=>exact(Tq h).elim
theorem uh {c:Expr->Expr->Bool}(h:lh c e=true):∃a b p,e = .Subscript a b p/\c a b=true:=by cases e with|Subscript a b p=>(exact⟨_,_,_,rfl,h⟩)|_=>exact(Tq h).elim
theorem iO {c:Expr->List Expr->Pos->Bool}(h:gG c e=true):∃f es p,e = .Call f es [] p/\c f es p=true:=by cases e with|Call f es ks p=>(cases ks with|nil=>exact⟨_,_,_,rfl,h⟩|cons _ _=>exact(Tq h).elim)|_=>exact(Tq h).elim
theorem uC {c:Expr->Str->Pos->Bool}(h:jP c e=true):∃o x p,e = .Attribute o x p/\c o x p=true:=by cases e with|Attribute o x p=>(exact⟨_,_,_,rfl,h⟩)|_=>exact(Tq h).elim
theorem jT {c:Expr->Bool}(h:eI c es=true):∃e,es = [e]/\c e=true:=by
 unfold eI at h
 split at h
 ·exact⟨_,rfl,h⟩
 ·injection h
theorem OG {c:List Expr->Bool}(h:tD c es=true):∃e r,es=e::r/\c (e::r)=true:=by
 unfold tD at h
 split at h
 ·injection h
 ·exact⟨_,_,rfl,h⟩
theorem uB {o:BoolOp}{a b:Expr->Bool}(h:oA o a b e=true):∃l p,a l=true/\((∃x,e = .BoolOp o [l,x] p/\b x=true)∨∃x y z,e = .BoolOp o (l::x::y::z) p/\b (.BoolOp o (x::y::z) p)=true):=by
 unfold oA at h
 split at h
 ·next op l r p=>
  simp only [S5,TN] at h;obtain⟨⟨rfl,h1⟩,h2⟩:=h;refine⟨l,p,h1,?_⟩
  split at h2
  ·injection h2
  ·exact .inl ⟨_,rfl,h2⟩
  ·exact .inr ⟨_,_,_,rfl,h2⟩
 ·injection h
theorem E1 {c:Expr->Bool}(h:sQ c e=true):∃r p,e = .UnaryOp .Not r p/\c r=true:=by cases e with|UnaryOp o r p=>(cases o with|Not=>exact⟨_,_,rfl,h⟩|_=>exact(Tq h).elim)|_=>exact(Tq h).elim
theorem MH {c a b:Expr->Bool}(h:wZ c a b e=true):∃t l r p,e = .IfExp t l r p/\c t=true/\a l=true/\b r=true:=by cases e with|IfExp t l r p=>(have h:(_&&_&&_)=true:=h;simp only [S5] at h;exact⟨_,_,_,_,rfl,h.1.1,h.1.2,h.2⟩)|_=>exact(Tq h).elim
theorem ug (h:wY es=true):es = []:=by cases es with|nil=>rfl|cons _ _=>injection h
theorem zE {a:Expr->Bool}{r:List Expr->Bool}(h:De a r es=true):∃x xs,es=x::xs/\a x=true/\bf x=true/\r xs=true:=by
 cases es with
 |nil=>injection h
 |cons x xs=>have h':(a x&&bf x&&r xs)=true:=h;simp only [S5] at h';exact⟨x,xs,rfl,h'.1.1,h'.1.2,h'.2⟩
theorem MG {c:List Expr->Bool}(h:wX c e=true):∃es k p,e = .Tuple es k p/\c es=true/\es.length<=1000:=by cases e with|Tuple es k p=>(have h:(_&&_)=true:=h;simp only [S5,Uv] at h;exact⟨_,_,_,rfl,h⟩)|_=>exact(Tq h).elim
theorem MF {c:List Expr->Bool}(h:wW c e=true):∃es p,e = .List es p/\c es=true/\es.length<=1000:=by cases e with|List es p=>(have h:(_&&_)=true:=h;simp only [S5,Uv] at h;exact⟨_,_,rfl,h⟩)|_=>exact(Tq h).elim
theorem uA {c:Expr->Expr->Expr->List Expr->Scope->Bool}(h:tw c e=true):∃elt tg iter ifs scope p,e = .ListComp elt [⟨tg,iter,ifs,0⟩] scope p/\c elt tg iter ifs scope=true:=by cases e with|ListComp elt gs sc p=>(rcases gs with _|⟨⟨tg,iter,ifs,n⟩,_|_⟩ <;> first|exact(Tq h).elim|(have h:(_&&_)=true:=h;simp only [S5,TN] at h;obtain⟨rfl,h⟩:=h;exact⟨_,_,_,_,_,_,rfl,h⟩))|_=>exact(Tq h).elim
def SM (X:Cx)(x:Str)(psp:aM):Prop:=∃k f fd ps,FnOk X.prog X.w X.K X.mg X.base f6 k f fd ps (iH X.K psp)/\Room k X.A/\X.mg x=some (.ref f)/\PySem.W.keepIn X.K (.ref f)=true/\Binds X.K fd ps []
structure At (Γ : Gm)(C:Cs)(X:Cx):Prop where
 N:X.N=C.N
 nd:C.N.Nodup
 nm:X.env.scope.names=C.names
 kd:X.env.scope.kind = .function
 fn:C.fn=true->∀x,X.fn x=true
 calm:X.calm=true
 bl:∀x ∈ Γ.bl,X.mg x=none
 un:X.A.units+64<cLine
 gd:X.A.guards=some []
 kt:∀T ∈ Γ.kt,∀n ∈ ["NoneType","bool","int","str","tuple","list","dict"],PySem.W.kitOne X.K (.type n) (.type T)=some (iu n T)
 gl:∀p ∈ Γ.gl,∃v u,X.mg p.1=some u/\RelV v u/\∀G,IsT X.K G v p.2
 fns:∀p ∈ Γ.fns,SM X p.1 p.2
section
variable {C:Cs}
structure nH (Γ : Gm)(X:Cx)(F:Fr)(s:Sm)(c:Ck):Prop where
 e:∀e,c.e e=true->PE X e (LE X.K F s.e)
 t:∀e,c.t e=true->PT X e (LB X.K F s.t)
 l:∀es,c.l es=true->PA X es (LF X.K F es.length s.f)/\PA X es (LA X.K F s.a)
 i:∀tg e,c.i tg e=true->PI X tg e (LI X.K F s.i)
 ts:∀es,c.ts es=true->PTs X es (LB X.K F s.t)
 o:∀e,c.o e=true->PO X e (LO X.K F s.o)
 p:∀ks es vs pos,ni ks es=true->c.l vs=true->es.length=vs.length->∃eo,rH X pos es vs eo/\∀ σ H Q,LP X.K F s.f ks σ H Q->lJ eo σ H Q
theorem FU (h:qO e=true)(cg:Sem Value):isTrue e env cg=(do let v ← cg;standAt e.pos;holding [v] (truthy v)):=by
 cases e with
 |UnaryOp op a p=>cases op <;> first|rfl|injection h
 |BoolOp _ _ _=>injection h
 |IfExp _ _ _ _=>injection h
 |Compare _ _ _ _=>injection h
 |_=>rfl
theorem cf (h:bf e=true):starEach (e::es) env=(false,eval e env)::starEach es env:=by cases e <;> first|rfl|cases h
theorem rj (h:eK e=true)(x:Value):foldedSetIterable e env x=pure x:=by cases e <;> first|rfl|cases h
theorem Hc (h:lN e=true)(o i:Value):subscripted e false o i=operate [o,i] (getItem o i):=by cases e <;> first|rfl|cases h
theorem tV {op:CmpOp}(h:eK e=true):behindInMarks op e=false:=by cases e <;> first|rfl|cases h
theorem dQ {w:TW}{c:Expr->Bool}(h:∀e,c e=true->PE X e (LE X.K F w)):nH Γ X F (dC w) (dD c) where
 e:=h
 t:=fun e he=>by have cX:(c e&&qO e)=true:=he;rw[S5] at cX;exact DZ (zL (h e cX.1) (FU cX.2))
 l:=fun es z=>by injection z
 i:=fun tg e he=>(ym (h e he)).imp fun σ H R=>LI.seq
 ts:=fun es he=>by obtain⟨e,rfl,he⟩:=jT he;replace he:(c e&&qO e)=true:=he;rw[S5] at he;exact yY (DZ (zL (h e he.1) (FU he.2)))
 o:=fun e he=>by obtain⟨e,rfl,he⟩:=OI he;exact Nb (h e he)
 p:=fun _ _ _ _ _ z=>by injection z
theorem At.var {pos:Pos}(A:At Γ C X)(h:(C.N[i]? == some x&&C.vis x&&gI x)=true):PE X (.Name x pos) (sX i):=by
 simp only [S5,TN] at h;obtain⟨⟨h1,h2⟩,h3⟩:=h;simp only [gI,S5,U7] at h3;refine En (by rw[A.N];exact h1) ?_ h3.1.1 h3.1.2;unfold rF;rw[A.nm];unfold Cs.vis at h2
 split at h2
 ·next e=>exact .inl e
 ·next e=>exact .inr (.inl e)
 ·next e=>exact .inr (.inr e)
 ·injection h2
theorem At.gl' (A:At Γ C X)(h:C.gl x=true):Gl X x:=by show X.env.scope.names.lookup x=_;rw[A.nm];exact eq_of_beq h
theorem oM:∀{r:IE} {es:List Expr},(ck Γ r C).l es=true->∀e∈es,bf e=true:=by
 intro r
 induction r with
 |cons a r iha ihr=>
  intro es h x hx;obtain⟨y,ys,rfl,_,h2,h3⟩:=zE h;rcases Ts.mp hx with rfl|hx
  ·exact h2
  ·exact ihr h3 x hx
 |nil=>intro es h x hx;rw[ug h] at hx;cases hx
 |_=>intro es h;injection h
theorem OF {pos:Pos}(h:∀e∈es,bf e=true):(backTo pos (starEach es env)).any (·.1)=false:=by
 induction es with
 |nil=>rfl
 |cons e es ih=>rw[cf (h e Te)];show(false||(backTo pos (starEach es env)).any (·.1))=false;rw[ih fun x hx=>h x (Tb _ hx)];rfl
theorem ME {o:O2}{a b:Expr}{wb:TW}{pos:Pos}(ha:PE X a (LE X.K F wa))(hb:PE X b (LE X.K F wb)):PE X (.BinOp a o.op b pos) (LE X.K F (lq o.f wa wb)):=by
 cases o with
 |add=>exact ki (lA Nk ha hb) Nj
 |sub=>exact ki (lA yx ha hb) (rm fun _ _=>rfl)
 |mul=>exact ki (r:=nL _ _) (lA (op_mul.or Lk) ha hb) (tX (uo fun _ _=>rfl) MY)
 |fdiv=>exact ki (lA O0 ha hb) (uo fun _ _=>rfl)
 |mod=>exact ki (lA Lu ha hb) (uo fun _ _=>rfl)
 |pow=>exact ki (lA Ls ha hb) (uo fun _ _=>rfl)
theorem qN {f g:Tv->Tv->Rz}{op:CmpOp}(h:OpR X (compareOp op) r/\de X.K f r)(h':OpR X (compareOp op) r'/\de X.K g r'):∃r,OpR X (compareOp op) r/\de X.K (iY f g) r:=⟨nL r r',h.1.or h'.1,tX h.2 h'.2⟩
theorem OE:OpR X (compareOp .IsNot) (Cm true):=fun aa s σ H x y v u Q I rx ry ⟨h,q⟩=>NJ aa s σ H x y v u Q I rx ry ⟨h,by simpa using q⟩
theorem OD:OpR X (compareOp .IsNot) iW:=Rx
theorem yh (IA:X.A.units+64<cLine)(hu:X.A.units<cLine):∀o:C2,∃r,OpR X (compareOp o.op) r/\de X.K o.f r
 | .eq=>qN ⟨x3,K6⟩ ⟨(KO hu).or (K4 hu),tX E4 E6⟩
 | .ne=>qN ⟨Dy,K5⟩ ⟨(KN hu).or (K3 hu),tX E4 E6⟩
 | .lt=>⟨_,Kh,rm fun _ _=>rfl⟩
 | .le=>qN ⟨Kg,rm fun _ _=>rfl⟩ ⟨Qg,E7⟩
 | .gt=>qN ⟨Kf,rm fun _ _=>rfl⟩ ⟨Qf,E7⟩
 | .ge=>⟨_,Ke,rm fun _ _=>rfl⟩
 | .isin=>⟨_,Qn,DY⟩
 | .notin=>⟨_,R9,DY⟩
 | .isnt=>qN ⟨OD,OU⟩ ⟨OE,Ni⟩
 | .eqt=>⟨_,MT IA,OP⟩
theorem KI {f:F1}{pos:Pos}(hc:X.calm=true)(hu:X.A.units+64<cLine)(vO:X.A.guards=some [])(hm:X.mg f.nm=none)(hg:Gl X f.nm)(hs:bf e=true)(ha:PE X e (LE X.K F wa)):PE X (.Call (.Name f.nm p) [e] [] pos) (LE X.K F (kz f.f wa)):=by
 have hA:PA X [e] (jR (LE X.K F wa) iR):=jU ha pa_nil (cf hs)
 cases f with
 |len=>exact jQ ((rq Qa hg hm PySem.boot_len hA (he:=cf hs)).imp fun σ H Q=>kh fun x H Q h=>⟨x,rfl,h⟩) Nh
 |list=>exact jQ ((rD RY hg hm (by decide+kernel) hA (he:=cf hs)).imp fun σ H Q=>kh fun x H Q ⟨p,ys,e,h⟩=>⟨p,ys,by rw[e],h⟩) OT
 |tuple=>exact jQ ((rD Sq hg hm (by decide+kernel) hA (he:=cf hs)).imp fun σ H Q=>kh fun x H Q ⟨p,ys,e,h⟩=>⟨p,ys,by rw[e],h⟩) P9
 |sum=>exact jQ ((rq (OX hc) hg hm (by decide+kernel) hA (he:=cf hs)).imp fun σ H Q=>kh fun x H Q ⟨a,ns,e,h⟩=>⟨a,ns,by rw[e],h⟩) Na
 |all=>exact jQ ((rq (Ry hc) hg hm (by decide+kernel) hA (he:=cf hs)).imp fun σ H Q=>kh fun x H Q ⟨a,ns,e,h⟩=>⟨a,ns,by rw[e],h⟩) M9
 |repr=>exact jQ ((rq (Qb vO) hg hm (by decide+kernel) hA (he:=cf hs)).imp fun σ H Q=>kh fun x H Q ⟨a,t,e,h⟩=>⟨a,t,by rw[e],h⟩) (OQ hu)
 |dpr=>exact jQ ((rD (Sw hc) hg hm (by decide+kernel) hA (he:=cf hs)).imp fun σ H Q=>kh fun x H Q ⟨p,ps,rows,e,h⟩=>⟨p,ps,rows,by rw[e],h⟩) MP
 |dict=>exact jQ ((rD RT hg hm (by decide+kernel) hA (he:=cf hs)).imp fun σ H Q=>kh fun x H Q ⟨p,ae,e,h⟩=>⟨p,ae,by rw[e],h⟩) OS
 |int=>exact jQ ((rD Qr hg hm (by decide+kernel) hA (he:=cf hs)).imp fun σ H Q=>kh fun x H Q h=>h.elim (fun⟨i,e,q⟩=>.inl ⟨i,by rw[e],q⟩) fun⟨k,e,q⟩=>.inr ⟨k,by rw[e],q⟩) M8
theorem PW.imp {t t':TT}(h:PW X e t)(i:∀ σ H Q,t' σ H Q->t σ H Q):PW X e t':=fun cg aa s σ H Q I q=>h cg aa s σ H Q I (i σ H Q q)
theorem PT.pw {op:BoolOp}{vs:List Expr}{t:TT}(h:PT X (.BoolOp op vs p) t):PW X (.BoolOp op vs p) t:=fun cg aa s σ H Q I q=>h aa s σ H Q I q
theorem Cs.loc_is (A:At Γ C X)(h:C.loc x=true):lT X.env.scope x/\(X.fn x=true∨X.env.scope.names.lookup x=some .local):=by
 unfold lT;rw[A.nm];unfold Cs.loc at h
 split at h
 ·next e=>exact⟨.inl e,.inr e⟩
 ·next e=>exact⟨.inr e,.inl (A.fn h x)⟩
 ·injection h
theorem Hb:∀{p:Pt} {es:List Expr} {env:Env},ckP.ckPs C p es=true->(assignEach es env).findIdx? (·.1)=none/\(∀e r,es=e::r->(assignEach (e::r) env).map (·.2)=assign e env::(assignEach r env).map (·.2)):=by
 intro p
 induction p with
 |nm i=>intro es env h;injection h
 |nil=>
  intro es env h
  match es,h with
  |[],_=>exact⟨rfl,fun e r z=>by injection z⟩
 |cons a b iha ihb=>
  intro es env h
  match es,h with
  |e::es,h=>
   have h':(ckP C a e&&bf e&&ckP.ckPs C b es)=true:=h;simp only [S5] at h';have e1:assignEach (e::es) env=(false,assign e env)::assignEach es env:=by have:=h'.1.2;cases e <;> first|rfl|cases this
   refine⟨?_,fun e' r z=>?_⟩
   ·rw[e1,List.findIdx?_cons];simp [(ihb (es:=es) (env:=env) h'.2).1]
   ·cases z;rw[e1];rfl
theorem yR {a b:Pt}(h:bd (.cons a b) t M=some M'):∃u r M1,t = .tup (u::r)/\bd a u M=some M1/\bd b (.tup r) M1=some M':=by
 cases t with
 |tup l=>
  cases l with
  |nil=>injection h
  |cons u r=>
   simp only [bd] at h
   cases q:bd a u M with
   |none=>rw[q] at h;injection h
   |some M1=>rw[q] at h;exact⟨u,r,M1,rfl,q,h⟩
 |_=>injection h
theorem xO (A:At Γ C X):∀p:Pt,(∀e,ckP C p e=true->PG X e (LG X.K F (bd p)))/\(∀es,ckP.ckPs C p es=true->PGs X es (LGs X.K F fun ts M=>bd p (.tup ts) M)/\∀ts M M',bd p (.tup ts) M=some M'->ts.length=es.length):=by
 intro p
 induction p with
 |nm i=>
  refine⟨fun e h=>?_,fun es h=>by injection h⟩
  cases e with
  |Name x pos=>have h':(C.N[i]? == some x&&C.loc x)=true:=h;simp only [S5,TN] at h';obtain⟨h1,h2⟩:=Cs.loc_is A h'.2;exact Nl (y6 (by rw[A.N];exact A.nd) (by rw[A.N];exact h'.1) h1 h2)
  |_=>injection h
 |nil=>
  refine⟨(fun e h=>by cases e <;> injection h),fun es h=>?_⟩
  match es,h with
  |[],_=>
   refine⟨pgs_nil.imp fun v σ H Q=>LGs.nil fun ts M M' e=>?_,fun ts M M' e=>?_⟩
   ·cases ts with
    |nil=>cases e;exact⟨rfl,rfl⟩
    |cons _ _=>injection e
   ·cases ts with
    |nil=>rfl
    |cons _ _=>injection e
 |cons a b iha ihb=>
  have rows:∀es,ckP.ckPs C (.cons a b) es=true->PGs X es (LGs X.K F fun ts M=>bd (.cons a b) (.tup ts) M)/\∀ts M M',bd (.cons a b) (.tup ts) M=some M'->ts.length=es.length:=fun es h=>by
   have hal:=Hb (env:=X.env) h
   match es,h with
   |e::es,h=>
    have h':(ckP C a e&&bf e&&ckP.ckPs C b es)=true:=h;simp only [S5] at h';obtain⟨g1,g2⟩:=ihb.2 es h'.2;refine⟨(zM (iha.1 e h'.1.1) g1 (hal.2 e es rfl)).imp fun v σ H Q=>LGs.cons fun ts M M' z=>?_,fun ts M M' z=>?_⟩
    ·obtain⟨u,r,M1,e1,e2,e3⟩:=yR z;cases e1;exact⟨u,r,M1,rfl,e2,e3⟩
    ·obtain⟨u,r,M1,e1,e2,e3⟩:=yR z;cases e1;simp [g2 r M1 M' e3]
  refine⟨fun e h=>?_,rows⟩
  cases e with
  |Tuple es k pos=>
   cases es with
   |nil=>injection h
   |cons e es=>
    have h':ckP.ckPs C (.cons a b) (e::es)=true:=h;obtain⟨g1,g2⟩:=rows _ h'
    have hl:∀{p:Pt} {es:List Expr},ckP.ckPs C p es=true->(assignEach es X.env).length=es.length:=by
     intro p
     induction p with
     |nm i=>intro es h;injection h
     |nil=>
      intro es h
      match es,h with
      |[],_=>rfl
     |cons a b _ ih=>
      intro es h
      match es,h with
      |e::es,h=>
       have h':(ckP C a e&&bf e&&ckP.ckPs C b es)=true:=h;simp only [S5] at h';have e1:assignEach (e::es) X.env=(false,assign e X.env)::assignEach es X.env:=by have:=h'.1.2;cases e <;> first|rfl|cases this
       rw[e1];simp [ih h'.2]
    refine(Eg A.calm g1 (hl h') (Hb h').1).imp fun v σ H Q=>LG.tup fun t M M' z=>?_;obtain⟨u,r,M1,rfl,e2,e3⟩:=yR z;exact⟨u::r,rfl,g2 _ M M' z,z⟩
  |_=>injection h
theorem At.inn {D:Addr}{ex:List Addr}{s0:Shared}{H0:Hp}(A:At Γ C X)(hk:scope.kind = .function)(hN:N'.Nodup):At Γ (C.in scope N') (eL X N' scope cl D ex s0 H0) where
 N:=rfl
 nd:=hN
 nm:=by
  show(relabel scope X.env).names=_;unfold relabel Cs.in;simp only
  congr 1
  funext ⟨n,k⟩
  have e1:X.env.kindOf n=C.names.lookup n:=by show X.env.scope.names.lookup n=_;rw[A.nm]
  simp only [e1,A.kd];simp
 kd:=hk
 fn:=fun h=>by injection h
 calm:=A.calm
 bl:=A.bl
 un:=A.un
 gd:=A.gd
 kt:=A.kt
 gl:=A.gl
 fns:=fun p hp=>by obtain⟨k,f,fd,ps,h⟩:=A.fns p hp;exact⟨k,f,fd,ps,h⟩
theorem tu {s:Sm}{d c:Expr->Bool}(hd:∀e,d e=true->PE X e (LE X.K F s.e))(h:∀e,c e=true->PT X e (LB X.K F s.t)):nH Γ X F s (qz d c) where
 e:=hd
 t:=h
 l:=fun e z=>by injection z
 i:=fun tg e z=>by injection z
 ts:=fun es he=>by obtain⟨e,rfl,he⟩:=jT he;exact yY (h e he)
 o:=fun e z=>by injection z
 p:=fun _ _ _ _ _ z=>by injection z
theorem MD {m:Mt}{r:IE}{o:Expr}{wo:TW}{ap cp:Pos}(hm:w6 m r es=true)(hb:attributeBase o m.nm X.env (eval o X.env)=eval o X.env)(hl:(ap.endLine==cp.line)=true)(hs:∀e∈es,bf e=true)(ho:PE X o (LE X.K F wo))(hr:PA X es (LF X.K F es.length (av Γ r).f)):
  PE X (.Call (.Attribute o m.nm ap) es [] cp) (LE X.K F (xt m.f wo (av Γ r).f)):=by
 cases m with
 |app=>
  match es,hm with
  |[e],_=>have h1:bf e=true:=hs e Te;exact(qJ Ur PySem.F.slot_list_append PySem.F.type_list_append Al ho hr hb (by rw[cf h1];rfl) hl (cf h1) rfl).imp fun σ H Q=>LE.mut Nf
 |ext=>
  match es,hm with
  |[e],_=>have h1:bf e=true:=hs e Te;exact(qJ Ur PySem.F.slot_list_extend PySem.F.type_list_extend MW ho hr hb (by rw[cf h1];rfl) hl (cf h1) rfl).imp fun σ H Q=>LE.mut MV
 |pop=>
  have h9:r=.nil:=by cases r with|nil=>rfl|_=>exact(Tq hm).elim
  subst h9
  match es,hm with
  |[],_=>refine(D7 Ur PySem.F.slot_list_pop PySem.F.type_list_pop D6 ho hb hl).imp fun σ H Q k=>?_;obtain⟨G,ta,M,K0,R,k,q⟩:=LE.mut (n:=0) Nd k;refine⟨G,ta,M,K0,R,k,fun x M1 G1 t1 v H1 k1 R1 s1 e1=>?_⟩;obtain⟨h1,G2,t2,M2,K2,R2,k2,q2⟩:=q x M1 G1 t1 v H1 k1 R1 s1 e1;exact⟨h1,q2 [] M2 G2 [] H1 k2 R2 (Same.refl _) .nil rfl⟩
theorem MC (h:oh T=true):bootBuiltins (Str.ofString T)=some (.type T)/\(Str.ofString T==("__debug__":Str))=false/\Str.ofString T≠"__name__":=by
 have h':T="int"∨T="bool"∨T="str"∨T="tuple"∨T="list"∨T="dict":=by simpa [oh] using h
 rcases h' with rfl|rfl|rfl|rfl|rfl|rfl <;> exact⟨by decide+kernel,by decide+kernel,by decide+kernel⟩
theorem MB {n:String}(h:oZ t=some n):n ∈ ["NoneType","bool","int","str","tuple","list","dict"]:=by
 unfold oZ at h
 split at h <;> first | (cases h;decide)|injection h
theorem MA {p' pos:Pos}(kt:∀n ∈ ["NoneType","bool","int","str","tuple","list","dict"],PySem.W.kitOne X.K (.type n) (.type T)=some (iu n T))(hm:X.mg "isinstance"=none)(hg:Gl X "isinstance")(qa:X.mg (Str.ofString T)=none)(vP:Gl X (Str.ofString T))(hT:oh T=true)(hs:bf e=true)(ha:PE X e (LE X.K F wa)):
  PE X (.Call (.Name "isinstance" p) [e,.Name (Str.ofString T) p'] [] pos) (LE X.K F (kz (xo T) wa)):=by
 obtain⟨b1,b2,b3⟩:=MC hT;have pT:PE X (.Name (Str.ofString T) p') (tC (.ty T)):=NM vP qa b1 rfl b3 b2;refine(rq RC hg hm (by decide+kernel) (jU ha (jU pT pa_nil) (cf hs)) (he:=cf hs)).imp fun σ H Q ⟨G,ta,M,K0,R,k,q⟩=>?_;refine⟨G,ta,M,_,R,k,fun x M1 G1 t1 v1 H1 k1 R1 s1 e1=>?_⟩;obtain⟨t,ht,k1⟩:=aN k1;obtain⟨s,hs,k1⟩:=kr k1;have hr:=R1.rd e1 ht;unfold xo at hs
 split at hs
 ·next n hn=>
  cases hs;exact⟨v1,T,.type n,iu n T,rfl,KU (hr.up R1.sub) hn,kt n (MB hn),cm R1.sub (.at rfl) (R1.done R.lt s1 k1 q)⟩
 ·cases hs
theorem uO {own:List Str}{p:Pt}{it c e:IE}(A:At Γ C X)(vq:∀C X F,At Γ C X->nH Γ X F (av Γ it) (ck Γ it C))(j2:∀C X F,At Γ C X->nH Γ X F (av Γ c) (ck Γ c C))(pV:∀C X F,At Γ C X->nH Γ X F (av Γ e) (ck Γ e C))
  (h:(lQ (fun x=>C.names.lookup x) C.N scope (cL C au own) (au.map some++List.replicate own.length none)&&(ck Γ it C).i tg iter&&eK iter&&ckP (C.in scope (cL C au own)) p tg&&(ck Γ c (C.in scope (cL C au own))).ts ifs&&(ck Γ e (C.in scope (cL C au own))).e elt&&decide (cL C au own).Nodup)=true):∃N':List Str,N'.length=au.length+own.length/\bJ X scope N' (au.map some++List.replicate own.length none)/\PI X tg iter (LI X.K F (av Γ it).i)/\eK iter=true ∧
   ∀cl D ex s0 H0,PG (eL X N' scope cl D ex s0 H0) tg (rN X.K (bd p))/\PTs (eL X N' scope cl D ex s0 H0) ifs (rP X.K (av Γ c).t)/\PE (eL X N' scope cl D ex s0 H0) elt (rO X.K (av Γ e).e):=by
 simp only [S5,Uv] at h;obtain⟨⟨⟨⟨⟨⟨h1,h2⟩,h3⟩,h4⟩,h5⟩,h6⟩,h7⟩:=h;have hN:(cL C au own).length=au.length+own.length:=by unfold cL;simp
 generalize cL C au own=N' at h1 h4 h5 h6 h7 hN;have hk:scope.kind = .function:=by unfold lQ at h1;simp only [S5,TN] at h1;exact h1.1.1.1
 refine⟨N',hN,RW X.env.scope rfl X.N rfl (by rw[A.nm,A.N];exact h1),(vq C X F A).i tg iter h2,h3,fun cl D ex s0 H0=>?_⟩;have A':=A.inn (cl:=cl) (D:=D) (ex:=ex) (s0:=s0) (H0:=H0) hk h7;exact⟨PG.all fun F'=>(xO A' p).1 tg h4,PTs.all fun F'=>(j2 _ _ F' A').ts ifs h5,PE.all fun F'=>(pV _ _ F' A').e elt h6⟩
theorem EZ (Γ : Gm)(i:Nat):∀(C:Cs) (X:Cx) (F:Fr),At Γ C X->nH Γ X F (av Γ (.var i)) (ck Γ (.var i) C):=by intro C X F A;refine dQ fun e h=>?_;obtain⟨x,p,rfl,h⟩:=gJ h;exact tY (A.var h)
theorem fq (Γ : Gm):∀(ir:IE) (C:Cs) (X:Cx) (F:Fr),At Γ C X->nH Γ X F (av Γ ir) (ck Γ ir C):=by
 intro ir
 induction ir with
 |var i=>intro C X F A;refine dQ fun e h=>?_;obtain⟨x,p,rfl,h⟩:=gJ h;exact tY (A.var h)
 |cst v=>intro C X F A;refine dQ fun e h=>?_;replace h:(oH e==some v&&kL v)=true:=h;simp only [S5,TN] at h;exact Lb (F0 h.1) h.2
 |bin o a b iha ihb=>intro C X F A;refine dQ fun e h=>?_;obtain⟨l,op,r,p,rfl,h⟩:=MJ h;replace h:(op==o.op&&(ck Γ a C).e l&&(ck Γ b C).e r)=true:=h;simp only [S5,TN] at h;obtain⟨⟨rfl,h1⟩,h2⟩:=h;exact ME ((iha C X F A).e l h1) ((ihb C X F A).e r h2)
 |cmp o a b iha ihb=>
  intro C X F A;have go:∀e,(ck Γ (.cmp o a b) C).e e=true->∃l op r pos,e = .Compare l [op] [r] pos/\op=o.op/\(ck Γ a C).e l=true/\(ck Γ b C).e r=true/\eK r=true:=fun e h=>by obtain⟨l,op,r,p,rfl,h⟩:=MI h;replace h:(op==o.op&&(ck Γ a C).e l&&(ck Γ b C).e r&&eK r)=true:=h;simp only [S5,TN] at h;exact⟨l,op,r,p,rfl,h.1.1.1,h.1.1.2,h.1.2,h.2⟩
  have hu:X.A.units<cLine:=by have:=A.un;lia
  obtain⟨r2,o1,o2⟩:=yh A.un hu o;have pt:∀e,(ck Γ (.cmp o a b) C).e e=true->PT X e (LB X.K F (sU (lq o.f (av Γ a).e (av Γ b).e))):=fun e h=>by obtain⟨l,op,r,pos,rfl,rfl,h1,h2,h3⟩:=go e h;have P:=ur (pos:=pos) o1 ((iha C X F A).e l h1) ((ihb C X F A).e r h2) (tV h3);refine D2 (P.imp fun σ H Q ⟨G,ta,M,K0,R,k,q⟩=>?_);refine⟨G,ta,M,_,R,k,fun x M1 G1 t1 v1 H1 k1 R1 s1 e1=>⟨G1,t1,M1,_,R1,k1,fun y M2 G2 t2 v2 H2 k2 R2 s2 e2=>?_⟩⟩;obtain⟨t,ht,k2⟩:=aN k2;obtain⟨u,hu,k2⟩:=aN k2;obtain⟨s,hs,k2⟩:=kr k2;exact o2 G2 H2 v1 v2 t u s _ R2.sub (R2.rd (e1.stp s2) ht) (R2.rd e2 hu) hs (R2.done R.lt (s1.trans s2) k2 q)
  refine⟨fun e h=>?_,pt,(fun es z=>by injection z),(fun tg e z=>by injection z),fun es he=>?_,(fun e z=>by injection z),(fun _ _ _ _ _ z=>by injection z)⟩
  ·obtain⟨l,op,r,pos,rfl,rfl,h1,h2,h3⟩:=go e h;exact ki (NI (pos:=pos) o1 ((iha C X F A).e l h1) ((ihb C X F A).e r h2) (tV h3)) o2
  ·obtain⟨e,rfl,he⟩:=jT he;exact yY (pt e he)
 |ix a b iha ihb=>intro C X F A;refine dQ fun e h=>?_;obtain⟨l,r,p,rfl,h⟩:=uh h;replace h:((ck Γ a C).e l&&(ck Γ b C).e r&&lN r)=true:=h;simp only [S5] at h;exact ki (ng Ll ((iha C X F A).e l h.1.1) ((ihb C X F A).e r h.1.2) (Hc h.2)) K1
 |dg a b iha ihb=>intro C X F A;refine dQ fun e h=>?_;obtain⟨l,r,p,rfl,h⟩:=uh h;replace h:((ck Γ a C).e l&&(ck Γ b C).e r&&lN r)=true:=h;simp only [S5] at h;exact ki (r:=kG) (yZ (by have:=A.un;lia) ((iha C X F A).e l h.1.1) ((ihb C X F A).e r h.1.2) (Hc h.2)) KY
 |b1 f a iha=>intro C X F A;refine dQ fun e h=>?_;obtain⟨g,es,p,rfl,h⟩:=iO h;replace h:(cv (fun x=>x==f.nm&&C.gl x && Γ.bl.contains x) g&&eI (fun r=>(ck Γ a C).e r&&bf r) es)=true:=h;rw[S5] at h;obtain⟨x,q,rfl,h1⟩:=gJ h.1;obtain⟨r,rfl,h2⟩:=jT h.2;replace h1:(x==f.nm&&C.gl x && Γ.bl.contains x)=true:=h1;replace h2:((ck Γ a C).e r&&bf r)=true:=h2;simp only [S5,TN] at h1 h2;obtain⟨⟨rfl,h3⟩,h4⟩:=h1;exact KI A.calm A.un A.gd (A.bl _ (Up.mp h4)) (A.gl' h3) h2.2 ((iha C X F A).e r h2.1)
 |and a b iha ihb=>
  intro C X F A;refine tu (fun e h=>?_) fun e h=>?_
  ·obtain⟨l,p,h1,⟨x,rfl,h2⟩|⟨x,y,z,rfl,h2⟩⟩:=uB h
   ·exact(Eh ((iha C X F A).e l h1) (Ei ((ihb C X F A).e x h2))).imp fun σ H Q=>LE.andV
   ·exact(Eh ((iha C X F A).e l h1) ((ihb C X F A).e _ h2)).imp fun σ H Q=>LE.andV
  ·obtain⟨l,p,h1,⟨x,rfl,h2⟩|⟨x,y,z,rfl,h2⟩⟩:=uB h
   ·exact((Ek ((iha C X F A).t l h1) (NL ((ihb C X F A).t x h2))).imp fun σ H Q=>LB.and).pt
   ·exact((Ek ((iha C X F A).t l h1) ((ihb C X F A).t _ h2).pw).imp fun σ H Q=>LB.and).pt
 |or a b iha ihb=>
  intro C X F A;refine tu (fun e h=>?_) fun e h=>?_
  ·obtain⟨l,p,h1,⟨x,rfl,h2⟩|⟨x,y,z,rfl,h2⟩⟩:=uB h
   ·exact(DC ((iha C X F A).e l h1) (Ei ((ihb C X F A).e x h2))).imp fun σ H Q=>LE.orV
   ·exact(DC ((iha C X F A).e l h1) ((ihb C X F A).e _ h2)).imp fun σ H Q=>LE.orV
  ·obtain⟨l,p,h1,⟨x,rfl,h2⟩|⟨x,y,z,rfl,h2⟩⟩:=uB h
   ·exact((x6 ((iha C X F A).t l h1) (El ((ihb C X F A).t x h2))).imp fun σ H Q=>LB.or).pt
   ·exact((x6 ((iha C X F A).t l h1) ((ihb C X F A).t _ h2).pw).imp fun σ H Q=>LB.or).pt
 |not a iha=>
  intro C X F A;refine tu (fun e h=>?_) fun e h=>?_
  ·obtain⟨r,p,rfl,h⟩:=E1 h;exact(Ly ((iha C X F A).e r h)).imp fun σ H Q=>LE.notV
  ·obtain⟨r,p,rfl,h⟩:=E1 h;exact(Ej ((iha C X F A).t r h)).imp fun σ H Q=>LB.not
 |chn o o' a b c iha ihb j2=>
  intro C X F A;have hu:X.A.units<cLine:=by have:=A.un;lia
  obtain⟨r2,o1,o2⟩:=yh A.un hu o;obtain⟨r3,o3,o4⟩:=yh A.un hu o';have go:∀e,qC (fun op eA l m r=>op==o.op&&eA==o'.op&&(ck Γ a C).e l&&(ck Γ b C).e m&&(ck Γ c C).e r&&eK r) e=true->∃l m r p,e = .Compare l [o.op,o'.op] [m,r] p/\PE X l (LE X.K F (av Γ a).e)/\PE X m (LE X.K F (av Γ b).e)/\PE X r (LE X.K F (av Γ c).e)/\eK r=true:=fun e h=>by obtain⟨l,op,eA,m,r,p,rfl,h⟩:=ML h;replace h:(op==o.op&&eA==o'.op&&(ck Γ a C).e l&&(ck Γ b C).e m&&(ck Γ c C).e r&&eK r)=true:=h;simp only [S5,TN] at h;obtain⟨⟨⟨⟨⟨rfl,rfl⟩,h1⟩,h2⟩,h3⟩,h4⟩:=h;exact⟨l,m,r,p,rfl,(iha C X F A).e l h1,(ihb C X F A).e m h2,(j2 C X F A).e r h3,h4⟩
  refine tu (fun e h=>?_) fun e h=>?_
  ·obtain⟨l,m,r,p,rfl,h1,h2,h3,h4⟩:=go e h;exact(Pc o1 o3 h1 h2 h3 (tV h4)).imp fun σ H Q=>LE.chn o2 o4
  ·obtain⟨l,m,r,p,rfl,h1,h2,h3,h4⟩:=go e h;exact D2 ((Pb o1 o3 h1 h2 h3 (tV h4)).imp fun σ H Q k=>LE.chn o2 o4 k)
 |dnew=>intro C X F A;refine dQ fun e h=>?_;obtain⟨p,rfl⟩:=KJ h;exact MZ
 |dct ks r ihr=>
  intro C X F A;refine dQ fun e h=>?_;obtain⟨es,vs,p,rfl,h⟩:=OJ h;replace h:(ni ks es&&(ck Γ r C).l vs&&decide (ks.length<=15) && !ks.isEmpty&&es.length==vs.length)=true:=h;simp only [S5,Uv,TN,U7] at h;obtain⟨⟨⟨⟨h1,h2⟩,h3⟩,h4⟩,h5⟩:=h;obtain⟨eo,g1,g2⟩:=(ihr C X F A).p ks es vs p h1 h2 h5
  have ko:∀(ks:List Str) (es:List (Option Expr)),ni ks es=true->ks.length=es.length/\es.all (·.isSome)=true:=by
   intro ks
   induction ks with
   |nil=>intro es h;cases es with|nil=>exact⟨rfl,rfl⟩|cons _ _=>injection h
   |cons k ks ih=>
    intro es h
    match es,h with
    |some e::es,h=>have h':(oH e==some (.str k)&&ni ks es)=true:=h;rw[S5] at h';obtain⟨a1,a2⟩:=ih es h'.2;exact⟨by simp [a1],by simpa using a2⟩
  obtain⟨k1,k2⟩:=ko ks es h1;exact(Ny g1 k2 h5 (fun z=>by rw[z] at k1;cases ks with|nil=>injection h4|cons _ _=>injection k1) (by lia)).imp fun σ H Q=>LE.dct h3 g2
 |ite c a b j2 iha ihb=>intro C X F A;refine⟨fun e h=>?_,(fun e z=>by injection z),(fun es z=>by injection z),(fun tg e z=>by injection z),(fun es z=>by injection z),(fun e z=>by injection z),(fun _ _ _ _ _ z=>by injection z)⟩;obtain⟨t,l,r,p,rfl,h1,h2,h3⟩:=MH h;exact(Pg ((j2 C X F A).t t h1) ((iha C X F A).e l h2) ((ihb C X F A).e r h3)).imp fun σ H Q=>LE.ite
 |nil=>
  intro C X F A;refine⟨(fun e z=>by injection z),(fun e z=>by injection z),fun es h=>?_,(fun tg e z=>by injection z),(fun es z=>by injection z),(fun e h=>by rw[OH h];exact Nc),fun ks es vs pos hk hv hl=>?_⟩
  ·rw[ug h];exact⟨K9,La⟩
  ·rw[ug hv] at hl ⊢
   have:es = []:=UB hl;subst this
   cases ks with
   |nil=>exact⟨[],Nz,fun σ H Q=>LP.nil⟩
   |cons _ _=>injection hk
 |cons a r iha ihr=>
  intro C X F A;have eS:av Γ (.cons a r)=⟨j1,kM,qQ (av Γ a).e (av Γ r).f,tI (av Γ a).e (av Γ r).a,dX,ip⟩:=by show Sm.mk j1 kM (qQ (av Γ a).e (xa (av Γ r).f)) (tI (av Γ a).e (w8 (av Γ r).a)) dX ip=_;rw[MO,MN]
  rw[eS];refine⟨(fun e z=>by injection z),(fun e z=>by injection z),fun es h=>?_,(fun tg e z=>by injection z),(fun es z=>by injection z),(fun e z=>by injection z),fun ks es vs pos hk hv hl=>?_⟩
  ·obtain⟨x,xs,rfl,h1,h2,h3⟩:=zE h;have pe:=(iha C X F A).e x h1;obtain⟨q1,q2⟩:=(ihr C X F A).l xs h3;exact⟨(jU pe q1 (cf h2)).imp fun σ H Q=>LF.cons,Np (jU pe q2 (cf h2))⟩
  ·obtain⟨x,xs,rfl,h1,h2,h3⟩:=zE hv
   cases es with
   |nil=>injection hl
   |cons o es=>
    match ks,o,hk with
    |k::ks,some e,hk=>have d9:(oH e==some (.str k)&&ni ks es)=true:=hk;simp only [S5,TN] at d9;obtain⟨eo,g1,g2⟩:=(ihr C X F A).p ks es xs pos d9.2 h3 (by simpa using hl);exact⟨_,O6 (F0 d9.1) ((iha C X F A).e x h1) g1,fun σ H Q=>LP.cons g2⟩
 |tup r ihr=>intro C X F A;refine dQ fun e h=>?_;obtain⟨es,k,p,rfl,h1,h2⟩:=MG h;exact K8 h2 ((ihr C X F A).l es h1).1
 |lst r ihr=>intro C X F A;refine dQ fun e h=>?_;obtain⟨es,p,rfl,h1,h2⟩:=MF h;exact K7 h2 ((ihr C X F A).l es h1).1
 |call j r ihr=>
  intro C X F A;refine dQ fun e h=>?_;obtain⟨g,es,p,rfl,h⟩:=iO h;replace h:(cv (fun x=>(Γ.fns[j]?).map (·.1)==some x&&C.gl x&&gI x) g&&tD (ck Γ r C).l es)=true:=h;rw[S5] at h;obtain⟨x,q,rfl,h1⟩:=gJ h.1;obtain⟨a,es,rfl,h4⟩:=OG h.2;replace h1:((Γ.fns[j]?).map (·.1)==some x&&C.gl x&&gI x)=true:=h1;simp only [S5,TN] at h1;obtain⟨⟨h1,h2⟩,h3⟩:=h1;have st:=oM h4;simp only [gI,S5,U7] at h3
  cases q : Γ.fns[j]? with
  |none=>rw[q] at h1;injection h1
  |some pr=>
   obtain⟨y,psp⟩:=pr;rw[q] at h1;cases h1;obtain⟨k,f,fd,ps,g1,g2,g3,g4,g5⟩:=A.fns _ (T4 q);have e2 : Γ.sp j=psp:=by unfold Gm.sp;rw[q]
   show PE X _ (LE X.K F (xV (Γ.sp j) (av Γ r).a));rw[e2];exact(y4 g1 g2 (A.gl' h2) g3 g4 g5 .nil xY ((ihr C X F A).l _ h4).2 h3.1.1 (cf (st a Te)) (OF fun z hz=>st z (Tb _ hz))).imp fun σ H Q=>LE.call
 |mth m o r iho ihr=>intro C X F A;refine dQ fun e h=>?_;obtain⟨g,es,cp,rfl,h⟩:=iO h;replace h:(jP (fun l x ap=>x==m.nm&&(ck Γ o C).e l&&iL l&&ap.endLine==cp.line) g&&(ck Γ r C).l es&&w6 m r es)=true:=h;simp only [S5] at h;obtain⟨l,x,ap,rfl,h1⟩:=uC h.1.1;replace h1:(x==m.nm&&(ck Γ o C).e l&&iL l&&ap.endLine==cp.line)=true:=h1;simp only [S5,TN] at h1;obtain⟨⟨⟨rfl,h2⟩,h3⟩,h4⟩:=h1;refine MD h.2 ?_ (TN.mpr h4) (oM h.1.2) ((iho C X F A).e l h2) ((ihr C X F A).l es h.1.2).1;cases l <;> first|rfl|injection h3
 |comp au own p it c e vq j2 pV=>intro C X F A;refine dQ fun x h=>?_;obtain⟨elt,tg,iter,ifs,scope,pos,rfl,h⟩:=uA h;obtain⟨N',hN,S,hi,hs,hb⟩:=uO (F:=F) A vq j2 pV h;exact(E9 A.calm S hi hb (rj hs)).imp fun σ H Q=>LE.comp hN
 |cmpv au own p i c e j2 pV=>
  intro C X F A;refine dQ fun x h=>?_;obtain⟨elt,tg,iter,ifs,scope,pos,rfl,h⟩:=uA h;have hv:cv (fun x=>C.N[i]? == some x&&C.vis x&&gI x) iter=true:=by replace h:(lQ (fun x=>C.names.lookup x) C.N scope (cL C au own) (au.map some++List.replicate own.length none)&&cv (fun x=>C.N[i]? == some x&&C.vis x&&gI x) iter&&eK iter&&ckP (C.in scope (cL C au own)) p tg&&(ck Γ c (C.in scope (cL C au own))).ts ifs&&(ck Γ e (C.in scope (cL C au own))).e elt&&decide (cL C au own).Nodup)=true:=h;simp only [S5] at h;exact h.1.1.1.1.1.2
  obtain⟨N',hN,S,hi,hs,hb⟩:=uO (F:=F) (it:=.var i) A (EZ Γ i) j2 pV h;obtain⟨x,q,rfl,hv⟩:=gJ hv;exact(E9 A.calm S (ym (tY (F:=F) (A.var hv))) hb (rj hs)).imp fun σ H Q=>LE.compV hN
 |tt=>intro C X F A;refine⟨(fun e z=>by injection z),(fun e z=>by injection z),(fun es z=>by injection z),(fun tg e z=>by injection z),fun es h=>?_,(fun e z=>by injection z),(fun _ _ _ _ _ z=>by injection z)⟩;rw[ug h];exact fun aa s σ H Q I ⟨G,ta,M,K0,R,k,q⟩=>Nw aa s σ H Q I (q _ _ G H k R (Same.refl _))
 |isi T a iha=>intro C X F A;refine dQ fun e h=>?_;obtain⟨g,es,p,rfl,h⟩:=iO h;replace h:(cv (fun x=>x==("isinstance":Str)&&C.gl x && Γ.bl.contains x) g&&lg (fun r y=>(ck Γ a C).e r&&bf r&&cv (fun z=>z==Str.ofString T&&C.gl z && Γ.bl.contains z) y && Γ.kt.contains T&&oh T) es)=true:=h;rw[S5] at h;obtain⟨x,q,rfl,h1⟩:=gJ h.1;obtain⟨r,y,rfl,h2⟩:=yS h.2;replace h1:(x==("isinstance":Str)&&C.gl x && Γ.bl.contains x)=true:=h1;replace h2:((ck Γ a C).e r&&bf r&&cv (fun z=>z==Str.ofString T&&C.gl z && Γ.bl.contains z) y && Γ.kt.contains T&&oh T)=true:=h2;simp only [S5,TN] at h1 h2;obtain⟨⟨⟨⟨h3,h4⟩,h5⟩,h6⟩,h7⟩:=h2;obtain⟨z,q',rfl,h8⟩:=gJ h5;replace h8:(z==Str.ofString T&&C.gl z && Γ.bl.contains z)=true:=h8;simp only [S5,TN] at h8;obtain⟨⟨rfl,h9⟩,h10⟩:=h8;obtain⟨⟨rfl,BQ⟩,h12⟩:=h1;exact MA (A.kt T (Up.mp h6)) (A.bl _ (Up.mp h12)) (A.gl' BQ) (A.bl _ (Up.mp h10)) (A.gl' h9) h7 h4 ((iha C X F A).e r h3)
 |slc a lo hi iha ihl ihh=>intro C X F A;refine dQ fun e h=>?_;obtain⟨x,lo,hi,p,p2,rfl,h1,h2,h3⟩:=MK h;exact(O9 JI ((iha C X F A).e x h1) ((ihl C X F A).o lo h2) ((ihh C X F A).o hi h3)).imp fun σ H Q=>LE.slc
 |rng a iha=>intro C X F A;refine⟨(fun e z=>by injection z),(fun e z=>by injection z),(fun es z=>by injection z),fun tg e h=>?_,(fun es z=>by injection z),(fun e z=>by injection z),(fun _ _ _ _ _ z=>by injection z)⟩;obtain⟨g,es,p,rfl,h⟩:=iO h;replace h:(cv (fun x=>x==("range":Str)&&C.gl x && Γ.bl.contains x) g&&eI (fun r=>(ck Γ a C).e r&&bf r) es)=true:=h;rw[S5] at h;obtain⟨x,q,rfl,h1⟩:=gJ h.1;obtain⟨r,rfl,h2⟩:=jT h.2;replace h1:(x==("range":Str)&&C.gl x && Γ.bl.contains x)=true:=h1;replace h2:((ck Γ a C).e r&&bf r)=true:=h2;simp only [S5,TN] at h1 h2;obtain⟨⟨rfl,h3⟩,h4⟩:=h1;exact(Qt (A.gl' h3) (A.bl _ (Up.mp h4)) (jU ((iha C X F A).e r h2.1) pa_nil (cf h2.2)) (cf h2.2)).imp fun σ H R=>LI.rng
 |enu a iha=>
  intro C X F A;refine⟨(fun e z=>by injection z),(fun e z=>by injection z),(fun es z=>by injection z),fun tg e h=>?_,(fun es z=>by injection z),(fun e z=>by injection z),(fun _ _ _ _ _ z=>by injection z)⟩;obtain⟨g,es,p,rfl,h⟩:=iO h;replace h:(cv (fun x=>x==("enumerate":Str)&&C.gl x && Γ.bl.contains x) g&&eI (fun r=>(ck Γ a C).e r&&bf r) es && !tW tg)=true:=h;rw[S5,S5] at h;obtain⟨⟨ha,hb⟩,hT⟩:=h
  obtain⟨bU,kn,qq,rfl⟩:∃bU kn qq,tg = .Tuple bU kn qq:=by
   cases tg with
   |Tuple bU kn qq=>exact⟨_,_,_,rfl⟩
   |_=>injection hT
  obtain⟨x,q,rfl,h1⟩:=gJ ha;obtain⟨r,rfl,h2⟩:=jT hb;replace h1:(x==("enumerate":Str)&&C.gl x && Γ.bl.contains x)=true:=h1;replace h2:((ck Γ a C).e r&&bf r)=true:=h2;simp only [S5,TN] at h1 h2;obtain⟨⟨rfl,h3⟩,h4⟩:=h1;exact(Nq (A.gl' h3) (A.bl _ (Up.mp h4)) (jU ((iha C X F A).e r h2.1) pa_nil (cf h2.2)) (cf h2.2)).imp fun σ H R=>LI.enu
 |rvs b a iha=>intro C X F A;refine dQ fun e h=>?_;obtain⟨x,j,p1,p2,p3,p,rfl,h⟩:=MM h;exact KQ ((iha C X F A).e x h)
 |idx a r iha ihr=>
  intro C X F A;refine dQ fun e h=>?_;obtain⟨g,es,cp,rfl,h⟩:=iO h;replace h:(jP (fun l x ap=>x==("index":Str)&&(ck Γ a C).e l&&iL l&&ap.endLine==cp.line) g&&(ck Γ r C).l es&&eI (fun _=>true) es)=true:=h;simp only [S5] at h;obtain⟨⟨h1,h2⟩,h3⟩:=h;obtain⟨l,x,ap,rfl,h1⟩:=uC h1;obtain⟨e,rfl,_⟩:=jT h3;replace h1:(x==("index":Str)&&(ck Γ a C).e l&&iL l&&ap.endLine==cp.line)=true:=h1;simp only [S5,TN] at h1;obtain⟨⟨⟨rfl,h4⟩,h5⟩,h6⟩:=h1;have hs:bf e=true:=oM h2 e Te;have bs:attributeBase l "index" X.env (eval l X.env)=eval l X.env:=by cases l <;> first|rfl|cases h5
  exact(qJ Ur PySem.F.slot_list_index PySem.F.type_list_index P8 ((iha C X F A).e l h4) ((ihr C X F A).l _ h2).1 bs (by rw[cf hs];rfl) (TN.mpr h6) (cf hs) rfl).imp fun σ H Q=>LE.idx
 |idt a r iha ihr=>
  intro C X F A;refine dQ fun e h=>?_;obtain⟨g,es,cp,rfl,h⟩:=iO h;replace h:(jP (fun l x ap=>x==("index":Str)&&(ck Γ a C).e l&&iL l&&ap.endLine==cp.line) g&&(ck Γ r C).l es&&eI (fun _=>true) es)=true:=h;simp only [S5] at h;obtain⟨⟨h1,h2⟩,h3⟩:=h;obtain⟨l,x,ap,rfl,h1⟩:=uC h1;obtain⟨e,rfl,_⟩:=jT h3;replace h1:(x==("index":Str)&&(ck Γ a C).e l&&iL l&&ap.endLine==cp.line)=true:=h1;simp only [S5,TN] at h1;obtain⟨⟨⟨rfl,h4⟩,h5⟩,h6⟩:=h1;have hs:bf e=true:=oM h2 e Te;have bs:attributeBase l "index" X.env (eval l X.env)=eval l X.env:=by cases l <;> first|rfl|cases h5
  exact(KL PySem.F.plainAttrs_tuple PySem.F.slot_tuple_index PySem.F.type_tuple_index P7 ((iha C X F A).e l h4) ((ihr C X F A).l _ h2).1 bs (by rw[cf hs];rfl) (TN.mpr h6) (cf hs) rfl).imp fun σ H Q=>LE.idt
 |lrv a iha=>intro C X F A;refine dQ fun e h=>?_;obtain⟨g,es,p,rfl,h⟩:=iO h;replace h:(cv (fun x=>x==("list":Str)&&C.gl x && Γ.bl.contains x) g&&eI (gG fun g' fV _=>cv (fun x=>x==("reversed":Str)&&C.gl x && Γ.bl.contains x) g'&&eI (fun r=>(ck Γ a C).e r&&bf r) fV) es)=true:=h;rw[S5] at h;obtain⟨x,q,rfl,h1⟩:=gJ h.1;obtain⟨y,rfl,h2⟩:=jT h.2;obtain⟨g',fV,p',rfl,h3⟩:=iO h2;replace h3:(cv (fun x=>x==("reversed":Str)&&C.gl x && Γ.bl.contains x) g'&&eI (fun r=>(ck Γ a C).e r&&bf r) fV)=true:=h3;rw[S5] at h3;obtain⟨x',q',rfl,h4⟩:=gJ h3.1;obtain⟨r,rfl,h5⟩:=jT h3.2;replace h1:(x==("list":Str)&&C.gl x && Γ.bl.contains x)=true:=h1;replace h4:(x'==("reversed":Str)&&C.gl x' && Γ.bl.contains x')=true:=h4;replace h5:((ck Γ a C).e r&&bf r)=true:=h5;simp only [S5,TN] at h1 h4 h5;obtain⟨⟨rfl,a1⟩,a2⟩:=h1;obtain⟨⟨rfl,a3⟩,a4⟩:=h4;exact jQ (QT A.calm (A.gl' a1) (A.bl _ (Up.mp a2)) (A.gl' a3) (A.bl _ (Up.mp a4)) ((iha C X F A).e r h5.1) (cf h5.2)) MQ
 |zip r ihr=>
  intro C X F A;refine⟨(fun e z=>by injection z),(fun e z=>by injection z),(fun es z=>by injection z),fun tg e h=>?_,(fun es z=>by injection z),(fun e z=>by injection z),(fun _ _ _ _ _ z=>by injection z)⟩;obtain⟨g,es,p,rfl,h⟩:=iO h;replace h:(cv (fun x=>x==("zip":Str)&&C.gl x && Γ.bl.contains x) g&&(ck Γ r C).l es&&lg (fun _ _=>true) es && !tW tg)=true:=h;simp only [S5] at h;obtain⟨⟨⟨ha,hb⟩,hc⟩,hT⟩:=h
  obtain⟨bU,kn,qq,rfl⟩:∃bU kn qq,tg = .Tuple bU kn qq:=by
   cases tg with
   |Tuple bU kn qq=>exact⟨_,_,_,rfl⟩
   |_=>injection hT
  obtain⟨x,q,rfl,h1⟩:=gJ ha;obtain⟨y,z,rfl,_⟩:=yS hc;replace h1:(x==("zip":Str)&&C.gl x && Γ.bl.contains x)=true:=h1;simp only [S5,TN] at h1;obtain⟨⟨rfl,h3⟩,h4⟩:=h1;have s1:bf y=true:=oM hb y Te;have s2:bf z=true:=oM hb z (Tb _ Te);exact(Ztl.pi_zip (A.gl' h3) (A.bl _ (Up.mp h4)) ((ihr C X F A).l _ hb).1 (cf s1) (by rw[cf s2];rfl)).imp fun σ H R=>LI.zip
 |glb j=>
  intro C X F A;refine dQ fun e h=>?_;obtain⟨x,p,rfl,h⟩:=gJ h;replace h:((Γ.gl[j]?).map (·.1)==some x&&C.gl x&&gI x)=true:=h;simp only [S5,TN] at h;obtain⟨⟨h1,h2⟩,h3⟩:=h;simp only [gI,S5,U7] at h3
  cases q : Γ.gl[j]? with
  |none=>rw[q] at h1;injection h1
  |some pr=>obtain⟨y,t⟩:=pr;rw[q] at h1;cases h1;obtain⟨v,u,g1,g2,g3⟩:=A.gl _ (T4 q);exact(y8 (A.gl' h2) g1 g2 h3.1.1).imp fun σ H Q ⟨G,ta,M,K0,R,k,q⟩=>q _ _ G ta v H k R .refl (g3 G)
 |get d k z ihd ihk ihz=>
  intro C X F A;refine dQ fun e h=>?_;obtain⟨g,es,cp,rfl,h⟩:=iO h;replace h:(jP (fun l x ap=>x==("get":Str)&&(ck Γ d C).e l&&iL l&&ap.endLine==cp.line) g&&lg (fun a b=>(ck Γ k C).e a&&bf a&&(ck Γ z C).e b&&bf b) es)=true:=h;rw[S5] at h;obtain⟨l,x,ap,rfl,h1⟩:=uC h.1;obtain⟨a,b,rfl,h2⟩:=yS h.2;replace h1:(x==("get":Str)&&(ck Γ d C).e l&&iL l&&ap.endLine==cp.line)=true:=h1;replace h2:((ck Γ k C).e a&&bf a&&(ck Γ z C).e b&&bf b)=true:=h2;simp only [S5,TN] at h1 h2;obtain⟨⟨⟨rfl,h3⟩,h4⟩,h5⟩:=h1;obtain⟨⟨⟨h6,h7⟩,h8⟩,h9⟩:=h2;have st:starEach [a,b] X.env = [(false,eval a X.env),(false,eval b X.env)]:=by rw[cf h7,cf h9];rfl
  have bs:attributeBase l "get" X.env (eval l X.env)=eval l X.env:=by cases l <;> first|rfl|cases h4
  have m:M2 X l "get" ap a b cp:=⟨bs,(by rw[st];rfl),TN.mpr h5,(by rw[st];rfl)⟩;exact(O4 (by have:=A.un;lia) ((ihd C X F A).e l h3) ((ihk C X F A).e a h6) ((ihz C X F A).e b h8) m).imp fun σ H Q=>LE.get
end
inductive IS where
 |skip
 |seq (a b:IS)|cut (a b:IS)
 |ret (e:IE)|exp (e:IE)|set (i:Nat) (e:IE)|asg (p:Pt) (e:IE)
 |ife (c:IE) (a b:IS)|for (p:Pt) (it:IE) (b:IS)|whl (c:IE) (b:IS)
 |dput (v d k:IE)|lput (v o i:IE)
def B5 (a b:cx):cx:=fun P M=>∃A5:Ms->Prop,a { P with nx:=A5 } M/\∀M',A5 M'->b P M'
def aH (w:cx):cx:=fun P M=>sR M (w P)
theorem lG (w:cx):aH w=w:=by funext P M;exact yT
def aB (Γ : Gm):IS->cx
 | .skip=>Dq
 | .seq a b=>Cu (aB Γ a) (aH (aB Γ b))
 | .cut a b=>B5 (aB Γ a) (aH (aB Γ b))
 | .ret e=>Ct (av Γ e).e
 | .exp e=>Cr (av Γ e).e
 | .set i e=>xB i (av Γ e).e
 | .asg p e=>Cn (bd p) (av Γ e).e
 | .ife c a b=>Bc (av Γ c).t (aH (aB Γ a)) (aH (aB Γ b))
 | .for p it b=>Co (av Γ it).i (bd p) (aH (aB Γ b))
 | .whl c b=>Cq (av Γ c).t (aH (aB Γ b))
 | .dput v d k=>Dm (av Γ v).e (av Γ d).e (av Γ k).e
 | .lput v o i=>Di (av Γ v).e (av Γ o).e (av Γ i).e
noncomputable def xN:Expr->Bool
 | .Tuple _ _ _=>false
 |_=>true
structure Sk where
 s:Stmt->Bool
 b:List Stmt->Bool
noncomputable def jM (s:Stmt->Bool):Sk:=⟨s,fun iG=>match iG with | [st]=>s st|_=>false⟩
noncomputable def xM:Stmt->Bool
 | .Pass _=>true
 |_=>false
def J4:List Stmt->Bool
 |[]=>true
 |[st]=>xM st
 |_=>false
noncomputable def B4 (a:Stmt->Bool)(b:List Stmt->Bool):List Stmt->Bool
 |st::r=>a st&&b r
 |_=>false
noncomputable def wR (c:Expr->Bool):Stmt->Bool
 | .Return (some x) _=>c x
 |_=>false
def wQ (c:Expr->Bool):Stmt->Bool
 | .Expr x _=>c x&&jt x
 |_=>false
noncomputable def oz (c:Expr->Expr->Bool):Stmt->Bool
 | .Assign [tg] v _=>c tg v
 |_=>false
noncomputable def vn (c:Expr->Bool)(a b:List Stmt->Bool):Stmt->Bool
 | .If t x y _=>c t&&a x&&b y
 |_=>false
def wO (p:Expr->Bool)(i:Expr->Expr->Bool)(b:List Stmt->Bool):Stmt->Bool
 | .For tg x y [] _=>p tg&&i tg x&&eK x&&b y
 |_=>false
noncomputable def wN (c:Expr->Bool)(b:List Stmt->Bool):Stmt->Bool
 | .While t x [] _=>c t&&b x
 |_=>false
noncomputable def gD (Γ : Gm):IS->Cs->Sk
 | .skip,_=>⟨xM,J4⟩
 | .seq a b,C=>⟨fun _=>false,B4 (gD Γ a C).s (gD Γ b C).b⟩
 | .cut a b,C=>⟨fun _=>false,B4 (gD Γ a C).s (gD Γ b C).b⟩
 | .ret e,C=>jM (wR (ck Γ e C).e)
 | .exp e,C=>jM (wQ (ck Γ e C).e)
 | .set i e,C=>jM (oz fun tg v=>cv (fun x=>C.N[i]? == some x&&C.loc x) tg&&(ck Γ e C).e v)
 | .asg p e,C=>jM (oz fun tg v=>ckP C p tg&&(ck Γ e C).e v&&jt v&&xN v&&bf tg)
 | .ife c a b,C=>jM (vn (ck Γ c C).t (gD Γ a C).b (gD Γ b C).b)
 | .for p it b,C=>jM (wO (ckP C p) (ck Γ it C).i (gD Γ b C).b)
 | .whl c b,C=>jM (wN (ck Γ c C).t (gD Γ b C).b)
 | .dput v d k,C=>jM (oz fun tg x=>lh (fun o i=>(ck Γ d C).e o&&(ck Γ k C).e i) tg&&(ck Γ v C).e x&&jt x)
 | .lput v o i,C=>jM (oz fun tg x=>lh (fun a b=>(ck Γ o C).e a&&(ck Γ i C).e b&&lN b) tg&&(ck Γ v C).e x&&jt x)
theorem FT (h:xM st=true):∃p,st = .Pass p:=by cases st <;> first|exact⟨_,rfl⟩|cases h
theorem Mz {c:Expr->Bool}(h:wR c st=true):∃x p,st = .Return (some x) p/\c x=true:=by cases st with|Return o p=>(cases o with|none=>exact(Tq h).elim|some x=>exact⟨_,_,rfl,h⟩)|_=>exact(Tq h).elim
theorem My {c:Expr->Bool}(h:wQ c st=true):∃x p,st = .Expr x p/\c x=true/\jt x=true:=by cases st with|Expr x p=>(have h:(_&&_)=true:=h;simp only [S5] at h;exact⟨_,_,rfl,h⟩)|_=>exact(Tq h).elim
theorem uz {c:Expr->Expr->Bool}(h:oz c st=true):∃tg v p,st = .Assign [tg] v p/\c tg v=true:=by cases st with|Assign l v p=>(rcases l with _|⟨t,_|_⟩ <;> first|exact⟨_,_,_,rfl,h⟩|exact(Tq h).elim)|_=>exact(Tq h).elim
theorem KH {c:Expr->Bool}{a b:List Stmt->Bool}(h:vn c a b st=true):∃t x y p,st = .If t x y p/\c t=true/\a x=true/\b y=true:=by cases st with|If t x y p=>(have h:(_&&_&&_)=true:=h;simp only [S5] at h;exact⟨_,_,_,_,rfl,h.1.1,h.1.2,h.2⟩)|_=>exact(Tq h).elim
theorem Mx {p:Expr->Bool}{i:Expr->Expr->Bool}{b:List Stmt->Bool}(h:wO p i b st=true):∃tg x y q,st = .For tg x y [] q/\p tg=true/\i tg x=true/\eK x=true/\b y=true:=by cases st with|For t x y z q=>(cases z with|nil=>(have h:(_&&_&&_&&_)=true:=h;simp only [S5] at h;exact⟨_,_,_,_,rfl,h.1.1.1,h.1.1.2,h.1.2,h.2⟩)|cons _ _=>exact(Tq h).elim)|_=>exact(Tq h).elim
theorem Mw {c:Expr->Bool}{b:List Stmt->Bool}(h:wN c b st=true):∃t x q,st = .While t x [] q/\c t=true/\b x=true:=by cases st with|While t x z q=>(cases z with|nil=>(have h:(_&&_)=true:=h;simp only [S5] at h;exact⟨_,_,_,rfl,h.1,h.2⟩)|cons _ _=>exact(Tq h).elim)|_=>exact(Tq h).elim
section
variable {C:Cs}
theorem OC (h:xN e=true):swappedStores [tg] e env=pure none:=by cases e <;> first | (cases tg <;> rfl)|cases h
theorem PY {a b:Expr}:swappedStores [.Subscript a b p] e env=pure none:=by cases e <;> rfl
theorem DW (h:bf tg=true):(assignEach [tg] env).map (·.2) = [assign tg env]:=by cases tg <;> first|rfl|cases h
structure rG (Γ : Gm)(X:Cx)(F:Fr)(w:cx)(c:Sk):Prop where
 s:∀st,c.s st=true->PS X st (LS X.K F w)
 b:∀iG,c.b iG=true->PSs X iG (LS X.K F w)
theorem kl {w:cx}{c:Stmt->Bool}(h:∀st,c st=true->PS X st (LS X.K F w)):rG Γ X F w (jM c) where
 s:=h
 b:=fun iG hs=>by
  match iG,hs with
  |[st],hs=>exact jV (h st hs)
theorem Aj {tg:Option Expr}{n:Nat}(h:jt e=true):swapsWith e tg n env=pure false:=by cases e <;> first|rfl|cases h
theorem Ha {n:Nat}(h:jt e=true):swapsWithSole [tg] e n env=pure false:=by cases e <;> first|rfl|cases h
theorem PE.swp {iU:Pos}{v:Expr}{e:IE}(A:At Γ C X)(hi:C.N[i]? = some x)(hl:C.loc x=true)(hv:(ck Γ e C).e v=true):PS X (.Assign [.Name x p] v iU) (LS X.K F (xB i (av Γ e).e)):=by
 obtain⟨l1,l2⟩:=Cs.loc_is A hl;have hN:X.N.Nodup:=by rw[A.N];exact A.nd
 have i9:X.N[i]? = some x:=by rw[A.N];exact hi
 have pe:=(fq Γ e C X F A).e v hv
 by_cases hc:jt v=true
 ·exact(qU hN i9 l1 pe (Aj hc) l2).imp fun D σ H=>LS.set
 ·cases v with
  |ListComp elt gens scope pos=>
   have mH:∃b,swapsWith (.ListComp elt gens scope pos) (some (.Name x p)) iU.line X.env=pure b:=⟨_,rfl⟩;obtain⟨b,mH⟩:=mH
   cases b with
   |false=>exact(qU hN i9 l1 pe mH l2).imp fun D σ H=>LS.set
   |true=>
    cases e with
    |comp au own pp it c e=>obtain⟨elt',tg,iter,ifs,scope',bQ,e1,h⟩:=uA hv;cases e1;obtain⟨N',hNl,S,h1,h2,hb⟩:=uO (F:=F) A (fq Γ it) (fq Γ c) (fq Γ e) h;exact(Hg A.calm hN i9 l1 S h1 hb mH (rj h2) l2).imp fun D σ H k=>by obtain⟨G,ta,M,K0,R,k,q⟩:=LS.set k;exact LE.comp hNl ⟨G,ta,M,K0,R,k,q⟩
    |cmpv au own pp j c e=>
     obtain⟨elt',tg,iter,ifs,scope',bQ,e1,h⟩:=uA hv;cases e1;have pZ:cv (fun x=>C.N[j]? == some x&&C.vis x&&gI x) iter=true:=by replace h:(lQ (fun x=>C.names.lookup x) C.N scope (cL C au own) (au.map some++List.replicate own.length none)&&cv (fun x=>C.N[j]? == some x&&C.vis x&&gI x) iter&&eK iter&&ckP (C.in scope (cL C au own)) pp tg&&(ck Γ c (C.in scope (cL C au own))).ts ifs&&(ck Γ e (C.in scope (cL C au own))).e elt&&decide (cL C au own).Nodup)=true:=h;simp only [S5] at h;exact h.1.1.1.1.1.2
     obtain⟨N',hNl,S,h1,h2,hb⟩:=uO (F:=F) (it:=.var j) A (EZ Γ j) (fq Γ c) (fq Γ e) h;obtain⟨y,q,rfl,pZ⟩:=gJ pZ;exact(Hg A.calm hN i9 l1 S (ym (tY (F:=F) (A.var pZ))) hb mH (rj h2) l2).imp fun D σ H k=>by obtain⟨G,ta,M,K0,R,k,q⟩:=LS.set k;exact LE.compV hNl ⟨G,ta,M,K0,R,k,q⟩
    |_=>injection hv
  |SetComp _ _ _ _=>cases e <;> injection hv
  |DictComp _ _ _ _ _=>cases e <;> injection hv
  |_=>exact absurd rfl hc
theorem LS.cut {a b:cx}{D:bI}:LS X.K F (B5 a b) D σ H->xG (LS X.K F a) (LS X.K F b) D σ H:=fun⟨G,M,P,R,⟨A5,k,k2⟩,ok⟩=>
 ⟨G,M,_,R,k,fun M1 G1 σ1 H1 p R1 s1=>⟨G1,M1,P,R1,k2 M1 p,ok.up s1⟩,ok.rt,ok.bk,ok.ct⟩
theorem JF (Γ : Gm)(C:Cs)(X:Cx)(F:Fr)(A:At Γ C X)(hp:PassesOwn (model X.prog X.w) X.A X.env X.xe):∀ir:IS,rG Γ X F (aB Γ ir) (gD Γ ir C):=by
 have u7:∀D σ H,LS X.K F Dq D σ H->iS D σ H:=fun D σ H ⟨G,M,P,R,k,ok⟩=>ok.nx M G σ H k R (Same.refl _);intro ir
 induction ir with
 |skip=>
  refine⟨fun st h=>?_,fun iG h=>?_⟩
  ·obtain⟨p,rfl⟩:=FT h;exact ps_pass.imp u7
  ·match iG,h with
   |[],_=>exact pss_nil.imp u7
   |[st],h=>obtain⟨p,rfl⟩:=FT h;exact jV (ps_pass.imp u7)
 |seq a b iha ihb=>
  refine⟨(fun st h=>by injection h),fun iG h=>?_⟩
  match iG,h with
  |st::r,h=>have h':((gD Γ a C).s st&&(gD Γ b C).b r)=true:=h;simp only [S5] at h';exact(ku (iha.s st h'.1) (ihb.b r h'.2)).imp fun D σ H z=>LS.seq (by rw[<- lG (aB Γ b)];exact z)
 |cut a b iha ihb=>
  refine⟨(fun st h=>by injection h),fun iG h=>?_⟩
  match iG,h with
  |st::r,h=>have h':((gD Γ a C).s st&&(gD Γ b C).b r)=true:=h;simp only [S5] at h';exact(ku (iha.s st h'.1) (ihb.b r h'.2)).imp fun D σ H z=>LS.cut (by rw[<- lG (aB Γ b)];exact z)
 |ret e=>exact kl fun st h=>by obtain⟨x,p,rfl,h⟩:=Mz h;exact(tZ ((fq Γ e C X F A).e x h)).imp fun D σ H=>LS.ret
 |exp e=>exact kl fun st h=>by obtain⟨x,p,rfl,h,h2⟩:=My h;exact(uu ((fq Γ e C X F A).e x h) (Aj h2)).imp fun D σ H=>LS.exp
 |set i e=>exact kl fun st h=>by obtain⟨tg,v,p,rfl,h⟩:=uz h;replace h:(cv (fun x=>C.N[i]? == some x&&C.loc x) tg&&(ck Γ e C).e v)=true:=h;simp only [S5] at h;obtain⟨x,q,rfl,h1⟩:=gJ h.1;replace h1:(C.N[i]? == some x&&C.loc x)=true:=h1;simp only [S5,TN] at h1;exact PE.swp A h1.1 h1.2 h.2
 |asg p e=>exact kl fun st h=>by obtain⟨tg,v,q,rfl,h⟩:=uz h;replace h:(ckP C p tg&&(ck Γ e C).e v&&jt v&&xN v&&bf tg)=true:=h;simp only [S5] at h;obtain⟨⟨⟨⟨h1,h2⟩,h3⟩,h4⟩,h5⟩:=h;exact(Ef ((fq Γ e C X F A).e v h2) ((xO A p).1 tg h1) (Ha h3) (OC h4) (DW h5)).imp fun D σ H=>LS.asgP
 |ife c a b iha ihb=>exact kl fun st h=>by obtain⟨t,x,y,q,rfl,h1,h2,h3⟩:=KH h;exact(tL ((fq Γ c C X F A).t t h1) (iha.b x h2) (ihb.b y h3)).imp fun D σ H z=>LS.ite (by rw[<- lG (aB Γ a),<- lG (aB Γ b)];exact z)
 | «for» p it b ihb =>exact kl fun st h=>by obtain⟨tg,x,y,q,rfl,h1,h2,h3,h4⟩:=Mx h;exact(Ec hp A.calm ((fq Γ it C X F A).i tg x h2) ((xO A p).1 tg h1) (ihb.b y h4) (rj h3)).imp fun D σ H z=>LS.for (by rw[<- lG (aB Γ b)];exact z)
 |whl c b ihb=>exact kl fun st h=>by obtain⟨t,x,q,rfl,h1,h2⟩:=Mw h;exact(Pf hp ((fq Γ c C X F A).t t h1) (ihb.b x h2)).imp fun D σ H z=>LS.whl (by rw[<- lG (aB Γ b)];exact z)
 |dput v d k=>exact kl fun st h=>by obtain⟨tg,x,q,rfl,h⟩:=uz h;replace h:(lh (fun o i=>(ck Γ d C).e o&&(ck Γ k C).e i) tg&&(ck Γ v C).e x&&jt x)=true:=h;simp only [S5] at h;obtain⟨o,i,p,rfl,h1⟩:=uh h.1.1;replace h1:((ck Γ d C).e o&&(ck Γ k C).e i)=true:=h1;simp only [S5] at h1;exact(NA (by have:=A.un;lia) ((fq Γ d C X F A).e o h1.1) ((fq Γ k C X F A).e i h1.2) ((fq Γ v C X F A).e x h.1.2) (Aj h.2)).imp fun D σ H=>LS.dput
 |lput v o i=>exact kl fun st h=>by obtain⟨tg,x,q,rfl,h⟩:=uz h;replace h:(lh (fun a b=>(ck Γ o C).e a&&(ck Γ i C).e b&&lN b) tg&&(ck Γ v C).e x&&jt x)=true:=h;simp only [S5] at h;obtain⟨a,b,p,rfl,h1⟩:=uh h.1.1;replace h1:((ck Γ o C).e a&&(ck Γ i C).e b&&lN b)=true:=h1;simp only [S5] at h1;exact(Ef ((fq Γ v C X F A).e x h.1.2) (Lx ((fq Γ o C X F A).e a h1.1.1) ((fq Γ i C X F A).e b h1.1.2) O7 (fun v=>by have:=h1.2;cases b <;> first|rfl|injection this)) (Ha h.2) PY (DW rfl)).imp fun D σ H=>LS.lput
end
section
def Fk (P:Program)(w:World)(K:W.Frag)(mg:Str->Option Value)(base:Heap)(k:Nat)(p:Str×aM):Prop:=∃j f fd ps,FnOk P w K mg base f6 j f fd ps (iH K p.2)/\j<=k/\mg p.1=some (.ref f)/\PySem.W.keepIn K (.ref f)=true/\Binds K fd ps []
theorem Fun.okI {f:Addr}{N:List Str}{k:Nat}(Γ : Gm)(ir:IS)(F:Fun K x aJ st f fd)(S:bo N ps (ej st))(len:∀args k,psp args k->args.length=ps.length)
  (Jj:(gD Γ ir ⟨N,(ej st).names,true⟩).b (ju st)=true) (bl:∀x ∈ Γ.bl,mg x=none) (kt:∀T ∈ Γ.kt,∀n ∈ ["NoneType","bool","int","str","tuple","list","dict"],PySem.W.kitOne K (.type n) (.type T)=some (iu n T)) (gl:∀p ∈ Γ.gl,∃v u,mg p.1=some u/\RelV v u/\∀G,IsT K G v p.2) (fns:∀p ∈ Γ.fns,Fk P w K mg base k p)
  (h:∀args k,psp args k->aH (aB Γ ir) (aS args k) (aU N.length args)):FnOk P w K mg base f6 (k+1) f fd ps (iH K psp):=
 F.okW S len (fun cj A outer s H E Fr hr=>(JF Γ ⟨N,(ej st).names,true⟩ _ Fr ⟨rfl,S.nd,rfl,S.kind,fun _ _=>rfl,rfl,bl,hr.units,hr.gd,kt,gl,fun p hp=>by
  obtain⟨j,f,fd,ps,h1,h2,h3⟩:=fns p hp
  exact⟨j,f,fd,ps,h1,hr.mono h2,h3⟩⟩ PassesOwn.never ir).b _ Jj) (fun args k q=>by rw[<- lG (aB Γ ir)];exact h args k q)
end
end L2
namespace L2
variable {t:Tv}
theorem bx {o:Option Tv}{f:Rs->Prop}(h:o=some t)(k:f (.v t)):bz (ofO o) f:=by rw[h];exact k
theorem jr {i j:Int}(h : -(2 ^ 64)<i)(h':i<2 ^ 64):CMul i j:=.inl ⟨h,h'⟩
theorem qM {i j:Int}(h : -(2 ^ 64)<j)(h':j<2 ^ 64):CMul i j:=.inr ⟨h,h'⟩
end L2
namespace L2
variable {α:Type}
theorem iD {l:List α}{i:Int}(h0:0<=i)(h1:i<l.length):∃t,eh l i=some t/\t∈l:=by
 obtain⟨j,rfl⟩:=UC h0;have hj:j<l.length:=by lia
 exact⟨l[j],Td hj,Vo hj⟩
end L2
namespace L2
open PySem
variable {P:Program}{w:World}{K:W.Frag}{mg:Str->Option Value}{base:Heap}{ps:List Str}{psp:aM}
theorem OB {k:Nat}{f:Addr}{d:FuncData}(h:∀args k,¬psp args k):FnOk P w K mg base f6 k f d ps (iH K psp):=
 ⟨fun vs H Q E ⟨G,args,as,K0,_,_,_,hp,_⟩=>(h _ _ hp).elim,fun A outer s H args us vs Q E hr e0 hb r ⟨_,a,_,K0,_,_,_,hp,_⟩=>(h _ _ hp).elim⟩
end L2
namespace L2
open PySem PySem.Spec PyProof.Rows
noncomputable def wK:List Str:=["range","list","repr","isinstance","bool","len","tuple","int","sum","dict","zip","reversed","all","any","enumerate"]
noncomputable def vk:List String:=["tuple","bool","int"]
abbrev gm (f:List (Str×aM))(g:List (Str×Tv)):Gm:=⟨wK,f,vk,g⟩
abbrev qB (K:W.Frag)(T:String):Prop:=∀n ∈ ["NoneType","bool","int","str","tuple","list","dict"],PySem.W.kitOne K (.type n) (.type T)=some (iu n T)
structure Tx (K:W.Frag)(mg:Str->Option Value):Prop where
 bl:∀x∈wK,mg x=none
 kt:∀T∈vk,qB K T
structure Fn (K:W.Frag)(mg:Str->Option Value)(x:Str)(st:Stmt)(ps:List Str)(f:Addr)(d:FuncData):Prop where
 F:Fun K x x st f d
 b:Binds K d ps []
 m:mg x=some (.ref f)
def A8 (K:W.Frag)(mg:Str->Option Value)(x:Str)(st:Stmt)(ps:List Str):Prop:=∃f d,Fn K mg x st ps f d
def JE (st:Stmt):List Str:=((ej st).names.filter fun y=>y.2 == .local||y.2 == .cell).map (·.1)
def jL (st:Stmt):List Str:=(lP st).args.map (·.arg)
noncomputable def u9 (N P:List Str)(sc:Scope):Bool:=decide (sc.kind = .function) && !sc.isCoroutine && !sc.isGenerator&&decide N.Nodup&&decide (N.take P.length=P)&&P.all (fun x=>decide (sc.names.lookup x=some .local∨sc.names.lookup x=some .cell))&&sc.names.all (fun y=>decide (y.2 ≠ .free))
variable {x:Str}{P:Program}{w:World}{K:W.Frag}{st:Stmt}{j m:Nat}{mg:Str->Option Value}{base:Heap}{ps ps':List Str}{psp:aM}
theorem KG {N P:List Str}{sc:Scope}(h:u9 N P sc=true):bo N P sc:=by simp only [u9,S5,Uv,U7,Uq] at h;obtain⟨⟨⟨⟨⟨⟨a,b⟩,c⟩,d⟩,e⟩,f⟩,g⟩:=h;exact⟨a,b,c,d,e,f,g⟩
def mC (Γ : Gm)(ir:IS)(N:List Str)(n m:Nat)(st:Stmt):Bool:=u9 N (jL st) (ej st)&&(gD Γ ir ⟨N,(ej st).names,true⟩).b (ju st)&&N.length==n&&(jL st).length==m
abbrev aI (Γ : Gm)(ir:IS)(n m:Nat)(st:Stmt):Prop:=mC Γ ir (JE st) n m st=true
def aD:aM:=fun _ _=>True
section
def AllF (P:Program)(w:World)(K:W.Frag)(mg:Str->Option Value)(base:Heap)(k:Nat):List (Str×aM)->Prop
 |[]=>True
 |p::r=>Fk P w K mg base k p/\AllF P w K mg base k r
theorem AllF.mem {k:Nat}{l:List (Str×aM)}(h:AllF P w K mg base k l):∀p∈l,Fk P w K mg base k p:=by
 induction l with
 |nil=>intro p hp;cases hp
 |cons a r ih=>
  intro p hp
  cases hp with
  |head=>exact h.1
  |tail _ hp=>exact ih h.2 p hp
def AllG (K:W.Frag)(mg:Str->Option Value):List (Str×Tv)->Prop
 |[]=>True
 |p::r=>(∃v u,mg p.1=some u/\RelV v u/\∀G,IsT K G v p.2)/\AllG K mg r
theorem AllG.mem {l:List (Str×Tv)}(h:AllG K mg l):∀p∈l,∃v u,mg p.1=some u/\RelV v u/\∀G,IsT K G v p.2:=by
 induction l with
 |nil=>intro p hp;cases hp
 |cons a r ih=>
  intro p hp
  cases hp with
  |head=>exact h.1
  |tail _ hp=>exact ih h.2 p hp
theorem Fk.up {k:Nat}{p:Str×aM}(h:Fk P w K mg base j p)(e:j<=k:=by decide):Fk P w K mg base k p:=by obtain⟨i,f,d,ps,a,b,c⟩:=h;exact⟨i,f,d,ps,a,Ue b e,c⟩
def Fs (P:Program)(w:World)(K:W.Frag)(mg:Str->Option Value)(base:Heap)(k:Nat)(x:Str)(st:Stmt)(psp:aM):Prop:=∃f d,Fn K mg x st (jL st) f d/\FnOk P w K mg base f6 k f d (jL st) (iH K psp)
theorem Fs.up {k:Nat}(h:Fs P w K mg base j x st psp)(e:j<=k:=by decide):Fk P w K mg base k (x,psp):=by obtain⟨f,d,F,h⟩:=h;exact⟨j,f,d,_,h,e,F.m,F.F.kp,F.b⟩
theorem Fs.lift {k:Nat}(h:Fs P w K mg base j x st psp)(e:j<=k):Fs P w K mg base k x st psp:=by obtain⟨f,d,F,h⟩:=h;exact⟨f,d,F,h.mono e⟩
theorem bR {N:List Str}{n k:Nat}{f:List (Str×aM)}{g:List (Str×Tv)}{ir:IS}(T:Tx K mg)(h:A8 K mg x st (jL st))(c:mC (gm f g) ir N n m st=true)(vc:∀a q,psp a q->aH (aB (gm f g) ir) (aS a q) (aU n a))(fns:AllF P w K mg base k f)(len:∀a q,psp a q->a.length=m)(gl:AllG K mg g):Fs P w K mg base (k+1) x st psp:=by obtain⟨a,d,F⟩:=h;simp only [mC,S5,TN] at c;obtain⟨⟨⟨c1,c2⟩,rfl⟩,rfl⟩:=c;exact⟨a,d,F,Fun.okI (gm f g) ir F.F (KG c1) len c2 T.bl T.kt gl.mem fns.mem vc⟩
theorem i4 {k:Nat}(h:A8 K mg x st (jL st))(hn:∀a q,¬psp a q):Fs P w K mg base k x st psp:=by obtain⟨a,d,F⟩:=h;exact⟨a,d,F,OB hn⟩
theorem Fn.same {f f':Addr}{d d':FuncData}(F:Fn K mg x st ps f d)(F':Fn K mg x st ps' f' d'):f'=f/\d'=d:=by have e:=F.m.symm.trans F'.m;cases e;obtain⟨_,_,_,_,_,_,_,_,_,_,l,_⟩:=F.F.ex;obtain⟨_,_,_,_,_,_,_,_,_,_,l',_⟩:=F'.F.ex;have e:=l.symm.trans l';cases e;exact⟨rfl,rfl⟩
theorem Fs.any {k:Nat}{ι:Type}{sp:ι -> aM}(i : ι)(h:∀i,Fs P w K mg base j x st (sp i))(e:∀a q,psp a q->∃i,sp i a q)(hk:j<=k:=by decide):Fk P w K mg base k (x,psp):=by
 obtain⟨f,d,F,_⟩:=h i;have g:∀i,FnOk P w K mg base f6 j f d (jL st) (iH K (sp i)):=fun i=>by obtain⟨f',d',F',h'⟩:=h i;obtain⟨rfl,rfl⟩:=F.same F';exact h'
 refine⟨j,f,d,_,⟨fun vs H Q E ⟨G,args,as,K0,a,b,c,hp,z⟩=>?_,fun A outer s H args us vs Q E hr he hb hv ⟨G,ar,as,K0,a,b,c,hp,z⟩=>?_⟩,hk,F.m,F.F.kp,F.b⟩
 ·obtain⟨i,hi⟩:=e _ _ hp;exact(g i).len vs H Q E ⟨G,args,as,K0,a,b,c,hi,z⟩
 ·obtain⟨i,hi⟩:=e _ _ hp;exact(g i).run A outer s H args us vs Q E hr he hb hv ⟨G,ar,as,K0,a,b,c,hi,z⟩
end
end L2
namespace M50
open PySem L2
abbrev Mv:IE:=.v 0
def yg:IS:=.ret (.b1 .tuple (.comp [] ["field"] (.nm 0) (.v 0) (.not (.isi "tuple" (.v 0))) Mv))
abbrev yf:Gm:=gm [] []
variable {x:Str}{H H' G:Hp}{a:Addr}{P:Program}{w:World}{α β:Type}{N i j m:Nat}{t:Tv}{aj:List Sl}{K:W.Frag}{vs:List V}{lo hi:Option Int}{ae:List (aw×V)}{mg:Str->Option Value}{base:Heap}{fd:FuncData}{ps B ps' ah B' Q1:List Str}{s1 s3 s4 s0 s2 s5:aM}{ws:List (aw×Tv)}{ns:List Int}{Γ:Gm}{a0:Sl}{df:Int}{ρ:Str->Option Str}
theorem Mu:aI (yf) yg 1 1 (aq 4):=(by decide+kernel:aI (yf) yg 1 1 (aq 4))
abbrev OA:IE:=.v 0
def yQ:IS:=.ret (.b1 .tuple (.comp [] ["part"] (.nm 0) (.v 0) (.isi "tuple" (.v 0)) OA))
abbrev yP:Gm:=gm [] []
theorem Oz:aI (yP) yQ 1 1 (aq 5):=(by decide+kernel:aI (yP) yQ 1 1 (aq 5))
abbrev FR:IE:=.tup (.k (.glb 0) (.k (.v 0) .o))
abbrev Oy:IS:=.seq (.asg (.k (.nm 3) (.k (.nm 4) .o)) (.mth .pop (.v 2) .o)) (.seq (.exp (.mth .app (.v 1) (.k (.tup (.k (.v 3) (.k (.v 4) .o))) .o))) (.ife (.cmp .eq (.v 3) (.glb 0)) (.seq (.set 5 (.comp [] ["part"] (.nm 0) (.call 0 (.k (.v 4) .o)) .tt FR)) (.cut (.ife (.cmp .eq (.ix (.v 4) (.n 0)) (.s "let")) (.set 5 (.lst (.k (.ix (.v 5) (.n 0)) (.k (.tup (.k (.glb 2) (.k (.v 4) .o))) (.k (.ix (.v 5) (.n 1)) (.k (.tup (.k (.glb 1) (.k (.v 4) .o))) .o)))))) .skip) (.exp (.mth .ext (.v 2) (.k (.rvs false (.v 5)) .o))))) .skip))
def yO:IS:=.seq (.set 1 (.lst .o)) (.seq (.set 2 (.lst (.k (.tup (.k (.glb 0) (.k (.v 0) .o))) .o))) (.cut (.whl (.v 2) Oy) (.ret (.v 1))))
abbrev yN (s0:aM):Gm:=gm [("parts",s0)] [("NODE",.at (.str "node")),("CLOSED",.at (.str "closed")),("OPENED",.at (.str "opened"))]
theorem Ox:aI (yN s0) yO 6 1 (aq 6):=(by decide+kernel:aI (yN aD) yO 6 1 (aq 6))
def AR:IS:=.seq (.ife (.cmp .eq (.ix (.v 0) (.n 0)) (.s "let")) (.ret (.tup (.k (.s "let") .o))) .skip) (.seq (.ife (.cmp .ge (.v 1) (.n 0)) (.ret (.tup (.k (.s "own") (.k (.v 1) .o)))) .skip) (.ret (.call 0 (.k (.v 0) .o))))
abbrev AQ (s0:aM):Gm:=gm [("head",s0)] []
theorem RP:aI (AQ s0) AR 2 2 (aq 11):=(by decide+kernel:aI (AQ aD) AR 2 2 (aq 11))
abbrev HF:IE:=.tup (.k (.call 2 (.k (.v 0) (.k (.v 1) .o))) (.k (.b1 .len (.call 1 (.k (.v 0) .o))) .o))
def AO:IS:=.ret (.comp [] ["node","own"] (.k (.nm 0) (.k (.nm 1) .o)) (.call 0 (.k (.v 0) .o)) .tt HF)
abbrev AN (s0 s1 s2:aM):Gm:=gm [("owned",s0),("parts",s1),("bare_head",s2)] []
theorem RO:aI (AN s0 s1 s2) AO 1 1 (aq 12):=(by decide+kernel:aI (AN aD aD aD) AO 1 1 (aq 12))
abbrev zD:IS:=.seq (.set 5 (.and (.cmp .eq (.ix (.v 3) (.n 0)) (.s "name")) (.cmp .isin (.ix (.v 3) (.n 1)) (.v 0)))) (.exp (.mth .app (.v 2) (.k (.ite (.v 5) (.tup (.k (.tup (.k (.s "hole") (.k (.idt (.v 0) (.k (.ix (.v 3) (.n 1)) .o)) .o))) (.k (.n 0) .o))) (.tup (.k (.v 3) (.k (.v 4) .o)))) .o)))
def yM:IS:=.seq (.set 2 (.lst .o)) (.cut (.for (.k (.nm 3) (.k (.nm 4) .o)) (.v 1) zD) (.ret (.v 2)))
abbrev qX:Gm:=gm [] []
theorem Ov:aI (qX) yM 6 2 (aq 14):=(by decide+kernel:aI (qX) yM 6 2 (aq 14))
abbrev Gs:IE:=.tup (.k (.v 0) (.k (.b1 .len (.v 1)) (.k (.call 0 (.k (.v 1) (.k (.call 1 (.k (.v 2) .o)) .o))) .o)))
def zC:IS:=.seq (.asg (.k (.nm 1) (.k (.nm 2) .o)) (.v 0)) (.seq (.set 3 (.comp [] ["name","params","body"] (.k (.nm 0) (.k (.nm 1) (.k (.nm 2) .o))) (.v 1) .tt Gs)) (.ret (.bin .add (.v 3) (.lst (.k (.tup (.k (.s "") (.k (.n 0) (.k (.call 1 (.k (.v 2) .o)) .o)))) .o)))))
abbrev zB (s0 s1:aM):Gm:=gm [("holed",s0),("bare_rows",s1)] []
theorem PX:aI (zB s0 s1) zC 4 1 (aq 15):=(by decide+kernel:aI (zB aD aD) zC 4 1 (aq 15))
def AZ:IS:=.ret (.cmp .eqt (.call 0 (.k (.v 0) .o)) (.call 0 (.k (.v 1) .o)))
abbrev AY (s0:aM):Gm:=gm [("scopes",s0)] []
theorem Sv:aI (AY s0) AZ 2 2 (aq 16):=(by decide+kernel:aI (AY aD) AZ 2 2 (aq 16))
def zA:IS:=.ret (.dct ["cells","at","left"] (.k (.b1 .list (.slc (.v 0) .o (.n 63))) (.k (.n 0) (.k (.n 0) .o))))
abbrev zy:Gm:=gm [] []
theorem PU:aI (zy) zA 1 1 (aq 18):=(by decide+kernel:aI (zy) zA 1 1 (aq 18))
def zx:IS:=.seq (.ife (.cmp .gt (.dg (.v 0) (.s "left")) (.n 0)) (.seq (.set 2 (.bin .mod (.dg (.v 0) (.s "left")) (.v 1))) (.seq (.dput (.bin .fdiv (.dg (.v 0) (.s "left")) (.v 1)) (.v 0) (.s "left")) (.ret (.v 2)))) .skip) (.seq (.set 3 (.dg (.v 0) (.s "at"))) (.seq (.dput (.bin .add (.v 3) (.n 1)) (.v 0) (.s "at")) (.seq (.set 4 (.bin .add (.bin .mul (.v 3) (.v 3)) (.n 7))) (.cut (.ife (.cmp .ne (.dg (.v 0) (.s "cells")) (.lst .o)) (.set 4 (.ix (.dg (.v 0) (.s "cells")) (.bin .mod (.v 3) (.b1 .len (.dg (.v 0) (.s "cells")))))) .skip) (.seq (.ife (.cmp .ge (.v 4) (.bin .pow (.n 10) (.n 18))) (.seq (.dput (.bin .fdiv (.v 4) (.v 1)) (.v 0) (.s "left")) (.ret (.bin .mod (.v 4) (.v 1)))) .skip) (.seq (.set 5 (.bin .mod (.bin .mul (.bin .add (.bin .add (.bin .mod (.v 4) (.n 2147483647)) (.bin .mul (.n 104729) (.v 3))) (.n 1)) (.n 48271)) (.n 2147483629))) (.seq (.set 5 (.bin .mod (.bin .add (.bin .add (.bin .mul (.v 5) (.v 5)) (.bin .mul (.n 7919) (.v 3))) (.n 5)) (.n 2147483647))) (.seq (.set 5 (.bin .mod (.bin .add (.bin .mul (.v 5) (.n 69621)) (.v 3)) (.n 2147483629))) (.ret (.bin .mod (.bin .fdiv (.bin .mod (.bin .mul (.v 5) (.v 5)) (.n 2147483587)) (.n 64)) (.v 1)))))))))))
abbrev zw:Gm:=gm [] []
theorem PR:aI (zw) zx 6 2 (aq 19):=(by decide+kernel:aI (zw) zx 6 2 (aq 19))
def Ai:IS:=.seq (.set 1 (.call 0 (.k (.v 0) (.k (.n 6) .o)))) (.seq (.ife (.cmp .eq (.v 1) (.n 0)) (.ret (.bin .sub (.n 999999999) (.call 0 (.k (.v 0) (.k (.n 3) .o))))) .skip) (.seq (.ife (.cmp .eq (.v 1) (.n 1)) (.ret (.bin .add (.bin .mul (.call 0 (.k (.v 0) (.k (.n 40000) .o))) (.n 25000)) (.call 0 (.k (.v 0) (.k (.n 25000) .o))))) .skip) (.ret (.call 0 (.k (.v 0) (.k (.bin .sub (.bin .mul (.n 3) (.v 1)) (.n 3)) .o))))))
abbrev Ah (s0:aM):Gm:=gm [("_law_draw",s0)] []
theorem QS:aI (Ah s0) Ai 2 1 (aq 20):=(by decide+kernel:aI (Ah aD) Ai 2 1 (aq 20))
abbrev RN:IS:=.seq (.set 2 (.bin .add (.v 2) (.ix (.s "abcdefghijklmnopqrstuvwxyz") (.bin .mod (.v 0) (.n 26))))) (.set 0 (.bin .fdiv (.v 0) (.n 26)))
def AM:IS:=.seq (.set 2 (.s "")) (.cut (.for (.nm 3) (.rng (.v 1)) RN) (.ret (.v 2)))
abbrev uS:Gm:=gm [] []
theorem RM:aI (uS) AM 4 2 (aq 21):=(by decide+kernel:aI (uS) AM 4 2 (aq 21))
abbrev PQ:IS:=.seq (.set 5 (.bin .add (.v 5) (.n 1))) (.seq (.set 4 (.bin .add (.bin .mod (.v 4) (.n 8)) (.n 1))) (.set 6 (.call 1 (.k (.v 5) (.k (.v 4) .o)))))
def zu:IS:=.seq (.set 2 (.lst (.k (.s "num") (.k (.s "name") (.k (.s "op") (.k (.s "pick") (.k (.s "let") (.k (.s "set") (.k (.s "say") (.k (.s "take") .o)))))))))) (.seq (.set 2 (.bin .add (.v 2) (.lst (.k (.s "do") (.k (.s "again") (.k (.s "call") (.k (.s "own") (.k (.s "hole") .o)))))))) (.seq (.set 3 (.call 0 (.k (.v 0) (.k (.n 6) .o)))) (.seq (.set 4 (.bin .add (.n 1) (.call 0 (.k (.v 0) (.k (.n 8) .o))))) (.seq (.set 5 (.bin .add (.bin .mul (.call 0 (.k (.v 0) (.k (.n 456976) .o))) (.n 456976)) (.call 0 (.k (.v 0) (.k (.n 456976) .o))))) (.seq (.set 6 (.call 1 (.k (.v 5) (.k (.v 4) .o)))) (.cut (.ife (.cmp .eq (.v 3) (.n 0)) (.set 6 (.bin .add (.ix (.v 2) (.call 0 (.k (.v 0) (.k (.n 13) .o)))) (.ix (.v 6) (.n 0)))) .skip) (.cut (.ife (.cmp .eq (.v 3) (.n 3)) (.set 6 (.ix (.lst (.k (.s "a") (.k (.s "b") (.k (.s "c") (.k (.s "d") (.k (.s "x") (.k (.s "y") (.k (.s "z") (.k (.s "n") (.k (.s "v") (.k (.s "aa") (.k (.s "ab") (.k (.s "tmp") .o))))))))))))) (.call 0 (.k (.v 0) (.k (.n 12) .o))))) .skip) (.cut (.ife (.and (.cmp .eq (.v 3) (.n 1)) (.cmp .ne (.v 1) (.lst .o))) (.set 6 (.slc (.bin .add (.ix (.v 1) (.call 0 (.k (.v 0) (.k (.b1 .len (.v 1)) .o)))) (.v 6)) .o (.bin .add (.n 1) (.bin .mod (.v 5) (.n 8))))) .skip) (.cut (.ife (.and (.cmp .eq (.v 3) (.n 2)) (.cmp .ne (.v 1) (.lst .o))) (.seq (.set 7 (.ix (.v 1) (.call 0 (.k (.v 0) (.k (.b1 .len (.v 1)) .o))))) (.seq (.set 8 (.bin .mod (.v 5) (.b1 .len (.v 7)))) (.set 6 (.bin .add (.bin .add (.slc (.v 7) .o (.v 8)) (.ix (.v 6) (.n 0))) (.slc (.v 7) (.bin .add (.v 8) (.n 1)) .o))))) .skip) (.cut (.whl (.or (.cmp .isin (.v 6) (.v 1)) (.cmp .isin (.v 6) (.v 2))) PQ) (.ret (.v 6))))))))))))
abbrev uy (s0 s1:aM):Gm:=gm [("_law_draw",s0),("_law_spelled",s1)] []
theorem PN:aI (uy s0 s1) zu 9 2 (aq 22):=(by decide+kernel:aI (uy aD aD) zu 9 2 (aq 22))
abbrev QR:IS:=.exp (.mth .app (.v 2) (.k (.call 0 (.k (.v 0) (.k (.v 2) .o))) .o))
def Ag:IS:=.seq (.set 2 (.lst .o)) (.cut (.for (.nm 3) (.rng (.v 1)) QR) (.ret (.v 2)))
abbrev uL (s0:aM):Gm:=gm [("_law_name",s0)] []
theorem QQ:aI (uL s0) Ag 4 2 (aq 23):=(by decide+kernel:aI (uL aD) Ag 4 2 (aq 23))
abbrev QP:IE:=.v 0
def uK:IS:=.ret (.comp [] ["_law_part"] (.nm 0) (.slc (.v 0) (.n 1) .o) (.isi "tuple" (.v 0)) QP)
abbrev oR:Gm:=gm [] []
theorem QO:aI (oR) uK 1 1 (aq 24):=(by decide+kernel:aI (oR) uK 1 1 (aq 24))
abbrev PM:IE:=.v 0
def ux:IS:=.ret (.b1 .tuple (.bin .add (.comp [] ["_law_part"] (.nm 0) (.v 0) (.not (.isi "tuple" (.v 0))) PM) (.v 1)))
abbrev oN:Gm:=gm [] []
theorem PL:aI (oN) ux 2 2 (aq 25):=(by decide+kernel:aI (oN) ux 2 2 (aq 25))
abbrev QN:IE:=.call 1 (.k (.v 0) .o)
def Af:IS:=.ret (.bin .add (.n 1) (.b1 .sum (.comp [] ["_law_part"] (.nm 0) (.call 0 (.k (.v 0) .o)) .tt QN)))
abbrev rC (s0 s1:aM):Gm:=gm [("_law_parts",s0),("_law_nodes",s1)] []
theorem QM:aI (rC s0 s1) Af 1 1 (aq 26):=(by decide+kernel:aI (rC aD aD) Af 1 1 (aq 26))
abbrev PJ:IE:=.call 1 (.k (.v 1) (.k (.v 0) .o))
def zt:IS:=.seq (.set 2 (.b1 .sum (.comp [1] ["_law_part"] (.nm 1) (.call 0 (.k (.v 0) .o)) .tt PJ))) (.seq (.ife (.cmp .eq (.ix (.v 0) (.n 0)) (.s "again")) (.ret (.bin .add (.n 1) (.bin .mul (.ix (.v 0) (.n 1)) (.v 2)))) .skip) (.seq (.ife (.cmp .eq (.ix (.v 0) (.n 0)) (.s "call")) (.ret (.bin .add (.bin .add (.n 1) (.v 2)) (.dg (.v 1) (.ix (.v 0) (.n 1))))) .skip) (.ret (.bin .add (.n 1) (.v 2)))))
abbrev nA (s0 s1:aM):Gm:=gm [("_law_parts",s0),("_law_work",s1)] []
theorem PH:aI (nA s0 s1) zt 3 2 (aq 27):=(by decide+kernel:aI (nA aD aD) zt 3 2 (aq 27))
abbrev AH:IE:=.call 0 (.k (.v 1) (.k (.v 0) .o))
def Ae:IS:=.seq (.ife (.and (.cmp .eq (.ix (.v 0) (.n 0)) (.s "set")) (.cmp .isin (.ix (.v 0) (.n 1)) (.v 1))) (.ret (.cst (.bl false))) .skip) (.seq (.ife (.cmp .eq (.ix (.v 0) (.n 0)) (.s "let")) (.ret (.and (.call 0 (.k (.ix (.v 0) (.n 2)) (.k (.v 1) .o))) (.call 0 (.k (.ix (.v 0) (.n 3)) (.k (.bin .add (.v 1) (.lst (.k (.ix (.v 0) (.n 1)) .o))) .o))))) .skip) (.ret (.b1 .all (.comp [1] ["_law_part"] (.nm 1) (.call 1 (.k (.v 0) .o)) .tt AH))))
abbrev nC (s0 s1:aM):Gm:=gm [("_law_right",s0),("_law_parts",s1)] []
theorem QL:aI (nC s0 s1) Ae 2 2 (aq 28):=(by decide+kernel:aI (nC aD aD) Ae 2 2 (aq 28))
def zq:IS:=.seq (.set 3 (.call 0 (.k (.v 0) (.k (.n 6) .o)))) (.seq (.ife (.and (.cmp .eq (.v 3) (.n 0)) (.dg (.v 1) (.s "takes"))) (.ret (.tup (.k (.s "take") .o))) .skip) (.seq (.set 4 (.bin .add (.bin .add (.dg (.v 1) (.s "names")) (.v 2)) (.v 2))) (.seq (.ife (.or (.cmp .lt (.v 3) (.n 3)) (.cmp .eq (.v 4) (.lst .o))) (.ret (.tup (.k (.s "num") (.k (.call 1 (.k (.v 0) .o)) .o)))) .skip) (.ret (.tup (.k (.s "name") (.k (.ix (.v 4) (.call 0 (.k (.v 0) (.k (.b1 .len (.v 4)) .o)))) .o)))))))
abbrev zp (s0 s1:aM):Gm:=gm [("_law_draw",s0),("_law_value",s1)] []
theorem PF:aI (zp s0 s1) zq 5 3 (aq 29):=(by decide+kernel:aI (zp aD aD) zq 5 3 (aq 29))
abbrev Hz:IS:=.seq (.set 5 (.call 1 (.k (.ix (.v 3) (.v 4)) .o))) (.cut (.ife (.chn .le .lt (.n 0) (.v 1) (.v 5)) (.lput (.call 2 (.k (.ix (.v 3) (.v 4)) (.k (.v 1) (.k (.v 2) .o)))) (.v 3) (.v 4)) .skip) (.set 1 (.bin .sub (.v 1) (.v 5))))
def AG:IS:=.seq (.ife (.cmp .eq (.v 1) (.n 0)) (.ret (.v 2)) .skip) (.seq (.set 3 (.call 0 (.k (.v 0) .o))) (.seq (.set 1 (.bin .sub (.v 1) (.n 1))) (.cut (.for (.nm 4) (.rng (.b1 .len (.v 3))) Hz) (.ret (.call 3 (.k (.v 0) (.k (.v 3) .o)))))))
abbrev AF (s0 s1 s2 s3:aM):Gm:=gm [("_law_parts",s0),("_law_nodes",s1),("_law_spoilt",s2),("_law_with",s3)] []
theorem Ru:aI (AF s0 s1 s2 s3) AG 6 3 (aq 30):=(by decide+kernel:aI (AF aD aD aD aD) AG 6 3 (aq 30))
abbrev QK:IE:=.v 1
def Ad:IS:=.seq (.set 6 (.comp [2] ["_law_name_here"] (.nm 1) (.dg (.v 1) (.s "names")) (.cmp .notin (.v 1) (.v 0)) QK)) (.seq (.ife (.and (.cmp .eq (.v 5) (.s "set")) (.cmp .ne (.v 6) (.lst .o))) (.seq (.set 7 (.ix (.v 6) (.call 0 (.k (.v 0) (.k (.b1 .len (.v 6)) .o))))) (.ret (.tup (.k (.s "set") (.k (.v 7) (.k (.call 1 (.k (.v 0) (.k (.v 1) (.k (.v 2) (.k (.bin .sub (.v 3) (.n 1)) (.k (.v 4) .o)))))) .o)))))) .skip) (.seq (.ife (.cmp .eq (.v 5) (.s "let")) (.seq (.set 6 (.bin .add (.dg (.v 1) (.s "names")) (.dg (.v 1) (.s "lets")))) (.seq (.set 7 (.ix (.v 6) (.call 0 (.k (.v 0) (.k (.b1 .len (.v 6)) .o))))) (.seq (.set 8 (.call 1 (.k (.v 0) (.k (.v 1) (.k (.v 2) (.k (.bin .sub (.v 3) (.n 1)) (.k (.v 4) .o))))))) (.ret (.tup (.k (.s "let") (.k (.v 7) (.k (.v 8) (.k (.call 1 (.k (.v 0) (.k (.v 1) (.k (.bin .add (.v 2) (.lst (.k (.v 7) .o))) (.k (.bin .sub (.v 3) (.n 1)) (.k (.v 4) .o)))))) .o))))))))) .skip) (.ret (.tup (.k (.s "say") (.k (.call 1 (.k (.v 0) (.k (.v 1) (.k (.v 2) (.k (.bin .sub (.v 3) (.n 1)) (.k (.v 4) .o)))))) .o))))))
abbrev Ac (s0 s1:aM):Gm:=gm [("_law_draw",s0),("_law_expr",s1)] []
theorem QJ:mC (Ac s0 s1) Ad ["_law_feed_here","_law_world_here","_law_bound_here","_law_below","_law_times","_law_kind","_law_some","_law_name_here","_law_first"] 9 6 (aq 31)=true:=(by decide+kernel:mC (Ac aD aD) Ad ["_law_feed_here","_law_world_here","_law_bound_here","_law_below","_law_times","_law_kind","_law_some","_law_name_here","_law_first"] 9 6 (aq 31)=true)
abbrev Rr:IE:=.call 2 (.k (.v 0) (.k (.v 1) (.k (.v 2) (.k (.bin .sub (.v 4) (.n 1)) (.k (.v 3) .o)))))
def AE:IS:=.seq (.ife (.cmp .eq (.dg (.v 1) (.s "functions")) (.lst .o)) (.ret (.call 0 (.k (.v 0) (.k (.v 1) (.k (.v 2) .o))))) .skip) (.seq (.asg (.k (.nm 5) (.k (.nm 6) .o)) (.ix (.dg (.v 1) (.s "functions")) (.call 1 (.k (.v 0) (.k (.b1 .len (.dg (.v 1) (.s "functions"))) .o))))) (.seq (.set 7 (.bin .mul (.v 4) (.dg (.dg (.v 1) (.s "works")) (.v 5)))) (.seq (.ife (.cmp .lt (.dg (.v 1) (.s "toil")) (.bin .add (.bin .mul (.n 30) (.v 4)) (.v 7))) (.ret (.call 0 (.k (.v 0) (.k (.v 1) (.k (.v 2) .o))))) .skip) (.seq (.dput (.bin .sub (.dg (.v 1) (.s "toil")) (.v 7)) (.v 1) (.s "toil")) (.ret (.b1 .tuple (.bin .add (.lst (.k (.s "call") (.k (.v 5) .o))) (.comp [0,1,2,4,3] ["_law_k"] (.nm 5) (.rng (.v 6)) .tt Rr))))))))
abbrev AD (s0 s1 s2:aM):Gm:=gm [("_law_leaf",s0),("_law_draw",s1),("_law_expr",s2)] []
theorem Rq:aI (AD s0 s1 s2) AE 8 5 (aq 32):=(by decide+kernel:aI (AD aD aD aD) AE 8 5 (aq 32))
abbrev PB:IE:=.call 5 (.k (.v 0) (.k (.v 1) (.k (.v 2) (.k (.bin .sub (.v 4) (.n 1)) (.k (.v 3) .o)))))
def zo:IS:=.seq (.dput (.bin .sub (.dg (.v 1) (.s "room")) (.n 1)) (.v 1) (.s "room")) (.seq (.dput (.bin .sub (.dg (.v 1) (.s "toil")) (.v 4)) (.v 1) (.s "toil")) (.seq (.set 5 (.lst (.k (.s "op") (.k (.s "op") (.k (.s "copy") (.k (.s "pick") (.k (.s "let") (.k (.s "set") (.k (.s "say") (.k (.s "do") (.k (.s "again") (.k (.s "call") (.k (.s "copy") (.k (.s "op") (.k (.s "leaf") (.k (.s "let") .o)))))))))))))))) (.seq (.set 6 (.ix (.v 5) (.call 0 (.k (.v 0) (.k (.n 14) .o))))) (.seq (.ife (.or (.cmp .lt (.v 3) (.n 2)) (.or (.cmp .lt (.dg (.v 1) (.s "room")) (.n 6)) (.or (.cmp .lt (.dg (.v 1) (.s "toil")) (.bin .mul (.n 30) (.v 4))) (.cmp .eq (.v 6) (.s "leaf"))))) (.ret (.call 1 (.k (.v 0) (.k (.v 1) (.k (.v 2) .o))))) .skip) (.seq (.ife (.cmp .eq (.v 6) (.s "copy")) (.ret (.call 2 (.k (.v 0) (.k (.v 1) (.k (.v 2) (.k (.v 3) (.k (.v 4) .o))))))) .skip) (.seq (.ife (.cmp .eq (.v 6) (.s "call")) (.ret (.call 3 (.k (.v 0) (.k (.v 1) (.k (.v 2) (.k (.v 3) (.k (.v 4) .o))))))) .skip) (.seq (.ife (.cmp .isin (.v 6) (.tup (.k (.s "let") (.k (.s "set") (.k (.s "say") .o))))) (.ret (.call 4 (.k (.v 0) (.k (.v 1) (.k (.v 2) (.k (.v 3) (.k (.v 4) (.k (.v 6) .o)))))))) .skip) (.seq (.ife (.cmp .eq (.v 6) (.s "again")) (.seq (.set 7 (.ix (.lst (.k (.n 2) (.k (.n 3) (.k (.n 0) (.k (.n 1) (.k (.n 5) (.k (.n 2) .o))))))) (.call 0 (.k (.v 0) (.k (.n 6) .o))))) (.cut (.ife (.cmp .lt (.dg (.v 1) (.s "toil")) (.bin .mul (.bin .mul (.n 30) (.v 4)) (.v 7))) (.set 7 (.n 1)) .skip) (.ret (.tup (.k (.s "again") (.k (.v 7) (.k (.call 5 (.k (.v 0) (.k (.v 1) (.k (.v 2) (.k (.bin .sub (.v 3) (.n 1)) (.k (.bin .mul (.v 4) (.v 7)) .o)))))) .o))))))) .skip) (.seq (.set 8 (.lst (.k (.s "do") .o))) (.seq (.set 7 (.ix (.lst (.k (.n 2) (.k (.n 3) (.k (.n 1) (.k (.n 2) (.k (.n 4) (.k (.n 6) .o))))))) (.call 0 (.k (.v 0) (.k (.n 6) .o))))) (.cut (.ife (.cmp .eq (.v 6) (.s "pick")) (.seq (.set 8 (.lst (.k (.s "pick") .o))) (.set 7 (.n 3))) .skip) (.cut (.ife (.cmp .eq (.v 6) (.s "op")) (.seq (.set 8 (.lst (.k (.s "op") (.k (.ix (.s "+-*/<=") (.call 0 (.k (.v 0) (.k (.n 6) .o)))) .o)))) (.set 7 (.n 2))) .skip) (.ret (.b1 .tuple (.bin .add (.v 8) (.comp [0,1,2,4,3] ["_law_k"] (.nm 5) (.rng (.v 7)) .tt PB))))))))))))))))
abbrev zm (s0 s1 s2 s3 s4 s5:aM):Gm:=gm [("_law_draw",s0),("_law_leaf",s1),("_law_copied",s2),("_law_called",s3),("_law_bound",s4),("_law_expr",s5)] []
theorem Pz:aI (zm s0 s1 s2 s3 s4 s5) zo 9 5 (aq 33):=(by decide+kernel:aI (zm aD aD aD aD aD aD) zo 9 5 (aq 33))
def Ab:IS:=.ret (.dct ["names","lets","functions","works","seeds","room","toil","takes"] (.k (.v 0) (.k (.v 1) (.k (.v 2) (.k (.v 3) (.k (.lst .o) (.k (.v 4) (.k (.v 5) (.k (.cst (.bl true)) .o)))))))))
abbrev Aa:Gm:=gm [] []
theorem QI:aI (Aa) Ab 6 6 (aq 34):=(by decide+kernel:aI (Aa) Ab 6 6 (aq 34))
abbrev G9:IS:=.seq (.set 5 (.b1 .dict (.v 1))) (.seq (.dput (.lst .o) (.v 5) (.s "seeds")) (.seq (.dput (.n 7) (.v 5) (.s "room")) (.seq (.dput (.n 60) (.v 5) (.s "toil")) (.exp (.mth .app (.v 3) (.k (.call 0 (.k (.v 0) (.k (.v 5) (.k (.lst .o) (.k (.n 4) (.k (.n 1) .o)))))) .o))))))
def z9:IS:=.seq (.set 3 (.lst .o)) (.cut (.for (.nm 4) (.rng (.v 2)) G9) (.ret (.v 3)))
abbrev uJ (s0:aM):Gm:=gm [("_law_expr",s0)] []
theorem QH:aI (uJ s0) z9 6 3 (aq 35):=(by decide+kernel:aI (uJ aD) z9 6 3 (aq 35))
abbrev RL:IE:=.ix (.v 0) (.n 0)
abbrev RK:IE:=.ix (.v 0) (.n 0)
abbrev HE:IS:=.seq (.set 8 (.call 2 (.k (.v 0) (.k (.cmpv [] ["_law_one"] (.nm 0) 4 .tt RL) .o)))) (.seq (.set 9 (.bin .add (.v 2) (.slc (.v 3) .o (.n 1)))) (.cut (.ife (.and (.cmp .eq (.call 1 (.k (.v 0) (.k (.n 2) .o))) (.n 0)) (.cmp .notin (.ix (.v 9) (.v 7)) (.cmpv [] ["_law_one"] (.nm 0) 4 .tt RK))) (.set 8 (.ix (.v 9) (.v 7))) .skip) (.seq (.set 10 (.call 1 (.k (.v 0) (.k (.b1 .len (.v 9)) .o)))) (.cut (.set 11 (.slc (.bin .add (.slc (.v 9) (.v 10) .o) (.slc (.v 9) .o (.v 10))) .o (.ix (.lst (.k (.n 1) (.k (.n 2) (.k (.n 0) (.k (.n 3) (.k (.n 1) (.k (.n 2) (.k (.n 2) (.k (.n 6) .o))))))))) (.call 1 (.k (.v 0) (.k (.n 8) .o)))))) (.seq (.set 12 (.call 3 (.k (.v 2) (.k (.v 3) (.k (.v 5) (.k (.v 6) (.k (.n 9) (.k (.n 120) .o)))))))) (.seq (.set 13 (.call 4 (.k (.v 0) (.k (.v 12) (.k (.v 11) (.k (.n 4) (.k (.n 1) .o))))))) (.seq (.exp (.mth .app (.v 4) (.k (.tup (.k (.v 8) (.k (.b1 .tuple (.v 11)) (.k (.v 13) .o)))) .o))) (.seq (.set 5 (.bin .add (.v 5) (.lst (.k (.tup (.k (.v 8) (.k (.b1 .len (.v 11)) .o))) .o)))) (.seq (.set 6 (.b1 .dict (.v 6))) (.dput (.call 5 (.k (.v 13) (.k (.v 6) .o))) (.v 6) (.v 8)))))))))))
def AL:IS:=.seq (.set 2 (.call 0 (.k (.v 0) (.k (.bin .add (.n 2) (.call 1 (.k (.v 0) (.k (.n 4) .o)))) .o)))) (.seq (.set 3 (.lst (.k (.call 2 (.k (.v 0) (.k (.v 2) .o))) (.k (.ix (.v 2) (.n 0)) .o)))) (.seq (.set 4 (.lst .o)) (.seq (.set 5 (.lst .o)) (.seq (.set 6 .dnew) (.cut (.for (.nm 7) (.rng (.ix (.lst (.k (.n 1) (.k (.n 0) (.k (.n 2) (.k (.n 3) .o))))) (.call 1 (.k (.v 0) (.k (.n 4) .o))))) HE) (.seq (.set 12 (.call 3 (.k (.v 2) (.k (.v 3) (.k (.v 5) (.k (.v 6) (.k (.v 1) (.k (.n 1400) .o)))))))) (.seq (.dput (.call 6 (.k (.v 0) (.k (.v 12) (.k (.bin .add (.n 1) (.call 1 (.k (.v 0) (.k (.n 2) .o)))) .o)))) (.v 12) (.s "seeds")) (.ret (.tup (.k (.b1 .tuple (.v 4)) (.k (.call 4 (.k (.v 0) (.k (.v 12) (.k (.lst .o) (.k (.n 7) (.k (.n 1) .o)))))) .o)))))))))))
abbrev AK (s0 s1 s2 s3 s4 s5 s6:aM):Gm:=gm [("_law_names",s0),("_law_draw",s1),("_law_name",s2),("_law_world",s3),("_law_expr",s4),("_law_work",s5),("_law_seeds",s6)] []
theorem RJ {s6:aM}:aI (AK s0 s1 s2 s3 s4 s5 s6) AL 14 2 (aq 36):=(by decide+kernel:aI (AK aD aD aD aD aD aD aD) AL 14 2 (aq 36))
def AB:IS:=.ret (.call 0 (.k (.v 0) (.k (.v 1) (.k (.v 2) .o))))
abbrev AA (s0:aM):Gm:=gm [("_law_leaf",s0)] []
theorem Ro:aI (AA s0) AB 5 5 (aq 37):=(by decide+kernel:aI (AA aD) AB 5 5 (aq 37))
abbrev Ay:IE:=.call 0 (.k (.v 1) (.k (.v 0) .o))
def z0:IS:=.seq (.ife (.and (.cmp .eq (.ix (.v 0) (.n 0)) (.s "name")) (.cmp .isin (.ix (.v 0) (.n 1)) (.v 1))) (.ret (.tup (.k (.s "own") (.k (.idx (.rvs false (.v 1)) (.k (.ix (.v 0) (.n 1)) .o)) .o)))) .skip) (.seq (.ife (.cmp .eq (.ix (.v 0) (.n 0)) (.s "let")) (.ret (.tup (.k (.s "let") (.k (.call 0 (.k (.ix (.v 0) (.n 2)) (.k (.v 1) .o))) (.k (.call 0 (.k (.ix (.v 0) (.n 3)) (.k (.bin .add (.v 1) (.lst (.k (.ix (.v 0) (.n 1)) .o))) .o))) .o))))) .skip) (.ret (.call 1 (.k (.v 0) (.k (.comp [1] ["_law_one"] (.nm 1) (.call 2 (.k (.v 0) .o)) .tt Ay) .o)))))
abbrev zZ (s0 s1 s2:aM):Gm:=gm [("_law_bared",s0),("_law_with",s1),("_law_parts",s2)] []
theorem QG:aI (zZ s0 s1 s2) z0 2 2 (aq 38):=(by decide+kernel:aI (zZ aD aD aD) z0 2 2 (aq 38))
abbrev G8:IE:=.tup (.k (.v 0) (.k (.b1 .len (.v 1)) (.k (.call 0 (.k (.v 2) (.k (.b1 .list (.v 1)) .o))) .o)))
def zY:IS:=.seq (.set 1 (.comp [] ["_law_name_here","_law_params","_law_body"] (.k (.nm 0) (.k (.nm 1) (.k (.nm 2) .o))) (.ix (.v 0) (.n 0)) .tt G8)) (.ret (.tup (.k (.v 1) (.k (.call 0 (.k (.ix (.v 0) (.n 1)) (.k (.lst .o) .o))) .o))))
abbrev rB (s0:aM):Gm:=gm [("_law_bared",s0)] []
theorem QF:aI (rB s0) zY 2 1 (aq 39):=(by decide+kernel:aI (rB aD) zY 2 1 (aq 39))
abbrev rA:IS:=.seq (.set 5 (.v 1)) (.cut (.ife (.and (.cmp .eq (.ix (.v 0) (.n 0)) (.s "let")) (.cmp .eq (.v 3) (.n 1))) (.set 5 (.bin .add (.v 1) (.lst (.k (.ix (.v 0) (.n 1)) .o)))) .skip) (.set 2 (.bin .add (.v 2) (.call 1 (.k (.v 4) (.k (.v 5) .o))))))
def zl:IS:=.seq (.ife (.cmp .eq (.ix (.v 0) (.n 0)) (.s "name")) (.ret (.bin .mul (.lst (.k (.ix (.v 0) (.n 1)) .o)) (.b1 .int (.cmp .notin (.ix (.v 0) (.n 1)) (.v 1))))) .skip) (.seq (.set 2 (.bin .mul (.b1 .list (.slc (.v 0) (.n 1) (.n 2))) (.b1 .int (.cmp .eq (.ix (.v 0) (.n 0)) (.s "set"))))) (.cut (.for (.k (.nm 3) (.k (.nm 4) .o)) (.enu (.call 0 (.k (.v 0) .o))) rA) (.ret (.v 2))))
abbrev zj (s0 s1:aM):Gm:=gm [("_law_parts",s0),("_law_free",s1)] []
theorem Py:aI (zj s0 s1) zl 6 2 (aq 40):=(by decide+kernel:aI (zj aD aD) zl 6 2 (aq 40))
abbrev GZ:IE:=.call 2 (.k (.v 0) (.k (.v 3) (.k (.v 1) (.k (.v 2) .o))))
abbrev GY:IE:=.get (.v 0) (.v 1) (.v 1)
abbrev QE:IE:=.v 1
def zX:IS:=.seq (.ife (.cmp .eq (.ix (.v 1) (.n 0)) (.s "name")) (.ret (.tup (.k (.s "name") (.k (.get (.v 2) (.ix (.v 1) (.n 1)) (.ix (.v 1) (.n 1))) .o)))) .skip) (.seq (.ife (.cmp .ne (.ix (.v 1) (.n 0)) (.s "let")) (.ret (.call 0 (.k (.v 1) (.k (.comp [0,2,3] ["_law_one"] (.nm 3) (.call 1 (.k (.v 1) .o)) .tt GZ) .o)))) .skip) (.seq (.set 4 (.call 2 (.k (.v 0) (.k (.ix (.v 1) (.n 2)) (.k (.v 2) (.k (.v 3) .o)))))) (.seq (.set 5 (.comp [2] ["_law_name_here"] (.nm 1) (.call 3 (.k (.ix (.v 1) (.n 3)) (.k (.lst (.k (.ix (.v 1) (.n 1)) .o)) .o))) .tt GY)) (.seq (.set 6 (.cmpv [5] ["_law_name_here"] (.nm 1) 3 (.cmp .notin (.v 1) (.v 0)) QE)) (.seq (.set 7 (.call 4 (.k (.v 0) (.k (.v 5) .o)))) (.cut (.ife (.cmp .ne (.v 6) (.lst .o)) (.set 7 (.ix (.v 6) (.call 5 (.k (.v 0) (.k (.b1 .len (.v 6)) .o))))) .skip) (.seq (.set 8 (.b1 .dict (.v 2))) (.seq (.dput (.v 7) (.v 8) (.ix (.v 1) (.n 1))) (.ret (.tup (.k (.s "let") (.k (.v 7) (.k (.v 4) (.k (.call 2 (.k (.v 0) (.k (.ix (.v 1) (.n 3)) (.k (.v 8) (.k (.v 3) .o))))) .o))))))))))))))
abbrev zW (s0 s1 s2 s3 s4 s5:aM):Gm:=gm [("_law_with",s0),("_law_parts",s1),("_law_relet",s2),("_law_free",s3),("_law_name",s4),("_law_draw",s5)] []
theorem QD:mC (zW s0 s1 s2 s3 s4 s5) zX ["_law_feed_here","_law_e","_law_held","_law_pool","_law_first","_law_shut","_law_some","_law_name_here","_law_inner"] 9 4 (aq 41)=true:=(by decide+kernel:mC (zW aD aD aD aD aD aD) zX ["_law_feed_here","_law_e","_law_held","_law_pool","_law_first","_law_shut","_law_some","_law_name_here","_law_inner"] 9 4 (aq 41)=true)
abbrev Hy:IE:=.v 2
abbrev Hx:IS:=.seq (.set 10 (.cmpv [7,8] ["_law_one"] (.nm 2) 2 (.cmp .notin (.v 2) (.bin .add (.v 0) (.v 1))) Hy)) (.seq (.exp (.mth .app (.v 10) (.k (.call 1 (.k (.v 0) (.k (.bin .add (.bin .add (.v 7) (.v 8)) (.v 2)) .o))) .o))) (.exp (.mth .app (.v 8) (.k (.ix (.v 10) (.call 2 (.k (.v 0) (.k (.b1 .len (.v 10)) .o)))) .o))))
abbrev Hw:IE:=.tup (.k (.v 0) (.k (.v 1) .o))
abbrev Hv:IS:=.seq (.set 7 (.call 0 (.k (.v 6) (.k (.b1 .list (.v 5)) .o)))) (.seq (.set 8 (.lst .o)) (.cut (.for (.nm 9) (.rng (.b1 .len (.v 5))) Hx) (.seq (.set 11 (.b1 .dpr (.comp [] ["_law_x","_law_y"] (.k (.nm 0) (.k (.nm 1) .o)) (.zip (.k (.v 5) (.k (.v 8) .o))) .tt Hw))) (.exp (.mth .app (.v 3) (.k (.tup (.k (.v 4) (.k (.b1 .tuple (.v 8)) (.k (.call 3 (.k (.v 0) (.k (.v 6) (.k (.v 11) (.k (.v 2) .o))))) .o)))) .o))))))
def Ax:IS:=.seq (.set 3 (.lst .o)) (.cut (.for (.k (.nm 4) (.k (.nm 5) (.k (.nm 6) .o))) (.ix (.v 1) (.n 0)) Hv) (.ret (.tup (.k (.b1 .tuple (.v 3)) (.k (.call 3 (.k (.v 0) (.k (.ix (.v 1) (.n 1)) (.k .dnew (.k (.v 2) .o))))) .o)))))
abbrev Aw (s0 s1 s2 s3:aM):Gm:=gm [("_law_free",s0),("_law_name",s1),("_law_draw",s2),("_law_relet",s3)] []
theorem Rm:aI (Aw s0 s1 s2 s3) Ax 12 3 (aq 42):=(by decide+kernel:aI (Aw aD aD aD aD) Ax 12 3 (aq 42))
abbrev Av:IS:=.set 1 (.bin .add (.v 1) (.call 1 (.k (.v 2) .o)))
def zV:IS:=.seq (.set 1 (.bin .mul (.b1 .list (.slc (.v 0) (.n 1) (.n 2))) (.b1 .int (.cmp .eq (.ix (.v 0) (.n 0)) (.s "call"))))) (.cut (.for (.nm 2) (.call 0 (.k (.v 0) .o)) Av) (.ret (.v 1)))
abbrev oQ (s0 s1:aM):Gm:=gm [("_law_parts",s0),("_law_calls",s1)] []
theorem QC:aI (oQ s0 s1) zV 3 1 (aq 43):=(by decide+kernel:aI (oQ aD aD) zV 3 1 (aq 43))
abbrev AX:IE:=.call 1 (.k (.v 3) (.k (.v 0) (.k (.v 1) (.k (.v 2) .o))))
def AV:IS:=.seq (.set 4 (.comp [1,2,3] ["_law_one"] (.nm 3) (.call 0 (.k (.v 0) .o)) .tt AX)) (.seq (.ife (.and (.cmp .eq (.ix (.v 0) (.n 0)) (.s "call")) (.cmp .eq (.ix (.v 0) (.n 1)) (.v 1))) (.ret (.b1 .tuple (.bin .add (.bin .add (.lst (.k (.s "call") (.k (.v 2) .o))) (.v 4)) (.v 3)))) .skip) (.ret (.call 2 (.k (.v 0) (.k (.v 4) .o)))))
abbrev nE (s0 s1 s2:aM):Gm:=gm [("_law_parts",s0),("_law_by_calls",s1),("_law_with",s2)] []
theorem Sb:aI (nE s0 s1 s2) AV 5 4 (aq 44):=(by decide+kernel:aI (nE aD aD aD) AV 5 4 (aq 44))
abbrev Ou:IS:=.set 1 (.bin .add (.v 1) (.call 1 (.k (.v 2) .o)))
def yL:IS:=.seq (.set 1 (.lst (.k (.v 0) .o))) (.cut (.for (.nm 2) (.call 0 (.k (.v 0) .o)) Ou) (.ret (.v 1)))
abbrev uf (s0 s1:aM):Gm:=gm [("_law_parts",s0),("_law_all",s1)] []
theorem Ot:aI (uf s0 s1) yL 3 1 (aq 45):=(by decide+kernel:aI (uf aD aD) yL 3 1 (aq 45))
abbrev HD:IE:=.ix (.v 1) (.n 0)
def AJ:IS:=.seq (.set 4 (.cmpv [1] ["_law_one"] (.nm 1) 2 (.cmp .eq (.b1 .len (.ix (.v 1) (.n 1))) (.bin .sub (.b1 .len (.v 0)) (.n 2))) HD)) (.seq (.set 5 (.ix (.v 3) (.call 0 (.k (.v 0) (.k (.b1 .len (.v 3)) .o))))) (.seq (.ife (.cmp .eq (.ix (.v 1) (.n 0)) (.s "op")) (.ret (.bin .add (.tup (.k (.s "op") (.k (.ix (.s "+-*/<=") (.call 0 (.k (.v 0) (.k (.n 6) .o)))) .o))) (.slc (.v 1) (.n 2) .o))) .skip) (.seq (.ife (.cmp .eq (.ix (.v 1) (.n 0)) (.s "again")) (.ret (.bin .add (.tup (.k (.s "again") (.k (.call 0 (.k (.v 0) (.k (.n 6) .o))) .o))) (.slc (.v 1) (.n 2) .o))) .skip) (.seq (.ife (.cmp .eq (.ix (.v 1) (.n 0)) (.s "set")) (.ret (.bin .add (.tup (.k (.s "set") (.k (.v 5) .o))) (.slc (.v 1) (.n 2) .o))) .skip) (.seq (.ife (.cmp .eq (.ix (.v 1) (.n 0)) (.s "call")) (.ret (.bin .add (.tup (.k (.s "call") (.k (.ix (.v 4) (.call 0 (.k (.v 0) (.k (.b1 .len (.v 4)) .o)))) .o))) (.slc (.v 1) (.n 2) .o))) .skip) (.seq (.ife (.cmp .eq (.ix (.v 1) (.n 0)) (.s "do")) (.ret (.b1 .tuple (.bin .add (.lst (.k (.s "do") .o)) (.lrv (.slc (.v 1) (.n 1) .o))))) .skip) (.ret (.ix (.lst (.k (.tup (.k (.s "num") (.k (.call 0 (.k (.v 0) (.k (.n 9) .o))) .o))) (.k (.tup (.k (.s "name") (.k (.v 5) .o))) .o))) (.call 0 (.k (.v 0) (.k (.n 2) .o)))))))))))
abbrev rE (s0:aM):Gm:=gm [("_law_draw",s0)] []
theorem RI:aI (rE s0) AJ 6 4 (aq 46):=(by decide+kernel:aI (rE aD) AJ 6 4 (aq 46))
abbrev Au:IS:=.set 12 (.bin .add (.v 12) (.call 6 (.k (.ix (.v 13) (.n 2)) .o)))
abbrev As:IE:=.ix (.v 0) (.n 0)
abbrev uN:IE:=.tup (.k (.ix (.v 3) (.n 0)) (.k (.ix (.v 3) (.n 1)) (.k (.call 8 (.k (.ix (.v 3) (.n 2)) (.k (.v 0) (.k (.v 1) (.k (.v 2) .o))))) .o)))
def zU:IS:=.seq (.set 3 (.b1 .list (.ix (.v 1) (.n 0)))) (.seq (.set 4 (.ix (.v 1) (.n 1))) (.seq (.set 5 (.call 0 (.k (.v 0) (.k (.n 8) .o)))) (.seq (.ife (.or (.cmp .eq (.v 3) (.lst .o)) (.cmp .lt (.v 5) (.n 2))) (.seq (.set 6 (.call 0 (.k (.v 0) (.k (.call 1 (.k (.v 4) .o)) .o)))) (.seq (.set 7 (.call 2 (.k (.v 4) (.k (.v 6) (.k (.call 3 (.k (.v 0) (.k (.ix (.call 4 (.k (.v 4) .o)) (.v 6)) (.k (.v 3) (.k (.v 2) .o))))) .o))))) (.ret (.tup (.k (.ix (.v 1) (.n 0)) (.k (.ix (.lst (.k (.v 4) (.k (.v 7) .o))) (.b1 .int (.call 5 (.k (.v 7) (.k (.lst .o) .o))))) .o)))))) .skip) (.seq (.set 8 (.call 0 (.k (.v 0) (.k (.b1 .len (.v 3)) .o)))) (.seq (.asg (.k (.nm 9) (.k (.nm 10) (.k (.nm 11) .o))) (.ix (.v 3) (.v 8))) (.seq (.ife (.cmp .eq (.v 5) (.n 2)) (.ret (.tup (.k (.b1 .tuple (.bin .add (.bin .add (.slc (.v 3) .o (.v 8)) (.lst (.k (.tup (.k (.v 9) (.k (.bin .add (.slc (.v 10) (.n 1) .o) (.slc (.v 10) .o (.n 1))) (.k (.v 11) .o)))) .o))) (.slc (.v 3) (.bin .add (.v 8) (.n 1)) .o))) (.k (.v 4) .o)))) .skip) (.seq (.ife (.and (.cmp .eq (.v 5) (.n 3)) (.and (.cmp .gt (.v 8) (.n 0)) (.cmp .notin (.ix (.ix (.v 3) (.bin .sub (.v 8) (.n 1))) (.n 0)) (.call 6 (.k (.v 11) .o))))) (.ret (.tup (.k (.b1 .tuple (.bin .add (.bin .add (.slc (.v 3) .o (.bin .sub (.v 8) (.n 1))) (.lst (.k (.ix (.v 3) (.v 8)) (.k (.ix (.v 3) (.bin .sub (.v 8) (.n 1))) .o)))) (.slc (.v 3) (.bin .add (.v 8) (.n 1)) .o))) (.k (.v 4) .o)))) .skip) (.seq (.set 12 (.call 6 (.k (.v 4) .o))) (.cut (.for (.nm 13) (.v 3) Au) (.seq (.ife (.and (.cmp .eq (.v 5) (.n 4)) (.cmp .notin (.v 9) (.v 12))) (.ret (.tup (.k (.b1 .tuple (.bin .add (.slc (.v 3) .o (.v 8)) (.slc (.v 3) (.bin .add (.v 8) (.n 1)) .o))) (.k (.v 4) .o)))) .skip) (.seq (.set 14 (.v 9)) (.seq (.set 15 (.lst .o)) (.cut (.ife (.and (.cmp .eq (.v 5) (.n 5)) (.cmp .lt (.b1 .len (.v 10)) (.n 6))) (.seq (.set 10 (.bin .add (.v 10) (.tup (.k (.call 7 (.k (.v 0) (.k (.bin .add (.b1 .list (.v 10)) (.v 2)) .o))) .o)))) (.set 15 (.lst (.k (.tup (.k (.s "num") (.k (.n 0) .o))) .o)))) .skip) (.cut (.ife (.cmp .gt (.v 5) (.n 5)) (.set 14 (.call 7 (.k (.v 0) (.k (.cmpv [] ["_law_one"] (.nm 0) 3 .tt As) .o)))) .skip) (.seq (.set 12 (.cmpv [9,14,15] ["_law_one"] (.nm 3) 3 .tt uN)) (.seq (.lput (.tup (.k (.v 14) (.k (.v 10) (.k (.v 11) .o)))) (.v 12) (.v 8)) (.ret (.tup (.k (.b1 .tuple (.v 12)) (.k (.call 8 (.k (.v 4) (.k (.v 9) (.k (.v 14) (.k (.v 15) .o))))) .o))))))))))))))))))))
abbrev zT (s0 s1 s2 s3 s4 s5 s6 s7 s8:aM):Gm:=gm [("_law_draw",s0),("_law_nodes",s1),("_law_spoilt",s2),("_law_changed",s3),("_law_all",s4),("_law_right",s5),("_law_calls",s6),("_law_name",s7),("_law_by_calls",s8)] []
theorem QB {s6 s7 s8:aM}:aI (zT s0 s1 s2 s3 s4 s5 s6 s7 s8) zU 16 3 (aq 47):=(by decide+kernel:aI (zT aD aD aD aD aD aD aD aD aD) zU 16 3 (aq 47))
abbrev tU:IS:=.set 4 (.bin .add (.bin .add (.v 4) (.b1 .list (.v 6))) (.call 2 (.k (.v 7) (.k (.lst .o) .o))))
abbrev DV:IS:=.ife (.or (.not (.isi "bool" (.v 13))) (.cmp .ne (.v 13) (.v 12))) (.ret (.cst (.bl false))) .skip
abbrev ye:IS:=.seq (.set 11 (.call 7 (.k (.v 1) (.k (.ix (.lst (.k (.v 3) (.k (.v 9) .o))) (.call 8 (.k (.v 1) (.k (.n 2) .o)))) (.k (.v 4) .o))))) (.seq (.set 12 (.cmp .eq (.b1 .repr (.call 4 (.k (.v 11) .o))) (.b1 .repr (.v 8)))) (.for (.nm 13) (.lst (.k (.call 6 (.k (.v 3) (.k (.v 11) .o))) (.k (.call 6 (.k (.v 11) (.k (.v 9) .o))) .o))) DV))
abbrev DU:IS:=.seq (.set 3 (.call 1 (.k (.v 1) (.k (.ix (.lst (.k (.n 8) (.k (.n 32) (.k (.n 20) .o)))) (.v 2)) .o)))) (.seq (.set 4 (.bin .add (.call 2 (.k (.ix (.v 3) (.n 1)) (.k (.lst .o) .o))) (.call 3 (.k (.v 1) (.k (.n 2) .o))))) (.cut (.for (.k (.nm 5) (.k (.nm 6) (.k (.nm 7) .o))) (.ix (.v 3) (.n 0)) tU) (.seq (.set 8 (.call 4 (.k (.v 3) .o))) (.seq (.set 9 (.call 5 (.k (.v 1) (.k (.v 3) (.k (.v 4) .o))))) (.seq (.ife (.or (.cmp .isnt (.call 6 (.k (.v 3) (.k (.v 9) .o))) (.cst (.bl true))) (.cmp .isnt (.call 6 (.k (.v 9) (.k (.v 3) .o))) (.cst (.bl true)))) (.ret (.cst (.bl false))) .skip) (.for (.nm 10) (.rng (.n 3)) ye))))))
def xK:IS:=.seq (.set 1 (.call 0 (.k (.v 0) .o))) (.cut (.for (.nm 2) (.rng (.n 3)) DU) (.ret (.cst (.bl true))))
abbrev xJ (s0 s1 s2 s3 s4 s5 s6 s7 s8:aM):Gm:=gm [("_law_feed",s0),("_law_program",s1),("_law_free",s2),("_law_names",s3),("_law_canon",s4),("_law_recast",s5),("same_program",s6),("_law_other",s7),("_law_draw",s8)] []
theorem KD {s6 s7 s8:aM}:aI (xJ s0 s1 s2 s3 s4 s5 s6 s7 s8) xK 14 1 (aq 48):=(by decide+kernel:aI (xJ aD aD aD aD aD aD aD aD aD) xK 14 1 (aq 48))
noncomputable abbrev ti (i:Int):Tv:=.at (.int i)
noncomputable abbrev ts (x:Str):Tv:=.at (.str x)
noncomputable abbrev fi (i:Int):Sl:=.fz (.at (.int i))
noncomputable abbrev fs (x:Str):Sl:=.fz (.at (.str x))
def Az (x:Str):Prop:=∀c∈x.cps.toList,97<=c/\c<=122
inductive bD (args:List Sl)(k:ad):Prop
 |mk (a b:Int) (_:args = [fi a,fi b]) (_:0<=b) (_:b<=20) (_:∀x:Str,(x.length:Int)=b->Az x->(1<=b->x.cps.toList[0]? = some (97+(a % 26).toNat))->k (fs x) [fi a,fi b])
theorem Az.app {y:Str}(hx:Az x)(hy:Az y):Az (x++y):=fun c hc=>by
 have e:(x++y).cps.toList=x.cps.toList++y.cps.toList:=by show(x.cps++y.cps).toList=_;simp
 rw[e] at hc;rcases TB.mp hc with h|h
 ·exact hx c h
 ·exact hy c h
noncomputable def abc:Str:="abcdefghijklmnopqrstuvwxyz"
theorem Mr:∀c∈abc.cps.toList,97<=c/\c<=122:=by decide+kernel
theorem Mq:abc.cps.toList.length=26:=by decide+kernel
theorem KC:Az "":=fun c hc=>by
 have:("":Str).cps.toList = []:=by decide+kernel
 rw[this] at hc;cases hc
theorem KA:∀j<26,abc.cps.toList[j]? = some (97+j):=by decide+kernel
def A7 (a0 a:Int)(x:Str):Prop:=(x.length=0/\a=a0)∨(1<=x.length/\x.cps.toList[0]? = some (97+(a0 % 26).toNat))
theorem HB {a0 b:Int}(hb:b<=20){P:PD}(hP:∀(a:Int) (x:Str) (s:Option Sl),(x.length:Int)=b->Az x->A7 a0 a x->P.nx ⟨[some (fi a),some (fi b),some (fs x),s],[],[]⟩):
  ∀(l:List Tv) (a:Int) (x:Str) (s:Option Sl),(x.length:Int)+l.length=b->Az x->A7 a0 a x->cN (bd (.nm 3)) (aH (aB uS (.seq (.set 2 (.bin .add (.var 2) (.ix (.cst (.str "abcdefghijklmnopqrstuvwxyz")) (.bin .mod (.var 0) (.cst (.int 26)))))) (.set 0 (.bin .fdiv (.var 0) (.cst (.int 26))))))) P l ⟨[some (fi a),some (fi b),some (fs x),s],[],[]⟩
 |[],a,x,s,h,hx,hf=>hP a x s (by simpa using h) hx hf
 |t::l,a,x,s,h,hx,hf=>by
  have wj:(0:Int)<26:=by decide
  have e:eh abc.cps.toList (a % 26)=some (97+(a % 26).toNat):=by obtain⟨j,hj⟩:=UC (Int.emod_nonneg a (by decide:(26:Int)≠0));have:=Int.emod_lt_of_pos a wj;rw[hj];exact KA j (by lia)
  generalize iz:97+(a % 26).toNat=c at e;have hc:c∈abc.cps.toList:=by obtain⟨c',e',hc'⟩:=iD (l:=abc.cps.toList) (i:=a % 26) (Int.emod_nonneg _ (by decide)) (by rw[Mq];exact Int.emod_lt_of_pos _ wj);rw[e] at e';cases e';exact hc'
  have hl:(t::l).length=l.length+1:=rfl;rw[hl] at h;have Jl:Az ⟨#[c]⟩:=fun d hd=>by rw[show d=c by simpa using hd];exact Mr c hc
  have e1:(x++(⟨#[c]⟩:Str)).length=x.length+1:=lO;refine⟨wj,bx (o:=(eh abc.cps.toList (a % 26)).map fun c=>.at (.str ⟨#[c]⟩)) (t:=ts ⟨#[c]⟩) (by rw[e];rfl) ⟨by show x.length+1<=16777216;lia,⟨by decide,by decide⟩,?_⟩⟩;refine HB hb hP l _ _ _ (by rw[e1];lia) (hx.app Jl) (.inr ⟨by rw[e1];lia,?_⟩);have ea:(x++(⟨#[c]⟩:Str)).cps.toList=x.cps.toList ++ [c]:=by show(x.cps ++ #[c]).toList=_;simp
  have el:x.cps.toList.length=x.length:=by simp [Str.length]
  rw[ea];rcases hf with ⟨h0,rfl⟩|⟨h0,h1⟩
  ·rw[TH (by lia),el,h0,iz];rfl
  ·rw[TR (by lia)];exact h1
theorem QA:∀args k,bD args k->aH (aB uS AM) (aS args k) (aU 4 args):=by
 rintro args k ⟨a,b,rfl,h0,h1,q⟩;refine⟨fun M=>∃(a':Int) (x:Str) (s:Option Sl),M=⟨[some (fi a'),some (fi b),some (fs x),s],[],[]⟩/\(x.length:Int)=b/\Az x/\A7 a a' x,?_,?_⟩
 ·refine⟨⟨by lia,by lia⟩,HB (a0:=a) h1 ?_ _ a "" none ?_ KC (.inl ⟨by decide+kernel,rfl⟩)⟩
  ·exact fun a x s e hx hf=>⟨a,x,s,rfl,e,hx,hf⟩
  ·unfold fE;rw[Ta,length_range];show(0:Int)+_=_;lia
 ·rintro M ⟨a',x,s,rfl,e,hx,hf⟩;exact q x e hx fun hb=>hf.elim (fun z=>by lia) (·.2)
def aC (ns:List Int)(n:Nat)(z:Int):Ob:=.dic [(.inr "cells",.lst (ns.map ti)),(.inr "at",ti n),(.inr "left",ti z)]
inductive aG (args:List Sl)(k:ad):Prop
 |mk (ns n z m:_) (_:args = [.own (aC ns n z),fi m]) (_:ns.length<=63) (_:n<=1000000000000) (_:0<m) (_:m<=1000000000000) (_:∀r n' z',0<=r->r<m->n'<=n+1->k (fi r) [.own (aC ns n' z'),fi m])
theorem Mo:∀args k,aG args k->aH (aB zw zx) (aS args k) (aU 6 args):=by
 rintro args k ⟨ns,n,z,m,rfl,hl,hn,hm,hm2,q⟩;have cD:∀z,xX z m:=fun z=>⟨hm,by lia⟩;have cM:CMul (n:Int) n:=jr (by lia) (by lia);have l3:∀(a b c:aw×Tv),[a,b,c].length<16777216:=fun _ _ _=>by show 3<16777216;decide
 have md:∀(i j:Int),0<j->0<=i % j/\i % j<j:=fun i j h=>⟨Int.emod_nonneg _ (by lia),Int.emod_lt_of_pos _ h⟩;refine aL (fun g=>?_) (fun g=>?_)
 ·exact⟨hm,cD z,l3 _ _ _,q _ n _ (md _ _ hm).1 (md _ _ hm).2 (by lia)⟩
 refine⟨l3 _ _ _,cM,fun M=>∃c,M=⟨[some (.out 0),some (fi m),none,some (fi n),some (fi c),none],[.own (aC ns (n+1) z)],[]⟩,aL (fun g=>?_) (fun g=>⟨_,rfl⟩),?_⟩
 ·have h0:ns ≠ []:=fun z=>by rw[z] at g;exact absurd g (by decide)
  have h1:0<(ns.length:Int):=by have:=length_pos_iff.mpr h0;lia
  have h2:=md n ns.length h1;have h3:((ns.map ti).length:Int)=ns.length:=by rw[Ta]
  obtain⟨t,e,ht⟩:=iD (l:=ns.map ti) (i:=(n:Int) % ((ns.map ti).length:Nat)) (by rw[h3];exact h2.1) (by rw[h3];exact h2.2);obtain⟨c,_,rfl⟩:=T5.mp ht;exact⟨by show(0:Int)<((ns.map ti).length:Nat);rw[h3];exact h1,bx e ⟨_,rfl⟩⟩
 ·rintro M ⟨c,rfl⟩
  refine⟨⟨by decide,by decide,by decide⟩,aL (fun g=>?_) (fun g=>?_)⟩
  ·exact⟨cD c,l3 _ _ _,hm,q _ (n+1) _ (md _ _ hm).1 (md _ _ hm).2 (by lia)⟩
  ·have p:∀{i:Int},0<=i->i<2147483647->CMul i i:=fun h h'=>jr (by lia) (by lia);refine⟨by show(0:Int)<_;decide,jr (by decide) (by decide),qM (by decide) (by decide),by show(0:Int)<_;decide,?_⟩;have h2:=md ((c % 2147483647+104729*(n:Int)+1)*48271) 2147483629 (by decide);refine⟨p h2.1 (by lia),jr (by decide) (by decide),by show(0:Int)<_;decide,qM (by decide) (by decide),by show(0:Int)<_;decide,p (md _ _ (by decide)).1 (Int.lt_trans (md _ 2147483629 (by decide)).2 (by decide)),by show(0:Int)<_;decide,⟨by decide,by decide⟩,hm,?_⟩;exact q _ (n+1) _ (md _ _ hm).1 (md _ _ hm).2 (by lia)
inductive di (args:List Sl)(k:ad):Prop
 |mk (ns n z:_) (_:args = [.own (aC ns n z)]) (_:ns.length<=63) (_:n+3<=1000000000000) (_:∀r n' z',0<=r->r<=999999999->n'<=n+3->k (fi r) [.own (aC ns n' z')])
theorem Oq:∀args k,di args k->aH (aB (Ah aG) Ai) (aS args k) (aU 2 args):=by
 rintro args k ⟨ns,n,z,rfl,hl,hn,q⟩;refine⟨rfl,ns,n,z,6,rfl,hl,by lia,by decide,by decide,fun w n1 z1 SS hw hn1=>?_⟩;refine aL (fun g=>?_) (fun g=>?_)
 ·refine⟨rfl,ns,n1,z1,3,rfl,hl,by lia,by decide,by decide,fun r n2 z2 h0 h1 h2=>?_⟩;exact q _ n2 z2 (by lia) (by lia) (by lia)
 refine aL (fun g2=>?_) (fun g2=>?_)
 ·refine⟨rfl,ns,n1,z1,40000,rfl,hl,by lia,by decide,by decide,fun r n2 z2 h0 h1 h2=>?_⟩;refine⟨jr (by lia) (by lia),rfl,ns,n2,z2,25000,rfl,hl,by lia,by decide,by decide,fun r' n3 z3 h3 h4 h5=>?_⟩;exact q _ n3 z3 (by lia) (by lia) (by lia)
 ·have w0:w≠0:=fun z=>g (by rw[z];decide);have w1:w≠1:=fun z=>g2 (by rw[z];decide);refine⟨jr (by decide) (by decide),rfl,ns,n1,z1,_,rfl,hl,by lia,by lia,by lia,fun r n2 z2 h0 h1 h2=>?_⟩;exact q _ n2 z2 (by lia) (by lia) (by lia)
noncomputable def cT:Tv->Bool
 | .tup _=>true
 |_=>false
def okTy (t:Tv):Prop:=∃n,oZ t=some n
inductive eZ (args:List Sl)(k:ad):Prop
 |mk (l:_) (_:args = [.fz (.tup l)]) (_:l.length<=16777216) (_:(∀t∈l,okTy t)) (_:k (.own (.lst ((l.drop 1).filter cT))) [.fz (.tup l)])
theorem oU {k:List Tv->Ms->Prop}:∀(ts ys:List Tv) (s:Option Sl),(∀t∈ts,okTy t)->(∀s',k (ys++ts.filter cT) ⟨[s'],[],[]⟩)->aY (bd (.nm 0)) (av oR (.isi "tuple" (.var 0))).t (av oR (.var 0)).e k ts ys ⟨[s],[],[]⟩
 |[],ys,s,_,q=>by have:=q s;rw[List.filter_nil,TJ] at this;exact this
 |t::ts,ys,s,h,q=>by
  have h2:∀t∈ts,okTy t:=fun x hx=>h x (Tb _ hx);obtain⟨n,hn⟩:=h t Te
  cases t with
  |tup l=>exact oU ts (ys ++ [.tup l]) _ h2 fun s'=>by simpa [U9,cT] using q s'
  | «at» v => cases v <;> first | (cases hn; done) | exact oU ts ys _ h2 fun s' => by simpa [U9, cT] using q s'
  |lst l=>exact oU ts ys _ h2 fun s'=>by simpa [U9,cT] using q s'
  |dic l=>exact oU ts ys _ h2 fun s'=>by simpa [U9,cT] using q s'
  |scr l=>injection hn
  |ktp l=>injection hn
theorem wM (l:List α):aO l (some 1) none=l.drop 1:=by
 unfold aO
 cases l with
 |nil=>rfl
 |cons a l=>
  show(List.drop (min (1:Int).toNat (l.length+1)) (a::l)).take (l.length+1-min (1:Int).toNat (l.length+1))=l;have:min (1:Int).toNat (l.length+1)=1:=by show min 1 (l.length+1)=1;lia
  rw[this];simp
theorem Oo:∀args k,eZ args k->aH (aB oR uK) (aS args k) (aU 1 args):=by
 rintro args k ⟨l,rfl,hl,ht,q⟩;have e:=wM l;refine⟨?_,rfl,?_⟩
 ·show(aO l (some 1) none).length<=_;rw[e,UN];lia
 ·show aY _ _ _ _ (aO l (some 1) none) _ _;rw[e];exact oU _ _ _ (fun t h=>ht t (mem_of_mem_drop h)) fun s'=>q
theorem yd (hd:List V)(ks:List Tv)(h:∀k∈ks,cT k=true):(hd.map Tv.at++ks).filter cT=ks:=by rw[filter_append,filter_eq_nil_iff.mpr (fun t ht=>by obtain⟨v,_,rfl⟩:=T5.mp ht;simp [cT]),Ua,filter_eq_self.mpr h]
def eG (s:Sl)(l:List Tv):Prop:=s = .own (.lst l)∨s = .fz (.lst l)
inductive gk (args:List Sl)(k:ad):Prop
 |mk (l s ks:_) (_:args = [.fz (.tup l),s]) (_:eG s ks) (_:l.length+ks.length<=16777216) (_:(∀t∈l,okTy t)) (_:k (.fz (.tup (l.filter (fun t => !cT t)++ks))) args)
theorem nB {k:List Tv->Ms->Prop}:∀(l ys:List Tv) (s:Option Sl),(∀t∈l,okTy t)->(∀s',k (ys++l.filter fun t => !cT t) ⟨[s'],[],[]⟩)->aY (bd (.nm 0)) (av oN (.not (.isi "tuple" (.var 0)))).t (av oN (.var 0)).e k l ys ⟨[s],[],[]⟩
 |[],ys,s,_,q=>by have:=q s;rw[List.filter_nil,TJ] at this;exact this
 |t::l,ys,s,h,q=>by
  have h2:∀t∈l,okTy t:=fun x hx=>h x (Tb _ hx);obtain⟨n,hn⟩:=h t Te
  cases t with
  |tup u=>exact nB l ys _ h2 fun s'=>by simpa [U9,cT] using q s'
  | «at» v => cases v <;> first | (cases hn; done) | exact nB l (ys ++ [_]) _ h2 fun s' => by simpa [U9, cT] using q s'
  |lst u=>exact nB l (ys ++ [_]) _ h2 fun s'=>by simpa [U9,cT] using q s'
  |dic u=>exact nB l (ys ++ [_]) _ h2 fun s'=>by simpa [U9,cT] using q s'
  |scr u=>injection hn
  |ktp u=>injection hn
theorem Mn:∀args k,gk args k->aH (aB oN ux) (aS args k) (aU 2 args):=by
 rintro args k ⟨l,s,ks,rfl,hs,hl,ht,q⟩;have hf:(l.filter fun t => !cT t).length<=l.length:=List.length_filter_le _ _;rcases hs with rfl|rfl
 ·refine⟨by lia,rfl,nB l [] _ ht fun s'=>⟨?_,q⟩⟩;show([]++l.filter fun t => !cT t).length+ks.length<=_;rw[Ua];lia
 ·refine⟨by lia,rfl,nB l [] _ ht fun s'=>⟨?_,q⟩⟩;show([]++l.filter fun t => !cT t).length+ks.length<=_;rw[Ua];lia
noncomputable def wordsL:List Str:=["num","name","op","pick","let","set","say","take","do","again","call","own","hole"]
def Nm (x:Str):Prop:=1<=x.length/\x.length<=8/\Az x
inductive bp (args:List Sl)(k:ad):Prop
 |mk (ns:List Int) (n:Nat) (z:Int) (s:Sl) (xs ds:List Str) (_:args = [.own (aC ns n z),s]) (_:eG s (xs.map ts)) (_:ns.length<=63) (_:n+10<=1000000000000) (_:xs.length<=16777216) (_:ds.length<=40) (_:(∀x∈xs,x∈ds)) (_:(∀x∈xs,Nm x)) (_:∀x n' z',Nm x->x∉xs->x∉wordsL->n'<=n+10->k (fs x) [.own (aC ns n' z'),s])
inductive cE (args:List Sl)(k:ad):Prop
 |mk (ns n z m:_) (_:args = [.own (aC ns n z),fi m]) (_:ns.length<=63) (_:0<=m) (_:m<=40) (_:n+1000<=1000000000000) (_:∀(xs:List Str) n' z',(xs.length:Int)=m->xs.Nodup->(∀x∈xs,Nm x/\x∉wordsL)->n'<=n+1000->k (.own (.lst (xs.map ts))) [.own (aC ns n' z'),fi m])
theorem GX {n0:Nat}{m:Int}(hl:ns.length<=63)(hm:m<=40)(j5:n0+1000<=1000000000000){P:PD}(hP:∀(xs:List Str) (n:Nat) (z:Int) (s:Option Sl),(xs.length:Int)=m->xs.Nodup->(∀x∈xs,Nm x/\x∉wordsL)->n<=n0+10*xs.length->P.nx ⟨[some (.out 0),some (fi m),some (.own (.lst (xs.map ts))),s],[.own (aC ns n z)],[]⟩):
  ∀(l:List Tv) (xs:List Str) (n:Nat) (z:Int) (s:Option Sl),(xs.length:Int)+l.length=m->xs.Nodup->(∀x∈xs,Nm x/\x∉wordsL)->n<=n0+10*xs.length →
   cN (bd (.nm 3)) (aH (aB (uL bp) (.exp (.mth .app (.var 2) (.cons (.call 0 (.cons (.var 0) (.cons (.var 2) .nil))) .nil))))) P l ⟨[some (.out 0),some (fi m),some (.own (.lst (xs.map ts))),s],[.own (aC ns n z)],[]⟩
 |[],xs,n,z,s,h,nd,hx,hn=>hP xs n z s (by simpa using h) nd hx hn
 |t::l,xs,n,z,s,h,nd,hx,hn=>by
  have h':(xs.length:Int)+(l.length+1:Nat)=m:=h;refine⟨rfl,rfl,ns,n,z,_,xs,xs,rfl,.inl rfl,hl,by lia,by lia,by lia,fun _ h=>h,fun x hxx=>(hx x hxx).1,fun x n' z' hN IJ hw hn'=>⟨?_,?_⟩⟩
  ·show(xs.map ts).length<16777216;rw[Ta];lia
  ·have e:xs.map ts ++ [ts x]=(xs ++ [x]).map ts:=by simp
   show cN _ _ _ l ⟨[_,_,some (.own (.lst (xs.map ts ++ [ts x]))),_],_,_⟩;rw[e];refine GX hl hm j5 hP l (xs ++ [x]) n' z' _ (by simp;lia) (nodup_append.mpr ⟨nd,by simp,fun a ha b hb=>by simp at hb;rw[hb];exact fun z=>IJ (z▸ha)⟩) (fun y hy=>?_) (by simp;lia);rcases TB.mp hy with q|q
   ·exact hx y q
   ·simp at q;rw[q];exact⟨hN,hw⟩
theorem Om:∀args k,cE args k->aH (aB (uL bp) Ag) (aS args k) (aU 4 args):=by
 rintro args k ⟨ns,n,z,m,rfl,hl,h0,h1,hn,q⟩;refine⟨fun M=>∃(xs:List Str) (n':Nat) (z':Int) (s:Option Sl),M=⟨[some (.out 0),some (fi m),some (.own (.lst (xs.map ts))),s],[.own (aC ns n' z')],[]⟩/\(xs.length:Int)=m/\xs.Nodup/\(∀x∈xs,Nm x/\x∉wordsL)/\n'<=n+10*xs.length,?_,?_⟩
 ·refine⟨⟨by lia,by lia⟩,GX hl h1 hn ?_ _ [] n z none ?_ nodup_nil (fun x hx=>by cases hx) (by simp)⟩
  ·exact fun xs n' z' s a b c d=>⟨xs,n',z',s,rfl,a,b,c,d⟩
  ·unfold fE;rw[Ta,length_range];show(0:Int)+_=_;lia
 ·rintro M ⟨xs,n',z',s,rfl,a,b,c,d⟩;exact q xs n' z' a b c (by lia)
inductive Tree (α : Type) where
 |nd (a : α) (ks:List (Tree α))
mutual
noncomputable def Tree.tv {α : Type}(f : α -> List V):Tree α -> Tv
 | .nd a ks=>.tup ((f a).map Tv.at++Tree.tvL f ks)
noncomputable def Tree.tvL {α : Type}(f : α -> List V):List (Tree α)->List Tv
 |[]=>[]
 |k::ks=>Tree.tv f k::Tree.tvL f ks
end
mutual
noncomputable def Tree.cnt {α : Type}:Tree α -> Nat
 | .nd _ ks=>1+Tree.cntL ks
noncomputable def Tree.cntL {α : Type}:List (Tree α)->Nat
 |[]=>0
 |k::ks=>Tree.cnt k+Tree.cntL ks
end
mutual
noncomputable def Tree.all {α : Type}:Tree α -> List (Tree α)
 | .nd a ks=>.nd a ks::Tree.allL ks
noncomputable def Tree.allL {α : Type}:List (Tree α)->List (Tree α)
 |[]=>[]
 |k::ks=>Tree.all k++Tree.allL ks
end
theorem eM (f : α -> List V):∀ks:List (Tree α),Tree.tvL f ks=ks.map (Tree.tv f)
 |[]=>rfl
 |k::ks=>by rw[Tree.tvL,eM f ks];rfl
mutual
theorem Tree.all_len {α : Type}:∀t:Tree α,t.all.length=t.cnt
 | .nd a ks=>by rw[Tree.all,Tree.cnt,Tz,Tree.allL_len ks];lia
theorem Tree.allL_len {α : Type}:∀ks:List (Tree α),(Tree.allL ks).length=Tree.cntL ks
 |[]=>rfl
 |k::ks=>by rw[Tree.allL,Tree.cntL,Tg,Tree.all_len k,Tree.allL_len ks]
end
theorem zi:∀a b:List (Tree α),Tree.allL (a++b)=Tree.allL a++Tree.allL b
 |[],b=>rfl
 |k::a,b=>by rw[TC,Tree.allL,Tree.allL,zi a b,TF]
inductive Wd where
 |num (i:Int)|name (x:Str)|take|op (s:Str)|pick|lt (x:Str)|st (x:Str)|say|do|again (m:Int)|call (f:Str)
noncomputable def Wd.hd:Wd->List V
 | .num i=>[.str "num",.int i]
 | .name x=>[.str "name",.str x]
 | .take=>[.str "take"]
 | .op s=>[.str "op",.str s]
 | .pick=>[.str "pick"]
 | .lt x=>[.str "let",.str x]
 | .st x=>[.str "set",.str x]
 | .say=>[.str "say"]
 | .do=>[.str "do"]
 | .again m=>[.str "again",.int m]
 | .call f=>[.str "call",.str f]
noncomputable abbrev E:=Tree Wd
abbrev E.tv (e:E):Tv:=Tree.tv Wd.hd e
abbrev E.tvL (ks:List E):List Tv:=Tree.tvL Wd.hd ks
noncomputable def gp:List Str:=["+","-","*","/","<","="]
structure Rl where
 X:Str->Prop
 A:Str->Nat->Prop
noncomputable def Ar (R:Rl):Wd->Nat->Prop
 | .num i,m=>m=0/\0<=i/\i<=999999999
 | .name x,m=>m=0/\R.X x
 | .take,m=>m=0
 | .op s,m=>m=2/\s∈gp
 | .pick,m=>m=3
 | .lt x,m=>m=2/\R.X x
 | .st x,m=>m=1/\R.X x
 | .say,m=>m=1
 | .do,m=>1<=m/\m<=6
 | .again j,m=>m=1/\0<=j/\j<=5
 | .call f,m=>m<=7/\Nm f/\R.A f m
inductive Ex (R:Rl):Nat->E->Prop where
 |mk {n:Nat} {w:Wd} {ks:List E} (h:Ar R w ks.length) (hk:∀k∈ks,Ex R n k):Ex R (n+1) (.nd w ks)
variable {R R':Rl}{ks ks':List E}{main:E}
theorem Ar.mono (hX:∀x,R.X x->R'.X x)(hA:∀f m,R.A f m->R'.A f m){w:Wd}{m:Nat}(h:Ar R w m):Ar R' w m:=by
 cases w with
 |name x=>exact⟨h.1,hX _ h.2⟩
 |lt x=>exact⟨h.1,hX _ h.2⟩
 |st x=>exact⟨h.1,hX _ h.2⟩
 |call f=>exact⟨h.1,h.2.1,hA _ _ h.2.2⟩
 |_=>exact h
theorem Ex.mono (hX:∀x,R.X x->R'.X x)(hA:∀f m,R.A f m->R'.A f m){n:Nat}{e:E}(h:Ex R n e):Ex R' n e:=by
 induction h with
 |mk h hk ih=>exact .mk (h.mono hX hA) ih
theorem Ex.up {n:Nat}{e:E}(h:Ex R n e):∀{m:Nat},n<=m->Ex R m e:=by
 induction h with
 |mk h hk ih=>intro m hm;obtain⟨j,rfl⟩:∃j,m=j+1:=⟨m-1,by lia⟩;exact .mk h fun k z=>ih k z (by lia)
theorem Ar.le {w:Wd}(h:Ar R w m):m<=7:=by
 cases w with
 |num i=>have:=h.1;lia
 |name x=>have:=h.1;lia
 |take=>have:m=0:=h;lia
 |op s=>have:=h.1;lia
 |pick=>have:m=3:=h;lia
 |lt x=>have:=h.1;lia
 |st x=>have:=h.1;lia
 |say=>have:m=1:=h;lia
 | «do» => have := h.2; lia
 |again j=>have:=h.1;lia
 |call f=>exact h.1
theorem B3 {l:List α}(h:l.length=1):∃a,l = [a]:=by
 match l,h with
 |[a],_=>exact⟨a,rfl⟩
theorem lb {l:List α}(h:l.length=2):∃a b,l = [a,b]:=by
 match l,h with
 |[a,b],_=>exact⟨a,b,rfl⟩
theorem E.tp (e:E):cT e.tv=true:=by cases e;rfl
theorem E.okTy (e:E):okTy e.tv:=by cases e;exact⟨_,rfl⟩
theorem m7 (w:Wd):(∀v∈w.hd,M50.okTy (.at v))/\1<=w.hd.length/\w.hd.length<=2:=by
 cases w <;> exact⟨fun v hv=>by
  simp only [Wd.hd,Ts,TQ,T7] at hv
  first
   | (rcases hv with rfl|rfl <;> exact⟨_,rfl⟩)
   | (subst hv;exact⟨_,rfl⟩),by simp [Wd.hd],by simp [Wd.hd]⟩
theorem Mm (ks:List E):(E.tvL ks).filter (fun t => !cT t) = []:=by rw[E.tvL,eM];exact filter_eq_nil_iff.mpr fun t ht=>by obtain⟨k,_,rfl⟩:=T5.mp ht;simp [E.tp k]
theorem cw (ks:List E):(E.tvL ks).length=ks.length:=by rw[E.tvL,eM,Ta]
theorem Ol (w:Wd)(ks:List E):((w.hd.map Tv.at++E.tvL ks).drop 1).filter cT=E.tvL ks:=by
 have h:=(m7 w).2.1;have e:(w.hd.map Tv.at++E.tvL ks).drop 1=(w.hd.drop 1).map Tv.at++E.tvL ks:=by rw[List.drop_append_of_le_length (by rw[Ta];exact h),map_drop]
 rw[e];exact yd _ _ fun k hk=>by rw[E.tvL,eM] at hk;obtain⟨k,_,rfl⟩:=T5.mp hk;exact E.tp k
theorem C8 (w:Wd)(ks:List E):(w.hd.map Tv.at++E.tvL ks).filter (fun t => !cT t)=w.hd.map Tv.at:=by rw[filter_append,Mm,TJ];exact filter_eq_self.mpr fun t ht=>by obtain⟨k,_,rfl⟩:=T5.mp ht;rfl
theorem tq (w:Wd)(ks:List E):∀t∈w.hd.map Tv.at++E.tvL ks,okTy t:=fun t ht=>by
 rcases TB.mp ht with h|h
 ·obtain⟨v,hv,rfl⟩:=T5.mp h;exact(m7 w).1 v hv
 ·rw[E.tvL,eM] at h;obtain⟨k,_,rfl⟩:=T5.mp h;exact E.okTy k
inductive ag (args:List Sl)(k:ad):Prop
 |mk (w:Wd) (ks:List E) (_:args = [.fz (Tree.tv Wd.hd (.nd w ks))]) (_:ks.length<=1000) (_:k (.own (.lst (E.tvL ks))) [.fz (Tree.tv Wd.hd (.nd w ks))])
theorem Kz {args:List Sl}{k:ad}(h:ag args k):eZ args k:=by
 obtain⟨w,ks,rfl,hl,q⟩:=h;have h2:=(m7 w).2.2;refine⟨w.hd.map Tv.at++E.tvL ks,rfl,?_,tq w ks,?_⟩
 ·rw[Tg,Ta,cw];lia
 ·rw[Ol];exact q
theorem Px:∀args k,ag args k->aH (aB oR uK) (aS args k) (aU 1 args):=fun args k h=>Oo args k (Kz h)
inductive aE (args:List Sl)(k:ad):Prop
 |mk (w:Wd) (ks:List E) (s:Sl) (js:List Tv) (_:args = [.fz (Tree.tv Wd.hd (.nd w ks)),s]) (_:eG s js) (_:ks.length<=1000) (_:js.length<=1000) (_:k (.fz (.tup (w.hd.map Tv.at++js))) [.fz (Tree.tv Wd.hd (.nd w ks)),s])
theorem J3 {args:List Sl}{k:ad}(h:aE args k):gk args k:=by
 obtain⟨w,ks,s,js,rfl,hs,hl,hj,q⟩:=h;have h2:=(m7 w).2.2;refine⟨w.hd.map Tv.at++E.tvL ks,s,js,rfl,hs,?_,tq w ks,?_⟩
 ·rw[Tg,Ta,cw];lia
 ·rw[C8];exact q
theorem Oj:∀args k,aE args k->aH (aB oN ux) (aS args k) (aU 2 args):=fun args k h=>Mn args k (J3 h)
inductive aQ (R:Rl)(N:Nat)(args:List Sl)(k:ad):Prop
 |mk (e:E) (_:args = [.fz e.tv]) (_:Ex R N e) (_:k (fi e.cnt) [.fz e.tv])
theorem Hu {k:List Tv->Ms->Prop}:∀(ks:List E) (ys:List Tv) (s:Option Sl),(∀t∈ks,Ex R N t)->(∀s',k (ys++ks.map fun t=>ti t.cnt) ⟨[s'],[],[]⟩)->aY (bd (.nm 0)) (av (rC ag (aQ R N)) .tt).t (av (rC ag (aQ R N)) (.call 1 (.cons (.var 0) .nil))).e k (E.tvL ks) ys ⟨[s],[],[]⟩
 |[],ys,s,_,q=>by have:=q s;rw[map_nil,TJ] at this;exact this
 |t::ks,ys,s,h,q=>⟨rfl,t,rfl,h t Te,Hu ks (ys ++ [ti t.cnt]) _ (fun x hx=>h x (Tb _ hx)) fun s'=>by simpa using q s'⟩
theorem Oi (ks:List E):((ks.map fun t=>ti t.cnt).map u3).sum=(Tree.cntL ks:Nat):=by
 induction ks with
 |nil=>rfl
 |cons t ts ih=>rw[TX,TX,List.sum_cons,ih];show(t.cnt:Int)+_=((t.cnt+Tree.cntL ts:Nat):Int);lia
theorem Pw (R:Rl)(N:Nat):∀args k,aQ R (N+1) args k->aH (aB (rC ag (aQ R N)) Af) (aS args k) (aU 1 args):=by
 rintro args k ⟨e,rfl,h,q⟩
 cases h with
 | @mk _ w ks h hk=>
  have hl:=h.le;refine⟨rfl,w,ks,rfl,by lia,?_⟩;refine⟨by rw[cw];lia,rfl,Hu ks [] _ hk fun s'=>?_⟩;refine⟨fun t ht=>by obtain⟨u,_,rfl⟩:=T5.mp ht;exact⟨_,rfl⟩,?_⟩
  have q':∀i:Int,i=1+(Tree.cntL ks:Nat)->k (fi i) _:=fun i hi=>by
   have:((Tree.cnt (.nd w ks):Nat):Int)=i:=by rw[hi,Tree.cnt];lia
   rw[<- this];exact q
  exact q' _ (by rw[Ua,Oi])
inductive cQ (R:Rl)(N:Nat)(args:List Sl)(k:ad):Prop
 |mk (e:E) (_:args = [.fz e.tv]) (_:Ex R N e) (_:e.cnt<=10000000) (_:k (.own (.lst (E.tvL e.all))) [.fz e.tv])
theorem Gr {P:PD}{e:E}(hk:Tree.cntL ks<=10000000)(hP:∀s,P.nx ⟨[some (.fz e.tv),some (.own (.lst (e.tv::E.tvL (Tree.allL ks)))),s],[],[]⟩):
  ∀(l pre:List E) (s:Option Sl),pre++l=ks->(∀t∈l,Ex R N t)->cN (bd (.nm 2)) (aH (aB (uf ag (cQ R N)) (.set 1 (.bin .add (.var 1) (.call 1 (.cons (.var 2) .nil)))))) P (E.tvL l) ⟨[some (.fz e.tv),some (.own (.lst (e.tv::E.tvL (Tree.allL pre)))),s],[],[]⟩
 |[],pre,s,h,_=>by rw[TJ] at h;subst h;exact hP s
 |t::l,pre,s,h,ht=>by
  have e1:E.tvL (Tree.allL (pre ++ [t]))=E.tvL (Tree.allL pre)++E.tvL t.all:=by rw[zi];show E.tvL (Tree.allL pre++(t.all ++ []))=_;rw[TJ];simp only [E.tvL,eM,T2]
  have len:(Tree.allL ks).length=(Tree.allL pre).length+t.all.length+(Tree.allL l).length:=by rw[<- h,zi];show(Tree.allL pre++(t.all++Tree.allL l)).length=_;simp only [Tg];lia
  rw[Tree.allL_len ks] at len;have c:=t.all_len;refine⟨rfl,t,rfl,ht t Te,by lia,?_,?_⟩
  ·show(e.tv::E.tvL (Tree.allL pre)).length+(E.tvL t.all).length<=_;rw[Tz,cw,cw];lia
  ·show cN _ _ _ (E.tvL l) ⟨[_,some (.own (.lst (e.tv::(E.tvL (Tree.allL pre)++E.tvL t.all)))),_],[],[]⟩;rw[<- e1];exact Gr hk hP l (pre ++ [t]) _ (by rw[<- h];simp) fun x hx=>ht x (Tb _ hx)
theorem Ml (R:Rl)(N:Nat):∀args k,cQ R (N+1) args k->aH (aB (uf ag (cQ R N)) yL) (aS args k) (aU 3 args):=by
 rintro args k ⟨e,rfl,h,hc,q⟩
 cases h with
 | @mk _ w ks h hk=>
  have hl:=h.le;rw[Tree.cnt] at hc;have q':k (.own (.lst (E.tv (.nd w ks)::E.tvL (Tree.allL ks)))) [.fz (E.tv (.nd w ks))]:=q;generalize hE:(Tree.nd w ks:E)=e0 at q';refine⟨fun M=>∃s,M=⟨[some (.fz (E.tv e0)),some (.own (.lst ((E.tv e0)::E.tvL (Tree.allL ks)))),s],[],[]⟩,?_,?_⟩
  ·subst hE;refine⟨rfl,w,ks,rfl,by lia,?_⟩;refine Gr (ks:=ks) (e:=.nd w ks) (by lia) ?_ ks [] none rfl hk;exact fun s=>⟨s,rfl⟩
  ·rintro M ⟨s,rfl⟩;exact q'
noncomputable def mi (m:Int)(i:Nat):Int:=(m-1+i) % 8+1
def jq (x m:Int)(u:Str)(j:Nat):Prop:=(u.length:Int)=mi m j/\u.cps.toList[0]? = some (97+((x+j) % 26).toNat)
noncomputable instance (x m:Int)(u:Str)(j:Nat):Decidable (jq x m u j):=by unfold jq;exact inferInstance
theorem Pu {x m:Int}{u:Str}(hi:i<=60)(hj:j<i)(a:jq x m u i)(b:jq x m u j):False:=by
 obtain⟨a1,a2⟩:=a;obtain⟨b1,b2⟩:=b;unfold mi at a1 b1;rw[a2] at b2;have b3:=Tw b2;have h1:0<=(x+i) % 26:=by lia
 have h2:0<=(x+j) % 26:=by lia
 omega
structure Left (x m:Int)(ex R:List Str)(i:Nat):Prop where
 few:R.length+i<=54
 all:∀u∈ex,u∈R∨∃j,j<i/\jq x m u j
theorem Left.zero {x m:Int}{ex:List Str}(h:ex.length<=53):Left x m ex ex 0:=⟨by lia,fun u hu=>.inl hu⟩
theorem Left.one {x m:Int}{ex:List Str}(h:ex.length<=53):Left x m ex ex 1:=⟨by lia,fun u hu=>.inl hu⟩
theorem Left.next {x m:Int}{ex R:List Str}{t:Str}(h:Left x m ex R i)(ht:t∈ex)(k:jq x m t i):Left x m ex (R.filter fun u => !decide (jq x m u i)) (i+1):=by
 have hR:t∈R:=by
  rcases h.all t ht with z|⟨j,hj,kj⟩
  ·exact z
  ·exact(Pu (by have:=h.few;lia) hj k kj).elim
 have hlt:(R.filter fun u => !decide (jq x m u i)).length<R.length:=by rw[List.length_filter_lt_length_iff_exists];exact⟨t,hR,by simp [k]⟩
 refine⟨by have:=h.few;lia,fun u hu=>?_⟩;rcases h.all u hu with z|⟨j,hj,kj⟩
 ·by_cases q:jq x m u i
  ·exact .inr ⟨i,Nat.lt_succ_self _,q⟩
  ·exact .inl (mem_filter.mpr ⟨z,by simp [q]⟩)
 ·exact .inr ⟨j,by lia,kj⟩
theorem ic (t:Str)(xs:List Str):dY (.str t) ((xs.map ts).map dE)=true↔t∈xs:=by
 have e:(xs.map ts).map dE=xs.map V.str:=by rw[map_map];rfl
 rw[e];unfold dY;rw[List.any_map,List.any_eq_true];constructor
 ·rintro⟨y,hy,e⟩;have e':(y==t)=true:=e;rw[<- TN.mp e'];exact hy
 ·intro h;exact⟨t,h,UW t⟩
theorem fF (xs:List Str):flatL (xs.map ts):=fun t h=>by obtain⟨i,_,rfl⟩:=T5.mp h;exact⟨_,rfl,rfl⟩
theorem ue {xs:List Str}(h:(true ^^ (xs.map ts).isEmpty)=true):xs ≠ []:=fun z=>by rw[z] at h;exact absurd h (by decide)
theorem Nm.ch {c:Nat}(hx:Az x)(h:c∈x.cps.toList):Az ⟨#[c]⟩:=fun d hd=>by
 have:d=c:=by simpa using hd
 rw[this];exact hx c h
theorem zh (h:Az x):Az (Txt.slice x lo hi):=by
 unfold Txt.slice
 split
 ·exact h
 ·intro c hc;have hc':=hc;simp only [mem_filterMap] at hc';obtain⟨i,_,e⟩:=hc';exact h c (Array.mem_toList_iff.mpr (Array.mem_of_getElem? e))
theorem FQ {t:Str}(h:1<=t.length):∃c,eh t.cps.toList 0=some c/\c∈t.cps.toList:=
 iD (by decide) (by
  have hl:t.cps.toList.length=t.length:=by simp [Str.length]
  rw[hl];lia)
noncomputable instance (x:Str):Decidable (Az x):=by unfold Az;exact inferInstance
theorem Oh:∀w∈wordsL,1<=w.length/\w.length<=5/\Az w:=by decide+kernel
noncomputable def smallL:List Str:=["a","b","c","d","x","y","z","n","v","aa","ab","tmp"]
theorem Og:∀w∈smallL,1<=w.length/\w.length<=8/\Az w:=by decide+kernel
theorem Nm.app {y:Str}(h1:Az x)(h2:Az y)(h3:1<=x.length+y.length)(h4:x.length+y.length<=8):Nm (x++y):=⟨by rw[lO];exact h3,by rw[lO];exact h4,h1.app h2⟩
def tj (a1:Sl)(aj:List Sl)(ns:List Int)(n:Nat)(df m u:Int)(M:Ms):Prop:=∃(x:Str) (n':Nat) (z':Int) (o7 o8:Option Sl),M=⟨[some (.out 0),some a1,some (.own (.lst (wordsL.map ts))),some (fi df),some (fi m),some (fi u),some (fs x),o7,o8],.own (aC ns n' z')::aj,[]⟩/\Nm x/\n'<=n
def DT (a1:Sl)(aj:List Sl)(ns:List Int)(n:Nat)(z df m U:Int)(o7 o8:Option Sl)(ex:List Str)(j:Nat)(M:Ms):Prop:=∃(i:Nat) (R:List Str) (t:Str),j+i=100/\M=⟨[some (.out 0),some a1,some (.own (.lst (wordsL.map ts))),some (fi df),some (fi (mi m i)),some (fi (U+i)),some (fs t),o7,o8],.own (aC ns n z)::aj,[]⟩/\Nm t/\Left U m ex R i/\(0<i->jq U m t i)
theorem Of {n n8:Nat}{z8 m U:Int}{s:Sl}{xs ds:List Str}{k:ad}{a1:Sl}{o7 o8:Option Sl}{f0:Ob}
  (hn:n+10<=1000000000000) (hd:ds.length<=40) (vU:∀x∈xs,x∈ds) (hN:Nm x) (sD:n8<=n+9) (hm:1<=m/\m<=8)
  (hA:(a1 = .out 1/\aj = [.own (.lst (xs.map ts))]/\s = .own (.lst (xs.map ts)))∨(a1 = .fz (.lst (xs.map ts))/\aj = []/\s = .fz (.lst (xs.map ts))))
  (q:∀x n' z',Nm x->x∉xs->x∉wordsL->n'<=n+10->k (fs x) [.own (aC ns n' z'),s]):
  aH (aB (uy aG bD) (.cut (.whl (.or (.cmp .isin (.var 6) (.var 1)) (.cmp .isin (.var 6) (.var 2))) (.seq (.set 5 (.bin .add (.var 5) (.cst (.int 1)))) (.seq (.set 4 (.bin .add (.bin .mod (.var 4) (.cst (.int 8))) (.cst (.int 1)))) (.set 6 (.call 1 (.cons (.var 5) (.cons (.var 4) .nil))))))) (.ret (.var 6)))) (aS [.own f0,s] k) ⟨[some (.out 0),some a1,some (.own (.lst (wordsL.map ts))),some (fi df),some (fi m),some (fi U),some (fs x),o7,o8],.own (aC ns n8 z8)::aj,[]⟩:=by
 have hex:(ds++wordsL).length<=53:=by
  rw[Tg];have:wordsL.length=13:=by decide+kernel
  lia
 rw[lG];refine⟨fun M=>∃(y:Str) (o4 o5:Option Sl),M=⟨[some (.out 0),some a1,some (.own (.lst (wordsL.map ts))),some (fi df),o4,o5,some (fs y),o7,o8],.own (aC ns n8 z8)::aj,[]⟩/\Nm y/\y∉xs/\y∉wordsL,?_,?_⟩
 ·refine⟨DT a1 aj ns n8 z8 df m U o7 o8 (ds++wordsL),⟨100,0,_,x,rfl,?_,hN,Left.zero hex,fun z=>absurd z (Ul _)⟩,?_⟩
  ·have e1:mi m 0=m:=by unfold mi;lia
   have e2:U+((0:Nat):Int)=U:=by lia
   rw[e1,e2]
  ·rintro j M ⟨i,R,t,hj,rfl,ht,hL,hK⟩
   have hi:i<=54:=by have:=hL.few;lia
   have e1:mi m i % 8+1=mi m (i+1):=by unfold mi;lia
   have e2:U+(i:Int)+1=U+((i+1:Nat):Int):=by lia
   have e3:1<=mi m (i+1)/\mi m (i+1)<=8:=by unfold mi;lia
   have fin:t∈ds++wordsL->∀t':Str,(t'.length:Int)=mi m i % 8+1->Az t'->(1<=mi m i % 8+1->t'.cps.toList[0]? = some (97+((U+i+1) % 26).toNat)) →
      ∃j',j'<j/\DT a1 aj ns n8 z8 df m U o7 o8 (ds++wordsL) j' ⟨[some (.out 0),some a1,some (.own (.lst (wordsL.map ts))),some (fi df),some (fi (mi m i % 8+1)),some (fi (U+i+1)),some (fs t'),o7,o8],.own (aC ns n8 z8)::aj,[]⟩:=by
    intro gf t' h1 h2 h3;rw[e1] at h1 h3;rw[e2] at h3;have hk:jq U m t' (i+1):=⟨h1,h3 (by lia)⟩;rw[e1,e2]
    by_cases hz:i=0
    ·subst hz;exact⟨j-1,by lia,1,_,t',by lia,rfl,⟨by lia,by lia,h2⟩,Left.one hex,fun _=>hk⟩
    ·exact⟨j-1,by lia,i+1,_,t',by lia,rfl,⟨by lia,by lia,h2⟩,hL.next gf (hK (by lia)),fun _=>hk⟩
   have wG:¬ (false ^^ dY (.str t) ((xs.map ts).map dE))=true->¬ (false ^^ dY (.str t) ((wordsL.map ts).map dE))=true->∃(y:Str) (o4 o5:Option Sl),(⟨[some (.out 0),some a1,some (.own (.lst (wordsL.map ts))),some (fi df),some (fi (mi m i)),some (fi (U+i)),some (fs t),o7,o8],.own (aC ns n8 z8)::aj,[]⟩:Ms)=⟨[some (.out 0),some a1,some (.own (.lst (wordsL.map ts))),some (fi df),o4,o5,some (fs y),o7,o8],.own (aC ns n8 z8)::aj,[]⟩/\Nm y/\y∉xs/\y∉wordsL:=fun g g2=>
    ⟨t,_,_,rfl,ht,fun z=>g (by rw[(ic t xs).mpr z];rfl),fun z=>g2 (by rw[(ic t wordsL).mpr z];rfl)⟩
   have i1:(false ^^ dY (.str t) ((xs.map ts).map dE))=true->t∈ds++wordsL:=fun g=>TB.mpr (.inl (vU t ((ic t xs).mp (by simpa using g))));have i2:(false ^^ dY (.str t) ((wordsL.map ts).map dE))=true->t∈ds++wordsL:=fun g=>TB.mpr (.inr ((ic t wordsL).mp (by simpa using g)));rcases hA with ⟨rfl,rfl,rfl⟩|⟨rfl,rfl,rfl⟩
   all_goals
    refine⟨⟨fF xs,rfl⟩,aL (fun g=>?_) (fun g=>⟨⟨fF wordsL,rfl⟩,aL (fun g2=>?_) (fun g2=>wG g g2)⟩)⟩
    ·exact⟨by show(0:Int)<8;decide,rfl,_,_,rfl,by lia,by lia,fin (i1 g)⟩
    ·exact⟨by show(0:Int)<8;decide,rfl,_,_,rfl,by lia,by lia,fin (i2 g2)⟩
 ·rintro M ⟨y,o4,o5,rfl,h1,h2,h3⟩;rcases hA with ⟨rfl,rfl,rfl⟩|⟨rfl,rfl,rfl⟩ <;> exact q y n8 z8 h1 h2 h3 (by lia)
theorem Mj:∀args k,bp args k->aH (aB (uy aG bD) zu) (aS args k) (aU 9 args):=by
 rintro args k ⟨ns,n,z,s,xs,ds,rfl,hs,hl,hn,hxl6,hd,vU,hx,q⟩;rcases hs with rfl|rfl
 all_goals
  refine⟨by decide,rfl,ns,n,z,6,rfl,hl,by lia,by decide,by decide,fun df n1 z1 w0 w1 hn1=>?_⟩;refine⟨rfl,ns,n1,z1,8,rfl,hl,by lia,by decide,by decide,fun m n2 z2 m0 m1 cy=>?_⟩;refine⟨rfl,ns,n2,z2,456976,rfl,hl,by lia,by decide,by decide,fun u n3 z3 u0 u1 gY=>?_⟩;refine⟨qM (by decide) (by decide),rfl,ns,n3,z3,456976,rfl,hl,by lia,by decide,by decide,fun v n4 z4 v0 v1 nS=>?_⟩;refine⟨rfl,_,_,rfl,by lia,by lia,fun x vz Bx SR=>?_⟩;have hN:Nm x:=⟨by lia,by lia,Bx⟩;generalize hU:u*456976+v=U;have SX:0<=U:=by lia
  refine⟨tj _ _ ns (n+6) df (1+m) U,aL (fun g=>?_) (fun g=>⟨x,n4,z4,none,none,rfl,hN,by lia⟩),?_⟩
  ·refine⟨rfl,ns,n4,z4,13,rfl,hl,by lia,by decide,by decide,fun r n5 z5 r0 r1 nR=>?_⟩;obtain⟨t,e,ht⟩:=iD (l:=wordsL.map ts) (i:=r) r0 r1;obtain⟨wd,hw,rfl⟩:=T5.mp ht;obtain⟨c,hc,hcm⟩:=FQ hN.1;have w3:=Oh wd hw;have c1:(⟨#[c]⟩:Str).length=1:=rfl;refine bx e (bx (o:=(eh x.cps.toList 0).map fun c=>.at (.str ⟨#[c]⟩)) (t:=ts ⟨#[c]⟩) (by rw[hc];rfl) ⟨?_,_,n5,z5,none,none,rfl,Nm.app w3.2.2 (Nm.ch Bx hcm) (by lia) (by lia),by lia⟩);show wd.length+1<=16777216;lia
  rintro M ⟨x,n5,z5,o7,o8,rfl,hN,nR⟩;refine⟨tj _ _ ns (n+7) df (1+m) U,aL (fun g=>?_) (fun g=>⟨x,n5,z5,o7,o8,rfl,hN,by lia⟩),?_⟩
  ·refine⟨rfl,ns,n5,z5,12,rfl,hl,by lia,by decide,by decide,fun r n6 z6 r0 r1 vC=>?_⟩;obtain⟨t,e,ht⟩:=iD (l:=smallL.map ts) (i:=r) r0 r1;obtain⟨wd,hw,rfl⟩:=T5.mp ht;have w3:=Og wd hw;exact bx e ⟨_,n6,z6,o7,o8,rfl,⟨w3.1,w3.2.1,w3.2.2⟩,by lia⟩
  rintro M ⟨x,n6,z6,o7,o8,rfl,hN,vC⟩;have tk:xs ≠ []->∀{r:Int},0<=r->r<((xs.map ts).length:Nat)->∃y,eh (xs.map ts) r=some (ts y)/\y∈xs:=fun _ r r0 r1=>by obtain⟨t,e,ht⟩:=iD (l:=xs.map ts) (i:=r) r0 r1;obtain⟨y,hy,rfl⟩:=T5.mp ht;exact⟨y,e,hy⟩
  have tl:xs ≠ []->(0:Int)<((xs.map ts).length:Nat):=fun h=>by rw[Ta];have:=length_pos_iff.mpr h;lia
  refine⟨tj _ _ ns (n+8) df (1+m) U,aL (fun g=>aL (fun g2=>?_) (fun g2=>⟨x,n6,z6,o7,o8,rfl,hN,by lia⟩)) (fun g=>⟨x,n6,z6,o7,o8,rfl,hN,by lia⟩),?_⟩
  ·have ne:=ue g2
   refine⟨rfl,ns,n6,z6,_,rfl,hl,by lia,tl ne,by rw[Ta];lia,fun r n7 z7 r0 r1 BG=>?_⟩;obtain⟨y,e,hy⟩:=tk ne r0 r1;have hy3:=hx y hy;have h8:0<=U % 8/\U % 8<8:=⟨by lia,by lia⟩;have c1:=Nu (x:=y++x) (j:=1+U % 8) (by rw[lO];have:=hy3.1;lia) (by lia);have c2:=D4 (x:=y++x) (j:=1+U % 8) (by lia);have l1:=hy3.2.1;have l2:=hN.2.1;refine bx e ⟨?_,by show(0:Int)<8;decide,?_,_,n7,z7,o7,o8,rfl,⟨by lia,by lia,zh (hy3.2.2.app hN.2.2)⟩,by lia⟩
   ·show y.length+x.length<=16777216;lia
   ·show(Txt.slice (y++x) none (some (1+U % 8))).length<=16777216;lia
  rintro M ⟨x,n7,z7,o7,o8,rfl,hN,BG⟩;refine⟨tj _ _ ns (n+9) df (1+m) U,aL (fun g=>aL (fun g2=>?_) (fun g2=>⟨x,n7,z7,o7,o8,rfl,hN,by lia⟩)) (fun g=>⟨x,n7,z7,o7,o8,rfl,hN,by lia⟩),?_⟩
  ·have ne:=ue g2
   refine⟨rfl,ns,n7,z7,_,rfl,hl,by lia,tl ne,by rw[Ta];lia,fun r n8 z8 r0 r1 sD=>?_⟩;obtain⟨y,e,hy⟩:=tk ne r0 r1;have hy3:=hx y hy;have l1:=hy3.2.1;have l0:=hy3.1;obtain⟨c,hc,hcm⟩:=FQ hN.1;have hy0:(0:Int)<(y.length:Nat):=by lia
   have h9:0<=U % (y.length:Nat)/\U % (y.length:Nat)<(y.length:Nat):=⟨Int.emod_nonneg _ (by lia),Int.emod_lt_of_pos _ hy0⟩;generalize hJ:U % (y.length:Nat)=J at h9;have c1:=D4 (x:=y) (j:=J) h9.1;have c3:=OZ (x:=y) (i:=J+1) (by lia) (by lia);have hs1:=Txt.slice_le y none (some J);have c4:(⟨#[c]⟩:Str).length=1:=rfl;refine bx e ⟨hy0,?_⟩;subst hJ;refine⟨?_,bx (o:=(eh x.cps.toList 0).map fun c=>.at (.str ⟨#[c]⟩)) (t:=ts ⟨#[c]⟩) (by rw[hc];rfl) ⟨?_,?_,?_,_,n8,z8,_,_,rfl,Nm.app ((zh hy3.2.2).app (Nm.ch hN.2.2 hcm)) (zh hy3.2.2) ?_ ?_,by lia⟩⟩
   ·show(Txt.slice y none (some (U % (y.length:Nat)))).length<=16777216;lia
   ·show(Txt.slice y none (some (U % (y.length:Nat)))).length+1<=16777216;lia
   ·show(Txt.slice y (some (U % (y.length:Nat)+1)) none).length<=16777216;lia
   ·show(Txt.slice y none (some (U % (y.length:Nat)))++(⟨#[c]⟩:Str)).length+(Txt.slice y (some (U % (y.length:Nat)+1)) none).length<=16777216;rw[lO];lia
   ·rw[lO];lia
   ·rw[lO];lia
  rintro M ⟨x,n8,z8,o7,o8,rfl,hN,sD⟩;exact Of hn hd vU hN sD ⟨by lia,by lia⟩ (by simp) q
mutual
noncomputable def Tree.inn {α : Type}:Tree α -> Nat
 | .nd _ ks=>(if ks.isEmpty then 0 else 1)+Tree.innL ks
noncomputable def Tree.innL {α : Type}:List (Tree α)->Nat
 |[]=>0
 |k::ks=>Tree.inn k+Tree.innL ks
end
theorem FP:∀a b:List (Tree α),Tree.innL (a++b)=Tree.innL a+Tree.innL b
 |[],b=>by simp [Tree.innL]
 |k::a,b=>by rw[TC,Tree.innL,Tree.innL,FP a b];lia
theorem Ex.cnt_inn {e:E}(h:Ex R N e):e.cnt<=1+7*e.inn:=by
 induction h with
 | @mk n w ks h hk ih=>
  have gx:∀l:List E,(∀k∈l,k.cnt<=1+7*k.inn)->Tree.cntL l<=l.length+7*Tree.innL l:=fun l=>by
   induction l with
   |nil=>intro _;simp [Tree.cntL,Tree.innL]
   |cons k l ih2=>intro hl;have h1:=hl k Te;have h2:=ih2 fun j hj=>hl j (Tb _ hj);rw[Tree.cntL,Tree.innL,Tz];lia
  have h1:=gx ks ih;have h2:=h.le;rw[Tree.cnt,Tree.inn]
  cases ks with
  |nil=>simp [Tree.cntL]
  |cons k ks=>simp only [isEmpty_cons,Uo,UU];lia
noncomputable def cH (r:Int):Nat:=(r-6).toNat
structure Wo where
 names:List Str
 lets:List Str
 fs:List (Str×Nat)
 ws:List (aw×Tv)
 sd:List Tv
 room:Int
 toil:Int
def hZ (p:Str×Nat):Tv:=.tup [ts p.1,ti p.2]
def cZ (W:Wo):Ob:=.dic [(.inr "names",.lst (W.names.map ts)),(.inr "lets",.lst (W.lets.map ts)),(.inr "functions",.lst (W.fs.map hZ)),(.inr "works",.dic W.ws),(.inr "seeds",.lst W.sd),(.inr "room",ti W.room),(.inr "toil",ti W.toil),(.inr "takes",.at (.bl true))]
structure WoOk (R:Rl)(W:Wo):Prop where
 n0:W.names ≠ []
 n1:W.names.length<=40
 l1:W.lets.length<=40
 f1:W.fs.length<=40
 nX:∀x∈W.names,R.X x
 lX:∀x∈W.lets,R.X x
 fA:∀p∈W.fs,R.A p.1 p.2/\Nm p.1/\p.2<=6/\∃i,bZ W.ws (.inr p.1)=some (ti i)
noncomputable def Wo.at (W:Wo)(r t:Int):Wo:={ W with room:=r,toil:=t }
theorem WoOk.at {W:Wo}(h:WoOk R W)(r t:Int):WoOk R (W.at r t):=⟨h.n0,h.n1,h.l1,h.f1,h.nX,h.lX,h.fA⟩
theorem kg {xs:List Str}{r:Int}(r0:0<=r)(r1:r<((xs.map ts).length:Nat)):∃y,eh (xs.map ts) r=some (ts y)/\y∈xs:=by obtain⟨t,e,ht⟩:=iD (l:=xs.map ts) (i:=r) r0 r1;obtain⟨y,hy,rfl⟩:=T5.mp ht;exact⟨y,e,hy⟩
theorem Mi {xs:List Str}(h:¬ (false ^^ (xs.map ts).isEmpty)=true):xs ≠ []:=fun z=>h (by rw[z];rfl)
theorem lF {xs:List Str}(h:xs ≠ []):(0:Int)<((xs.map ts).length:Nat):=by rw[Ta];have:=length_pos_iff.mpr h;lia
inductive cn (R:Rl)(args:List Sl)(k:ad):Prop
 |mk (ns:List Int) (n:Nat) (z:Int) (W:Wo) (s:Sl) (bs:List Str) (_:args = [.own (aC ns n z),.own (cZ W),s]) (_:eG s (bs.map ts)) (_:ns.length<=63) (_:n+10<=1000000000000) (_:WoOk R W) (_:bs.length<=1000) (_:(∀x∈bs,R.X x)) (_:∀(e:E) n' z',Ex R 1 e->e.inn=0->n'<=n+10->k (.fz (E.tv e)) [.own (aC ns n' z'),.own (cZ W),s])
theorem Mh (R:Rl):∀args k,cn R args k->aH (aB (zp aG di) zq) (aS args k) (aU 5 args):=by
 rintro args k ⟨ns,n,z,W,s,bs,rfl,hs,hl,hn,hW,hb,hbX,q⟩;have hn1:=hW.n1;have app:∀(a b c:List Str),a.map ts++b.map ts++c.map ts=(a++b++c).map ts:=fun a b c=>by simp
 have X3:∀x∈W.names++bs++bs,R.X x:=fun x hx=>by
  simp only [TB] at hx;rcases hx with (h|h)|h
  ·exact hW.nX x h
  ·exact hbX x h
  ·exact hbX x h
 have lf:∀(w:Wd),Ar R w 0->Ex R 1 (.nd w []):=fun w h=>.mk h fun k hk=>by cases hk
 rcases hs with rfl|rfl
 all_goals
  refine⟨rfl,ns,n,z,6,rfl,hl,by lia,by decide,by decide,fun df n1 z1 w0 w1 hn1=>?_⟩;refine aL (fun g=>q (.nd .take []) n1 z1 (lf _ rfl) rfl (by lia)) (fun g=>?_);refine⟨by show(W.names.map ts).length+(bs.map ts).length<=_;rw[Ta,Ta];lia,by show(W.names.map ts++bs.map ts).length+(bs.map ts).length<=_;rw[Tg,Ta,Ta];lia,?_⟩;have num:∀{n2:Nat} {z2:Int} (i:Int),0<=i->i<=999999999->n2<=n+10->k (.fz (.tup [ts "num",ti i])) [.own (aC ns n2 z2),.own (cZ W),_]:=fun i h0 h1 h2=>q (.nd (.num i) []) _ _ (lf _ ⟨rfl,h0,h1⟩) rfl h2;rw[app];refine aL (fun g=>?_) (fun g=>aL (fun g2=>?_) (fun g2=>?_))
  ·exact⟨rfl,ns,n1,z1,rfl,hl,by lia,fun r n2 z2 r0 r1 h2=>num r r0 r1 (by lia)⟩
  ·exact⟨rfl,ns,n1,z1,rfl,hl,by lia,fun r n2 z2 r0 r1 h2=>num r r0 r1 (by lia)⟩
  ·have ne:=Mi g2;refine⟨rfl,ns,n1,z1,_,rfl,hl,by lia,lF ne,by rw[Ta];simp only [Tg];lia,fun r n2 z2 r0 r1 h2=>?_⟩;obtain⟨y,e,hy⟩:=kg r0 r1;exact bx e (q (.nd (.name y) []) n2 z2 (lf _ ⟨rfl,X3 y hy⟩) rfl (by lia))
inductive b7 (R:Rl)(args:List Sl)(k:ad):Prop
 |mk (ns:List Int) (n:Nat) (z:Int) (W:Wo) (s:Sl) (bs:List Str) (a b:Int) (_:args = [.own (aC ns n z),.own (cZ W),s,fi a,fi b]) (_:eG s (bs.map ts)) (_:ns.length<=63) (_:n+10<=1000000000000) (_:WoOk R W) (_:bs.length<=1000) (_:(∀x∈bs,R.X x)) (_:∀(e:E) n' z',Ex R 1 e->e.inn=0->n'<=n+10->k (.fz (E.tv e)) [.own (aC ns n' z'),.own (cZ W),s,fi a,fi b])
theorem Pr (R:Rl):∀args k,b7 R args k->aH (aB (AA (cn R)) AB) (aS args k) (aU 5 args):=by
 rintro args k ⟨ns,n,z,W,s,bs,a,b,rfl,hs,hl,hn,hW,hb,hbX,q⟩;rcases hs with rfl|rfl
 ·exact⟨rfl,ns,n,z,W,_,bs,rfl,.inl rfl,hl,hn,hW,hb,hbX,fun e n' z' h1 h0 h2=>q e n' z' h1 h0 h2⟩
 ·exact⟨rfl,ns,n,z,W,_,bs,rfl,.inr rfl,hl,hn,hW,hb,hbX,fun e n' z' h1 h0 h2=>q e n' z' h1 h0 h2⟩
noncomputable def D (b:Nat):Nat:=20*8 ^ b
theorem Ky (b:Nat):D (b+1)=8*D b:=by unfold D;rw[Nat.pow_succ];lia
theorem xI (b:Nat):20<=D b:=by unfold D;have:0<8 ^ b:=Nat.pos_of_ne_zero (by simp);lia
inductive bL (R:Rl)(b:Nat)(args:List Sl)(k:ad):Prop
 |mk (ns:List Int) (n:Nat) (z:Int) (W:Wo) (s:Sl) (bs:List Str) (β tm:Int) (_:args = [.own (aC ns n z),.own (cZ W),s,fi β,fi tm]) (_:eG s (bs.map ts)) (_:ns.length<=63) (_ : β = b) (_:1<=b) (_:n+D b<=1000000000000) (_:WoOk R W) (_:bs.length+b<=1000) (_:(∀x∈bs,R.X x)) (_:0<=tm) (_:tm*5 ^ b<=1000000000) (_:∀(e:E) n' z' r t,Ex R b e->e.inn+cH r<=cH W.room->n'<=n+D b->k (.fz (E.tv e)) [.own (aC ns n' z'),.own (cZ (W.at r t)),s,fi β,fi tm])
noncomputable def dI:List Str:=["let","set","say"]
inductive fh (R:Rl)(b:Nat)(args:List Sl)(k:ad):Prop
 |mk (ns:List Int) (n:Nat) (z:Int) (W:Wo) (s:Sl) (bs:List Str) (β tm:Int) (kd:Str) (_:args = [.own (aC ns n z),.own (cZ W),s,fi β,fi tm,fs kd]) (_:eG s (bs.map ts)) (_:kd∈dI) (_:ns.length<=63) (_ : β - 1=b) (_:1<=b) (_:n+10+2*D b<=1000000000000) (_:WoOk R W) (_:bs.length+b+1<=1000) (_:(∀x∈bs,R.X x)) (_:0<=tm) (_:tm*5 ^ b<=1000000000) (_:∀(e:E) n' z' r t,Ex R (b+1) e->e.inn+cH r<=1+cH W.room->n'<=n+10+2*D b->k (.fz (E.tv e)) [.own (aC ns n' z'),.own (cZ (W.at r t)),s,fi β,fi tm,fs kd])
theorem zS {bs:List Str}{k:List Tv->Ms->Prop}(hA:(a0 = .out 0/\aj = [.own (.lst (bs.map ts))])∨(a0 = .fz (.lst (bs.map ts))/\aj = [])):
  ∀(l ak:List Str) (s:Option Sl),(∀(ys:List Str) s',(∀y∈ys,y∈ak∨y∈l)->ys.length<=ak.length+l.length->k (ys.map ts) ⟨[some a0,s'],aj,[]⟩)->aY (bd (.nm 1)) (av Γ (.cmp .notin (.var 1) (.var 0))).t (av Γ (.var 1)).e k (l.map ts) (ak.map ts) ⟨[some a0,s],aj,[]⟩
 |[],ak,s,q=>q ak s (fun y h=>.inl h) (by simp)
 |x::l,ak,s,q=>by
  have h1:∀s,aY (bd (.nm 1)) (av Γ (.cmp .notin (.var 1) (.var 0))).t (av Γ (.var 1)).e k (l.map ts) (ak.map ts ++ [ts x]) ⟨[some a0,s],aj,[]⟩:=fun s=>by
   have e:ak.map ts ++ [ts x]=(ak ++ [x]).map ts:=by simp
   rw[e];refine zS hA l (ak ++ [x]) s fun ys s' h hl=>q ys s' (fun y hy=>?_) (by simp at hl ⊢;lia);rcases h y hy with z|z
   ·rcases TB.mp z with z|z
    ·exact .inl z
    ·simp at z;exact .inr (z▸Te)
   ·exact .inr (Tb _ z)
  have h2:∀s,aY (bd (.nm 1)) (av Γ (.cmp .notin (.var 1) (.var 0))).t (av Γ (.var 1)).e k (l.map ts) (ak.map ts) ⟨[some a0,s],aj,[]⟩:=fun s=>
   zS hA l ak s fun ys s' h hl=>q ys s' (fun y hy=>(h y hy).elim .inl fun z=>.inr (Tb _ z)) (by simp at hl ⊢;lia)
  rcases hA with ⟨rfl,rfl⟩|⟨rfl,rfl⟩
  ·exact⟨⟨fF bs,rfl⟩,aL (fun g=>h1 _) (fun g=>h2 _)⟩
  ·exact⟨⟨fF bs,rfl⟩,aL (fun g=>h1 _) (fun g=>h2 _)⟩
theorem tf (bs:List Str)(y:Str):eG (.own (.lst (bs.map ts ++ [ts y]))) ((bs ++ [y]).map ts):=.inl (by rw[T2];rfl)
theorem Oe (R:Rl)(b:Nat):∀args k,fh R b args k->aH (aB (Ac aG (bL R b)) Ad) (aS args k) (aU 9 args):=by
 rintro args k ⟨ns,n,z,W,s,bs,β,tm,kd,rfl,hs,hkd,hl,hβ,hb,hn,hW,hbs,hbX,ht0,ht1,q⟩;have hn1:=hW.n1;have hl1:=hW.l1;have D0:=xI b;have app:∀(a b:List Str),a.map ts++b.map ts=(a++b).map ts:=fun a b=>by simp
 have X2:∀x∈W.names++W.lets,R.X x:=fun x hx=>(TB.mp hx).elim (hW.nX x) (hW.lX x);have e1:∀{w:Wd} {e:E},Ar R w 1->Ex R b e->Ex R (b+1) (.nd w [e]):=fun h he=>.mk h fun k hk=>by simp at hk;subst hk;exact he
 have e2:∀{w:Wd} {e e':E},Ar R w 2->Ex R b e->Ex R b e'->Ex R (b+1) (.nd w [e,e']):=fun h he cX=>.mk h fun k hk=>by simp at hk;rcases hk with rfl|rfl <;> assumption
 have vH:kd="let"∨kd="set"∨kd="say":=by simpa [dI] using hkd
 rcases hs with rfl|rfl
 all_goals
  refine⟨by rw[Ta];lia,rfl,zS (bs:=bs) (by first|exact .inl ⟨rfl,rfl⟩|exact .inr ⟨rfl,rfl⟩) W.names [] none fun ys s' hy j3=>?_⟩
  have Iu:∀y∈ys,R.X y:=fun y h=>by
   rcases hy y h with z|z
   ·cases z
   ·exact hW.nX y z
  have vx:ys.length<=40:=by simp at j3;lia
  rcases vH with rfl|rfl|rfl
  ·refine⟨by show(W.names.map ts).length+(W.lets.map ts).length<=_;rw[Ta,Ta];lia,?_⟩;rw[app];have ne:W.names++W.lets ≠ []:=fun h=>hW.n0 (List.append_eq_nil_iff.mp h).1;refine⟨rfl,ns,n,z,_,rfl,hl,by lia,lF ne,by rw[Ta,Tg];lia,fun r n1 z1 r0 r1 cy=>?_⟩;obtain⟨y,e,hy⟩:=kg r0 r1;refine bx e ⟨rfl,ns,n1,z1,W,_,bs,_,tm,rfl,by first|exact .inl rfl|exact .inr rfl,hl,hβ,hb,by lia,hW,by lia,hbX,ht0,ht1,fun e1 n2 z2 r2 t2 mP vN gY=>?_⟩;refine⟨by show(bs.map ts).length+1<=_;rw[Ta];lia,rfl,ns,n2,z2,W.at r2 t2,_,bs ++ [y],_,tm,rfl,tf bs y,hl,hβ,hb,by lia,hW.at _ _,by rw[Tg];show bs.length+1+b<=_;lia,fun x hx=>(TB.mp hx).elim (hbX x) fun h=>by simp at h;exact h▸X2 y hy,ht0,ht1,fun e3 n3 z3 r3 t3 Jg I0 nS=>?_⟩;exact q (.nd (.lt y) [e1,e3]) n3 z3 r3 t3 (e2 ⟨rfl,X2 y hy⟩ mP Jg) (by have IZ:e3.inn+cH r3<=cH r2:=I0;simp only [Tree.inn,Tree.innL,isEmpty_cons,Uo,UU];lia) (by lia)
  ·refine aL (fun g=>?_) (fun g=>?_)
   ·have ne:=ue g;refine⟨rfl,ns,n,z,_,rfl,hl,by lia,lF ne,by rw[Ta];lia,fun r n1 z1 r0 r1 cy=>?_⟩;obtain⟨y,e,hy⟩:=kg r0 r1;refine bx e ⟨rfl,ns,n1,z1,W,_,bs,_,tm,rfl,by first|exact .inl rfl|exact .inr rfl,hl,hβ,hb,by lia,hW,by lia,hbX,ht0,ht1,fun e3 n2 z2 r2 t2 mP vN gY=>?_⟩;exact q (.nd (.st y) [e3]) n2 z2 r2 t2 (e1 ⟨rfl,Iu y hy⟩ mP) (by simp only [Tree.inn,Tree.innL,isEmpty_cons,Uo,UU];lia) (by lia)
   ·refine⟨rfl,ns,n,z,W,_,bs,_,tm,rfl,by first|exact .inl rfl|exact .inr rfl,hl,hβ,hb,by lia,hW,by lia,hbX,ht0,ht1,fun e3 n2 z2 r2 t2 mP vN gY=>?_⟩;exact q (.nd .say [e3]) n2 z2 r2 t2 (e1 rfl mP) (by simp only [Tree.inn,Tree.innL,isEmpty_cons,Uo,UU];lia) (by lia)
  ·refine⟨rfl,ns,n,z,W,_,bs,_,tm,rfl,by first|exact .inl rfl|exact .inr rfl,hl,hβ,hb,by lia,hW,by lia,hbX,ht0,ht1,fun e3 n2 z2 r2 t2 mP vN gY=>?_⟩;exact q (.nd .say [e3]) n2 z2 r2 t2 (e1 rfl mP) (by simp only [Tree.inn,Tree.innL,isEmpty_cons,Uo,UU];lia) (by lia)
theorem zR {b:Nat}{a2:Sl}{tm bl:Sl}{we:TW}{k:List Tv->Ms->Prop}
  (hw:∀(n:Nat) (z:Int) (W:Wo) (s:Option Sl) (k':Ev->Ms->Prop),n+D b<=1000000000000->WoOk R W->(∀(e:E) n' z' r' t',Ex R b e->e.inn+cH r'<=cH W.room->n'<=n+D b->k' (.fz (E.tv e)) ⟨[some (.out 0),some (.out 1),some a2,some tm,some bl,s],.own (aC ns n' z') :: .own (cZ (W.at r' t'))::aj,[]⟩)->we ⟨[some (.out 0),some (.out 1),some a2,some tm,some bl,s],.own (aC ns n z) :: .own (cZ W)::aj,[]⟩ k'):
  ∀(l:List Tv) (es:List E) (n:Nat) (z:Int) (W:Wo) (s:Option Sl),n+l.length*D b<=1000000000000->WoOk R W->(∀e∈es,Ex R b e) →
   (∀(fV:List E) n' z' r' t' s',fV.length=es.length+l.length->(∀e∈fV,Ex R b e)->Tree.innL fV+cH r'<=Tree.innL es+cH W.room->n'<=n+l.length*D b->k (E.tvL fV) ⟨[some (.out 0),some (.out 1),some a2,some tm,some bl,s'],.own (aC ns n' z') :: .own (cZ (W.at r' t'))::aj,[]⟩) →
   aY (bd (.nm 5)) (fun M k=>k true M) we k l (E.tvL es) ⟨[some (.out 0),some (.out 1),some a2,some tm,some bl,s],.own (aC ns n z) :: .own (cZ W)::aj,[]⟩
 |[],es,n,z,W,s,hn,hW,he,q=>q es n z W.room W.toil s rfl he (Tf _) (by simp)
 |t::l,es,n,z,W,s,hn,hW,he,q=>by
  have hm:(t::l).length*D b=l.length*D b+D b:=by rw[Tz,Nat.succ_mul]
  rw[hm] at hn;refine hw n z W _ _ (by lia) hW fun e n' z' r' t' h1 hi h2=>?_;have e1:E.tvL es ++ [E.tv e]=E.tvL (es ++ [e]):=by simp only [E.tvL,eM,T2];rfl
  show aY _ _ _ _ l (E.tvL es ++ [E.tv e]) _;rw[e1];refine zR hw l (es ++ [e]) n' z' (W.at r' t') _ (by lia) (hW.at _ _) (fun x hx=>(TB.mp hx).elim (he x) fun h=>by simp at h;exact h▸h1) fun fV n2 z2 r2 t2 s2 hl2 h3 vM h4=>q fV n2 z2 r2 t2 s2 (by rw[hl2,Tg,Tz];simp;lia) h3 (by have mK:Tree.innL fV+cH r2<=Tree.innL (es ++ [e])+cH r':=vM;rw[FP] at mK;simp only [Tree.innL] at mK;lia) (by rw[hm];lia)
inductive dG (R:Rl)(b:Nat)(args:List Sl)(k:ad):Prop
 |mk (ns:List Int) (n:Nat) (z:Int) (W:Wo) (s:Sl) (bs:List Str) (β tm:Int) (_:args = [.own (aC ns n z),.own (cZ W),s,fi β,fi tm]) (_:eG s (bs.map ts)) (_:ns.length<=63) (_ : β - 1=b) (_:1<=b) (_:n+20+6*D b<=1000000000000) (_:WoOk R W) (_:bs.length+b+1<=1000) (_:(∀x∈bs,R.X x)) (_:0<=tm) (_:tm*5 ^ b<=1000000000) (_:∀(e:E) n' z' r t,Ex R (b+1) e->e.inn+cH r<=1+cH W.room->n'<=n+20+6*D b->k (.fz (E.tv e)) [.own (aC ns n' z'),.own (cZ (W.at r t)),s,fi β,fi tm])
theorem C7 {tm:Int}{b:Nat}(h0:0<=tm)(h:tm*5 ^ b<=1000000000):tm<=1000000000:=by
 have h5:(1:Int)<=5 ^ b:=by
  have:0<5 ^ b:=Nat.pos_of_ne_zero (by simp);have e:((5 ^ b:Nat):Int)=(5:Int) ^ b:=by simp
  lia
 have:=Int.mul_le_mul_of_nonneg_left h5 h0;lia
theorem Pq (R:Rl)(b:Nat):∀args k,dG R b args k->aH (aB (AD (cn R) aG (bL R b)) AE) (aS args k) (aU 8 args):=by
 rintro args k ⟨ns,n,z,W,s,bs,β,tm,rfl,hs,hl,hβ,hb,hn,hW,hbs,hbX,ht0,ht1,q⟩;have D0:=xI b;have tm1:=C7 ht0 ht1;have hf1:=hW.f1;rcases hs with rfl|rfl
 all_goals
  have dH:∀(n1:Nat) (z1:Int),n1<=n+1->∀(e:E) n' z',Ex R 1 e->e.inn=0->n'<=n1+10->k (.fz (E.tv e)) [.own (aC ns n' z'),.own (cZ W),_,fi β,fi tm]:=fun n1 z1 h1 e n' z' he hi hn'=>q e n' z' W.room W.toil (he.up (by lia)) (by lia) (by lia);refine aL (fun g=>?_) (fun g=>?_)
  ·exact⟨rfl,ns,n,z,W,_,bs,rfl,by first|exact .inl rfl|exact .inr rfl,hl,by lia,hW,by lia,hbX,dH n z (by lia)⟩
  have ne:W.fs ≠ []:=fun h=>g (by rw[h];rfl);have wA:((W.fs.map hZ).length:Int)=W.fs.length:=by rw[Ta]
  have fpos:=length_pos_iff.mpr ne;refine⟨rfl,ns,n,z,_,rfl,hl,by lia,by lia,by lia,fun r n1 z1 r0 r1 hn1=>?_⟩;obtain⟨t,e,ht⟩:=iD (l:=W.fs.map hZ) (i:=r) r0 r1;obtain⟨p,hp,rfl⟩:=T5.mp ht;obtain⟨pA,pN,p6,i,pi⟩:=hW.fA p hp;refine bx e (bx pi ⟨jr (by lia) (by lia),⟨jr (by decide) (by decide),aL (fun g=>?_) (fun g=>?_)⟩⟩)
  ·exact⟨rfl,ns,n1,z1,W,_,bs,rfl,by first|exact .inl rfl|exact .inr rfl,hl,by lia,hW,by lia,hbX,dH n1 z1 (by lia)⟩
  have rl:(fE (((p.2:Nat):Int).toNat)).length=p.2:=by unfold fE;rw[Ta,length_range];lia
  have e6:p.2*D b<=6*D b:=Va _ p6;refine⟨by show 8<16777216;decide,⟨by lia,by lia⟩,by rw[rl];lia,rfl,zR (R:=R) (b:=b) (ns:=ns) (tm:=fi tm) (bl:=fi β) (fun n z W s k' hn hW q'=>?_) _ [] n1 z1 (W.at W.room (W.toil-tm*i)) none (by rw[rl];lia) (hW.at _ _) (fun e h=>by cases h) (fun es n2 z2 r2 t2 s2 hl2 he vM cy=>?_)⟩
  ·exact⟨rfl,ns,n,z,W,_,bs,_,tm,rfl,by first|exact .inl rfl|exact .inr rfl,hl,hβ,hb,hn,hW,by lia,hbX,ht0,ht1,q'⟩
  ·rw[rl] at hl2 cy
   have vF:es.length=p.2:=by simpa using hl2
   refine⟨by show 2+(E.tvL es).length<=_;rw[cw];lia,?_⟩;exact q (.nd (.call p.1) es) n2 z2 r2 t2 (.mk ⟨by lia,pN,by rw[vF];exact pA⟩ he) (by have mK:Tree.innL es+cH r2<=0+cH W.room:=vM;rw[Tree.inn];split <;> lia) (by lia)
noncomputable def kindsL:List Str:=["op","op","copy","pick","let","set","say","do","again","call","copy","op","leaf","let"]
noncomputable def signS:Str:="+-*/<="
theorem Gq:∀c∈signS.cps.toList,(⟨#[c]⟩:Str)∈gp:=by decide+kernel
theorem Gp:signS.cps.toList.length=6:=by decide+kernel
theorem xf {b:Bool}(h:(false ^^ b)=true):b=true:=by simpa using h
theorem tT {l:List Tv}{r:Int}{P:Tv->Prop}(h:∀t∈l,P t)(r0:0<=r)(r1:r<l.length):∃t,eh l r=some t/\P t:=by obtain⟨t,e,ht⟩:=iD r0 r1;exact⟨t,e,h t ht⟩
def B1 (R:Rl)(a2:Sl)(aj:List Sl)(ns:List Int)(n:Nat)(β tm:Int)(kd:Str)(W:Wo)(M:Ms):Prop:=∃(w:Wd) (m n':Nat) (z':Int),M=⟨[some (.out 0),some (.out 1),some a2,some (fi β),some (fi tm),some (.own (.lst (kindsL.map ts))),some (fs kd),some (fi m),some (.own (.lst (w.hd.map Tv.at)))],.own (aC ns n' z') :: .own (cZ W)::aj,[]⟩/\Ar R w m/\m<=6/\n'<=n
theorem Mg (R:Rl)(b:Nat):∀args k,bL R (b+1) args k->aH (aB (zm aG (cn R) (b7 R) (dG R b) (fh R b) (bL R b)) zo) (aS args k) (aU 9 args):=by
 rintro args k ⟨ns,n,z,W,s,bs,β,tm,rfl,hs,hl,hβ,hb,hn,hW,hbs,hbX,ht0,ht1,q⟩;have D0:=xI b;have D1:=Ky b;have tm1:=C7 ht0 ht1
 have p5:tm*5 ^ b<=1000000000:=by
  have h5:(0:Int)<=5 ^ b:=by
   have e:((5 ^ b:Nat):Int)=(5:Int) ^ b:=by simp
   rw[<- e];exact Int.natCast_nonneg _
  have:=Int.mul_nonneg ht0 h5;have e:tm*5 ^ (b+1)=5*(tm*5 ^ b):=by rw[Int.pow_succ];rw[<- Int.mul_assoc];lia
  lia
 have W1:=hW.at (W.room-1) (W.toil-tm);rcases hs with rfl|rfl
 all_goals
  refine⟨by show 8<16777216;decide,by show 8<16777216;decide,rfl,ns,n,z,14,rfl,hl,by lia,by decide,by decide,fun r n1 z1 r0 r1 hn1=>?_⟩;obtain⟨t,e,ht⟩:=iD (l:=kindsL.map ts) (i:=r) r0 r1;obtain⟨kd,hkd,rfl⟩:=T5.mp ht;refine bx e ?_;have dH:∀(e:E) n' z',Ex R 1 e->e.inn=0->n'<=n1+10->k (.fz (E.tv e)) [.own (aC ns n' z'),.own (cZ (W.at (W.room-1) (W.toil-tm))),_,fi β,fi tm]:=fun e n' z' he hi hn'=>q e n' z' _ _ (he.up (by lia)) (by unfold cH;lia) (by lia);refine aL (fun g=>?_) (fun g=>aL (fun _=>?_) (fun gr=>⟨jr (by decide) (by decide),aL (fun _=>?_) (fun _=>aL (fun _=>?_) (fun gl=>?_))⟩))
  ·exact⟨rfl,ns,n1,z1,W.at (W.room-1) (W.toil-tm),_,bs,rfl,by first|exact .inl rfl|exact .inr rfl,hl,by lia,W1,by lia,hbX,dH⟩
  ·exact⟨rfl,ns,n1,z1,W.at (W.room-1) (W.toil-tm),_,bs,rfl,by first|exact .inl rfl|exact .inr rfl,hl,by lia,W1,by lia,hbX,dH⟩
  ·exact⟨rfl,ns,n1,z1,W.at (W.room-1) (W.toil-tm),_,bs,rfl,by first|exact .inl rfl|exact .inr rfl,hl,by lia,W1,by lia,hbX,dH⟩
  ·exact⟨rfl,ns,n1,z1,W.at (W.room-1) (W.toil-tm),_,bs,rfl,by first|exact .inl rfl|exact .inr rfl,hl,by lia,W1,by lia,hbX,dH⟩
  have SU:¬W.room-1<6:=fun h=>gr (T8 h);have cl:cH W.room=1+cH (W.room-1):=by unfold cH;lia
  have b1:1<=b:=by
   rcases Nat.eq_zero_or_pos b with h|h
   ·exact absurd (by simp;lia) g
   ·exact h
  refine aL (fun _=>?_) (fun _=>aL (fun _=>?_) (fun _=>⟨⟨fF dI,rfl⟩,aL (fun g3=>?_) (fun _=>aL (fun _=>?_) (fun _=>?_))⟩))
  ·exact⟨rfl,ns,n1,z1,W.at (W.room-1) (W.toil-tm),_,bs,β,tm,rfl,by first|exact .inl rfl|exact .inr rfl,hl,by lia,W1,by lia,hbX,dH⟩
  ·exact⟨rfl,ns,n1,z1,W.at (W.room-1) (W.toil-tm),_,bs,β,tm,rfl,by first|exact .inl rfl|exact .inr rfl,hl,by lia,b1,by lia,W1,by lia,hbX,ht0,p5,fun e n' z' r t he hi hn'=>q e n' z' r t he (by rw[cl];exact hi) (by lia)⟩
  ·have h3:kd∈dI:=(ic kd dI).mp (xf g3);exact⟨rfl,ns,n1,z1,W.at (W.room-1) (W.toil-tm),_,bs,β,tm,kd,rfl,by first|exact .inl rfl|exact .inr rfl,h3,hl,by lia,b1,by lia,W1,by lia,hbX,ht0,p5,fun e n' z' r t he hi hn'=>q e n' z' r t he (by rw[cl];exact hi) (by lia)⟩
  ·
   refine⟨rfl,ns,n1,z1,6,rfl,hl,by lia,by decide,by decide,fun r2 n2 z2 iX jD cy=>?_⟩
   obtain⟨t,e,m,rfl,m0,m5⟩:=tT (l:=[ti 2,ti 3,ti 0,ti 1,ti 5,ti 2]) (P:=fun t=>∃m:Int,t=ti m/\0<=m/\m<=5) (by
    intro t ht;simp only [Ts,TQ,T7] at ht
    rcases ht with rfl|rfl|rfl|rfl|rfl|rfl <;> exact⟨_,rfl,by decide,by decide⟩) iX jD
   refine bx e ⟨fun M=>∃m:Int,0<=m/\m<=5/\M=⟨[some (.out 0),some (.out 1),_,some (fi β),some (fi tm),some (.own (.lst (kindsL.map ts))),some (fs kd),some (fi m),none],.own (aC ns n2 z2) :: .own (cZ (W.at (W.room-1) (W.toil-tm)))::_,[]⟩,⟨jr (by decide) (by decide),qM (by lia) (by lia),aL (fun _=>⟨1,by decide,by decide,rfl⟩) (fun _=>⟨m,m0,m5,rfl⟩)⟩,?_⟩;rintro M ⟨m,m0,m5,rfl⟩;have t0:0<=tm*m:=Int.mul_nonneg ht0 m0
   have t5:tm*m*5 ^ b<=1000000000:=by
    have h5:(0:Int)<=5 ^ b:=by
     have e:((5 ^ b:Nat):Int)=(5:Int) ^ b:=by simp
     rw[<- e];exact Int.natCast_nonneg _
    have h1:tm*m<=tm*5:=Int.mul_le_mul_of_nonneg_left m5 ht0;have h2:=Int.mul_le_mul_of_nonneg_right h1 h5;have e:tm*5 ^ (b+1)=tm*5*5 ^ b:=by rw[Int.pow_succ,Int.mul_assoc,Int.mul_comm 5 (5 ^ b)]
    lia
   refine⟨qM (by lia) (by lia),rfl,ns,n2,z2,W.at (W.room-1) (W.toil-tm),_,bs,β - 1,tm*m,rfl,by first|exact .inl rfl|exact .inr rfl,hl,by lia,b1,by lia,W1,by lia,hbX,t0,t5,fun e n' z' r t he hi hn'=>?_⟩;exact q (.nd (.again m) [e]) n' z' r t (.mk ⟨rfl,m0,m5⟩ fun k hk=>by simp at hk;subst hk;exact he) (by have hi':e.inn+cH r<=cH (W.room-1):=hi;simp only [Tree.inn,Tree.innL,isEmpty_cons,Uo,UU];lia) (by lia)
  ·refine⟨rfl,ns,n1,z1,6,rfl,hl,by lia,by decide,by decide,fun r2 n2 z2 iX jD cy=>?_⟩
   obtain⟨t,e,m,rfl,m1,m6⟩:=tT (l:=[ti 2,ti 3,ti 1,ti 2,ti 4,ti 6]) (P:=fun t=>∃m:Nat,t=ti m/\1<=m/\m<=6) (by
    intro t ht;simp only [Ts,TQ,T7] at ht;rcases ht with rfl|rfl|rfl|rfl|rfl|rfl
    ·exact⟨2,rfl,by decide,by decide⟩
    ·exact⟨3,rfl,by decide,by decide⟩
    ·exact⟨1,rfl,by decide,by decide⟩
    ·exact⟨2,rfl,by decide,by decide⟩
    ·exact⟨4,rfl,by decide,by decide⟩
    ·exact⟨6,rfl,by decide,by decide⟩) iX jD
   refine bx e ⟨B1 R _ _ ns (n+2) β tm kd (W.at (W.room-1) (W.toil-tm)),aL (fun _=>⟨.pick,3,n2,z2,rfl,rfl,by decide,by lia⟩) (fun _=>⟨.do,m,n2,z2,rfl,⟨m1,m6⟩,m6,by lia⟩),?_⟩;rintro M ⟨w,m,n3,z3,rfl,hAr,hm6,gY⟩;refine⟨B1 R _ _ ns (n+3) β tm kd (W.at (W.room-1) (W.toil-tm)),aL (fun _=>?_) (fun _=>⟨w,m,n3,z3,rfl,hAr,hm6,by lia⟩),?_⟩
   ·refine⟨rfl,ns,n3,z3,6,rfl,hl,by lia,by decide,by decide,fun r3 n4 z4 Ib Ia nS=>?_⟩;obtain⟨c,ec,hc⟩:=iD (l:=signS.cps.toList) (i:=r3) Ib (by rw[Gp];exact Ia);exact bx (o:=(eh signS.cps.toList r3).map fun c=>.at (.str ⟨#[c]⟩)) (t:=ts ⟨#[c]⟩) (by rw[ec];rfl) ⟨.op ⟨#[c]⟩,2,n4,z4,rfl,⟨rfl,Gq c hc⟩,by decide,by lia⟩
   rintro M ⟨w,m,n4,z4,rfl,hAr,hm6,nS⟩;have rl:(fE (((m:Nat):Int).toNat)).length=m:=by unfold fE;rw[Ta,length_range];lia
   have e6:m*D b<=6*D b:=Va _ hm6;refine⟨⟨by lia,by lia⟩,by rw[rl];lia,rfl,zR (R:=R) (b:=b) (ns:=ns) (tm:=fi tm) (bl:=fi β) (fun n z W s k' hn hW q'=>?_) _ [] n4 z4 (W.at (W.room-1) (W.toil-tm)) none (by rw[rl];lia) W1 (fun e h=>by cases h) (fun es n5 z5 r5 t5 s5 BI he IW nR=>?_)⟩
   ·exact⟨rfl,ns,n,z,W,_,bs,_,tm,rfl,by first|exact .inl rfl|exact .inr rfl,hl,by lia,b1,hn,hW,by lia,hbX,ht0,p5,q'⟩
   ·rw[rl] at BI nR
    have vE:es.length=m:=by simpa using BI
    have h2:=(m7 w).2.2;refine⟨by show(w.hd.map Tv.at).length+(E.tvL es).length<=_;rw[cw,Ta];lia,?_⟩;exact q (.nd w es) n5 z5 r5 t5 (.mk (by rw[vE];exact hAr) he) (by have IV:Tree.innL es+cH r5<=0+cH (W.room-1):=IW;rw[Tree.inn];split <;> lia) (by lia)
def JD (s:Sl)(l:List (aw×Tv)):Prop:=s = .own (.dic l)∨s = .fz (.dic l)
inductive dh (args:List Sl)(k:ad):Prop
 |mk (s1 s2:Sl) (names lets:List Str) (fs:List (Str×Nat)) (ws:List (aw×Tv)) (r t:Int) (_:args = [s1,s2,.own (.lst (fs.map hZ)),.own (.dic ws),fi r,fi t]) (_:((s1 = .own (.lst (names.map ts))/\s2 = .own (.lst (lets.map ts)))∨(s1 = .fz (.lst (names.map ts))/\s2 = .fz (.lst (lets.map ts))))) (_:k (.own (cZ ⟨names,lets,fs,ws,[],r,t⟩)) [.fz (.lst (names.map ts)),.fz (.lst (lets.map ts)),.fz (.lst (fs.map hZ)),.fz (.dic ws),fi r,fi t])
theorem Od:∀args k,dh args k->aH (aB Aa Ab) (aS args k) (aU 6 args):=by rintro args k ⟨s1,s2,names,lets,fs,ws,r,t,rfl,h1,q⟩;rcases h1 with ⟨rfl,rfl⟩|⟨rfl,rfl⟩ <;> exact⟨rfl,q⟩
inductive bK (R:Rl)(N:Nat)(args:List Sl)(k:ad):Prop
 |mk (e:E) (s:Sl) (ws:List (aw×Tv)) (_:args = [.fz (E.tv e),s]) (_:JD s ws) (_:Ex R N e) (_:(∀(f:Str) (m:Nat),R.A f m->∃i,bZ ws (.inr f)=some (ti i))) (_:∀i,k (fi i) [.fz (E.tv e),s])
theorem Gn {k:List Tv->Ms->Prop}(hA:(a0 = .out 0/\aj = [.own (.dic ws)])∨(a0 = .fz (.dic ws)/\aj = []))(hw:∀(f:Str) (m:Nat),R.A f m->∃i,bZ ws (.inr f)=some (ti i)):
  ∀(ks:List E) (ak:List Int) (s:Option Sl),(∀e∈ks,Ex R N e)->(∀(is:List Int) (s':Option Sl),k (is.map ti) ⟨[some a0,s'],aj,[]⟩)->aY (bd (.nm 1)) (av (nA ag (bK R N)) .tt).t (av (nA ag (bK R N)) (.call 1 (.cons (.var 1) (.cons (.var 0) .nil)))).e k (E.tvL ks) (ak.map ti) ⟨[some a0,s],aj,[]⟩
 |[],ak,s,_,q=>q ak s
 |e::ks,ak,s,h,q=>by
  have h1:∀i s,aY (bd (.nm 1)) (av (nA ag (bK R N)) .tt).t (av (nA ag (bK R N)) (.call 1 (.cons (.var 1) (.cons (.var 0) .nil)))).e k (E.tvL ks) (ak.map ti ++ [ti i]) ⟨[some a0,s],aj,[]⟩:=fun i s=>by
   have e1:ak.map ti ++ [ti i]=(ak ++ [i]).map ti:=by simp
   rw[e1];exact Gn hA hw ks (ak ++ [i]) s (fun x hx=>h x (Tb _ hx)) q
  have he:=h e Te;rcases hA with ⟨rfl,rfl⟩|⟨rfl,rfl⟩
  ·exact⟨rfl,e,_,ws,rfl,.inl rfl,he,hw,fun i=>h1 i _⟩
  ·exact⟨rfl,e,_,ws,rfl,.inr rfl,he,hw,fun i=>h1 i _⟩
theorem Mf (R:Rl)(N:Nat):∀args k,bK R (N+1) args k->aH (aB (nA ag (bK R N)) zt) (aS args k) (aU 3 args):=by
 rintro args k ⟨e,s,ws,rfl,hs,he,hw,q⟩
 cases he with
 | @mk _ w ks h hk=>
  have hl:=h.le;rcases hs with rfl|rfl
  all_goals
   refine⟨rfl,w,ks,rfl,by lia,by rw[cw];lia,rfl,Gn (ws:=ws) (by first|exact .inl ⟨rfl,rfl⟩|exact .inr ⟨rfl,rfl⟩) hw ks [] none hk fun is s'=>?_⟩;refine⟨fun t ht=>by obtain⟨u,_,rfl⟩:=T5.mp ht;exact⟨_,rfl⟩,?_⟩
   cases w with
   |again m=>exact⟨jr (by have:=h.2.1;lia) (by have:=h.2.2;lia),q _⟩
   |call f=>obtain⟨i,hi⟩:=hw f _ h.2.2;exact bx hi (q _)
   |_=>exact q _
inductive eV (R:Rl)(args:List Sl)(k:ad):Prop
 |mk (ns:List Int) (n:Nat) (z:Int) (W:Wo) (m:Int) (_:args = [.own (aC ns n z),.own (cZ W),fi m]) (_:ns.length<=63) (_:n+10*D 4<=1000000000000) (_:0<=m) (_:m<=10) (_:WoOk R W) (_:∀(l:List Tv) n' z',n'<=n+10*D 4->k (.own (.lst l)) [.own (aC ns n' z'),.own (cZ W),fi m])
theorem GW {n0:Nat}{m:Int}{W:Wo}(hl:ns.length<=63)(hm:m<=10)(j5:n0+10*D 4<=1000000000000)(hW:WoOk R W){P:PD}(hP:∀(ys:List Tv) (n:Nat) (z:Int) (s4 s5:Option Sl),n<=n0+10*D 4->P.nx ⟨[some (.out 0),some (.out 1),some (fi m),some (.own (.lst ys)),s4,s5],[.own (aC ns n z),.own (cZ W)],[]⟩):
  ∀(l:List Tv) (ys:List Tv) (n:Nat) (z:Int) (s4 s5:Option Sl),(ys.length:Int)+l.length=m->n<=n0+ys.length*D 4 →
   cN (bd (.nm 4)) (aH (aB (uJ (bL R 4)) G9)) P l ⟨[some (.out 0),some (.out 1),some (fi m),some (.own (.lst ys)),s4,s5],[.own (aC ns n z),.own (cZ W)],[]⟩
 |[],ys,n,z,s4,s5,h,hn=>by have:ys.length*D 4<=10*D 4:=Va _ (by simp at h;lia);exact hP ys n z s4 s5 (by lia)
 |t::l,ys,n,z,s4,s5,h,hn=>by have h':(ys.length:Int)+(l.length+1:Nat)=m:=h;have h9:(ys.length+1)*D 4<=10*D 4:=Va _ (by lia);rw[Nat.succ_mul] at h9;refine⟨by show 8<16777216;decide,by show 8<16777216;decide,by show 8<16777216;decide,rfl,rfl,ns,n,z,⟨W.names,W.lets,W.fs,W.ws,[],7,60⟩,_,[],4,1,rfl,.inl rfl,hl,rfl,by decide,by lia,⟨hW.n0,hW.n1,hW.l1,hW.f1,hW.nX,hW.lX,hW.fA⟩,by decide,fun x hx=>(by cases hx),by decide,by decide,fun e n' z' r' t' he hi hn'=>⟨by lia,?_⟩⟩;exact GW hl hm j5 hW hP l (ys ++ [E.tv e]) n' z' _ _ (by simp;lia) (by simp [Nat.succ_mul];lia)
theorem Oc (R:Rl):∀args k,eV R args k->aH (aB (uJ (bL R 4)) z9) (aS args k) (aU 6 args):=by
 rintro args k ⟨ns,n,z,W,m,rfl,hl,hn,h0,h1,hW,q⟩;refine⟨fun M=>∃(ys:List Tv) (n':Nat) (z':Int) (s4 s5:Option Sl),M=⟨[some (.out 0),some (.out 1),some (fi m),some (.own (.lst ys)),s4,s5],[.own (aC ns n' z'),.own (cZ W)],[]⟩/\n'<=n+10*D 4,?_,?_⟩
 ·refine⟨⟨by lia,by lia⟩,GW hl h1 hn hW ?_ _ [] n z none none ?_ (by simp)⟩
  ·exact fun ys n' z' s4 s5 a=>⟨ys,n',z',s4,s5,rfl,a⟩
  ·unfold fE;rw[Ta,length_range];show(0:Int)+_=_;lia
 ·rintro M ⟨ys,n',z',s4,s5,rfl,a⟩;exact q ys n' z' a
structure Fd where
 nm:Str
 ps:List Str
 bd:E
def Fd.tv (f:Fd):Tv:=.tup [ts f.nm,.tup (f.ps.map ts),E.tv f.bd]
noncomputable def Rp (ah:List Str)(fs:List Fd):Rl:=⟨fun x=>x∈ah,fun g m=>∃f∈fs,f.nm=g/\f.ps.length=m⟩
structure FdOk (ah:List Str)(fs:List Fd)(f:Fd):Prop where
 nm:Nm f.nm
 nd:f.ps.Nodup
 l6:f.ps.length<=6
 sub:∀x∈f.ps,x∈ah
 bd:Ex (Rp ah fs) 4 f.bd
 bc:f.bd.cnt<=30
variable {gs:List Fd}
theorem FdOk.up {fs:List Fd}{f:Fd}(h:FdOk ah fs f)(s:∀g∈fs,g∈gs):FdOk ah gs f:=⟨h.nm,h.nd,h.l6,h.sub,h.bd.mono (R:=Rp ah fs) (R':=Rp ah gs) (fun _ h=>h) fun g m ⟨f,hf,e⟩=>⟨f,s f hf,e⟩,h.bc⟩
structure PgOk (ah:List Str)(fs:List Fd)(main:E):Prop where
 pl:ah.length<=6
 pn:∀x∈ah,Nm x
 fl:fs.length<=3
 fo:∀f∈fs,FdOk ah fs f
 nd:(fs.map Fd.nm).Nodup
 mn:Ex (Rp ah fs) 7 main
 mc:main.cnt<=200
def aT (fs:List Fd)(main:E):Tv:=.tup [.tup (fs.map Fd.tv),E.tv main]
noncomputable def kn (fs:List Fd):List (Str×Nat):=fs.map fun f=>(f.nm,f.ps.length)
noncomputable def EY:aM:=fun args k=>∃R b,b<=7/\bL R b args k
noncomputable def EX:aM:=fun args k=>∃R,bK R 4 args k
noncomputable def FO:aM:=fun args k=>∃R,eV R args k
inductive eX (args:List Sl)(k:ad):Prop
 |mk (ns:List Int) (n:Nat) (z r:Int) (_:args = [.own (aC ns n z),fi r]) (_:r<=32) (_:ns.length<=63) (_:n+100000000<=1000000000000) (_:∀ah fs main n' z',PgOk ah fs main->n'<=n+100000000->k (.fz (aT fs main)) [.own (aC ns n' z'),fi r])
noncomputable def rf:Nat->Nat->List Tv
 |_,0=>[]
 |i,j+1=>ti i::rf (i+1) j
theorem DS:∀(j i:Nat),(List.range' i j).map (fun(a:Nat)=>ti (a:Int))=rf i j
 | 0,i=>rfl
 |j+1,i=>by rw[List.range'_succ,TX,DS j (i+1)];rfl
theorem yK (n:Nat):fE n=rf 0 n:=by unfold fE;rw[List.range_eq_range'];exact DS n 0
theorem zQ (l:List (aw×Tv))(k k':aw)(t:Tv):bZ (dP l k t) k'=if k=k' then some t else bZ l k':=by
 unfold dP
 split
 ·next h=>
  have:∀l:List (aw×Tv),l.any (fun p=>decide (p.1=k))=true->bZ (l.map fun p=>if p.1=k then (p.1,t) else p) k'=if k=k' then some t else bZ l k':=fun l=>by
   induction l with
   |nil=>intro h;injection h
   |cons p l ih=>
    obtain⟨a,b⟩:=p;intro h
    by_cases ha:a=k
    ·subst ha
     by_cases hk:a=k'
     ·simp [bZ,hk]
     ·have:∀l:List (aw×Tv),bZ (l.map fun p=>if p.1=a then (p.1,t) else p) k'=bZ l k':=fun l=>by
       induction l with
       |nil=>rfl
       |cons q l ih2=>
        obtain⟨c,d⟩:=q
        by_cases hc:c=a
        ·subst hc;simp [bZ,hk];exact ih2
        ·simp only [TX,hc,UU,bZ];rw[ih2]
      simp only [TX,Vi,bZ,hk,UU];exact this l
    ·have h':l.any (fun p=>decide (p.1=k))=true:=by simpa [ha] using h
     simp only [TX,ha,UU,bZ]
     by_cases hk:a=k'
     ·subst hk;rw[Tt rfl,Tp (fun z=>ha z.symm),Tt rfl]
     ·rw[Tp hk,Tp hk];exact ih h'
  exact this l (by simpa using h)
 ·next h=>
  have h':∀p∈l,p.1≠k:=fun p hp z=>h (by simp only [List.any_eq_true];exact⟨p,hp,by simp [z]⟩);clear h
  induction l with
  |nil=>simp [bZ]
  |cons p l ih=>
   obtain⟨a,b⟩:=p;have ha:=h' (a,b) Te;have ih:=ih fun q hq=>h' q (Tb _ hq);simp only [TC,bZ]
   by_cases hk:a=k'
   ·subst hk;rw[Tt rfl,Tp (fun z=>ha z.symm),Tt rfl]
   ·rw[Tp hk,Tp hk];exact ih
theorem uI (l:List α)(a:Nat):aO l (some (a:Int)) none=l.drop a:=by
 unfold aO;rw[HT.sIx_nat];show(l.drop (min a l.length)).take (l.length-min a l.length)=l.drop a;rcases Nat.le_total a l.length with h|h
 ·rw[Nat.min_eq_left h,U4 (by rw[UN];exact Tf _)]
 ·rw[Nat.min_eq_right h,U5 h];simp
theorem oK (l:List α)(a:Nat):aO l none (some (a:Int))=l.take a:=by
 unfold aO;rw[HT.sIx_nat];show(l.drop 0).take (min a l.length-0)=l.take a;rw[drop_zero,Nat.sub_zero];rcases Nat.le_total a l.length with h|h
 ·rw[Nat.min_eq_left h]
 ·rw[Nat.min_eq_right h,U4 (Tf _),U4 h]
theorem Gk {l:List Str}(h:l.Nodup)(a:Nat):(l.drop a++l.take a).Nodup:=by have e:(l.take a++l.drop a).Perm (l.drop a++l.take a):=List.perm_append_comm;rw[List.take_append_drop] at e;exact e.nodup_iff.mp h
theorem uR {k:List Tv->Ms->Prop}:∀(l:List Fd) (ak:List Str) (s:Option Sl),(∀s',k ((ak++l.map Fd.nm).map ts) ⟨[s'],[],[]⟩)->aY (bd (.nm 0)) (av Γ .tt).t (av Γ (.ix (.var 0) (.cst (.int 0)))).e k (l.map Fd.tv) (ak.map ts) ⟨[s],[],[]⟩
 |[],ak,s,q=>by have:=q s;rw[map_nil,TJ] at this;exact this
 |f::l,ak,s,q=>by
  have e1:ak.map ts ++ [ts f.nm]=(ak ++ [f.nm]).map ts:=by simp
  show aY _ _ _ _ (l.map Fd.tv) (ak.map ts ++ [ts f.nm]) _;rw[e1];exact uR l (ak ++ [f.nm]) _ fun s'=>by simpa using q s'
structure PInv (P:List Str)(fs:List Fd)(ws:List (aw×Tv)):Prop where
 fo:∀f∈fs,FdOk P fs f
 nd:(fs.map Fd.nm).Nodup
 wk:∀f∈fs,∃i,bZ ws (.inr f.nm)=some (ti i)
 wl:ws.length<=fs.length
theorem zg (l:List (aw×Tv))(k:aw)(t:Tv):(dP l k t).length<=l.length+1:=by
 unfold dP
 split
 ·rw[Ta];lia
 ·rw[Tg];simp
theorem PInv.add {P:List Str}{fs:List Fd}{f:Fd}(h:PInv P fs ws)(hn:f.nm∉fs.map Fd.nm)(hf:FdOk P fs f)(i:Int):PInv P (fs ++ [f]) (dP ws (.inr f.nm) (ti i)) where
 fo:=fun g hg=>by
  rcases TB.mp hg with z|z
  ·exact(h.fo g z).up fun x hx=>TL _ hx
  ·simp at z;subst z;exact hf.up fun x hx=>TL _ hx
 nd:=by rw[T2];exact nodup_append.mpr ⟨h.nd,by simp,fun a ha b hb=>by simp at hb;rw[hb];exact fun z=>hn (z▸ha)⟩
 wk:=fun g hg=>by
  rw[zQ]
  by_cases e:(Sum.inr f.nm:aw) = .inr g.nm
  ·rw[Tt e];exact⟨i,rfl⟩
  ·rw[Tp e]
   rcases TB.mp hg with z|z
   ·exact h.wk g z
   ·simp at z;subst z;exact absurd rfl e
 wl:=by have:=zg ws (.inr f.nm) (ti i);have:=h.wl;rw[Tg];simp;lia
theorem PInv.wo {P names lets:List Str}{fs:List Fd}{sd:List Tv}{r t:Int}(h:PInv P fs ws)(hf:fs.length<=3)(hn:names ≠ [])(hn1:names.length<=40)(hl1:lets.length<=40)(hN:∀x∈names,x∈P)(hL:∀x∈lets,x∈P):WoOk (Rp P fs) ⟨names,lets,kn fs,ws,sd,r,t⟩ where
 n0:=hn
 n1:=hn1
 l1:=hl1
 f1:=by show(kn fs).length<=40;unfold kn;rw[Ta];lia
 nX:=hN
 lX:=hL
 fA:=fun p hp=>by obtain⟨f,hf,rfl⟩:=T5.mp hp;have h2:=h.fo f hf;exact⟨⟨f,hf,rfl,rfl⟩,h2.nm,h2.l6,h.wk f hf⟩
theorem PInv.A {P:List Str}{fs:List Fd}(h:PInv P fs ws):∀(f:Str) (m:Nat),(Rp P fs).A f m->∃i,bZ ws (.inr f)=some (ti i):=fun f m ⟨g,hg,e,_⟩=>e▸h.wk g hg
abbrev gP:Gm:=AK cE aG bp dh EY EX FO
theorem Gj {ns:List Int}{r:Int}{names:List Str}{y x0:Str}{n0:Nat}(hl:ns.length<=63)(j5:n0+1000000<=1000000000000)(vZ:2<=names.length)(Jp:names.length<=5)(qp:∀x∈names ++ [y],Nm x)(sI:(names ++ [y]).Nodup)(hx0:x0∈names){Q:PD}
  (hQ:∀(fs:List Fd) (ws:List (aw×Tv)) (n:Nat) (z:Int) (nf lf:Sl) (o7 o8 o9 o10 o11 aZ bw:Option Sl),PInv (names ++ [y]) fs ws->fs.length<=3->n<=n0+fs.length*100000->((nf = .own (.lst (names.map ts))/\lf = .own (.lst ([y,x0].map ts)))∨(nf = .fz (.lst (names.map ts))/\lf = .fz (.lst ([y,x0].map ts)))) →
   Q.nx ⟨[some (.out 0),some (fi r),some nf,some lf,some (.own (.lst (fs.map Fd.tv))),some (.own (.lst ((kn fs).map hZ))),some (.own (.dic ws)),o7,o8,o9,o10,o11,aZ,bw],[.own (aC ns n z)],[]⟩):
  ∀(j i:Nat) (fs:List Fd) (ws:List (aw×Tv)) (n:Nat) (z:Int) (nf lf:Sl) (o7 o8 o9 o10 o11 aZ bw:Option Sl),i+j<=3->fs.length=i->PInv (names ++ [y]) fs ws->n<=n0+i*100000->((nf = .own (.lst (names.map ts))/\lf = .own (.lst ([y,x0].map ts)))∨(nf = .fz (.lst (names.map ts))/\lf = .fz (.lst ([y,x0].map ts)))) →
   cN (bd (.nm 7)) (aH (aB gP HE)) Q (rf i j) ⟨[some (.out 0),some (fi r),some nf,some lf,some (.own (.lst (fs.map Fd.tv))),some (.own (.lst ((kn fs).map hZ))),some (.own (.dic ws)),o7,o8,o9,o10,o11,aZ,bw],[.own (aC ns n z)],[]⟩
 | 0,i,fs,ws,n,z,nf,lf,o7,o8,o9,o10,o11,aZ,bw,h3,hi,hI,hn,hA=>hQ fs ws n z nf lf o7 o8 o9 o10 o11 aZ bw hI (by lia) (by rw[hi];exact hn) hA
 |j+1,i,fs,ws,n,z,nf,lf,o7,o8,o9,o10,o11,aZ,bw,h3,hi,hI,hn,hA=>by
  have BH:(fs.map Fd.tv).length<=16777216:=by rw[Ta];lia
  have Ik:∀x∈fs.map Fd.nm,Nm x:=fun x hx=>by obtain⟨f,hf,rfl⟩:=T5.mp hx;exact(hI.fo f hf).nm
  have i3:i*100000<=200000:=by lia
  have eP:names.map ts++aO ([y,x0].map ts) none (some 1)=(names ++ [y]).map ts:=by rw[show aO ([y,x0].map ts) none (some 1)=([y,x0].map ts).take 1 from oK _ 1];simp
  obtain⟨nf',hnf⟩:∃s,s=nf:=⟨_,rfl⟩;obtain⟨lf',hlf2⟩:∃s,s=lf:=⟨_,rfl⟩;rcases hA with ⟨rfl,rfl⟩|⟨rfl,rfl⟩
  all_goals
   refine⟨BH,rfl,uR fs [] none fun s'=>⟨rfl,ns,n,z,_,fs.map Fd.nm,fs.map Fd.nm,rfl,.inl rfl,hl,by lia,by rw[Ta];lia,by rw[Ta];lia,fun _ h=>h,Ik,fun x n1 z1 hx nO Iv hn1=>?_⟩⟩;refine⟨by rw[Ta];show names.length+1<=16777216;lia,?_⟩;rw[eP]
   refine⟨fun M=>∃(x:Str) (n:Nat) (z:Int),M=⟨[some (.out 0),some (fi r),some _,some _,some (.own (.lst (fs.map Fd.tv))),some (.own (.lst ((kn fs).map hZ))),some (.own (.dic ws)),some (fi i),some (M50.fs x),some (.own (.lst ((names ++ [y]).map ts))),o10,o11,aZ,bw],[.own (aC ns n z)],[]⟩/\Nm x/\x∉fs.map Fd.nm/\n<=n0+i*100000+20,
    ⟨rfl,ns,n1,z1,2,rfl,hl,by lia,by decide,by decide,fun d n2 z2 d0 d1 cy=>aL (fun g=>?_) (fun g=>⟨x,n2,z2,rfl,hx,nO,by lia⟩)⟩,?_⟩
   ·obtain⟨p,e,hp⟩:=kg (xs:=names ++ [y]) (r:=(i:Int)) (by lia) (by rw[Ta,Tg];simp;lia);refine bx e ⟨BH,rfl,uR fs [] none fun s'=>⟨⟨fF _,rfl⟩,aL (fun g2=>bx e ⟨p,n2,z2,rfl,qp p hp,?_,by lia⟩) (fun g2=>⟨x,n2,z2,rfl,hx,nO,by lia⟩)⟩⟩;intro hm;rw[Ua,(ic p _).mpr hm] at g2;exact absurd g2 (by decide)
   rintro M ⟨x,n3,z3,rfl,hx,nO,gY⟩;refine⟨rfl,ns,n3,z3,_,rfl,hl,by lia,lF (by simp),by rw[Ta,Tg];simp;lia,fun a n4 z4 a0 a1 nS=>?_⟩;obtain⟨a,rfl⟩:=UC a0;have eR:aO ((names ++ [y]).map ts) (some (a:Int)) none++aO ((names ++ [y]).map ts) none (some (a:Int))=((names ++ [y]).drop a++(names ++ [y]).take a).map ts:=by rw[uI,oK,<- map_drop,<- map_take,<- T2]
   have lR:(aO ((names ++ [y]).map ts) (some (a:Int)) none).length+(aO ((names ++ [y]).map ts) none (some (a:Int))).length<=16777216:=by rw[uI,oK,UN,T9,Ta,Tg];simp;lia
   refine⟨fun M=>∃(ps:List Str) (n5:Nat) (z5:Int) (o10:Option Sl),M=⟨[some (.out 0),some (fi r),some nf',some lf',some (.own (.lst (fs.map Fd.tv))),some (.own (.lst ((kn fs).map hZ))),some (.own (.dic ws)),some (fi i),some (M50.fs x),some (.own (.lst ((names ++ [y]).map ts))),o10,some (.own (.lst (ps.map ts))),aZ,bw],[.own (aC ns n5 z5)],[]⟩/\ps.Nodup/\ps.length<=6/\(∀x∈ps,x∈names ++ [y])/\n5<=n0+i*100000+30,⟨lR,rfl,ns,n4,z4,8,rfl,hl,by lia,by decide,by decide,fun r8 n5 z5 HX HW nR=>?_⟩,?_⟩
   ·obtain⟨t,e8,m,rfl,m6⟩:=tT (l:=[ti 1,ti 2,ti 0,ti 3,ti 1,ti 2,ti 2,ti 6]) (P:=fun t=>∃m:Nat,t=ti m/\m<=6) (by
     intro t ht;simp only [Ts,TQ,T7] at ht;rcases ht with rfl|rfl|rfl|rfl|rfl|rfl|rfl|rfl
     ·exact⟨1,rfl,by decide⟩
     ·exact⟨2,rfl,by decide⟩
     ·exact⟨0,rfl,by decide⟩
     ·exact⟨3,rfl,by decide⟩
     ·exact⟨1,rfl,by decide⟩
     ·exact⟨2,rfl,by decide⟩
     ·exact⟨2,rfl,by decide⟩
     ·exact⟨6,rfl,by decide⟩) HX HW
    have eQ:aO (aO ((names ++ [y]).map ts) (some (a:Int)) none++aO ((names ++ [y]).map ts) none (some (a:Int))) none (some (m:Int))=(((names ++ [y]).drop a++(names ++ [y]).take a).take m).map ts:=by rw[eR,oK,<- map_take]
    have gW:(((names ++ [y]).drop a++(names ++ [y]).take a).take m).Nodup:=(Gk sI a).sublist (List.take_sublist _ _);have bA:(((names ++ [y]).drop a++(names ++ [y]).take a).take m).length<=6:=by rw[T9];lia
    have p7:∀x∈((names ++ [y]).drop a++(names ++ [y]).take a).take m,x∈names ++ [y]:=fun x hx=>by
     rcases TB.mp (mem_of_mem_take hx) with h|h
     ·exact mem_of_mem_drop h
     ·exact mem_of_mem_take h
    generalize ((names ++ [y]).drop a++(names ++ [y]).take a).take m=ps at eQ gW bA p7;exact bx e8 ⟨ps,n5,z5,_,(by rw[<- eQ];subst hnf;subst hlf2;rfl),gW,bA,p7,by lia⟩
   rintro M ⟨ps,n5,z5,o10,rfl,gW,bA,p7,nR⟩;rw[hnf,hlf2];have hD:D 4=81920:=by decide
   have W:=hI.wo (sd:=[]) (r:=9) (t:=120) (names:=names) (lets:=[y,x0]) (by lia) (fun h=>by rw[h] at vZ;simp at vZ) (by lia) (by simp) (fun x hx=>TL _ hx) (fun x hx=>by
    simp only [Ts,TQ,T7] at hx;rcases hx with rfl|rfl
    ·simp
    ·exact TL _ hx0)
   refine⟨rfl,_,_,names,[y,x0],kn fs,ws,9,120,rfl,by first|exact .inl ⟨rfl,rfl⟩|exact .inr ⟨rfl,rfl⟩,?_⟩;refine⟨rfl,Rp (names ++ [y]) fs,4,by decide,ns,n5,z5,⟨names,[y,x0],kn fs,ws,[],9,120⟩,_,ps,4,1,rfl,.inl rfl,hl,rfl,by decide,by lia,W,by lia,p7,by decide,by decide,fun e n6 z6 r6 t6 he IU vC=>?_⟩;have Iq:(fs.map Fd.tv).length<16777216:=by rw[Ta];lia
   have Ip:((kn fs).map hZ).length+1<=16777216:=by rw[Ta];unfold kn;rw[Ta];lia
   have Io:ws.length<16777216:=by have:=hI.wl;lia
   refine⟨rfl,Iq,Ip,rfl,Rp (names ++ [y]) fs,e,_,ws,rfl,.inl rfl,he,hI.A,fun i'=>⟨Io,?_⟩⟩;have G:=Gj (r:=r) hl j5 vZ Jp qp sI hx0 hQ j (i+1) (fs ++ [⟨x,ps,e⟩]) (dP ws (.inr x) (ti i')) n6 z6 (.fz (.lst (names.map ts))) (.fz (.lst ([y,x0].map ts))) (some (fi i)) (some (M50.fs x)) (some (.own (.lst ((names ++ [y]).map ts)))) o10 (some (.own (.lst (ps.map ts)))) (some (.own (cZ ((⟨names,[y,x0],kn fs,ws,[],9,120⟩:Wo).at r6 t6)))) (some (.fz (E.tv e))) (by lia) (by rw[Tg];simp;lia) (hI.add (f:=⟨x,ps,e⟩) nO ⟨hx,gW,bA,p7,he,by have h9:e.inn+cH r6<=3:=IU;have:=he.cnt_inn;show e.cnt<=30;lia⟩ i') (by lia) (.inr ⟨rfl,rfl⟩);have e1:(fs ++ [(⟨x,ps,e⟩:Fd)]).map Fd.tv=fs.map Fd.tv ++ [.tup [ts x,.tup (ps.map ts),E.tv e]]:=by simp [Fd.tv]
   have e2:(kn (fs ++ [(⟨x,ps,e⟩:Fd)])).map hZ=(kn fs).map hZ ++ [.tup [ts x,ti (ps.map ts).length]]:=by simp [kn,hZ]
   rw[e1,e2] at G;exact G
theorem Qz:∀args k,eX args k->aH (aB gP AL) (aS args k) (aU 14 args):=by
 rintro args k ⟨ns,n,z,r,rfl,hr32,hl,hn,q⟩;have S1:D 4=81920:=by decide
 have S0:D 7=41943040:=by decide
 refine⟨rfl,ns,n,z,4,rfl,hl,by lia,by decide,by decide,fun r4 n1 z1 SO SN hn1=>?_⟩;refine⟨rfl,ns,n1,z1,_,rfl,hl,by lia,by lia,by lia,fun xs n2 z2 hlen kU kT cy=>?_⟩;refine⟨rfl,ns,n2,z2,_,xs,xs,rfl,.inl rfl,hl,by lia,by lia,by lia,fun _ h=>h,fun x hx=>(kT x hx).1,fun y n3 z3 hy pX vw gY=>?_⟩;obtain⟨x0,e0,hx0⟩:=kg (xs:=xs) (r:=0) (by decide) (by rw[Ta];lia);have sI:(xs ++ [y]).Nodup:=nodup_append.mpr ⟨kU,by simp,fun a ha b hb=>by simp at hb;rw[hb];exact fun z=>pX (z▸ha)⟩
 have qp:∀x∈xs ++ [y],Nm x:=fun x hx=>by
  rcases TB.mp hx with h|h
  ·exact(kT x h).1
  ·simp at h;exact h▸hy
 refine bx e0 ?_;refine⟨fun M=>∃(fs:List Fd) (ws:List (aw×Tv)) (n':Nat) (z:Int) (nf lf:Sl) (o7 o8 o9 o10 o11 aZ bw:Option Sl),M=⟨[some (.out 0),some (fi r),some nf,some lf,some (.own (.lst (fs.map Fd.tv))),some (.own (.lst ((kn fs).map hZ))),some (.own (.dic ws)),o7,o8,o9,o10,o11,aZ,bw],[.own (aC ns n' z)],[]⟩/\PInv (xs ++ [y]) fs ws/\fs.length<=3/\n'<=n+500000/\((nf = .own (.lst (xs.map ts))/\lf = .own (.lst ([y,x0].map ts)))∨(nf = .fz (.lst (xs.map ts))/\lf = .fz (.lst ([y,x0].map ts)))),?_,?_⟩
 ·refine⟨rfl,ns,n3,z3,4,rfl,hl,by lia,by decide,by decide,fun r5 n4 z4 HZ HY nS=>?_⟩
  obtain⟨t,e,m,rfl,m3⟩:=tT (l:=[ti 1,ti 0,ti 2,ti 3]) (P:=fun t=>∃m:Nat,t=ti m/\m<=3) (by
   intro t ht;simp only [Ts,TQ,T7] at ht;rcases ht with rfl|rfl|rfl|rfl
   ·exact⟨1,rfl,by decide⟩
   ·exact⟨0,rfl,by decide⟩
   ·exact⟨2,rfl,by decide⟩
   ·exact⟨3,rfl,by decide⟩) HZ HY
  refine bx e ⟨⟨by lia,by lia⟩,?_⟩;show cN _ _ _ (fE ((m:Int).toNat)) _;rw[show fE ((m:Int).toNat)=rf 0 m from yK m];refine Gj (n0:=n4) (names:=xs) (y:=y) (x0:=x0) hl (by lia) (by lia) (by lia) qp sI hx0 ?_ m 0 [] [] n4 z4 _ _ none none none none none none none (by lia) rfl ⟨fun f hf=>(by cases hf),nodup_nil,fun f hf=>(by cases hf),Tf _⟩ (by lia) (.inl ⟨rfl,rfl⟩);exact fun fs ws n' z' nf lf o7 o8 o9 o10 o11 aZ bw h1 h2 h3 h4=>⟨fs,ws,n',z',nf,lf,o7,o8,o9,o10,o11,aZ,bw,rfl,h1,h2,by lia,h4⟩
 ·rintro M ⟨fs,ws,n5,z5,nf,lf,o7,o8,o9,o10,o11,aZ,bw,rfl,hI,hf3,nR,hA⟩
  have W:=fun(sd:List Tv)=>hI.wo (sd:=sd) (r:=r) (t:=1400) (names:=xs) (lets:=[y,x0]) hf3 (fun h=>by rw[h] at hx0;cases hx0) (by lia) (by simp) (fun x hx=>TL _ hx) (fun x hx=>by
    simp only [Ts,TQ,T7] at hx;rcases hx with rfl|rfl
    ·simp
    ·exact TL _ hx0)
  have pl:(xs ++ [y]).length<=6:=by rw[Tg];simp;lia
  rcases hA with ⟨rfl,rfl⟩|⟨rfl,rfl⟩
  all_goals
   refine⟨rfl,_,_,xs,[y,x0],kn fs,ws,r,1400,rfl,by first|exact .inl ⟨rfl,rfl⟩|exact .inr ⟨rfl,rfl⟩,?_⟩;refine⟨rfl,ns,n5,z5,2,rfl,hl,by lia,by decide,by decide,fun d n6 z6 d0 d1 vC=>?_⟩;refine⟨rfl,Rp (xs ++ [y]) fs,ns,n6,z6,⟨xs,[y,x0],kn fs,ws,[],r,1400⟩,_,rfl,hl,by lia,by lia,by lia,W [],fun l n7 z7 BG=>⟨by show 8<16777216;decide,?_⟩⟩;refine⟨rfl,Rp (xs ++ [y]) fs,7,by decide,ns,n7,z7,⟨xs,[y,x0],kn fs,ws,l,r,1400⟩,_,[],7,1,rfl,.inl rfl,hl,rfl,by decide,by lia,W l,by decide,fun x hx=>(by cases hx),by decide,by decide,fun e n8 z8 r8 t8 he IT sD=>?_⟩;have h9:e.inn+cH r8<=cH r:=IT;have h10:=he.cnt_inn;have BQ:cH r<=26:=by unfold cH;lia
   exact q (xs ++ [y]) fs e n8 z8 ⟨pl,qp,hf3,hI.fo,hI.nd,he,by lia⟩ (by lia)
noncomputable abbrev fb (b:Bool):Sl:=.fz (.at (.bl b))
noncomputable abbrev tb (b:Bool):Tv:=.at (.bl b)
inductive aV (R:Rl)(N:Nat)(args:List Sl)(k:ad):Prop
 |mk (e:E) (s:Sl) (bs:List Str) (_:args = [.fz (E.tv e),s]) (_:eG s (bs.map ts)) (_:bs.length+N<=1000) (_:Ex R N e) (_:∀b,k (fb b) [.fz (E.tv e),s])
theorem Aq {bs:List Str}{k:List Tv->Ms->Prop}(hA:(a0 = .out 0/\aj = [.own (.lst (bs.map ts))])∨(a0 = .fz (.lst (bs.map ts))/\aj = []))(hb:bs.length+N<=1000):
  ∀(ks:List E) (ak:List Bool) (s:Option Sl),(∀e∈ks,Ex R N e)->(∀(bl:List Bool) (s':Option Sl),k (bl.map tb) ⟨[some a0,s'],aj,[]⟩)->aY (bd (.nm 1)) (av (nC (aV R N) ag) .tt).t (av (nC (aV R N) ag) AH).e k (E.tvL ks) (ak.map tb) ⟨[some a0,s],aj,[]⟩
 |[],ak,s,_,q=>q ak s
 |e::ks,ak,s,h,q=>by
  have h1:∀i s,aY (bd (.nm 1)) (av (nC (aV R N) ag) .tt).t (av (nC (aV R N) ag) AH).e k (E.tvL ks) (ak.map tb ++ [tb i]) ⟨[some a0,s],aj,[]⟩:=fun i s=>by
   have e1:ak.map tb ++ [tb i]=(ak ++ [i]).map tb:=by simp
   rw[e1];exact Aq hA hb ks (ak ++ [i]) s (fun x hx=>h x (Tb _ hx)) q
  have he:=h e Te;rcases hA with ⟨rfl,rfl⟩|⟨rfl,rfl⟩
  ·exact⟨rfl,e,_,bs,rfl,.inl rfl,hb,he,fun i=>h1 i _⟩
  ·exact⟨rfl,e,_,bs,rfl,.inr rfl,hb,he,fun i=>h1 i _⟩
theorem EW (bl:List Bool):blL (bl.map tb):=fun t ht=>by obtain⟨b,_,rfl⟩:=T5.mp ht;exact⟨b,rfl⟩
theorem Oa (R:Rl)(N:Nat):∀args k,aV R (N+1) args k->aH (aB (nC (aV R N) ag) Ae) (aS args k) (aU 2 args):=by
 rintro args k ⟨e,s,bs,rfl,hs,hb,he,q⟩
 cases he with
 | @mk _ w ks h hk=>
  have hl:=h.le;rcases hs with rfl|rfl
  all_goals
   cases w with
   |lt x=>obtain⟨a,c,rfl⟩:=lb h.1;refine⟨rfl,a,_,bs,rfl,by first|exact .inl rfl|exact .inr rfl,by lia,hk a (by simp),fun b=>aL (fun _=>?_) (fun _=>q _)⟩;exact⟨by show(bs.map ts).length+1<=_;rw[Ta];lia,rfl,c,_,bs ++ [x],rfl,tf bs x,by rw[Tg];show bs.length+1+N<=_;lia,hk c (by simp),fun b=>q b⟩
   |st x=>refine⟨⟨fF bs,rfl⟩,aL (fun _=>q false) (fun _=>?_)⟩;exact⟨rfl,.st x,ks,rfl,by lia,by rw[cw];lia,rfl,Aq (bs:=bs) (by first|exact .inl ⟨rfl,rfl⟩|exact .inr ⟨rfl,rfl⟩) (by lia) ks [] none hk fun bl s'=>⟨EW bl,q _⟩⟩
   |_=>exact⟨rfl,_,ks,rfl,by lia,by rw[cw];lia,rfl,Aq (bs:=bs) (by first|exact .inl ⟨rfl,rfl⟩|exact .inr ⟨rfl,rfl⟩) (by lia) ks [] none hk fun bl s'=>⟨EW bl,q _⟩⟩
inductive bg (R:Rl)(N:Nat)(args:List Sl)(k:ad):Prop
 |mk (e:E) (_:args = [.fz (E.tv e)]) (_:Ex R N e) (_:e.cnt<=1000000) (_:∀xs:List Str,xs.length<=e.cnt->k (.own (.lst (xs.map ts))) [.fz (E.tv e)])
theorem GV {P:PD}{e:E}(hc:e.cnt<=1000000)(hP:∀(xs:List Str) s,xs.length<=e.cnt->P.nx ⟨[some (.fz (E.tv e)),some (.own (.lst (xs.map ts))),s],[],[]⟩):
  ∀(l:List E) (xs:List Str) (s:Option Sl),xs.length+Tree.cntL l<=e.cnt->(∀t∈l,Ex R N t)->cN (bd (.nm 2)) (aH (aB (oQ ag (bg R N)) Av)) P (E.tvL l) ⟨[some (.fz (E.tv e)),some (.own (.lst (xs.map ts))),s],[],[]⟩
 |[],xs,s,h,_=>hP xs s (by rw[Tree.cntL] at h;lia)
 |t::l,xs,s,h,ht=>by
  rw[Tree.cntL] at h;refine⟨rfl,t,rfl,ht t Te,by lia,fun ys kR=>⟨?_,?_⟩⟩
  ·show(xs.map ts).length+(ys.map ts).length<=16777216;rw[Ta,Ta];lia
  ·have e1:xs.map ts++ys.map ts=(xs++ys).map ts:=by simp
   show cN _ _ _ (E.tvL l) ⟨[_,some (.own (.lst (xs.map ts++ys.map ts))),_],[],[]⟩;rw[e1];exact GV hc hP l (xs++ys) _ (by rw[Tg];lia) fun x hx=>ht x (Tb _ hx)
theorem sZ (a b : α)(l:List α):aO (a::b::l) (some 1) (some 2) = [b]:=by unfold aO;rw[show HT.sIx (a::b::l).length 0 (some 1)=min 1 (a::b::l).length from HT.sIx_nat _ _ 1,show HT.sIx (a::b::l).length (a::b::l).length (some 2)=min 2 (a::b::l).length from HT.sIx_nat _ _ 2];simp only [Tz];rw[Nat.min_eq_left (by lia),Nat.min_eq_left (by lia)];rfl
theorem B0 (l:List α):(List.replicate 1 l).flatten=l:=by simp
theorem N9 (R:Rl)(N:Nat):∀args k,bg R (N+1) args k->aH (aB (oQ ag (bg R N)) zV) (aS args k) (aU 3 args):=by
 rintro args k ⟨e,rfl,he,hc,q⟩
 cases he with
 | @mk _ w ks h hk=>
  have hl:=h.le;have kO:∀(xs:List Str),xs.length<=1->(aB (oQ ag (bg R N)) (.for (.nm 2) (.call 0 (.cons (.var 0) .nil)) Av)) { aS [.fz (E.tv (.nd w ks))] k with nx:=fun M=>∃(xs:List Str) (s:Option Sl),xs.length<=Tree.cnt (.nd w ks)/\M=⟨[some (.fz (E.tv (.nd w ks))),some (.own (.lst (xs.map ts))),s],[],[]⟩ } ⟨[some (.fz (E.tv (.nd w ks))),some (.own (.lst (xs.map ts))),none],[],[]⟩:=fun xs hx=>by refine⟨rfl,w,ks,rfl,by lia,?_⟩;refine GV hc ?_ ks xs none (by rw[Tree.cnt];lia) hk;exact fun xs s hx=>⟨xs,s,hx,rfl⟩
  have fin:∀M',(∃(xs:List Str) (s:Option Sl),xs.length<=Tree.cnt (.nd w ks)/\M'=(⟨[some (.fz (E.tv (.nd w ks))),some (.own (.lst (xs.map ts))),s],[],[]⟩:Ms))->aH (aB (oQ ag (bg R N)) (.ret (.var 1))) (aS [.fz (E.tv (.nd w ks))] k) M':=by rintro M ⟨xs,s,hx,rfl⟩;exact q xs hx
  cases w with
  |call f=>
   have e1:(List.replicate 1 (aO (ts "call"::ts f::E.tvL ks) (some 1) (some 2))).flatten = [f].map ts:=by rw[B0,sZ];rfl
   have e2:(aO (ts "call"::ts f::E.tvL ks) (some 1) (some 2)).length*1<=16777216:=by rw[sZ];simp
   refine⟨⟨⟨by decide,by decide⟩,e2⟩,_,?_,fin⟩;have:=kO [f] (by simp);rw[<- e1] at this;exact this
  |_=>exact⟨⟨⟨by decide,by decide⟩,by show _*0<=_;lia⟩,_,kO [] (by decide),fin⟩
noncomputable def Rt (R:Rl):Rl:=⟨R.X,fun _ _=>True⟩
inductive fg (R:Rl)(N:Nat)(args:List Sl)(k:ad):Prop
 |mk (e:E) (f g:Str) (s:Sl) (mr:List E) (_:args = [.fz (E.tv e),fs f,fs g,s]) (_:eG s (E.tvL mr)) (_:mr.length<=1) (_:(∀e∈mr,Ex (Rt R) 1 e)) (_:Tree.cntL mr<=1) (_:Nm g) (_:(∀h m,R.A h m->m<=6)) (_:Ex R N e) (_:∀e',Ex (Rt R) (N+1) e'->e'.cnt<=2*e.cnt->k (.fz (E.tv e')) [.fz (E.tv e),fs f,fs g,s])
theorem ny:∀a b:List E,Tree.cntL (a++b)=Tree.cntL a+Tree.cntL b
 |[],b=>by simp [Tree.cntL]
 |k::a,b=>by rw[TC,Tree.cntL,Tree.cntL,ny a b];lia
theorem EV {f g:Str}{mr:List E}{k:List Tv->Ms->Prop}(hA:(a0 = .out 0/\aj = [.own (.lst (E.tvL mr))])∨(a0 = .fz (.lst (E.tvL mr))/\aj = []))(h1:mr.length<=1)(h2:∀e∈mr,Ex (Rt R) 1 e)(jd:Tree.cntL mr<=1)(h3:Nm g)(h4:∀h m,R.A h m->m<=6):
  ∀(ks ak:List E) (s:Option Sl),(∀e∈ks,Ex R N e)->(∀e∈ak,Ex (Rt R) (N+1) e)->(∀(es:List E) (s':Option Sl),es.length=ak.length+ks.length->(∀e∈es,Ex (Rt R) (N+1) e)->Tree.cntL es<=Tree.cntL ak+2*Tree.cntL ks->k (E.tvL es) ⟨[some (fs f),some (fs g),some a0,s'],aj,[]⟩)->aY (bd (.nm 3)) (av (nE ag (fg R N) aE) .tt).t (av (nE ag (fg R N) aE) AX).e k (E.tvL ks) (E.tvL ak) ⟨[some (fs f),some (fs g),some a0,s],aj,[]⟩
 |[],ak,s,_,ha,q=>q ak s rfl ha (by simp [Tree.cntL])
 |e::ks,ak,s,h,ha,q=>by
  have go:∀e',Ex (Rt R) (N+1) e'->e'.cnt<=2*e.cnt->∀s,aY (bd (.nm 3)) (av (nE ag (fg R N) aE) .tt).t (av (nE ag (fg R N) aE) AX).e k (E.tvL ks) (E.tvL ak ++ [E.tv e']) ⟨[some (fs f),some (fs g),some a0,s],aj,[]⟩:=fun e' cX cG s=>by
   have e1:E.tvL ak ++ [E.tv e']=E.tvL (ak ++ [e']):=by simp only [E.tvL,eM,T2];rfl
   rw[e1];exact EV hA h1 h2 jd h3 h4 ks (ak ++ [e']) s (fun x hx=>h x (Tb _ hx)) (fun x hx=>(TB.mp hx).elim (ha x) fun z=>by simp at z;exact z▸cX) fun es s' hl ja mQ=>q es s' (by rw[hl,Tg];simp;lia) ja (by rw[ny] at mQ;simp only [Tree.cntL] at mQ ⊢;lia)
  have he:=h e Te;rcases hA with ⟨rfl,rfl⟩|⟨rfl,rfl⟩
  ·exact⟨rfl,e,f,g,_,mr,rfl,.inl rfl,h1,h2,jd,h3,h4,he,fun e' cX cG=>go e' cX cG _⟩
  ·exact⟨rfl,e,f,g,_,mr,rfl,.inr rfl,h1,h2,jd,h3,h4,he,fun e' cX cG=>go e' cX cG _⟩
theorem Me (a b:List E):E.tvL (a++b)=E.tvL a++E.tvL b:=by simp only [E.tvL,eM,T2]
theorem Ar.rt {w:Wd}(h:Ar R w m):Ar (Rt R) w m:=h.mono (R:=R) (R':=Rt R) (fun _ h=>h) fun _ _ _=>trivial
theorem J1 (R:Rl)(N:Nat):∀args k,fg R (N+1) args k->aH (aB (nE ag (fg R N) aE) AV) (aS args k) (aU 5 args):=by
 rintro args k ⟨e,f,g,s,mr,rfl,hs,h1,h2,jd,h3,h4,he,q⟩
 cases he with
 | @mk _ w ks h hk=>
  have hl:=h.le;rcases hs with rfl|rfl
  all_goals
   refine⟨rfl,w,ks,rfl,by lia,by rw[cw];lia,rfl,EV (mr:=mr) (by first|exact .inl ⟨rfl,rfl⟩|exact .inr ⟨rfl,rfl⟩) h1 h2 jd h3 h4 ks [] none hk (fun e h=>by cases h) fun es s' ja he cG=>?_⟩;have vR:es.length=ks.length:=by simpa using ja
   have mQ:Tree.cntL es<=2*Tree.cntL ks:=by simpa [Tree.cntL] using cG
   have A9:∀w',Ar R w' ks.length->k (.fz (.tup (w'.hd.map Tv.at++E.tvL es))) [.fz (E.tv (.nd w ks)),fs f,fs g,_]:=fun w' h'=>q (.nd w' es) (.mk (by rw[vR];exact h'.rt) he) (by rw[Tree.cnt,Tree.cnt];lia)
   cases w with
   |call c=>
    refine aL (fun _=>?_) (fun _=>?_)
    ·refine⟨by show 2+(E.tvL es).length<=_;rw[cw];lia,by show([ts "call",ts g]++E.tvL es).length+(E.tvL mr).length<=_;rw[Tg,cw,cw];show 2+es.length+mr.length<=_;lia,?_⟩
     have:=q (.nd (.call g) (es++mr)) (.mk ⟨by rw[Tg];have:=h4 _ _ h.2.2;lia,h3,trivial⟩ fun e cX=>(TB.mp cX).elim (he e) fun z=>(h2 e z).up (by lia)) (by rw[Tree.cnt,Tree.cnt,ny];lia);have e1:E.tv (.nd (.call g) (es++mr)) = .tup ([ts "call",ts g]++E.tvL es++E.tvL mr):=by show Tv.tup ([ts "call",ts g]++E.tvL (es++mr))=_;rw[Me,TF]
     rw[e1] at this;exact this
    ·exact⟨rfl,.call c,ks,_,E.tvL es,rfl,.inl rfl,by lia,by rw[cw];lia,A9 _ h⟩
   |_=>exact⟨rfl,_,ks,_,E.tvL es,rfl,.inl rfl,by lia,by rw[cw];lia,A9 _ h⟩
mutual
noncomputable def fr (b:List Str):E->List Str
 | .nd (.name x) _=>if x∈b then [] else [x]
 | .nd (.st x) ks=>x::cY b b ks
 | .nd (.lt x) ks=>cY b (b ++ [x]) ks
 | .nd _ ks=>cY b b ks
noncomputable def cY (b c:List Str):List E->List Str
 |[]=>[]
 |k::ks=>fr b k++cY c c ks
end
mutual
theorem lE (b:List Str):∀e:E,(fr b e).length<=e.cnt
 | .nd w ks=>by
  rw[Tree.cnt]
  cases w with
  |name x=>rw[fr];split <;> simp
  |st x=>rw[fr,Tz];have:=ud b b ks;lia
  |lt x=>rw[fr];have:=ud b (b ++ [x]) ks;lia
  |_=>simp only [fr];have:=ud b b ks;lia
theorem ud (b c:List Str):∀ks:List E,(cY b c ks).length<=Tree.cntL ks
 |[]=>by simp [cY,Tree.cntL]
 |k::ks=>by rw[cY,Tree.cntL,Tg];have:=lE b k;have:=ud c c ks;lia
end
inductive cq (R:Rl)(N:Nat)(args:List Sl)(k:ad):Prop
 |mk (e:E) (s:Sl) (bs:List Str) (_:args = [.fz (E.tv e),s]) (_:eG s (bs.map ts)) (_:bs.length+N<=1000) (_:Ex R N e) (_:e.cnt<=1000000) (_:∀s',eG s' (bs.map ts)->k (.own (.lst ((fr bs e).map ts))) [.fz (E.tv e),s'])
def jA (a:Sl)(aj:List Sl)(L:List Tv):Prop:=(a = .out 0/\(aj = [.own (.lst L)]∨aj = [.fz (.lst L)]))∨(a = .fz (.lst L)/\aj = [])
abbrev gF (R:Rl)(N:Nat):Gm:=zj ag (cq R N)
theorem zP {w:Wd}{bs cs xs:List Str}{a:Sl}{t:E}{P:PD}{s5:Option Sl}(hA:jA a aj (bs.map ts))(hb:bs.length+N+1<=1000)
  (hc:(∃x,w = .lt x/\j=1/\cs=bs ++ [x])∨((∀x,w = .lt x->j≠1)/\cs=bs)) (ht:Ex R N t) (g9:t.cnt<=1000000) (hx:xs.length+t.cnt<=1000000)
  (q:∀aX px,jA a aX (bs.map ts)->P.nx ⟨[some (.fz (E.tv (.nd w ks))),some a,some (.own (.lst ((xs++fr cs t).map ts))),some (fi j),some (.fz (E.tv t)),px],aX,[]⟩):
  aH (aB (gF R N) rA) P ⟨[some (.fz (E.tv (.nd w ks))),some a,some (.own (.lst (xs.map ts))),some (fi j),some (.fz (E.tv t)),s5],aj,[]⟩:=by
 have e1:xs.map ts++(fr cs t).map ts=(xs++fr cs t).map ts:=by simp
 have hfl:=lE cs t;have ln:(xs.map ts).length+((fr cs t).map ts).length<=16777216:=by rw[Ta,Ta];lia
 obtain⟨a',ha⟩:∃s,s=a:=⟨_,rfl⟩;have Il:(bs.map ts).length+1<=16777216:=by rw[Ta];lia
 have fin:∀M,(∃(s5:Sl) (aX:List Sl),(eG s5 (cs.map ts)∨(s5 = .out 0/\a' = .out 0/\cs=bs))/\jA a' aX (bs.map ts)/\M=(⟨[some (.fz (E.tv (.nd w ks))),some a',some (.own (.lst (xs.map ts))),some (fi j),some (.fz (E.tv t)),some s5],aX,[]⟩:Ms))->aH (aB (gF R N) (.set 2 (.bin .add (.var 2) (.call 1 (.cons (.var 4) (.cons (.var 5) .nil)))))) P M:=by
  rintro M ⟨s5,aX,hs5,jI,rfl⟩;subst ha
  have jb:cs.length+N<=1000:=by
   rcases hc with ⟨x,_,_,rfl⟩|⟨_,rfl⟩
   ·rw[Tg];show bs.length+1+N<=_;lia
   ·lia
  rw[<- e1] at q;rcases jI with ⟨rfl,rfl|rfl⟩|⟨rfl,rfl⟩ <;> rcases hs5 with (rfl|rfl)|⟨rfl,h0,rfl⟩
  ·exact⟨rfl,t,_,cs,rfl,.inl rfl,jb,ht,g9,fun s' hs'=>⟨ln,q _ _ (.inl ⟨rfl,.inl rfl⟩)⟩⟩
  ·exact⟨rfl,t,_,cs,rfl,.inr rfl,jb,ht,g9,fun s' hs'=>⟨ln,q _ _ (.inl ⟨rfl,.inl rfl⟩)⟩⟩
  ·exact⟨rfl,t,_,cs,rfl,.inl rfl,jb,ht,g9,fun s' hs'=>by
    rcases hs' with rfl|rfl
    ·exact⟨ln,q _ _ (.inl ⟨rfl,.inl rfl⟩)⟩
    ·exact⟨ln,q _ _ (.inl ⟨rfl,.inr rfl⟩)⟩⟩
  ·exact⟨rfl,t,_,cs,rfl,.inl rfl,jb,ht,g9,fun s' hs'=>⟨ln,q _ _ (.inl ⟨rfl,.inr rfl⟩)⟩⟩
  ·exact⟨rfl,t,_,cs,rfl,.inr rfl,jb,ht,g9,fun s' hs'=>⟨ln,q _ _ (.inl ⟨rfl,.inr rfl⟩)⟩⟩
  ·exact⟨rfl,t,_,cs,rfl,.inr rfl,jb,ht,g9,fun s' hs'=>⟨ln,q _ _ (.inl ⟨rfl,.inr rfl⟩)⟩⟩
  ·exact⟨rfl,t,_,cs,rfl,.inl rfl,jb,ht,g9,fun s' hs'=>⟨ln,q _ _ (.inr ⟨rfl,rfl⟩)⟩⟩
  ·exact⟨rfl,t,_,cs,rfl,.inr rfl,jb,ht,g9,fun s' hs'=>⟨ln,q _ _ (.inr ⟨rfl,rfl⟩)⟩⟩
  ·injection h0
 rcases hA with ⟨rfl,rfl|rfl⟩|⟨rfl,rfl⟩
 all_goals
  refine⟨fun M=>∃(s5:Sl) (aX:List Sl),(eG s5 (cs.map ts)∨(s5 = .out 0/\a' = .out 0/\cs=bs))/\jA a' aX (bs.map ts)/\M=(⟨[some (.fz (E.tv (.nd w ks))),some a',some (.own (.lst (xs.map ts))),some (fi j),some (.fz (E.tv t)),some s5],aX,[]⟩:Ms),?_,fin⟩;subst ha;rcases hc with ⟨x,rfl,rfl,rfl⟩|⟨hw,rfl⟩
  ·refine⟨Il,_,_,.inl (tf bs x),?_,rfl⟩
   first|exact .inl ⟨rfl,.inl rfl⟩|exact .inl ⟨rfl,.inr rfl⟩|exact .inr ⟨rfl,rfl⟩
  ·cases w with
   |lt x=>
    have hj:=hw x rfl;refine aL (fun g=>absurd ?_ hj) (fun _=>⟨_,_,?_,?_,rfl⟩)
    ·have g':=Ub (by simpa using g:decide (V.int (j:Int)=V.int 1)=true);injection g' with g';lia
    ·first|exact .inr ⟨rfl,rfl,rfl⟩|exact .inl (.inr rfl)
    ·first|exact .inl ⟨rfl,.inl rfl⟩|exact .inl ⟨rfl,.inr rfl⟩|exact .inr ⟨rfl,rfl⟩
   |_=>
    refine⟨_,_,?_,?_,rfl⟩
    ·first|exact .inr ⟨rfl,rfl,rfl⟩|exact .inl (.inr rfl)
    ·first|exact .inl ⟨rfl,.inl rfl⟩|exact .inl ⟨rfl,.inr rfl⟩|exact .inr ⟨rfl,rfl⟩
noncomputable def sN:Nat->List Tv->List Tv
 |_,[]=>[]
 |j,t::l=>.tup [ti j,t]::sN (j+1) l
theorem C6:∀(l:List Tv) (j:Nat),((List.range' j l.length).zip l).map (fun p=>Tv.tup [.at (.int (p.1:Nat)),p.2])=sN j l
 |[],j=>rfl
 |t::l,j=>by rw[Tz,List.range'_succ,List.zip_cons_cons,TX,C6 l (j+1)];rfl
theorem JC (l:List Tv):kX l=sN 0 l:=by unfold kX;rw[List.range_eq_range'];exact C6 l 0
theorem Gi {w:Wd}{bs:List Str}{a:Sl}{P:PD}(hw:∀x,w ≠ .lt x)(hb:bs.length+N+1<=1000):
  ∀(l:List E) (j:Nat) (xs:List Str) (aj:List Sl) (s3 s4 s5:Option Sl),jA a aj (bs.map ts)->(∀e∈l,Ex R N e)->xs.length+Tree.cntL l<=1000000 →
   (∀aj s3 s4 s5,jA a aj (bs.map ts)->P.nx ⟨[some (.fz (E.tv (.nd w ks))),some a,some (.own (.lst ((xs++cY bs bs l).map ts))),s3,s4,s5],aj,[]⟩) →
   cN (bd (.cons (.nm 3) (.cons (.nm 4) .nil))) (aH (aB (gF R N) rA)) P (sN j (E.tvL l)) ⟨[some (.fz (E.tv (.nd w ks))),some a,some (.own (.lst (xs.map ts))),s3,s4,s5],aj,[]⟩
 |[],j,xs,aj,s3,s4,s5,hA,_,_,q=>by have:=q aj s3 s4 s5 hA;rw[cY,TJ] at this;exact this
 |t::l,j,xs,aj,s3,s4,s5,hA,hl,hc,q=>by rw[Tree.cntL] at hc;have hfl:=lE bs t;refine zP hA hb (.inr ⟨fun x hx=>absurd hx (hw x),rfl⟩) (hl t Te) (by lia) (by lia) fun aX px jI=>?_;refine Gi hw hb l (j+1) (xs++fr bs t) aX _ _ _ jI (fun e he=>hl e (Tb _ he)) (by rw[Tg];lia) fun aj s3 s4 s5 hA=>?_;have:=q aj s3 s4 s5 hA;rw[cY,<- TF] at this;exact this
theorem Kx {bs:List Str}:(true ^^ dY (.str x) ((bs.map ts).map dE)) = !decide (x∈bs):=by
 by_cases h:x∈bs
 ·rw[(ic x bs).mpr h];simp [h]
 ·have:dY (.str x) ((bs.map ts).map dE)=false:=by
   cases e:dY (.str x) ((bs.map ts).map dE) with
   |false=>rfl
   |true=>exact absurd ((ic x bs).mp e) h
  rw[this];simp [h]
theorem Md (R:Rl)(N:Nat):∀args k,cq R (N+1) args k->aH (aB (gF R N) zl) (aS args k) (aU 6 args):=by
 rintro args k ⟨e,s,bs,rfl,hs,hb,he,hc,q⟩
 cases he with
 | @mk _ w ks h hk=>
  have hl:=h.le;have g9:Tree.cntL ks+1<=1000000:=by rw[Tree.cnt] at hc;lia
  have gV:∃a aj,jA a aj (bs.map ts)/\aU 6 [.fz (E.tv (.nd w ks)),s]=⟨[some (.fz (E.tv (.nd w ks))),some a,none,none,none,none],aj,[]⟩/\((s = .own (.lst (bs.map ts))/\a = .out 0/\aj = [.own (.lst (bs.map ts))])∨(s = .fz (.lst (bs.map ts))/\a = .fz (.lst (bs.map ts))/\aj = [])):=by
   rcases hs with rfl|rfl
   ·exact⟨_,_,.inl ⟨rfl,.inl rfl⟩,rfl,.inl ⟨rfl,rfl,rfl⟩⟩
   ·exact⟨_,_,.inr ⟨rfl,rfl⟩,rfl,.inr ⟨rfl,rfl,rfl⟩⟩
  obtain⟨a,aj,hA,hE,hS⟩:=gV
  have fin:∀M,(∃aj s3 s4 s5,jA a aj (bs.map ts)/\M=(⟨[some (.fz (E.tv (.nd w ks))),some a,some (.own (.lst ((fr bs (.nd w ks)).map ts))),s3,s4,s5],aj,[]⟩:Ms))->aH (aB (gF R N) (.ret (.var 2))) (aS [.fz (E.tv (.nd w ks)),s] k) M:=by
   rintro M ⟨aX,s3,s4,s5,jI,rfl⟩;rcases hS with ⟨rfl,rfl,_⟩|⟨rfl,rfl,_⟩
   ·rcases jI with ⟨_,rfl|rfl⟩|⟨z,_⟩
    ·exact q _ (.inl rfl)
    ·exact q _ (.inr rfl)
    ·injection z
   ·rcases jI with ⟨z,_⟩|⟨_,rfl⟩
    ·injection z
    ·exact q _ (.inr rfl)
  have loop:∀(xs:List Str),xs.length<=1->(∀x,w ≠ .lt x)->fr bs (.nd w ks)=xs++cY bs bs ks->(aB (gF R N) (.for (.cons (.nm 3) (.cons (.nm 4) .nil)) (.enu (.call 0 (.cons (.var 0) .nil))) rA)) { aS [.fz (E.tv (.nd w ks)),s] k with nx:=fun M=>∃aj s3 s4 s5,jA a aj (bs.map ts)/\M=(⟨[some (.fz (E.tv (.nd w ks))),some a,some (.own (.lst ((fr bs (.nd w ks)).map ts))),s3,s4,s5],aj,[]⟩:Ms) } ⟨[some (.fz (E.tv (.nd w ks))),some a,some (.own (.lst (xs.map ts))),none,none,none],aj,[]⟩:=fun xs hx hw hf=>by
   have go:=Gi (R:=R) (N:=N) (w:=w) (ks:=ks) (bs:=bs) (a:=a) (P:={ aS [.fz (E.tv (.nd w ks)),s] k with nx:=fun M=>∃aj s3 s4 s5,jA a aj (bs.map ts)/\M=(⟨[some (.fz (E.tv (.nd w ks))),some a,some (.own (.lst ((fr bs (.nd w ks)).map ts))),s3,s4,s5],aj,[]⟩:Ms) }) hw (by lia) ks 0 xs aj none none none hA hk (by lia) (fun aj s3 s4 s5 hA=>⟨aj,s3,s4,s5,hA,by rw[hf]⟩);rcases hS with ⟨rfl,rfl,rfl⟩|⟨rfl,rfl,rfl⟩
   all_goals
    refine⟨rfl,w,ks,rfl,by lia,?_⟩;show cN _ _ _ (kX (E.tvL ks)) _;rw[JC];exact go
  rw[hE]
  cases w with
  |name x=>
   have hB:=Kx (x:=x) (bs:=bs)
   by_cases hx:x∈bs
   ·have mV:(true ^^ dY (.str x) ((bs.map ts).map dE))=false:=by rw[hB];simp [hx]
    have hq:∀s',eG s' (bs.map ts)->k (.own (.lst [])) [.fz (E.tv (.nd (.name x) ks)),s']:=fun s' hs'=>by have:=q s' hs';rw[fr,Tt hx] at this;exact this
    rcases hS with ⟨rfl,rfl,rfl⟩|⟨rfl,rfl,rfl⟩
    ·refine⟨⟨fF bs,rfl⟩,?_⟩;rw[mV];exact⟨⟨⟨by decide,by decide⟩,by simp⟩,hq _ (.inl rfl)⟩
    ·refine⟨⟨fF bs,rfl⟩,?_⟩;rw[mV];exact⟨⟨⟨by decide,by decide⟩,by simp⟩,hq _ (.inr rfl)⟩
   ·have mV:(true ^^ dY (.str x) ((bs.map ts).map dE))=true:=by rw[hB];simp [hx]
    have hq:∀s',eG s' (bs.map ts)->k (.own (.lst [ts x])) [.fz (E.tv (.nd (.name x) ks)),s']:=fun s' hs'=>by have:=q s' hs';rw[fr,Tp hx] at this;exact this
    rcases hS with ⟨rfl,rfl,rfl⟩|⟨rfl,rfl,rfl⟩
    ·refine⟨⟨fF bs,rfl⟩,?_⟩;rw[mV];exact⟨⟨⟨by decide,by decide⟩,by simp⟩,hq _ (.inl rfl)⟩
    ·refine⟨⟨fF bs,rfl⟩,?_⟩;rw[mV];exact⟨⟨⟨by decide,by decide⟩,by simp⟩,hq _ (.inr rfl)⟩
  |st x=>
   have e1:(List.replicate 1 (aO (ts "set"::ts x::E.tvL ks) (some 1) (some 2))).flatten = [x].map ts:=by rw[B0,sZ];rfl
   have e2:(aO (ts "set"::ts x::E.tvL ks) (some 1) (some 2)).length*1<=16777216:=by rw[sZ];simp
   have:=loop [x] (by simp) (fun y z=>by injection z) (by rw[fr];rfl);rw[<- e1] at this;rcases hS with ⟨rfl,rfl,rfl⟩|⟨rfl,rfl,rfl⟩ <;> exact⟨⟨⟨by decide,by decide⟩,e2⟩,_,this,fin⟩
  |lt x=>
   obtain⟨t,u,rfl⟩:=lb h.1;have hfl:=lE bs t;have Ji:t.cnt+u.cnt<=999999:=by rw[Tree.cntL,Tree.cntL,Tree.cntL] at g9;lia
   have ef:fr bs (.nd (.lt x) [t,u])=([]++fr bs t)++fr (bs ++ [x]) u:=by rw[fr,cY,cY,cY,TJ];rfl
   have go:cN (bd (.cons (.nm 3) (.cons (.nm 4) .nil))) (aH (aB (gF R N) rA)) { aS [.fz (E.tv (.nd (.lt x) [t,u])),s] k with nx:=fun M=>∃aj s3 s4 s5,jA a aj (bs.map ts)/\M=(⟨[some (.fz (E.tv (.nd (.lt x) [t,u]))),some a,some (.own (.lst ((fr bs (.nd (.lt x) [t,u])).map ts))),s3,s4,s5],aj,[]⟩:Ms) } [.tup [ti 0,E.tv t],.tup [ti 1,E.tv u]] ⟨[some (.fz (E.tv (.nd (.lt x) [t,u]))),some a,some (.own (.lst (([]:List Str).map ts))),none,none,none],aj,[]⟩:=by refine zP (j:=0) (xs:=[]) (t:=t) hA (by lia) (.inr ⟨fun y _=>by decide,rfl⟩) (hk t (by simp)) (by lia) (by simp;lia) fun aX px jI=>?_;refine zP (j:=1) (xs:=[]++fr bs t) (t:=u) jI (by lia) (.inl ⟨x,rfl,rfl,rfl⟩) (hk u (by simp)) (by lia) (by simp;lia) fun aX px jI=>?_;exact⟨aX,_,_,px,jI,by rw[ef]⟩
   rcases hS with ⟨rfl,rfl,rfl⟩|⟨rfl,rfl,rfl⟩ <;> exact⟨⟨⟨by decide,by decide⟩,by show _*0<=_;lia⟩,_,⟨rfl,.lt x,[t,u],rfl,by simp,go⟩,fin⟩
  |_=>have:=loop [] (by simp) (fun y z=>by injection z) (by simp only [fr];rfl);rcases hS with ⟨rfl,rfl,rfl⟩|⟨rfl,rfl,rfl⟩ <;> exact⟨⟨⟨by decide,by decide⟩,by show _*0<=_;lia⟩,_,this,fin⟩
noncomputable def pos (x:Str):List Str->Nat
 |[]=>0
 |y::l=>if y=x then 0 else pos x l+1
theorem yJ:∀{l:List Str},x∈l->l[pos x l]? = some x
 |y::l,h=>by
  rw[pos]
  by_cases e:y=x
  ·rw[Tt e];exact UP some e
  ·rw[Tp e]
   rcases Ts.mp h with z|z
   ·exact absurd z.symm e
   ·exact yJ z
theorem zO {x:Str}:∀{l:List Str} {m:Nat},m<pos x l->l[m]? ≠ some x
 |[],m,h=>by cases h
 |y::l,m,h=>by
  rw[pos] at h
  by_cases e:y=x
  ·rw[Tt e] at h;cases h
  ·rw[Tp e] at h
   cases m with
   |zero=>exact fun z=>e (Tw z)
   |succ m=>exact zO (l:=l) (by lia)
noncomputable abbrev Tc:=Tree (List V)
abbrev Tc.tv (t:Tc):Tv:=Tree.tv id t
abbrev Tc.tvL (t:List Tc):List Tv:=Tree.tvL id t
mutual
noncomputable def bare (b:List Str):E->Tc
 | .nd (.name x) ks=>if x∈b then .nd [.str "own",.int (pos x b.reverse)] [] else .nd [.str "name",.str x] (bB b b ks)
 | .nd (.lt x) ks=>.nd [.str "let"] (bB b (b ++ [x]) ks)
 | .nd w ks=>.nd w.hd (bB b b ks)
noncomputable def bB (b c:List Str):List E->List Tc
 |[]=>[]
 |k::ks=>bare b k::bB c c ks
end
inductive bM (R:Rl)(N:Nat)(args:List Sl)(k:ad):Prop
 |mk (e:E) (s:Sl) (bs:List Str) (_:args = [.fz (E.tv e),s]) (_:eG s (bs.map ts)) (_:bs.length+N<=1000) (_:Ex R N e) (_:k (.fz (Tc.tv (bare bs e))) [.fz (E.tv e),s])
abbrev gB (R:Rl)(N:Nat):Gm:=zZ (bM R N) aE ag
theorem Ap {bs:List Str}{k:List Tv->Ms->Prop}(hA:(a0 = .out 0/\aj = [.own (.lst (bs.map ts))])∨(a0 = .fz (.lst (bs.map ts))/\aj = []))(hb:bs.length+N<=1000):
  ∀(ks:List E) (ak:List Tc) (s:Option Sl),(∀e∈ks,Ex R N e)->(∀(s':Option Sl),k (Tc.tvL (ak++bB bs bs ks)) ⟨[some a0,s'],aj,[]⟩)->aY (bd (.nm 1)) (av (gB R N) .tt).t (av (gB R N) Ay).e k (E.tvL ks) (Tc.tvL ak) ⟨[some a0,s],aj,[]⟩
 |[],ak,s,_,q=>by have:=q s;rw[bB,TJ] at this;exact this
 |e::ks,ak,s,h,q=>by
  have h1:∀s,aY (bd (.nm 1)) (av (gB R N) .tt).t (av (gB R N) Ay).e k (E.tvL ks) (Tc.tvL ak ++ [Tc.tv (bare bs e)]) ⟨[some a0,s],aj,[]⟩:=fun s=>by
   have e1:Tc.tvL ak ++ [Tc.tv (bare bs e)]=Tc.tvL (ak ++ [bare bs e]):=by simp only [Tc.tvL,eM,T2];rfl
   rw[e1];refine Ap hA hb ks (ak ++ [bare bs e]) s (fun x hx=>h x (Tb _ hx)) fun s'=>?_;have:=q s';rw[bB] at this;rw[TF];exact this
  have he:=h e Te;rcases hA with ⟨rfl,rfl⟩|⟨rfl,rfl⟩
  ·exact⟨rfl,e,_,bs,rfl,.inl rfl,hb,he,h1 _⟩
  ·exact⟨rfl,e,_,bs,rfl,.inr rfl,hb,he,h1 _⟩
theorem Gh (b c:List Str):∀ks:List E,(bB b c ks).length=ks.length
 |[]=>rfl
 |k::ks=>by rw[bB,Tz,Gh c c ks];rfl
theorem EU (ks:List Tc):(Tc.tvL ks).length=ks.length:=by rw[Tc.tvL,eM,Ta]
theorem N8 (R:Rl)(N:Nat):∀args k,bM R (N+1) args k->aH (aB (gB R N) z0) (aS args k) (aU 2 args):=by
 rintro args k ⟨e,s,bs,rfl,hs,hb,he,q⟩
 cases he with
 | @mk _ w ks h hk=>
  have hl:=h.le;have hbl:=Gh bs bs ks;rcases hs with rfl|rfl
  all_goals
   cases w with
   |name x=>
    refine⟨⟨fF bs,rfl⟩,aL (fun g=>?_) (fun g=>?_)⟩
    ·have hx:x∈bs:=(ic x bs).mp (xf g);rw[bare,Tt hx] at q;exact⟨rfl,bs.reverse,x,pos x bs.reverse,(by rw[List.map_reverse];rfl),rfl,yJ (U8.mpr hx),fun m hm=>zO hm,q⟩
    ·have hx:x∉bs:=fun z=>g (by rw[(ic x bs).mpr z];rfl);rw[bare,Tp hx] at q;exact⟨rfl,.name x,ks,rfl,by lia,by rw[cw];lia,rfl,Ap (bs:=bs) (by first|exact .inl ⟨rfl,rfl⟩|exact .inr ⟨rfl,rfl⟩) (by lia) ks [] none hk fun s'=>⟨rfl,.name x,ks,_,Tc.tvL (bB bs bs ks),rfl,.inl rfl,by lia,by rw[EU];lia,q⟩⟩
   |lt x=>obtain⟨t,u,rfl⟩:=lb h.1;rw[bare,bB,bB,bB] at q;refine⟨rfl,t,_,bs,rfl,by first|exact .inl rfl|exact .inr rfl,by lia,hk t (by simp),?_⟩;exact⟨by show(bs.map ts).length+1<=_;rw[Ta];lia,rfl,u,_,bs ++ [x],rfl,tf bs x,by rw[Tg];show bs.length+1+N<=_;lia,hk u (by simp),q⟩
   |_=>simp only [bare] at q;exact⟨rfl,_,ks,rfl,by lia,by rw[cw];lia,rfl,Ap (bs:=bs) (by first|exact .inl ⟨rfl,rfl⟩|exact .inr ⟨rfl,rfl⟩) (by lia) ks [] none hk fun s'=>⟨rfl,_,ks,_,Tc.tvL (bB bs bs ks),rfl,.inl rfl,by lia,by rw[EU];lia,q⟩⟩
noncomputable def hv (ρ : Str->Option Str)(x:Str):Str:=(ρ x).getD x
noncomputable def jB (ρ : Str->Option Str)(x y:Str):Str->Option Str:=fun z=>if z=x then some y else ρ z
def HOk (hs:List (aw×Tv))(ρ : Str->Option Str):Prop:=∀x,bZ hs (.inr x)=(ρ x).map ts
theorem HOk.get {hs:List (aw×Tv)}(h:HOk hs ρ)(x:Str):(bZ hs (.inr x)).getD (ts x)=ts (hv ρ x):=by rw[h x];unfold hv;cases ρ x <;> rfl
theorem HOk.put {hs:List (aw×Tv)}(h:HOk hs ρ)(x y:Str):HOk (dP hs (.inr x) (ts y)) (jB ρ x y):=fun z=>by
 rw[zQ];unfold jB
 by_cases e:z=x
 ·subst e;rw[Tt rfl,Tt rfl];rfl
 ·rw[Tp (fun q=>e (by injection q with q;exact q.symm)),Tp e];exact h z
mutual
theorem yI:∀(e:E) (B C:List Str) (z:Str),z∈fr B e->(z∈C->z∈B)->z∈fr C e
 | .nd w ks,B,C,z=>by
  cases w with
  |name x=>
   intro h hc;rw[fr] at h ⊢
   by_cases hx:x∈B
   ·rw[Tt hx] at h;cases h
   ·rw[Tp hx] at h;simp at h;subst h;rw[Tp fun q=>hx (hc q)];simp
  |st x=>
   intro h hc;rw[fr] at h ⊢;rcases Ts.mp h with q|q
   ·exact q▸Te
   ·exact Tb _ (uw ks B B C C z q hc hc)
  |lt x=>
   intro h hc;rw[fr] at h ⊢;refine uw ks B (B ++ [x]) C (C ++ [x]) z h hc fun q=>?_;rcases TB.mp q with q|q
   ·exact TL _ (hc q)
   ·exact TM _ q
  |_=>intro h hc;simp only [fr] at h ⊢;exact uw ks B B C C z h hc hc
theorem uw:∀(ks:List E) (B B' C C':List Str) (z:Str),z∈cY B B' ks->(z∈C->z∈B)->(z∈C'->z∈B')->z∈cY C C' ks
 |[],B,B',C,C',z,h,_,_=>by simp [cY] at h
 |k::ks,B,B',C,C',z,h,hc,hc'=>by
  rw[cY] at h ⊢;rcases TB.mp h with q|q
  ·exact TL _ (yI k B C z q hc)
  ·exact TM _ (uw ks B' B' C' C' z q hc' hc')
end
theorem yH {b:List Str}{z:Str}:∀{ks:List E} {k:E},k∈ks->z∈fr b k->z∈cY b b ks
 |k'::ks,k,hk,hz=>by
  rw[cY];rcases Ts.mp hk with q|q
  ·subst q;exact TL _ hz
  ·exact TM _ (yH q hz)
structure RB (B B':List Str)(ρ : Str->Option Str)(F:List Str):Prop where
 len:B.length=B'.length
 bd:∀x∈F,x∈B->hv ρ x∈B'/\pos (hv ρ x) B'.reverse=pos x B.reverse
 fr:∀x∈F,x∉B->hv ρ x=x/\x∉B'
theorem RB.sub {F F':List Str}(h:RB B B' ρ F)(hs:∀x∈F',x∈F):RB B B' ρ F':=⟨h.len,fun x hx=>h.bd x (hs x hx),fun x hx=>h.fr x (hs x hx)⟩
theorem FN (z x:Str)(B:List Str):pos z (B ++ [x]).reverse=if x=z then 0 else pos z B.reverse+1:=by rw[List.reverse_append];rfl
theorem RB.push {e:E}{y:Str}(h:RB B B' ρ (M50.fr [x] e))(hy:y∉(M50.fr [x] e).map (hv ρ)):RB (B ++ [x]) (B' ++ [y]) (jB ρ x y) (M50.fr [] e):=by
 have Iy:hv (jB ρ x y) x=y:=by unfold hv jB;rw[Tt rfl];rfl
 have BA:∀z,z≠x->hv (jB ρ x y) z=hv ρ z:=fun z hz=>by unfold hv jB;rw[Tp hz]
 have gf:∀z∈M50.fr [] e,z≠x->z∈M50.fr [x] e:=fun z hz bj=>yI e [] [x] z hz fun q=>absurd (Uk.mp q) bj;have Bw:∀z∈M50.fr [] e,z≠x->y≠hv ρ z:=fun z hz bj q=>hy (q▸T5.mpr ⟨z,gf z hz bj,rfl⟩);refine⟨by rw[Tg,Tg,h.len];rfl,fun z hz sr=>?_,fun z hz sr=>?_⟩
 ·rw[FN,FN]
  by_cases e:z=x
  ·rw[e,Iy,Tt rfl,Tt rfl];exact⟨by simp,rfl⟩
  ·have mF:z∈B:=by
    rcases TB.mp sr with q|q
    ·exact q
    ·exact absurd (Uk.mp q) e
   obtain⟨h1,h2⟩:=h.bd z (gf z hz e) mF;rw[BA z e,Tp (Bw z hz e),Tp (fun q=>e q.symm),h2];exact⟨TL _ h1,rfl⟩
 ·have e:z≠x:=fun q=>sr (by rw[q];simp)
  have mF:z∉B:=fun q=>sr (TL _ q);obtain⟨h1,h2⟩:=h.fr z (gf z hz e) mF;rw[BA z e];refine⟨h1,fun q=>?_⟩;rcases TB.mp q with q|q
  ·exact h2 q
  ·exact Bw z hz e (by rw[h1];exact(Uk.mp q).symm)
def AlB (ρ : Str->Option Str)(e e':E):Prop:=∀B B',RB B B' ρ (fr [] e)->bare B' e'=bare B e
theorem AlB.name (ρ : Str->Option Str)(x:Str):AlB ρ (.nd (.name x) []) (.nd (.name (hv ρ x)) []):=fun B B' h=>by
 have hx:x∈fr [] (.nd (.name x) []):=by rw[fr,Tp (by simp)];simp
 rw[bare,bare]
 by_cases hB:x∈B
 ·obtain⟨h1,h2⟩:=h.bd x hx hB;rw[Tt h1,Tt hB,h2]
 ·obtain⟨h1,h2⟩:=h.fr x hx hB;rw[h1,Tp h2,Tp hB,bB,bB]
theorem AlB.lt {y:Str}{a c a' c':E}(ha:AlB ρ a a')(hy:y∉(fr [x] c).map (hv ρ))(hc:AlB (jB ρ x y) c c'):AlB ρ (.nd (.lt x) [a,c]) (.nd (.lt y) [a',c']):=fun B B' h=>by
 have ef:fr [] (.nd (.lt x) [a,c])=fr [] a++fr [x] c:=by rw[fr,cY,cY,cY,TJ];rfl
 rw[ef] at h;rw[bare,bare,bB,bB,bB,bB,bB,bB,ha B B' (h.sub fun z hz=>TL _ hz),hc (B ++ [x]) (B' ++ [y]) ((h.sub fun z hz=>TM _ hz).push hy)]
inductive AlL (ρ : Str->Option Str):List E->List E->Prop where
 |nil:AlL ρ [] []
 |cons {e e':E} {ks ks':List E} (h:AlB ρ e e') (r:AlL ρ ks ks'):AlL ρ (e::ks) (e'::ks')
theorem AlL.bare (h:AlL ρ ks ks'):(∀k∈ks,RB B B' ρ (fr [] k))->bB B' B' ks'=bB B B ks:=by
 induction h with
 |nil=>intro _;rw[bB,bB]
 | @cons e e' ks ks' h r ih=>intro hr;rw[bB,bB,h B B' (hr e Te),ih fun k hk=>hr k (Tb _ hk)]
theorem AlL.snoc {e e':E}(h:AlL ρ ks ks')(q:AlB ρ e e'):AlL ρ (ks ++ [e]) (ks' ++ [e']):=by
 induction h with
 |nil=>exact .cons q .nil
 |cons h r ih=>exact .cons h ih
theorem AlL.len (h:AlL ρ ks ks'):ks'.length=ks.length:=by
 induction h with
 |nil=>rfl
 |cons h r ih=>rw[Tz,Tz,ih]
theorem AlB.oth {w:Wd}(h1:∀x,w ≠ .name x)(h2:∀x,w ≠ .lt x)(h:AlL ρ ks ks'):AlB ρ (.nd w ks) (.nd w ks'):=fun B B' hr=>by
 have gx:(∀k∈ks,RB B B' ρ (fr [] k)):=fun k hk=>hr.sub fun z hz=>by
  cases w with
  |name x=>exact absurd rfl (h1 x)
  |lt x=>exact absurd rfl (h2 x)
  |st x=>rw[fr];exact Tb _ (yH hk hz)
  |_=>simp only [fr];exact yH hk hz
 have:=h.bare gx
 cases w with
 |name x=>exact absurd rfl (h1 x)
 |lt x=>exact absurd rfl (h2 x)
 |_=>simp only [M50.bare];rw[this]
noncomputable def Rn (R:Rl):Rl:=⟨Nm,R.A⟩
inductive cB (R:Rl)(N:Nat)(args:List Sl)(k:ad):Prop
 |mk (ns:List Int) (n:Nat) (z:Int) (e:E) (hs:List (aw×Tv)) (ρ : Str->Option Str) (ah P:List Str) (_:args = [.own (aC ns n z),.fz (E.tv e),.own (.dic hs),.own (.lst (ah.map ts))]) (_:ns.length<=63) (_:n+20*e.cnt<=1000000000000) (_:Ex R N e) (_:(∀x,R.X x->x∈P/\Nm x)) (_:P.length<=40) (_:e.cnt<=1000000) (_:HOk hs ρ) (_:hs.length+N<=1000) (_:(∀x y,ρ x=some y->Nm y)) (_:(∀x∈ah,Nm x)) (_:ah.length<=10000000) (_:∀e' n' z',Ex (Rn R) N e'->AlB ρ e e'->e'.cnt=e.cnt->n'<=n+20*e.cnt->k (.fz (E.tv e')) [.own (aC ns n' z'),.fz (E.tv e),.own (.dic hs),.own (.lst (ah.map ts))])
abbrev gR (R:Rl)(N:Nat):Gm:=zW aE ag (cB R N) (cq R N) bp aG
theorem GU {hs:List (aw×Tv)}{P:List Str}{k:List Tv->Ms->Prop}(hl:ns.length<=63)(hX:∀x,R.X x->x∈P/\Nm x)(hP:P.length<=40)(hH:HOk hs ρ)(nU:hs.length+N<=1000)(hρ : ∀x y,ρ x=some y->Nm y)(mI:∀x∈ah,Nm x)(bA:ah.length<=10000000):
  ∀(ks pre ak:List E) (n:Nat) (z:Int) (s:Option Sl),(∀e∈ks,Ex R N e)->(∀e∈ak,Ex (Rn R) N e)->AlL ρ pre ak->Tree.cntL ak=Tree.cntL pre->n+20*Tree.cntL ks<=1000000000000->Tree.cntL ks<=1000000 →
   (∀(es:List E) (n':Nat) (z':Int) (s':Option Sl),AlL ρ (pre++ks) es->(∀e∈es,Ex (Rn R) N e)->Tree.cntL es=Tree.cntL (pre++ks)->n'<=n+20*Tree.cntL ks->k (E.tvL es) ⟨[some (.out 0),some (.out 1),some (.out 2),s'],[.own (aC ns n' z'),.own (.dic hs),.own (.lst (ah.map ts))],[]⟩) →
   aY (bd (.nm 3)) (av (gR R N) .tt).t (av (gR R N) GZ).e k (E.tvL ks) (E.tvL ak) ⟨[some (.out 0),some (.out 1),some (.out 2),s],[.own (aC ns n z),.own (.dic hs),.own (.lst (ah.map ts))],[]⟩
 |[],pre,ak,n,z,s,_,ha,hA,sJ,_,_,q=>q ak n z s (by rw[TJ];exact hA) ha (by rw[TJ];exact sJ) (by lia)
 |e::ks,pre,ak,n,z,s,h,ha,hA,sJ,hn,hc,q=>by
  rw[Tree.cntL] at hn hc;refine⟨rfl,ns,n,z,e,hs,ρ,ah,P,rfl,hl,by lia,h e Te,hX,hP,by lia,hH,nU,hρ,mI,bA,fun e' n' z' cX ka cG hn'=>?_⟩;have e1:E.tvL ak ++ [E.tv e']=E.tvL (ak ++ [e']):=by simp only [E.tvL,eM,T2];rfl
  show aY _ _ _ _ (E.tvL ks) (E.tvL ak ++ [E.tv e']) _;rw[e1];refine GU hl hX hP hH nU hρ mI bA ks (pre ++ [e]) (ak ++ [e']) n' z' _ (fun x hx=>h x (Tb _ hx)) (fun x hx=>(TB.mp hx).elim (ha x) fun z=>by simp at z;exact z▸cX) (hA.snoc ka) (by rw[ny,ny];simp only [Tree.cntL];lia) (by lia) (by lia) fun es n2 z2 s2 h1 h2 jd h3=>?_;rw[TF] at h1 jd;exact q es n2 z2 s2 h1 h2 jd (by rw[Tree.cntL];lia)
theorem Gg {hs:List (aw×Tv)}{k:List Tv->Ms->Prop}(hH:HOk hs ρ):
  ∀(l ak:List Str) (s:Option Sl),(∀s',k ((ak++l.map (hv ρ)).map ts) ⟨[some (.out 0),s'],[.own (.dic hs)],[]⟩)->aY (bd (.nm 1)) (av Γ .tt).t (av Γ GY).e k (l.map ts) (ak.map ts) ⟨[some (.out 0),s],[.own (.dic hs)],[]⟩
 |[],ak,s,q=>by have:=q s;rw[map_nil,TJ] at this;exact this
 |x::l,ak,s,q=>by
  have e1:ak.map ts ++ [(bZ hs (.inr x)).getD (ts x)]=(ak ++ [hv ρ x]).map ts:=by rw[hH.get];simp
  refine⟨rfl,?_⟩;show aY _ _ _ _ (l.map ts) (ak.map ts ++ [(bZ hs (.inr x)).getD (ts x)]) _;rw[e1];exact Gg hH l (ak ++ [hv ρ x]) _ fun s'=>by simpa using q s'
theorem Ao {bs:List Str}{k:List Tv->Ms->Prop}:
  ∀(l ak:List Str) (s:Option Sl),(∀(ys:List Str) s',(∀y∈ys,y∈ak∨(y∈l/\y∉bs))->ys.length<=ak.length+l.length->k (ys.map ts) ⟨[some (.out 0),s'],[.own (.lst (bs.map ts))],[]⟩)->aY (bd (.nm 1)) (av Γ (.cmp .notin (.var 1) (.var 0))).t (av Γ (.var 1)).e k (l.map ts) (ak.map ts) ⟨[some (.out 0),s],[.own (.lst (bs.map ts))],[]⟩
 |[],ak,s,q=>q ak s (fun y h=>.inl h) (by simp)
 |x::l,ak,s,q=>by
  refine⟨⟨fF bs,rfl⟩,aL (fun g=>?_) (fun g=>?_)⟩
  ·have hx:x∉bs:=fun z=>by rw[(ic x bs).mpr z] at g;exact absurd g (by decide)
   have e:ak.map ts ++ [ts x]=(ak ++ [x]).map ts:=by simp
   show aY _ _ _ _ (l.map ts) (ak.map ts ++ [ts x]) _;rw[e];refine Ao l (ak ++ [x]) _ fun ys s' h hl=>q ys s' (fun y hy=>?_) (by simp at hl ⊢;lia);rcases h y hy with z|z
   ·rcases TB.mp z with z|z
    ·exact .inl z
    ·simp at z;subst z;exact .inr ⟨Te,hx⟩
   ·exact .inr ⟨Tb _ z.1,z.2⟩
  ·exact Ao l ak _ fun ys s' h hl=>q ys s' (fun y hy=>(h y hy).elim .inl fun z=>.inr ⟨Tb _ z.1,z.2⟩) (by simp at hl ⊢;lia)
mutual
theorem qA {R:Rl}:∀(N:Nat) (e:E) (b:List Str),Ex R N e->∀x∈fr b e,R.X x
 |N,.nd w ks,b,he,x,hx=>by
  cases he with
  | @mk n _ _ h hk=>
   cases w with
   |name y=>
    rw[fr] at hx
    split at hx
    ·cases hx
    ·simp at hx;exact hx▸h.2
   |st y=>
    rw[fr] at hx;rcases Ts.mp hx with q|q
    ·exact q▸h.2
    ·exact sY n ks b b hk x q
   |lt y=>rw[fr] at hx;exact sY n ks _ _ hk x hx
   |_=>simp only [fr] at hx;exact sY n ks _ _ hk x hx
theorem sY {R:Rl}:∀(N:Nat) (ks:List E) (b c:List Str),(∀k∈ks,Ex R N k)->∀x∈cY b c ks,R.X x
 |N,[],b,c,_,x,hx=>by simp [cY] at hx
 |N,k::ks,b,c,hk,x,hx=>by
  rw[cY] at hx;rcases TB.mp hx with q|q
  ·exact qA N k b (hk k Te) x q
  ·exact sY N ks c c (fun j hj=>hk j (Tb _ hj)) x q
end
theorem C5 (hρ : ∀x y,ρ x=some y->Nm y){x:Str}(hx:Nm x):Nm (hv ρ x):=by
 unfold hv
 cases e : ρ x with
 |none=>exact hx
 |some y=>exact hρ x y e
theorem Ar.rn {w:Wd}(hX:∀x,R.X x->Nm x)(h:Ar R w m):Ar (Rn R) w m:=h.mono (R:=R) (R':=Rn R) hX fun _ _ h=>h
theorem N7 (R:Rl)(N:Nat):∀args k,cB R (N+1) args k->aH (aB (gR R N) zX) (aS args k) (aU 9 args):=by
 rintro args k ⟨ns,n,z,e,hs,ρ,ah,P,rfl,hl,hn,he,hX,hP,hc,hH,nU,hρ,mI,bA,q⟩
 cases he with
 | @mk _ w ks h hk=>
  have hle:=h.le;rw[Tree.cnt] at hn hc
  cases w with
  |name x=>
   have h0:ks = []:=UB h.1;subst h0;have:=q (.nd (.name (hv ρ x)) []) n z (.mk ⟨rfl,C5 hρ (hX x h.2).2⟩ fun k hk=>by cases hk) (AlB.name ρ x) (by rw[Tree.cnt,Tree.cnt]) (by lia);have e1:E.tv (.nd (.name (hv ρ x)) []) = .tup [ts "name",(bZ hs (.inr x)).getD (ts x)]:=by rw[hH.get];rfl
   rw[e1] at this;exact⟨rfl,this⟩
  |lt x=>
   obtain⟨a,c,rfl⟩:=lb h.1;rw[Tree.cntL,Tree.cntL,Tree.cntL] at hn hc;have ha:=hk a (by simp);have hcc:=hk c (by simp);refine⟨rfl,ns,n,z,a,hs,ρ,ah,P,rfl,hl,by lia,ha,hX,hP,by lia,hH,by lia,hρ,mI,bA,fun a' n1 z1 ha' Ju Jk hn1=>?_⟩;have hfl:=lE [x] c;refine⟨rfl,c,_,[x],rfl,.inl rfl,by simp;lia,hcc,by lia,fun s' hs'=>?_⟩;refine⟨by rw[Ta];lia,rfl,Gg hH (fr [x] c) [] none fun s1=>?_⟩;rw[Ua];have hsl:((fr [x] c).map (hv ρ)).length<=1000000:=by rw[Ta];lia
   have j4:∀y∈(fr [x] c).map (hv ρ),Nm y/\y∈P.map (hv ρ):=fun y hy=>by obtain⟨u,hu,rfl⟩:=T5.mp hy;have hu2:=hX u (qA N c [x] hcc u hu);exact⟨C5 hρ hu2.2,T5.mpr ⟨u,hu2.1,rfl⟩⟩
   generalize hS:(fr [x] c).map (hv ρ)=S at hsl j4;refine⟨by rw[Ta];lia,rfl,Ao (bs:=S) ah [] none fun ys s2 kR j3=>?_⟩;refine⟨rfl,ns,n1,z1,_,S,P.map (hv ρ),rfl,.inl rfl,hl,by lia,by lia,by rw[Ta];exact hP,fun y hy=>(j4 y hy).2,fun y hy=>(j4 y hy).1,fun y n2 z2 hy vy vw cy=>?_⟩;refine⟨fun M=>∃(y:Str) (n2:Nat) (z2:Int),M=⟨[some (.out 0),some (.fz (E.tv (.nd (.lt x) [a,c]))),some (.out 1),some (.out 2),some (.fz (E.tv a')),some (.own (.lst (S.map ts))),some (.own (.lst (ys.map ts))),some (fs y),none],[.own (aC ns n2 z2),.own (.dic hs),.own (.lst (ah.map ts))],[]⟩/\Nm y/\y∉S/\n2<=n1+11,aL (fun g=>?_) (fun g=>⟨y,n2,z2,rfl,hy,vy,by lia⟩),?_⟩
   ·have ne:=ue g;refine⟨rfl,ns,n2,z2,_,rfl,hl,by lia,lF ne,by rw[Ta];simp at j3;lia,fun r n3 z3 r0 r1 gY=>?_⟩;obtain⟨u,e,hu⟩:=kg r0 r1;have hu2:u∈ah/\u∉S:=(kR u hu).elim (fun z=>by cases z) id;exact bx e ⟨u,n3,z3,rfl,mI u hu2.1,hu2.2,by lia⟩
   rintro M ⟨y,n3,z3,rfl,hy,vy,gY⟩;have hput:=zg hs (.inr x) (ts y);refine⟨by lia,rfl,ns,n3,z3,c,dP hs (.inr x) (ts y),jB ρ x y,ah,P,rfl,hl,by lia,hcc,hX,hP,by lia,hH.put x y,by lia,fun u v sv=>?_,mI,bA,fun c' n4 z4 hc' sJ vW nS=>?_⟩
   ·unfold jB at sv
    split at sv
    ·cases sv;exact hy
    ·exact hρ u v sv
   ·refine q (.nd (.lt y) [a',c']) n4 z4 (.mk ⟨rfl,hy⟩ fun k hk=>?_) (AlB.lt Ju (by rw[hS];exact vy) sJ) (by rw[Tree.cnt,Tree.cntL,Tree.cntL,Tree.cntL,Tree.cnt,Tree.cntL,Tree.cntL,Tree.cntL,Jk,vW]) (by rw[Tree.cnt,Tree.cntL,Tree.cntL,Tree.cntL];lia)
    simp at hk;rcases hk with rfl|rfl
    ·exact ha'
    ·exact hc'
  |_=>refine⟨rfl,_,ks,rfl,by lia,by rw[cw];lia,rfl,GU hl hX hP hH (by lia) hρ mI bA ks [] [] n z none hk (fun e he=>by cases he) .nil rfl (by lia) (by lia) fun es n' z' s' ka ja cG hn'=>?_⟩;have hlen:=ka.len;rw[Ua] at ka hlen cG;refine⟨rfl,_,ks,_,E.tvL es,rfl,.inl rfl,by lia,by rw[cw];lia,?_⟩;exact q (.nd _ es) n' z' (.mk (by rw[hlen];exact h.rn fun x hx=>(hX x hx).2) ja) (AlB.oth (fun x z=>by cases z) (fun x z=>by cases z) ka) (by rw[Tree.cnt,Tree.cnt,cG]) (by rw[Tree.cnt];lia)
inductive bC (R:Rl)(m N:Nat)(args:List Sl)(k:ad):Prop
 |mk (e l:E) (i:Int) (_:args = [.fz (E.tv e),fi i,.fz (E.tv l)]) (_:Ex R N e) (_:Ex R m l) (_:∀e',Ex R (N+m) e'->e'.cnt<=e.cnt+l.cnt->k (.fz (E.tv e')) [.fz (E.tv e),fi i,.fz (E.tv l)])
abbrev gS (R:Rl)(m N:Nat):Gm:=AF ag (aQ R N) (bC R m N) aE
theorem Mc (a b:List E)(t:E):eh (E.tvL (a++t::b)) (a.length:Int)=some (E.tv t):=by show(E.tvL (a++t::b))[a.length]? = _;rw[E.tvL,eM,T2,TH (by rw[Ta];exact Tf _),Ta,Nat.sub_self];rfl
theorem Ma (a b:List E)(t u:E):(E.tvL (a++t::b)).set a.length (E.tv u)=E.tvL (a++u::b):=by rw[E.tvL,E.tvL,eM,eM,T2,T2];have h:=List.set_append_right (s:=a.map (Tree.tv Wd.hd)) (t:=(t::b).map (Tree.tv Wd.hd)) a.length (E.tv u) (by rw[Ta];exact Tf _);rw[h,Ta,Nat.sub_self];rfl
theorem L9 (a b:List E)(t:E):gc (E.tvL (a++t::b)).length (a.length:Int)=some a.length:=by rw[cw,Tg,Tz];unfold gc;rw[Tt (by lia),Tt (by lia)];simp
theorem Ht {e l:E}{P:PD}(hl:Ex R m l):
  ∀(aj done:List E) (i:Int) (s4 s5:Option Sl),(∀e∈aj,Ex R N e)->(∀e∈done,Ex R (N+m) e) →
   (∀(es:List E) (i':Int) s4 s5,es.length=done.length+aj.length->(∀e∈es,Ex R (N+m) e)->Tree.cntL es<=Tree.cntL done+Tree.cntL aj+(if 0<=i then l.cnt else 0)->P.nx ⟨[some (.fz (E.tv e)),some (fi i'),some (.fz (E.tv l)),some (.own (.lst (E.tvL es))),s4,s5],[],[]⟩) →
   cN (bd (.nm 4)) (aH (aB (gS R m N) Hz)) P (rf done.length aj.length) ⟨[some (.fz (E.tv e)),some (fi i),some (.fz (E.tv l)),some (.own (.lst (E.tvL (done++aj)))),s4,s5],[],[]⟩
 |[],done,i,s4,s5,_,hd,q=>by rw[TJ];exact q done i s4 s5 rfl hd (by simp only [Tree.cntL];lia)
 |t::aj,done,i,s4,s5,hr,hd,q=>by
  have ht:=hr t Te;have eg:=Mc done aj t;refine bx eg ⟨rfl,t,rfl,ht,?_⟩;refine⟨fun M=>∃t',Ex R (N+m) t'/\(t'=t∨(t'.cnt<=t.cnt+l.cnt/\0<=i/\i<t.cnt))/\M=⟨[some (.fz (E.tv e)),some (fi i),some (.fz (E.tv l)),some (.own (.lst (E.tvL (done++t'::aj)))),some (fi done.length),some (fi t.cnt)],[],[]⟩,aL (fun g1=>aL (fun g2=>?_) (fun _=>⟨t,ht.up (by lia),.inl rfl,rfl⟩)) (fun _=>⟨t,ht.up (by lia),.inl rfl,rfl⟩),?_⟩
  ·refine bx eg ⟨rfl,t,l,i,rfl,ht,hl,fun e' cX cG=>⟨_,L9 done aj t,e',cX,.inr ⟨cG,Ub g1,Ub g2⟩,?_⟩⟩;rw[<- Ma done aj t e'];rfl
  ·rintro M ⟨t',sx,hc',rfl⟩
   have e1:done++t'::aj=(done ++ [t'])++aj:=by simp
   have e2:done.length+1=(done ++ [t']).length:=by simp
   have tp:1<=t.cnt:=by cases t;rw[Tree.cnt];lia
   have:=Ht hl aj (done ++ [t']) (i-t.cnt) (some (fi done.length)) (some (fi t.cnt)) (fun e he=>hr e (Tb _ he)) (fun e he=>(TB.mp he).elim (hd e) fun z=>by simp at z;exact z▸sx) fun es i' s4 s5 hl ja cG=>q es i' s4 s5 (by rw[hl,Tg,Tz];simp;lia) ja (by
     rw[ny] at cG;simp only [Tree.cntL] at cG ⊢;rcases hc' with rfl|⟨c1,c2,c3⟩
     ·by_cases h0:0<=i
      ·rw[Tt h0]
       split at cG <;> lia
      ·rw[Tp (by lia)] at cG ⊢;lia
     ·rw[Tp (by lia)] at cG
      rw[Tt c2];lia)
   rw[<- e1,<- e2] at this;exact this
theorem Pp (R:Rl)(m N:Nat):∀args k,bC R m (N+1) args k->aH (aB (gS R m N) AG) (aS args k) (aU 6 args):=by
 rintro args k ⟨e,l,i,rfl,he,hl,q⟩;refine aL (fun g=>q l (hl.up (by lia)) (by lia)) (fun g=>?_)
 cases he with
 | @mk _ w ks h hk=>
  have hle:=h.le;refine⟨rfl,w,ks,rfl,by lia,fun M=>∃(es:List E) (i:Int) (s4 s5:Option Sl),es.length=ks.length/\(∀e∈es,Ex R (N+m) e)/\Tree.cntL es<=Tree.cntL ks+l.cnt/\M=⟨[some (.fz (E.tv (.nd w ks))),some (fi i),some (.fz (E.tv l)),some (.own (.lst (E.tvL es))),s4,s5],[],[]⟩,?_,?_⟩
  ·have tl:=cw ks;refine⟨⟨by lia,by lia⟩,?_⟩;show cN _ _ _ (fE (E.tvL ks).length) _;rw[tl,yK];exact Ht hl ks [] _ none none hk (fun e he=>by cases he) fun es i s4 s5 hl ja cG=>⟨es,i,s4,s5,by simpa using hl,ja,by simp only [Tree.cntL] at cG;split at cG <;> lia,rfl⟩
  ·rintro M ⟨es,i',s4,s5,ja,he,cG,rfl⟩;refine⟨rfl,w,ks,_,E.tvL es,rfl,.inl rfl,by lia,by rw[cw];lia,?_⟩;exact q (.nd w es) (by rw[Nat.add_right_comm];exact .mk (by rw[ja];exact h) he) (by rw[Tree.cnt,Tree.cnt];lia)
noncomputable def RA:Rl:=⟨Nm,fun _ _=>True⟩
structure jz (N:Nat)(f:Fd):Prop where
 nm:Nm f.nm
 nd:f.ps.Nodup
 pN:∀x∈f.ps,Nm x
 l7:f.ps.length<=7
 bd:Ex RA N f.bd
def dZ (f:Fd):Tv:=.tup [ts f.nm,ti f.ps.length,Tc.tv (bare f.ps f.bd)]
def dy (fs:List Fd)(main:E):Tv:=.tup [.lst (fs.map dZ),Tc.tv (bare [] main)]
inductive dr (N:Nat)(args:List Sl)(k:ad):Prop
 |mk (fs:List Fd) (main:E) (_:args = [.fz (aT fs main)]) (_:N<=100) (_:fs.length<=1000) (_:(∀f∈fs,jz N f)) (_:Ex RA N main) (_:k (.fz (dy fs main)) [.fz (aT fs main)])
theorem GR {k:List Tv->Ms->Prop}(hN:N<=100):∀(l ak:List Fd) (s0 s1 s2:Option Sl),(∀f∈l,jz N f)->(∀s0 s1 s2,k ((ak++l).map dZ) ⟨[s0,s1,s2],[],[]⟩)->aY (bd (.cons (.nm 0) (.cons (.nm 1) (.cons (.nm 2) .nil)))) (av (rB (bM RA N)) .tt).t (av (rB (bM RA N)) G8).e k (l.map Fd.tv) (ak.map dZ) ⟨[s0,s1,s2],[],[]⟩
 |[],ak,s0,s1,s2,_,q=>by have:=q s0 s1 s2;rw[TJ] at this;exact this
 |f::l,ak,s0,s1,s2,h,q=>by
  have hf:=h f Te;have h7:=hf.l7;refine⟨rfl,f.bd,_,f.ps,rfl,.inl rfl,by lia,hf.bd,?_⟩;have e1:ak.map dZ ++ [.tup [ts f.nm,ti (f.ps.map ts).length,Tc.tv (bare f.ps f.bd)]]=(ak ++ [f]).map dZ:=by simp [dZ]
  show aY _ _ _ _ (l.map Fd.tv) (ak.map dZ ++ [.tup [ts f.nm,ti (f.ps.map ts).length,Tc.tv (bare f.ps f.bd)]]) _;rw[e1];exact GR hN l (ak ++ [f]) _ _ _ (fun g hg=>h g (Tb _ hg)) fun s0 s1 s2=>by simpa using q s0 s1 s2
theorem N6 (N:Nat):∀args k,dr N args k->aH (aB (rB (bM RA N)) zY) (aS args k) (aU 2 args):=by rintro args k ⟨fs,main,rfl,hN,hl,hf,hm,q⟩;refine⟨by rw[Ta];lia,rfl,GR hN fs [] none none none hf fun s0 s1 s2=>?_⟩;exact⟨rfl,main,_,[],rfl,.inl rfl,by simp;lia,hm,q⟩
theorem qL:∀{l:List Str},x∈l->pos x l<l.length
 |y::l,h=>by
  rw[pos,Tz]
  by_cases e:y=x
  ·rw[Tt e];lia
  ·rw[Tp e]
   rcases Ts.mp h with z|z
   ·exact absurd z.symm e
   ·have:=qL z;lia
theorem zf (m:List Str):∀{l:List Str},x∈l->pos x (l++m)=pos x l
 |y::l,h=>by
  rw[TC,pos,pos]
  by_cases e:y=x
  ·rw[Tt e,Tt e]
  ·rw[Tp e,Tp e]
   rcases Ts.mp h with z|z
   ·exact absurd z.symm e
   ·rw[zf m z]
theorem ze (m:List Str):∀{l:List Str},x∉l->pos x (l++m)=l.length+pos x m
 |[],_=>by simp
 |y::l,h=>by have h1:¬y=x:=fun e=>h (by rw[e];exact Te);rw[TC,pos,Tp h1,ze m fun z=>h (Tb _ z),Tz];lia
theorem uc:∀{l:List Str},l.Nodup->x∈l->pos x l.reverse=l.length-1-pos x l
 |y::l,hn,h=>by
  have hn':=Vl.mp hn;rw[UM,pos,Tz]
  by_cases e:y=x
  ·subst e;rw[Tt rfl,ze _ (by simpa using hn'.1),pos,Tt rfl,Uu];lia
  ·rcases Ts.mp h with z|z
   ·exact absurd z.symm e
   ·have:=qL z;rw[Tp e,zf _ (U8.mpr z),uc hn'.2 z];lia
def hs (ps B:List Str):Wd->List V
 | .name x=>if x∈B then [.str "own",.int (pos x B.reverse)] else if x∈ps then [.str "hole",.int (pos x ps)] else [.str "name",.str x]
 | .lt _=>[.str "let"]
 |w=>w.hd
def hb (b:List Str):Wd->List V
 | .name x=>if x∈b then [.str "own",.int (pos x b.reverse)] else [.str "name",.str x]
 | .lt _=>[.str "let"]
 |w=>w.hd
noncomputable def dN (B:List Str):Wd->List Str
 | .lt x=>B ++ [x]
 |_=>B
mutual
noncomputable def cV (ps B:List Str):E->Tc
 | .nd w ks=>.nd (hs ps B w) (dw ps B (dN B w) ks)
noncomputable def dw (ps B C:List Str):List E->List Tc
 |[]=>[]
 |k::ks=>cV ps B k::dw ps C C ks
end
theorem ET {b:List Str}{w:Wd}(h:Ex R N (.nd w ks)):bare b (.nd w ks) = .nd (hb b w) (bB b (dN b w) ks):=by
 cases h with
 |mk h hk=>
  cases w with
  |name x=>
   have:ks = []:=UB h.1;subst this;rw[bare,hb,bB,bB]
   split <;> rfl
  |lt x=>rw[bare,hb,dN]
  |_=>simp only [bare,hb,dN]
def Vh (n d:Nat)(h:List V):Prop:=(∃j:Nat,j<n/\h = [.str "hole",.int j])∨(∃k:Nat,k<d/\h = [.str "own",.int k])∨((∀v,h ≠ [.str "hole",v])/\∀v,h ≠ [.str "own",v])
noncomputable def mz (n d:Nat):List V->List V
 |[.str w,.int j]=>if w="hole" then [.str "own",.int (d+(n-1-j.toNat:Nat):Nat)] else [.str w,.int j]
 |h=>h
theorem rh (n d j:Nat):mz n d [.str "hole",.int j] = [.str "own",.int (d+(n-1-j):Nat)]:=by show(if ("hole":Str)="hole" then [V.str "own",V.int ((d+(n-1-(j:Int).toNat):Nat):Int)] else [V.str "hole",V.int j])=_;rw[Tt rfl];rfl
theorem kf (n d:Nat){h:List V}(hh:∀v,h ≠ [.str "hole",v]):mz n d h=h:=by
 unfold mz
 split
 ·next w j=>
  rw[Tp];exact fun e=>hh (.int j) (by rw[e])
 ·rfl
theorem L8 {n d:Nat}{h h':List V}(v:Vh n d h)(v':Vh n d h')(e:mz n d h=mz n d h'):h=h':=by
 have no:∀v:V,([V.str "own",v]:List V) ≠ [.str "hole",v]:=fun v z=>by injection z with z;exact absurd z (by decide)
 have ow:∀(k:Nat) v,([V.str "own",.int k]:List V) ≠ [.str "hole",v]:=fun k v z=>by injection z with z;exact absurd z (by decide)
 rcases v with ⟨j,hj,rfl⟩|⟨k,hk,rfl⟩|⟨h1,h2⟩
 ·rw[rh] at e
  rcases v' with ⟨j',hj',rfl⟩|⟨k',d9,rfl⟩|⟨h1',iI⟩
  ·rw[rh] at e
   injection e with _ e;injection e with e _;injection e with e;have:j=j':=by lia
   rw[this]
  ·rw[kf n d (ow k')] at e;injection e with _ e;injection e with e _;injection e with e;lia
  ·rw[kf n d h1'] at e;exact absurd e.symm (iI _)
 ·rw[kf n d (ow k)] at e
  rcases v' with ⟨j',hj',rfl⟩|⟨k',d9,rfl⟩|⟨h1',iI⟩
  ·rw[rh] at e;injection e with _ e;injection e with e _;injection e with e;lia
  ·rw[kf n d (ow k')] at e;exact e
  ·rw[kf n d h1'] at e;exact e
 ·rw[kf n d h1] at e
  rcases v' with ⟨j',hj',rfl⟩|⟨k',d9,rfl⟩|⟨h1',iI⟩
  ·rw[rh] at e;exact absurd e (h2 _)
  ·rw[kf n d (ow k')] at e;exact e
  ·rw[kf n d h1'] at e;exact e
theorem BZ (ps B:List Str)(w:Wd):Vh ps.length B.length (hs ps B w):=by
 have lit:∀{h:List V} (a:Str) (r:List V),h = .str a::r->a≠"hole"->a≠"own"->Vh ps.length B.length h:=fun a r e n1 n2=>by subst e;exact .inr (.inr ⟨fun v z=>by injection z with z;injection z with z;exact n1 z,fun v z=>by injection z with z;injection z with z;exact n2 z⟩)
 cases w with
 |name x=>
  rw[hs]
  split
  ·next h=>exact .inr (.inl ⟨_,by have:=qL (U8.mpr h);simpa using this,rfl⟩)
  ·split
   ·next h=>exact .inl ⟨_,qL h,rfl⟩
   ·exact lit "name" _ rfl (by decide) (by decide)
 |lt x=>exact lit "let" _ rfl (by decide) (by decide)
 |num i=>exact lit "num" _ rfl (by decide) (by decide)
 |take=>exact lit "take" _ rfl (by decide) (by decide)
 |op s=>exact lit "op" _ rfl (by decide) (by decide)
 |pick=>exact lit "pick" _ rfl (by decide) (by decide)
 |st x=>exact lit "set" _ rfl (by decide) (by decide)
 |say=>exact lit "say" _ rfl (by decide) (by decide)
 | «do» => exact lit "do" _ rfl (by decide) (by decide)
 |again m=>exact lit "again" _ rfl (by decide) (by decide)
 |call f=>exact lit "call" _ rfl (by decide) (by decide)
theorem DR (hn:ps.Nodup)(B:List Str)(w:Wd):hb (ps++B) w=mz ps.length B.length (hs ps B w):=by
 have lit:∀{h:List V} (a:Str) (r:List V),h = .str a::r->a≠"hole"->mz ps.length B.length h=h:=fun a r e n1=>kf _ _ fun v z=>by rw[e] at z;injection z with z;injection z with z;exact n1 z
 cases w with
 |name x=>
  rw[hb,hs,List.reverse_append]
  by_cases h1:x∈B
  ·rw[Tt (TM _ h1),Tt h1,zf _ (U8.mpr h1),lit "own" _ rfl (by decide)]
  ·rw[Tp h1]
   by_cases h2:x∈ps
   ·rw[Tt (TL _ h2),Tt h2,rh,ze _ (by simpa using h1),uc hn h2,Uu]
   ·rw[Tp (by simp [h1,h2]),Tp h2,lit "name" _ rfl (by decide)]
 |lt x=>exact(lit "let" _ rfl (by decide)).symm
 |num i=>exact(lit "num" _ rfl (by decide)).symm
 |take=>exact(lit "take" _ rfl (by decide)).symm
 |op s=>exact(lit "op" _ rfl (by decide)).symm
 |pick=>exact(lit "pick" _ rfl (by decide)).symm
 |st x=>exact(lit "set" _ rfl (by decide)).symm
 |say=>exact(lit "say" _ rfl (by decide)).symm
 | «do» => exact (lit "do" _ rfl (by decide)).symm
 |again m=>exact(lit "again" _ rfl (by decide)).symm
 |call f=>exact(lit "call" _ rfl (by decide)).symm
theorem DQ {w:Wd}(h:hs ps B w = [.str "let"]):∃x,w = .lt x:=by
 cases w with
 |lt x=>exact⟨x,rfl⟩
 |name x=>
  rw[hs] at h
  split at h
  ·cases h
  ·split at h <;> cases h
 |num i=>cases h
 |op s=>cases h
 |st x=>cases h
 |again m=>cases h
 |call f=>cases h
 |take=>injection h with h;exact absurd h (by decide)
 |pick=>injection h with h;exact absurd h (by decide)
 |say=>injection h with h;exact absurd h (by decide)
 | «do» => injection h with h; exact absurd h (by decide)
theorem ES {w w':Wd}(h:hs ps B w=hs ps' B' w')(hB:B.length=B'.length):(dN B w).length=(dN B' w').length:=by
 by_cases hl:∃x,w = .lt x
 ·obtain⟨x,rfl⟩:=hl;obtain⟨x',rfl⟩:=DQ (h.symm.trans rfl);simp [dN,hB]
 ·have qb:¬ ∃x,w' = .lt x:=fun⟨x,e⟩=>hl (by subst e;exact DQ h)
  have e1:dN B w=B:=by cases w <;> first|rfl|exact absurd ⟨_,rfl⟩ hl
  have e2:dN B' w'=B':=by cases w' <;> first|rfl|exact absurd ⟨_,rfl⟩ qb
  rw[e1,e2,hB]
theorem ER (ps B:List Str)(w:Wd):dN (ps++B) w=ps++dN B w:=by cases w <;> simp [dN]
mutual
theorem yG {R R':Rl}{ps ps':List Str}(hn:ps.Nodup)(hn':ps'.Nodup)(hp:ps.length=ps'.length):∀(e e':E) (N N':Nat) (B B':List Str),Ex R N e->Ex R' N' e'->B.length=B'.length->(cV ps B e=cV ps' B' e'↔bare (ps++B) e=bare (ps'++B') e')
 | .nd w ks,.nd w' ks',N,N',B,B',he,cX,hB=>by
  rw[ET he,ET cX,cV,cV,DR hn,DR hn',ER,ER];constructor
  ·intro h
   injection h with h1 h2;have hx:=ES h1 hB
   cases he with
   | @mk n _ _ _ hk=>
    cases cX with
    | @mk n' _ _ _ d9=>rw[h1,hp,hB,(zd hn hn' hp ks ks' n n' B B' (dN B w) (dN B' w') hk d9 hB hx).mp h2]
  ·intro h
   injection h with h1 h2;rw[hp,hB] at h1;have v:=BZ ps B w;rw[hp,hB] at v;have h1':=L8 v (BZ ps' B' w') h1;have hx:=ES h1' hB
   cases he with
   | @mk n _ _ _ hk=>
    cases cX with
    | @mk n' _ _ _ d9=>rw[h1',(zd hn hn' hp ks ks' n n' B B' (dN B w) (dN B' w') hk d9 hB hx).mpr h2]
theorem zd {R R':Rl}{ps ps':List Str}(hn:ps.Nodup)(hn':ps'.Nodup)(hp:ps.length=ps'.length):∀(ks ks':List E) (N N':Nat) (B B' C C':List Str),(∀k∈ks,Ex R N k)->(∀k∈ks',Ex R' N' k)->B.length=B'.length->C.length=C'.length->(dw ps B C ks=dw ps' B' C' ks'↔bB (ps++B) (ps++C) ks=bB (ps'++B') (ps'++C') ks')
 |[],[],N,N',B,B',C,C',_,_,_,_=>by simp [dw,bB]
 |[],k'::ks',N,N',B,B',C,C',_,_,_,_=>by simp [dw,bB]
 |k::ks,[],N,N',B,B',C,C',_,_,_,_=>by simp [dw,bB]
 |k::ks,k'::ks',N,N',B,B',C,C',hk,d9,hB,hC=>by
  rw[dw,dw,bB,bB,T1,T1,yG hn hn' hp k k' N N' B B' (hk k Te) (d9 k' Te) hB,
   zd hn hn' hp ks ks' N N' C C' C C' (fun j hj=>hk j (Tb _ hj)) (fun j hj=>d9 j (Tb _ hj)) hC hC]
end
mutual
noncomputable def pre:Tc->List (List V×Nat)
 | .nd h ks=>(h,ks.length)::fB ks
noncomputable def fB:List Tc->List (List V×Nat)
 |[]=>[]
 |k::ks=>pre k++fB ks
end
mutual
theorem EO:∀(t t':Tc) (r r':List (List V×Nat)),pre t++r=pre t'++r'->t=t'/\r=r'
 | .nd h ks,.nd h' ks',r,r',e=>by rw[pre,pre,TC,TC,T1,Vg] at e;obtain⟨⟨e1,e2⟩,e3⟩:=e;obtain⟨a,b⟩:=FL ks ks' r r' e2 e3;exact⟨by rw[e1,a],b⟩
theorem FL:∀(ks ks':List Tc) (r r':List (List V×Nat)),ks.length=ks'.length->fB ks++r=fB ks'++r'->ks=ks'/\r=r'
 |[],[],r,r',_,e=>⟨rfl,e⟩
 |[],k'::ks',r,r',h,_=>by injection h
 |k::ks,[],r,r',h,_=>by injection h
 |k::ks,k'::ks',r,r',h,e=>by rw[fB,fB,TF,TF] at e;obtain⟨a,b⟩:=EO k k' _ _ e;obtain⟨c,d⟩:=FL ks ks' r r' (by simpa using h) b;exact⟨by rw[a,c],d⟩
end
theorem yF (t t':Tc):pre t=pre t'↔t=t':=⟨fun h=>(EO t t' [] [] (by simpa using h)).1,fun h=>by rw[h]⟩
noncomputable def yE:aM:=fun args k=>∃R N,N<=14/\cq R N args k
noncomputable def FK:aM:=fun args k=>∃R N,N<=7/\cB R N args k
abbrev gC:Gm:=Aw yE bp aG FK
theorem C4 (a b:List Str):a.map ts++b.map ts=(a++b).map ts:=by simp
theorem An {sh ot:List Str}(hlen:sh.length+ot.length<=10000000){k:List Tv->Ms->Prop}:
  ∀(l ak:List Str) (s:Option Sl),(∀(ys:List Str) s',(∀y∈ys,y∈ak∨(y∈l/\y∉sh++ot))->ys.length<=ak.length+l.length->k (ys.map ts) ⟨[some (.out 0),some (.out 1),s'],[.own (.lst (sh.map ts)),.own (.lst (ot.map ts))],[]⟩)->aY (bd (.nm 2)) (av gC (.cmp .notin (.var 2) (.bin .add (.var 0) (.var 1)))).t (av gC Hy).e k (l.map ts) (ak.map ts) ⟨[some (.out 0),some (.out 1),s],[.own (.lst (sh.map ts)),.own (.lst (ot.map ts))],[]⟩
 |[],ak,s,q=>q ak s (fun y h=>.inl h) (by simp)
 |x::l,ak,s,q=>by
  refine⟨by rw[Ta,Ta];lia,?_⟩;rw[C4];refine⟨⟨fF _,rfl⟩,aL (fun g=>?_) (fun g=>?_)⟩
  ·have hx:x∉sh++ot:=fun z=>by rw[(ic x _).mpr z] at g;exact absurd g (by decide)
   have e:ak.map ts ++ [ts x]=(ak ++ [x]).map ts:=by simp
   show aY _ _ _ _ (l.map ts) (ak.map ts ++ [ts x]) _;rw[e];refine An hlen l (ak ++ [x]) _ fun ys s' h hl=>q ys s' (fun y hy=>?_) (by simp at hl ⊢;lia);rcases h y hy with z|z
   ·rcases TB.mp z with z|z
    ·exact .inl z
    ·simp at z;subst z;exact .inr ⟨Te,hx⟩
   ·exact .inr ⟨Tb _ z.1,z.2⟩
  ·exact An hlen l ak _ fun ys s' h hl=>q ys s' (fun y hy=>(h y hy).elim .inl fun z=>.inr ⟨Tb _ z.1,z.2⟩) (by simp at hl ⊢;lia)
theorem J0 (a b c:List Str):eG (.own (.lst (a.map ts++b.map ts++c.map ts))) ((a++b++c).map ts):=.inl (by simp)
theorem EN {ns:List Int}{pg nm bod:Tv}{ah sh ps D1 Q1:List Str}{n0:Nat}(hl:ns.length<=63)(j5:n0+1000<=1000000000000)(hsl:sh.length<=1000000)(bA:ah.length<=8000000)(gW:ps.length<=6)(j4:∀x∈sh,Nm x/\x∈D1)(b0:∀x∈ah,Nm x/\x∈Q1)(hD:D1.length<=10)(hV:Q1.length<=20){o3 o11:Option Sl}{P:PD}
  (q:∀(ot:List Str) n z s9 gw,ot.length=ps.length->ot.Nodup->(∀y∈ot,y∉sh/\Nm y)->n<=n0+12*ps.length->P.nx ⟨[some (.out 0),some (.fz pg),some (.out 1),o3,some (.fz nm),some (.fz (.tup (ps.map ts))),some (.fz bod),some (.own (.lst (sh.map ts))),some (.own (.lst (ot.map ts))),s9,gw,o11],[.own (aC ns n z),.own (.lst (ah.map ts))],[]⟩):
  ∀(j i:Nat) (ot:List Str) (n:Nat) (z:Int) (s9 gw:Option Sl),i+j=ps.length->ot.length=i->ot.Nodup->(∀y∈ot,y∉sh/\Nm y)->n<=n0+12*i →
   cN (bd (.nm 9)) (aH (aB gC Hx)) P (rf i j) ⟨[some (.out 0),some (.fz pg),some (.out 1),o3,some (.fz nm),some (.fz (.tup (ps.map ts))),some (.fz bod),some (.own (.lst (sh.map ts))),some (.own (.lst (ot.map ts))),s9,gw,o11],[.own (aC ns n z),.own (.lst (ah.map ts))],[]⟩
 | 0,i,ot,n,z,s9,gw,hij,hoi,kU,hot,hn=>q ot n z s9 gw (by lia) kU hot (by lia)
 |j+1,i,ot,n,z,s9,gw,hij,hoi,kU,hot,hn=>by
  refine⟨by rw[Ta];lia,rfl,An (by lia) ah [] none fun ys s' kR j3=>?_⟩;have vx:ys.length<=8000000:=by simp at j3;lia
  refine⟨rfl,by rw[Ta,Ta];lia,by rw[Tg,Ta,Ta,Ta];lia,rfl,ns,n,z,_,sh++ot++ah,D1++ot++Q1,rfl,J0 sh ot ah,hl,by lia,by simp only [Tg];lia,by simp only [Tg];lia,fun x hx=>?_,fun x hx=>?_,fun y n1 z1 hy pX vw hn1=>⟨by rw[Ta];lia,?_⟩⟩
  ·simp only [TB] at hx ⊢
   rcases hx with (h|h)|h
   ·exact .inl (.inl (j4 x h).2)
   ·exact .inl (.inr h)
   ·exact .inr (b0 x h).2
  ·simp only [TB] at hx
   rcases hx with (h|h)|h
   ·exact(j4 x h).1
   ·exact(hot x h).2
   ·exact(b0 x h).1
  ·have e1:ys.map ts ++ [ts y]=(ys ++ [y]).map ts:=by simp
   have fk:∀u∈ys ++ [y],u∉sh++ot/\Nm u:=fun u hu=>by
    rcases TB.mp hu with h|h
    ·rcases kR u h with z|z
     ·cases z
     ·exact⟨z.2,(b0 u z.1).1⟩
    ·simp at h;subst h;exact⟨fun z=>pX (TL _ z),hy⟩
   rw[e1];refine⟨rfl,rfl,ns,n1,z1,_,rfl,hl,by lia,lF (by simp),by rw[Ta,Tg];simp;lia,fun r n2 z2 r0 r1 cy=>?_⟩;obtain⟨u,eu,hu⟩:=kg r0 r1;obtain⟨jE,hu2⟩:=fk u hu;refine bx eu ⟨by rw[Ta];lia,?_⟩;have e2:ot.map ts ++ [ts u]=(ot ++ [u]).map ts:=by simp
   have:=EN hl j5 hsl bA gW j4 b0 hD hV (pg:=pg) (nm:=nm) (bod:=bod) (o3:=o3) (o11:=o11) q j (i+1) (ot ++ [u]) n2 z2 (some (fi i)) (some (.own (.lst ((ys ++ [y]).map ts)))) (by lia) (by simp [hoi]) (nodup_append.mpr ⟨kU,by simp,fun a ha b hb=>by simp at hb;rw[hb];exact fun z=>jE (TM _ (z▸ha))⟩) (fun y hy=>by
    rcases TB.mp hy with h|h
    ·exact hot y h
    ·simp at h;subst h;exact⟨fun z=>jE (TL _ z),hu2⟩) (by lia)
   rw[<- e2] at this;exact this
structure Rc (R:Rl)(f g:Fd):Prop where
 nm:g.nm=f.nm
 ln:g.ps.length=f.ps.length
 nd:g.ps.Nodup
 pN:∀x∈g.ps,Nm x
 bd:Ex (Rn R) 4 g.bd
 br:bare g.ps g.bd=bare f.ps f.bd
 ct:g.bd.cnt=f.bd.cnt
inductive RcL (R:Rl):List Fd->List Fd->Prop where
 |nil:RcL R [] []
 |cons {f g:Fd} {fs gs:List Fd} (h:Rc R f g) (r:RcL R fs gs):RcL R (f::fs) (g::gs)
theorem RcL.snoc {fs:List Fd}{f g:Fd}(h:RcL R fs gs)(q:Rc R f g):RcL R (fs ++ [f]) (gs ++ [g]):=by
 induction h with
 |nil=>exact .cons q .nil
 |cons h r ih=>exact .cons h ih
theorem RcL.len {fs:List Fd}(h:RcL R fs gs):gs.length=fs.length:=by
 induction h with
 |nil=>rfl
 |cons h r ih=>rw[Tz,Tz,ih]
def jO (ps ot:List Str):Str->Option Str:=fun x=>if x∈ps then ot[pos x ps]? else none
theorem Gf:∀(ps ot:List Str) (d:List (aw×Tv)) (x:Str),ps.Nodup->ps.length=ot.length->bZ ((ps.zip ot).foldl (fun d p=>dP d (.inr p.1) (ts p.2)) d) (.inr x)=if x∈ps then (ot[pos x ps]?).map ts else bZ d (.inr x)
 |[],[],d,x,_,_=>by simp
 |[],_::_,d,x,_,h=>by injection h
 |_::_,[],d,x,_,h=>by injection h
 |p::ps,o::ot,d,x,hn,h=>by
  have hn':=Vl.mp hn;rw[List.zip_cons_cons,foldl_cons,Gf ps ot _ x hn'.2 (by simpa using h),zQ]
  by_cases h1:x∈ps
  ·have h2:¬p=x:=fun e=>hn'.1 (e▸h1);rw[Tt h1,Tt (Tb _ h1),pos,Tp h2];rfl
  ·rw[Tp h1]
   by_cases h2:p=x
   ·subst h2;rw[Tt rfl,Tt Te,pos,Tt rfl];rfl
   ·rw[Tp (fun e=>h2 (by injection e)),Tp (by simp [h1];exact fun e=>h2 e.symm)]
theorem Kw {ot:List Str}(hn:ps.Nodup)(h:ps.length=ot.length):HOk ((ps.zip ot).foldl (fun d p=>dP d (.inr p.1) (ts p.2)) []) (jO ps ot):=fun x=>by
 rw[Gf ps ot [] x hn h];unfold jO
 split <;> rfl
theorem EM:∀{l:List Str} {i:Nat} {y:Str},l.Nodup->l[i]? = some y->pos y l=i
 |[],i,y,_,h=>by injection h
 |z::l,0,y,_,h=>by cases h;rw[pos,Tt rfl]
 |z::l,i+1,y,hn,h=>by have hn':=Vl.mp hn;have h':l[i]? = some y:=h;have:¬z=y:=fun e=>hn'.1 (e▸T4 h');rw[pos,Tp this,EM hn'.2 h']
theorem Kv {ot:List Str}{e:E}(hn:ps.Nodup)(hn':ot.Nodup)(h:ps.length=ot.length)(hs:∀y∈ot,y∉fr ps e):RB ps ot (jO ps ot) (fr [] e) where
 len:=h
 bd:=fun x hx hp=>by
  have hlt:=qL hp;have e1:ot[pos x ps]? = some ot[pos x ps]:=Td (by lia);have e2:hv (jO ps ot) x=ot[pos x ps]:=by unfold hv jO;rw[Tt hp,e1];rfl
  have hm:ot[pos x ps]∈ot:=Vo _;rw[e2];exact⟨hm,by rw[uc hn' hm,uc hn hp,EM hn' e1,h]⟩
 fr:=fun x hx hp=>by
  have e2:hv (jO ps ot) x=x:=by unfold hv jO;rw[Tp hp];rfl
  exact⟨e2,fun hm=>hs x hm (yI e [] ps x hx fun q=>absurd q hp)⟩
theorem FJ {k:List Tv->Ms->Prop}:∀(l:List (Str×Str)) (ak:List (Str×Str)) (s0 s1:Option Sl),(∀s0 s1,k ((ak++l).map fun p=>kI (p.1,ts p.2)) ⟨[s0,s1],[],[]⟩)->aY (bd (.cons (.nm 0) (.cons (.nm 1) .nil))) (av gC .tt).t (av gC Hw).e k (l.map fun p=>.tup [ts p.1,ts p.2]) (ak.map fun p=>kI (p.1,ts p.2)) ⟨[s0,s1],[],[]⟩
 |[],ak,s0,s1,q=>by have:=q s0 s1;rw[TJ] at this;exact this
 |p::l,ak,s0,s1,q=>by
  have e1:(ak.map fun p=>kI (p.1,ts p.2)) ++ [.tup [ts p.1,ts p.2]]=(ak ++ [p]).map fun p=>kI (p.1,ts p.2):=by simp [kI]
  show aY _ _ _ _ (l.map fun p=>.tup [ts p.1,ts p.2]) ((ak.map fun p=>kI (p.1,ts p.2)) ++ [.tup [ts p.1,ts p.2]]) _;rw[e1];exact FJ l (ak ++ [p]) _ _ fun s0 s1=>by simpa using q s0 s1
theorem L7 (ps ot:List Str):oj (ps.map ts) (ot.map ts)=(ps.zip ot).map fun p=>.tup [ts p.1,ts p.2]:=by unfold oj;rw[List.zip_map,map_map];rfl
theorem L6 (l:List (Str×Str))(d:List (aw×Tv)):(l.map fun p=>(p.1,ts p.2)).foldl (fun d p=>dP d (.inr p.1) p.2) d=l.foldl (fun d p=>dP d (.inr p.1) (ts p.2)) d:=by rw[List.foldl_map]
noncomputable def gN:Nat->Nat
 | 0=>0
 |n+1=>1+7*gN n
theorem Ex.cnt_le {e:E}(h:Ex R N e):e.cnt<=gN N:=by
 induction h with
 | @mk n w ks h hk ih=>
  have gx:∀l:List E,(∀k∈l,k.cnt<=gN n)->Tree.cntL l<=l.length*gN n:=fun l=>by
   induction l with
   |nil=>intro _;simp [Tree.cntL]
   |cons k l ih2=>intro hl;have h1:=hl k Te;have h2:=ih2 fun j hj=>hl j (Tb _ hj);rw[Tree.cntL,Tz,Nat.succ_mul];lia
  have h1:=gx ks ih;have h2:=Va (gN n) h.le;rw[Tree.cnt,gN];lia
theorem g4:gN 4=400:=by decide
theorem g7:gN 7=137257:=by decide
structure RcPg (R:Rl)(fs:List Fd)(main:E)(gs:List Fd)(mg:E):Prop where
 fn:RcL R fs gs
 mn:Ex (Rn R) 7 mg
 br:bare [] mg=bare [] main
 ct:mg.cnt=main.cnt
inductive cC (args:List Sl)(k:ad):Prop
 |mk (ns:List Int) (n:Nat) (z:Int) (P Q1 ah:List Str) (fs:List Fd) (main:E) (_:args = [.own (aC ns n z),.fz (aT fs main),.own (.lst (ah.map ts))]) (_:ns.length<=63) (_:n+100000000<=1000000000000) (_:PgOk P fs main) (_:ah.length<=8000000) (_:(∀x∈ah,Nm x/\x∈Q1)) (_:Q1.length<=20) (_:∀gs mg n' z',RcPg (Rp P fs) fs main gs mg->n'<=n+100000000->k (.fz (aT gs mg)) [.own (aC ns n' z'),.fz (aT fs main),.own (.lst (ah.map ts))])
theorem FI:∀(l:List (Str×Str)) (d:List (aw×Tv)),(l.foldl (fun d p=>dP d (.inr p.1) (ts p.2)) d).length<=d.length+l.length
 |[],d=>by simp
 |p::l,d=>by rw[foldl_cons];have h1:=FI l (dP d (.inr p.1) (ts p.2));have h2:=zg d (.inr p.1) (ts p.2);rw[Tz];lia
theorem Hs {P:List Str}{fs:List Fd}{n0:Nat}(hl:ns.length<=63)(j5:n0+1000000<=1000000000000)(hP:PgOk P fs main)(bA:ah.length<=8000000)(b0:∀x∈ah,Nm x/\x∈Q1)(hV:Q1.length<=20){Q:PD}
  (hQ:∀(gs:List Fd) n z o4 o5 o6 o7 o8 o9 o10 o11,RcL (Rp P fs) fs gs->n<=n0+100000->Q.nx ⟨[some (.out 0),some (.fz (aT fs main)),some (.out 1),some (.own (.lst (gs.map Fd.tv))),o4,o5,o6,o7,o8,o9,o10,o11],[.own (aC ns n z),.own (.lst (ah.map ts))],[]⟩):
  ∀(l pre gs:List Fd) (n:Nat) (z:Int) (o4 o5 o6 o7 o8 o9 o10 o11:Option Sl),pre++l=fs->RcL (Rp P fs) pre gs->n<=n0+20000*pre.length →
   cN (bd (.cons (.nm 4) (.cons (.nm 5) (.cons (.nm 6) .nil)))) (aH (aB gC Hv)) Q (l.map Fd.tv) ⟨[some (.out 0),some (.fz (aT fs main)),some (.out 1),some (.own (.lst (gs.map Fd.tv))),o4,o5,o6,o7,o8,o9,o10,o11],[.own (aC ns n z),.own (.lst (ah.map ts))],[]⟩
 |[],pre,gs,n,z,o4,o5,o6,o7,o8,o9,o10,o11,he,hR,hn=>by rw[TJ] at he;subst he;exact hQ gs n z o4 o5 o6 o7 o8 o9 o10 o11 hR (by have:=hP.fl;lia)
 |f::l,pre,gs,n,z,o4,o5,o6,o7,o8,o9,o10,o11,he,hR,hn=>by
  have hf:=hP.fo f (by rw[<- he];simp);have hfl:=hP.fl;have i6:pre.length+(l.length+1)=fs.length:=by rw[<- he];simp
  have hc:=hf.bd.cnt_le;rw[g4] at hc;have hX:∀x,(Rp P fs).X x->x∈P/\Nm x:=fun x hx=>⟨hx,hP.pn x hx⟩;refine⟨rfl,Rp P fs,4,by decide,f.bd,_,f.ps,rfl,.inl rfl,by have:=hf.l6;lia,hf.bd,by lia,fun s' hs'=>?_⟩;have hsl:=lE f.ps f.bd;have j4:∀x∈fr f.ps f.bd,Nm x/\x∈P:=fun x hx=>by have:=qA 4 f.bd f.ps hf.bd x hx;exact⟨hP.pn x this,this⟩
  refine⟨fun M=>∃(ot:List Str) (n:Nat) (z:Int) (s9 gw:Option Sl),M=⟨[some (.out 0),some (.fz (aT fs main)),some (.out 1),some (.own (.lst (gs.map Fd.tv))),some (.fz (ts f.nm)),some (.fz (.tup (f.ps.map ts))),some (.fz (E.tv f.bd)),some (.own (.lst ((fr f.ps f.bd).map ts))),some (.own (.lst (ot.map ts))),s9,gw,o11],[.own (aC ns n z),.own (.lst (ah.map ts))],[]⟩/\ot.length=f.ps.length/\ot.Nodup/\(∀y∈ot,y∉fr f.ps f.bd/\Nm y)/\n<=n0+20000*pre.length+100,?_,?_⟩
  ·have l6:=hf.l6
   have tl:(f.ps.map ts).length=f.ps.length:=by rw[Ta]
   refine⟨⟨by lia,by lia⟩,?_⟩;show cN _ _ _ (fE (f.ps.map ts).length) _;rw[tl,yK];refine EN (sh:=fr f.ps f.bd) (ps:=f.ps) (D1:=P) (Q1:=Q1) (n0:=n) hl (by lia) (by lia) bA l6 j4 b0 (by have:=hP.pl;lia) hV ?_ f.ps.length 0 [] n z _ _ (by lia) rfl nodup_nil (fun y hy=>by cases hy) (by lia);exact fun ot n z s9 gw h1 h2 h3 h4=>⟨ot,n,z,s9,gw,rfl,h1,h2,h3,by lia⟩
  ·rintro M ⟨ot,n1,z1,s9,gw,rfl,h1,h2,h3,h4⟩
   have e1:(f.ps.map ts).length=(ot.map ts).length:=by rw[Ta,Ta,h1]
   refine⟨e1,?_,rfl,?_⟩
   ·rw[um e1,Ta];have:=hf.l6;lia
   rw[L7];refine FJ (f.ps.zip ot) [] none none fun s0 s1=>?_;have SQ:(f.ps.zip ot).length<=6:=by rw[length_zip];have:=hf.l6;lia
   refine⟨_,⟨(f.ps.zip ot).map fun p=>(p.1,ts p.2),by rw[Ua,map_map];rfl,by rw[Ta];lia,rfl⟩,?_⟩;rw[L6];have hfo:=FI (f.ps.zip ot) []
   have hρ : ∀x y,jO f.ps ot x=some y->Nm y:=fun x y su=>by
    unfold jO at su
    split at su
    ·exact(h3 y (T4 su)).2
    ·injection su
   have hlg:=hR.len;refine⟨rfl,rfl,Rp P fs,4,by decide,ns,n1,z1,f.bd,_,jO f.ps ot,ah,P,rfl,hl,by lia,hf.bd,hX,by have:=hP.pl;lia,by lia,Kw hf.nd h1.symm,by simp only [length_nil] at hfo;lia,hρ,fun x hx=>(b0 x hx).1,by lia,fun e' n' z' cX ka cG hn'=>⟨by rw[Ta];lia,?_⟩⟩;have Jo:Rc (Rp P fs) f ⟨f.nm,ot,e'⟩:=⟨rfl,h1,h2,fun x hx=>(h3 x hx).2,cX,ka f.ps ot (Kv hf.nd h2 h1.symm fun y hy=>(h3 y hy).1),cG⟩;have e2:(gs ++ [(⟨f.nm,ot,e'⟩:Fd)]).map Fd.tv=gs.map Fd.tv ++ [.tup [ts f.nm,.tup (ot.map ts),E.tv e']]:=by simp [Fd.tv]
   have G:=Hs hl j5 hP bA b0 hV hQ l (pre ++ [f]) (gs ++ [⟨f.nm,ot,e'⟩]) n' z' (some (.fz (ts f.nm))) (some (.fz (.tup (f.ps.map ts)))) (some (.fz (E.tv f.bd))) (some (.own (.lst ((fr f.ps f.bd).map ts)))) (some (.fz (.lst (ot.map ts)))) s9 gw (some (.own (.dic ((f.ps.zip ot).foldl (fun d p=>dP d (.inr p.1) (ts p.2)) [])))) (by rw[<- he];simp) (hR.snoc Jo) (by rw[Tg];simp;lia);rw[e2] at G;exact G
theorem Po:∀args k,cC args k->aH (aB gC Ax) (aS args k) (aU 12 args):=by
 rintro args k ⟨ns,n,z,P,Q1,ah,fs,main,rfl,hl,hn,hP,bA,b0,hV,q⟩;have hc:=hP.mn.cnt_le;rw[g7] at hc;refine⟨fun M=>∃(gs:List Fd) (n':Nat) (z':Int) (o4 o5 o6 o7 o8 o9 o10 o11:Option Sl),M=⟨[some (.out 0),some (.fz (aT fs main)),some (.out 1),some (.own (.lst (gs.map Fd.tv))),o4,o5,o6,o7,o8,o9,o10,o11],[.own (aC ns n' z'),.own (.lst (ah.map ts))],[]⟩/\RcL (Rp P fs) fs gs/\n'<=n+100000,?_,?_⟩
 ·refine Hs (n0:=n) hl (by lia) hP bA b0 hV ?_ fs [] [] n z none none none none none none none none rfl .nil (by lia);exact fun gs n' z' o4 o5 o6 o7 o8 o9 o10 o11 h1 h2=>⟨gs,n',z',o4,o5,o6,o7,o8,o9,o10,o11,rfl,h1,h2⟩
 ·rintro M ⟨gs,n1,z1,o4,o5,o6,o7,o8,o9,o10,o11,rfl,hR,hn1⟩;refine⟨rfl,Rp P fs,7,by decide,ns,n1,z1,main,[],fun _=>none,ah,P,rfl,hl,by lia,hP.mn,fun x hx=>⟨hx,hP.pn x hx⟩,by have:=hP.pl;lia,by lia,fun x=>rfl,by decide,fun x y h=>(by cases h),fun x hx=>(b0 x hx).1,by lia,fun e' n' z' cX ka cG hn'=>?_⟩;exact q gs e' n' z' ⟨hR,cX,ka [] [] ⟨rfl,fun x _ h=>(by cases h),fun x _ _=>⟨rfl,by simp⟩⟩,cG⟩ (by lia)
structure PgB (R:Rl)(fs:List Fd)(main:E):Prop where
 hX:∀x,R.X x->Nm x
 hA:∀g m,R.A g m->∃f∈fs,f.nm=g/\f.ps.length=m
 fl:fs.length<=3
 nm:∀f∈fs,Nm f.nm
 nd:∀f∈fs,f.ps.Nodup
 pN:∀f∈fs,∀x∈f.ps,Nm x
 l6:∀f∈fs,f.ps.length<=6
 bd:∀f∈fs,Ex R 4 f.bd
 mn:Ex R 7 main
inductive cP (R:Rl)(args:List Sl)(k:ad):Prop
 |mk (ns:List Int) (n:Nat) (z:Int) (e:E) (N:Nat) (fs:List Fd) (ah:List Str) (_:args = [.own (aC ns n z),.fz (E.tv e),.own (.lst (fs.map Fd.tv)),.own (.lst (ah.map ts))]) (_:ns.length<=63) (_:n+10<=1000000000000) (_:(∀x,R.X x->Nm x)) (_:(∀g m,R.A g m->∃f∈fs,f.nm=g/\f.ps.length=m)) (_:fs.length<=3) (_:(∀f∈fs,Nm f.nm)) (_:Ex R N e) (_:ah ≠ []) (_:ah.length<=10000000) (_:(∀x∈ah,Nm x)) (_:∀e' n' z',Ex RA N e'->e'.cnt<=e.cnt->n'<=n+10->k (.fz (E.tv e')) [.own (aC ns n' z'),.fz (E.tv e),.own (.lst (fs.map Fd.tv)),.own (.lst (ah.map ts))])
theorem zc {w:Wd}{k:List Tv->Ms->Prop}:
  ∀(l:List Fd) (ak:List Str) (s:Option Sl),(∀f∈l,Nm f.nm)->(∀x∈ak,Nm x)->(∀(xs:List Str) s',(∀x∈xs,Nm x)->xs.length<=ak.length+l.length->((∃f∈l,(f.ps.length:Int)=((w.hd.length+ks.length:Nat):Int)-2)∨ak ≠ []->xs ≠ [])->k (xs.map ts) ⟨[some (.fz (E.tv (.nd w ks))),s'],[],[]⟩) →
   aY (bd (.nm 1)) (av (rE aG) (.cmp .eq (.b1 .len (.ix (.var 1) (.cst (.int 1)))) (.bin .sub (.b1 .len (.var 0)) (.cst (.int 2))))).t (av (rE aG) HD).e k (l.map Fd.tv) (ak.map ts) ⟨[some (.fz (E.tv (.nd w ks))),s],[],[]⟩
 |[],ak,s,_,ha,q=>q ak s ha (by simp) (fun h=>h.elim (fun⟨f,hf,_⟩=>by cases hf) id)
 |f::l,ak,s,hl,ha,q=>by
  have el:((w.hd.map Tv.at++E.tvL ks).length:Int)=((w.hd.length+ks.length:Nat):Int):=by rw[Tg,Ta,cw]
  have ep:((f.ps.map ts).length:Int)=(f.ps.length:Int):=by rw[Ta]
  refine aL (fun g=>?_) (fun g=>?_)
  ·have e1:ak.map ts ++ [ts f.nm]=(ak ++ [f.nm]).map ts:=by simp
   show aY _ _ _ _ (l.map Fd.tv) (ak.map ts ++ [ts f.nm]) _;rw[e1];refine zc l (ak ++ [f.nm]) _ (fun g hg=>hl g (Tb _ hg)) (fun x hx=>(TB.mp hx).elim (ha x) fun z=>by simp at z;exact z▸hl f Te) fun xs s' h1 h2 h3=>q xs s' h1 (by simp at h2 ⊢;lia) fun _=>h3 (.inr (by simp))
  ·refine zc l ak _ (fun g hg=>hl g (Tb _ hg)) ha fun xs s' h1 h2 h3=>q xs s' h1 (by simp at h2 ⊢;lia) fun h=>h3 ?_
   rcases h with ⟨f',g8,e⟩|h
   ·rcases Ts.mp g8 with z|z
    ·subst z
     refine absurd ?_ g;have:((f'.ps.map ts).length:Int)=((w.hd.map Tv.at++E.tvL ks).length:Int)-2:=by rw[ep,el];exact e
     show(false ^^ decide (V.int ((f'.ps.map ts).length:Int)=V.int (((w.hd.map Tv.at++E.tvL ks).length:Int)-2)))=true;rw[this];simp
    ·exact .inl ⟨f',z,e⟩
   ·exact .inr h
theorem N5 (ks:List E):Tree.cntL ks.reverse=Tree.cntL ks:=by
 induction ks with
 |nil=>rfl
 |cons k ks ih=>rw[UM,ny,ih];simp only [Tree.cntL];lia
theorem Ex.ra {e:E}(hX:∀x,R.X x->Nm x)(h:Ex R N e):Ex RA N e:=h.mono (R':=RA) hX fun _ _ _=>trivial
theorem Qy (R:Rl):∀args k,cP R args k->aH (aB (rE aG) AJ) (aS args k) (aU 6 args):=by
 rintro args k ⟨ns,n,z,e,N,fs,ah,rfl,hl,hn,hX,hA,hfl,hfN,he,nQ,bA,b0,q⟩
 cases he with
 | @mk N w ks h hk=>
  have hle:=h.le;have qc:∀k∈ks,Ex RA N k:=fun k d9=>(hk k d9).ra hX;refine⟨by rw[Ta];lia,rfl,zc (w:=w) (ks:=ks) fs [] none hfN (fun x hx=>by cases hx) fun xs s' Iw vz hx0=>?_⟩;refine⟨rfl,ns,n,z,_,rfl,hl,by lia,lF nQ,by rw[Ta];lia,fun r n1 z1 r0 r1 hn1=>?_⟩;obtain⟨y,ey,hy⟩:=kg r0 r1;refine bx ey ?_;have kP:∀(n2:Nat) (z2:Int) (w':Wd),Ar RA w' 0->n2<=n+10->k (.fz (E.tv (.nd w' []))) [.own (aC ns n2 z2),.fz (E.tv (.nd w ks)),.own (.lst (fs.map Fd.tv)),.own (.lst (ah.map ts))]:=fun n2 z2 w' h' cy=>q (.nd w' []) n2 z2 (.mk h' fun k hk=>by cases hk) (by simp only [Tree.cnt,Tree.cntL];lia) cy
  have wD:∀(n2:Nat) (z2 i:Int) (h0:0<=i) (h1:i<9) (r:Int),0<=r->r<2->n2<=n+10->∃t,eh [.tup [ts "num",ti i],.tup [ts "name",ts y]] r=some t/\k (.fz t) [.own (aC ns n2 z2),.fz (E.tv (.nd w ks)),.own (.lst (fs.map Fd.tv)),.own (.lst (ah.map ts))]:=fun n2 z2 i h0 h1 r r0 r1 cy=>by
   rcases(by lia:r=0∨r=1) with rfl|rfl
   ·exact⟨_,rfl,kP n2 z2 (.num i) ⟨rfl,h0,by lia⟩ cy⟩
   ·exact⟨_,rfl,kP n2 z2 (.name y) ⟨rfl,b0 y hy⟩ cy⟩
  cases w with
  |op s=>obtain⟨a,c,rfl⟩:=lb h.1;refine⟨rfl,ns,n1,z1,6,rfl,hl,by lia,by decide,by decide,fun r2 n2 z2 iX jD cy=>?_⟩;obtain⟨ch,ec,hc⟩:=iD (l:=signS.cps.toList) (i:=r2) iX (by rw[Gp];exact jD);exact bx (o:=(eh signS.cps.toList r2).map fun c=>.at (.str ⟨#[c]⟩)) (t:=ts ⟨#[ch]⟩) (by rw[ec];rfl) ⟨by show 2+2<=16777216;decide,q (.nd (.op ⟨#[ch]⟩) [a,c]) n2 z2 (.mk ⟨rfl,Gq ch hc⟩ qc) (by simp only [Tree.cnt];lia) (by lia)⟩
  |again m=>obtain⟨a,rfl⟩:=B3 h.1;refine⟨rfl,ns,n1,z1,6,rfl,hl,by lia,by decide,by decide,fun r2 n2 z2 iX jD cy=>?_⟩;exact⟨by show 2+1<=16777216;decide,q (.nd (.again r2) [a]) n2 z2 (.mk ⟨rfl,iX,by lia⟩ qc) (by simp only [Tree.cnt];lia) (by lia)⟩
  |st x=>obtain⟨a,rfl⟩:=B3 h.1;exact⟨by show 2+1<=16777216;decide,q (.nd (.st y) [a]) n1 z1 (.mk ⟨rfl,b0 y hy⟩ qc) (by simp only [Tree.cnt];lia) (by lia)⟩
  |call f=>
   have hx:xs ≠ []:=hx0 (.inl (by
    obtain⟨g,hg,e1,e2⟩:=hA f ks.length h.2.2
    exact⟨g,hg,by rw[e2];simp [Wd.hd];lia⟩))
   refine⟨rfl,ns,n1,z1,_,rfl,hl,by lia,lF hx,by rw[Ta];simp at vz;lia,fun r2 n2 z2 iX jD cy=>?_⟩;obtain⟨u,eu,hu⟩:=kg iX jD;have ec:aO (ts "call"::ts f::E.tvL ks) (some 2) none=E.tvL ks:=uI (ts "call"::ts f::E.tvL ks) 2;refine bx eu ⟨?_,?_⟩
   ·show 2+(aO (ts "call"::ts f::E.tvL ks) (some 2) none).length<=16777216;rw[ec,cw];lia
   ·have:=q (.nd (.call u) ks) n2 z2 (.mk ⟨hle,Iw u hu,trivial⟩ qc) (by simp only [Tree.cnt];lia) (by lia)
    have e1:E.tv (.nd (.call u) ks) = .tup ([ts "call",ts u]++aO (ts "call"::ts f::E.tvL ks) (some 2) none):=by rw[ec];rfl
    rw[e1] at this;exact this
  | «do» =>
   have ec:aO (ts "do"::E.tvL ks) (some 1) none=E.tvL ks:=wM _;have er:(E.tvL ks).reverse=E.tvL ks.reverse:=by rw[E.tvL,E.tvL,eM,eM,List.map_reverse]
   refine⟨?_,?_⟩
   ·show 1+(aO (ts "do"::E.tvL ks) (some 1) none).reverse.length<=16777216;rw[ec,Uu,cw];lia
   ·have:=q (.nd .do ks.reverse) n1 z1 (.mk (by rw[Uu];exact h) fun k d9=>qc k (U8.mp d9)) (by simp only [Tree.cnt];rw[N5];lia) (by lia)
    have e1:E.tv (.nd .do ks.reverse) = .tup ([ts "do"]++(aO (ts "do"::E.tvL ks) (some 1) none).reverse):=by rw[ec,er];rfl
    rw[e1] at this;exact this
  |_=>refine⟨rfl,ns,n1,z1,9,rfl,hl,by lia,by decide,by decide,fun i n2 z2 i0 i1 cy=>?_⟩;refine⟨rfl,ns,n2,z2,2,rfl,hl,by lia,by decide,by decide,fun r2 n3 z3 iX jD gY=>?_⟩;obtain⟨t,et,ht⟩:=wD n3 z3 i i0 i1 r2 iX jD (by lia);exact bx et ht
noncomputable def FH:aM:=fun args k=>∃R N,N<=7/\aQ R N args k
noncomputable def Ge:aM:=fun args k=>∃R m N,m<=7/\N<=7/\bC R m N args k
noncomputable def GQ:aM:=fun args k=>∃R,cP R args k
noncomputable def DP:aM:=fun args k=>∃R N,N<=7/\cQ R N args k
noncomputable def FG:aM:=fun args k=>∃R N,N<=14/\aV R N args k
noncomputable def FF:aM:=fun args k=>∃R N,N<=7/\bg R N args k
noncomputable def C3:aM:=fun args k=>∃R N,N<=7/\fg R N args k
abbrev gO:Gm:=zT aG FH Ge GQ DP FG FF bp C3
noncomputable abbrev N4:IS:=.seq (.set 6 (.call 0 (.cons (.var 0) (.cons (.call 1 (.cons (.var 4) .nil)) .nil)))) (.seq (.set 7 (.call 2 (.cons (.var 4) (.cons (.var 6) (.cons (.call 3 (.cons (.var 0) (.cons (.ix (.call 4 (.cons (.var 4) .nil)) (.var 6)) (.cons (.var 3) (.cons (.var 2) .nil))))) .nil))))) (.ret (.tup (.cons (.ix (.var 1) (.cst (.int 0))) (.cons (.ix (.lst (.cons (.var 4) (.cons (.var 7) .nil))) (.b1 .int (.call 5 (.cons (.var 7) (.cons (.lst .nil) .nil))))) .nil)))))
structure gj (fs:List Fd)(main:E):Prop where
 fl:fs.length<=3
 fo:∀f∈fs,jz 14 f
 fc:∀f∈fs,f.bd.cnt<=100
 mn:Ex RA 14 main
 mc:main.cnt<=400
mutual
theorem Ex.sub {R:Rl}:∀(N:Nat) (e:E),Ex R N e->∀t∈e.all,Ex R N t/\t.cnt<=e.cnt
 |N,.nd w ks,h,t,ht=>by
  cases h with
  | @mk n _ _ h hk=>
   rw[Tree.all] at ht;rcases Ts.mp ht with rfl|ht
   ·exact⟨.mk h hk,Tf _⟩
   ·obtain⟨a,b⟩:=ExL.sub n ks hk t ht;exact⟨a.up (by lia),by rw[Tree.cnt];lia⟩
theorem ExL.sub {R:Rl}:∀(N:Nat) (ks:List E),(∀k∈ks,Ex R N k)->∀t∈Tree.allL ks,Ex R N t/\t.cnt<=Tree.cntL ks
 |N,[],_,t,ht=>by cases ht
 |N,k::ks,h,t,ht=>by
  rw[Tree.allL] at ht;rcases TB.mp ht with ht|ht
  ·obtain⟨a,b⟩:=Ex.sub N k (h k Te) t ht;exact⟨a,by rw[Tree.cntL];lia⟩
  ·obtain⟨a,b⟩:=ExL.sub N ks (fun j hj=>h j (Tb _ hj)) t ht;exact⟨a,by rw[Tree.cntL];lia⟩
end
inductive fe (R:Rl)(args:List Sl)(k:ad):Prop
 |mk (ns:List Int) (n:Nat) (z:Int) (fs:List Fd) (main:E) (ah Q1:List Str) (_:args = [.own (aC ns n z),.fz (aT fs main),.own (.lst (ah.map ts))]) (_:ns.length<=63) (_:n+1000<=1000000000000) (_:PgB R fs main) (_:(∀f∈fs,f.bd.cnt<=30)) (_:main.cnt<=200) (_:ah ≠ []) (_:ah.length<=8000000) (_:(∀x∈ah,Nm x/\x∈Q1)) (_:Q1.length<=20) (_:∀gs mg n' z',gj gs mg->n'<=n+1000->k (.fz (aT gs mg)) [.own (aC ns n' z'),.fz (aT fs main),.own (.lst (ah.map ts))])
theorem PgB.fdA {fs:List Fd}(h:PgB R fs main):∀f∈fs,jz 14 f:=fun f hf=>⟨h.nm f hf,h.nd f hf,h.pN f hf,by have:=h.l6 f hf;lia,((h.bd f hf).ra h.hX).up (by decide)⟩
theorem EL {n n1:Nat}{z z1:Int}{fs:List Fd}{k:ad}(hl:ns.length<=63)(hn:n+1000<=1000000000000)(hB:PgB R fs main)(ed:∀f∈fs,f.bd.cnt<=30)(jF:main.cnt<=200)(nQ:ah ≠ [])(bA:ah.length<=8000000)(b0:∀x∈ah,Nm x/\x∈Q1)(hn1:n1<=n+1)
  (q:∀gs mg n' z',gj gs mg->n'<=n+1000->k (.fz (aT gs mg)) [.own (aC ns n' z'),.fz (aT fs main),.own (.lst (ah.map ts))]):
  aH (aB gO N4) (aS [.own (aC ns n z),.fz (aT fs main),.own (.lst (ah.map ts))] k) ⟨[some (.out 0),some (.fz (aT fs main)),some (.out 1),some (.own (.lst (fs.map Fd.tv))),some (.fz (E.tv main)),some (fi df),none,none,none,none,none,none,none,none,none,none],[.own (aC ns n1 z1),.own (.lst (ah.map ts))],[]⟩:=by
 have mp:1<=main.cnt:=by cases main;rw[Tree.cnt];lia
 have mA:Ex RA 7 main:=hB.mn.ra hB.hX;refine⟨rfl,R,7,by decide,main,rfl,hB.mn,?_⟩;refine⟨rfl,ns,n1,z1,_,rfl,hl,by lia,by lia,by lia,fun sp n2 z2 s0 s1 cy=>?_⟩;refine⟨rfl,R,7,by decide,main,rfl,hB.mn,by lia,?_⟩;obtain⟨t,et,ht⟩:=iD (l:=E.tvL main.all) (i:=sp) s0 (by rw[cw,Tree.all_len];exact s1);rw[E.tvL,eM] at ht;obtain⟨nd,kU,rfl⟩:=T5.mp ht;obtain⟨hE,hC⟩:=Ex.sub 7 main hB.mn nd kU;refine bx et ⟨rfl,R,ns,n2,z2,nd,7,fs,ah,rfl,hl,by lia,hB.hX,hB.hA,hB.fl,hB.nm,hE,nQ,by lia,fun x hx=>(b0 x hx).1,fun l n3 z3 hL SY gY=>?_⟩;refine⟨rfl,RA,7,7,by decide,by decide,main,l,sp,rfl,mA,hL,fun fo hfo Jb=>?_⟩;refine⟨rfl,RA,14,by decide,fo,_,[],rfl,.inl rfl,by decide,hfo,fun b=>?_⟩
 cases b with
 |false=>exact q fs main n3 z3 ⟨hB.fl,hB.fdA,fun f hf=>by have:=ed f hf;lia,mA.up (by decide),by lia⟩ (by lia)
 |true=>exact q fs fo n3 z3 ⟨hB.fl,hB.fdA,fun f hf=>by have:=ed f hf;lia,hfo,by lia⟩ (by lia)
abbrev N3:IS:=.seq (.set 12 (.call 6 (.cons (.var 4) .nil))) (.cut (.for (.nm 13) (.var 3) Au) (.seq (.ife (.and (.cmp .eq (.var 5) (.cst (.int 4))) (.cmp .notin (.var 9) (.var 12))) (.ret (.tup (.cons (.b1 .tuple (.bin .add (.slc (.var 3) .nil (.var 8)) (.slc (.var 3) (.bin .add (.var 8) (.cst (.int 1))) .nil))) (.cons (.var 4) .nil)))) .skip) (.seq (.set 14 (.var 9)) (.seq (.set 15 (.lst .nil)) (.cut (.ife (.and (.cmp .eq (.var 5) (.cst (.int 5))) (.cmp .lt (.b1 .len (.var 10)) (.cst (.int 6)))) (.seq (.set 10 (.bin .add (.var 10) (.tup (.cons (.call 7 (.cons (.var 0) (.cons (.bin .add (.b1 .list (.var 10)) (.var 2)) .nil))) .nil)))) (.set 15 (.lst (.cons (.tup (.cons (.cst (.str "num")) (.cons (.cst (.int 0)) .nil))) .nil)))) .skip) (.cut (.ife (.cmp .gt (.var 5) (.cst (.int 5))) (.set 14 (.call 7 (.cons (.var 0) (.cons (.cmpv [] ["_law_one"] (.nm 0) 3 .tt As) .nil)))) .skip) (.seq (.set 12 (.cmpv [9,14,15] ["_law_one"] (.nm 3) 3 .tt uN)) (.seq (.lput (.tup (.cons (.var 14) (.cons (.var 10) (.cons (.var 11) .nil)))) (.var 12) (.var 8)) (.ret (.tup (.cons (.b1 .tuple (.var 12)) (.cons (.call 8 (.cons (.var 4) (.cons (.var 9) (.cons (.var 14) (.cons (.var 15) .nil))))) .nil))))))))))))
theorem GP {R:Rl}{P:PD}{o0 o1 o2 o3 o4 o5 o6 o7 o8 o9 o10 o11 o14 o15:Option Sl}{out:List Sl}{B:Nat}(hB:B<=1000000)(hR:∃a b,out = [a,b])(q:∀(xs:List Str) gu,xs.length<=B->P.nx ⟨[o0,o1,o2,o3,o4,o5,o6,o7,o8,o9,o10,o11,some (.own (.lst (xs.map ts))),gu,o14,o15],out,[]⟩):
  ∀(l:List Fd) (xs:List Str) (gu:Option Sl),(∀f∈l,Ex R 4 f.bd/\f.bd.cnt<=30)->xs.length+400*l.length<=B->cN (bd (.nm 13)) (aH (aB gO Au)) P (l.map Fd.tv) ⟨[o0,o1,o2,o3,o4,o5,o6,o7,o8,o9,o10,o11,some (.own (.lst (xs.map ts))),gu,o14,o15],out,[]⟩
 |[],xs,gu,_,hx=>q xs gu (by simp at hx;lia)
 |f::l,xs,gu,hl,hx=>by
  obtain⟨a,b,rfl⟩:=hR;have hf:=hl f Te;rw[Tz] at hx;refine⟨rfl,R,4,by decide,f.bd,rfl,hf.1,by lia,fun ys kR=>⟨?_,?_⟩⟩
  ·show(xs.map ts).length+(ys.map ts).length<=16777216;rw[Ta,Ta];lia
  ·have:=GP (R:=R) (P:=P) (o0:=o0) (o1:=o1) (o2:=o2) (o3:=o3) (o4:=o4) (o5:=o5) (o6:=o6) (o7:=o7) (o8:=o8) (o9:=o9) (o10:=o10) (o11:=o11) (o14:=o14) (o15:=o15) hB ⟨a,b,rfl⟩ q l (xs++ys) (some (.fz (Fd.tv f))) (fun g hg=>hl g (Tb _ hg)) (by rw[Tg];lia);rw[<- C4] at this;exact this
theorem FE {nm g:Str}{mr:List E}{k:List Tv->Ms->Prop}(h1:mr.length<=1)(h2:∀e∈mr,Ex (Rt R) 1 e)(jd:Tree.cntL mr<=1)(h3:Nm g)(h4:∀h m,R.A h m->m<=6):
  ∀(l ak:List Fd) (s:Option Sl),(∀f∈l,Ex R 4 f.bd/\f.bd.cnt<=30)->(∀(hs:List Fd) (s':Option Sl),hs.length=ak.length+l.length->(∀h∈hs,h∈ak∨∃f∈l,h.nm=f.nm/\h.ps=f.ps/\Ex (Rt R) 5 h.bd/\h.bd.cnt<=60)->k (hs.map Fd.tv) ⟨[some (fs nm),some (fs g),some (.out 0),s'],[.own (.lst (E.tvL mr))],[]⟩) →
   aY (bd (.nm 3)) (av gO .tt).t (av gO uN).e k (l.map Fd.tv) (ak.map Fd.tv) ⟨[some (fs nm),some (fs g),some (.out 0),s],[.own (.lst (E.tvL mr))],[]⟩
 |[],ak,s,_,q=>q ak s rfl fun h hh=>.inl hh
 |f::l,ak,s,hl,q=>by
  have hf:=hl f Te;refine⟨rfl,R,4,by decide,f.bd,nm,g,_,mr,rfl,.inl rfl,h1,h2,jd,h3,h4,hf.1,fun e' cX hc'=>?_⟩;have e1:ak.map Fd.tv ++ [.tup [ts f.nm,.tup (f.ps.map ts),E.tv e']]=(ak ++ [(⟨f.nm,f.ps,e'⟩:Fd)]).map Fd.tv:=by simp [Fd.tv]
  show aY _ _ _ _ (l.map Fd.tv) (ak.map Fd.tv ++ [.tup [ts f.nm,.tup (f.ps.map ts),E.tv e']]) _;rw[e1];refine FE h1 h2 jd h3 h4 l (ak ++ [⟨f.nm,f.ps,e'⟩]) _ (fun g hg=>hl g (Tb _ hg)) fun hs s' hlen hh=>q hs s' (by rw[hlen,Tg,Tz];simp;lia) fun h hm=>?_;rcases hh h hm with z|⟨f',g8,z⟩
  ·rcases TB.mp z with z|z
   ·exact .inl z
   ·simp at z;subst z;exact .inr ⟨f,Te,rfl,rfl,cX,by show Tree.cnt e'<=60;have:=hf.2;lia⟩
  ·exact .inr ⟨f',Tb _ g8,z⟩
theorem yD (pre post:List Fd):aO ((pre++post).map Fd.tv) none (some (pre.length:Int))=pre.map Fd.tv:=by rw[oK,<- map_take,List.take_left]
theorem Gb (pre post:List Fd)(f:Fd):aO ((pre++f::post).map Fd.tv) (some ((pre.length:Int)+1)) none=post.map Fd.tv:=by
 rw[show((pre.length:Int)+1)=((pre.length+1:Nat):Int) from rfl,uI,<- map_drop]
 congr 1
 have:pre++f::post=(pre ++ [f])++post:=by simp
 rw[this];exact List.drop_left' (by simp)
theorem FD (a b:List Fd)(t:Fd):eh ((a++t::b).map Fd.tv) (a.length:Int)=some (Fd.tv t):=by show((a++t::b).map Fd.tv)[a.length]? = _;rw[T2,TH (by rw[Ta];exact Tf _),Ta,Nat.sub_self];rfl
theorem JZ (a b:List Str):eG (.own (.lst (a.map ts++b.map ts))) ((a++b).map ts):=.inl (by simp)
abbrev N2:IS:=.seq (.set 14 (.var 9)) (.seq (.set 15 (.lst .nil)) (.cut (.ife (.and (.cmp .eq (.var 5) (.cst (.int 5))) (.cmp .lt (.b1 .len (.var 10)) (.cst (.int 6)))) (.seq (.set 10 (.bin .add (.var 10) (.tup (.cons (.call 7 (.cons (.var 0) (.cons (.bin .add (.b1 .list (.var 10)) (.var 2)) .nil))) .nil)))) (.set 15 (.lst (.cons (.tup (.cons (.cst (.str "num")) (.cons (.cst (.int 0)) .nil))) .nil)))) .skip) (.cut (.ife (.cmp .gt (.var 5) (.cst (.int 5))) (.set 14 (.call 7 (.cons (.var 0) (.cons (.cmpv [] ["_law_one"] (.nm 0) 3 .tt As) .nil)))) .skip) (.seq (.set 12 (.cmpv [9,14,15] ["_law_one"] (.nm 3) 3 .tt uN)) (.seq (.lput (.tup (.cons (.var 14) (.cons (.var 10) (.cons (.var 11) .nil)))) (.var 12) (.var 8)) (.ret (.tup (.cons (.b1 .tuple (.var 12)) (.cons (.call 8 (.cons (.var 4) (.cons (.var 9) (.cons (.var 14) (.cons (.var 15) .nil))))) .nil)))))))))
theorem EK {n n1:Nat}{z z1:Int}{pre post:List Fd}{f:Fd}{k:ad}{aZ gu:Option Sl}(hl:ns.length<=63)(hn:n+1000<=1000000000000)(hB:PgB R (pre++f::post) main)(ed:∀f'∈pre++f::post,f'.bd.cnt<=30)(jF:main.cnt<=200)(bA:ah.length<=8000000)(b0:∀x∈ah,Nm x/\x∈Q1)(hV:Q1.length<=20)(hn1:n1<=n+10)
  (q:∀gs mg n' z',gj gs mg->n'<=n+1000->k (.fz (aT gs mg)) [.own (aC ns n' z'),.fz (aT (pre++f::post) main),.own (.lst (ah.map ts))]):
  aH (aB gO N2) (aS [.own (aC ns n z),.fz (aT (pre++f::post) main),.own (.lst (ah.map ts))] k) ⟨[some (.out 0),some (.fz (aT (pre++f::post) main)),some (.out 1),some (.fz (.lst ((pre++f::post).map Fd.tv))),some (.fz (E.tv main)),some (fi df),none,none,some (fi pre.length),some (fs f.nm),some (.fz (.tup (f.ps.map ts))),some (.fz (E.tv f.bd)),aZ,gu,none,none],[.own (aC ns n1 z1),.own (.lst (ah.map ts))],[]⟩:=by
 have bT:f∈pre++f::post:=by simp
 have hlen:(pre++f::post).length<=3:=hB.fl;have v9:∀h m,R.A h m->m<=6:=fun h m hm=>by obtain⟨g,hg,_,e⟩:=hB.hA h m hm;rw[<- e];exact hB.l6 g hg
 have el:((pre++f::post).map Fd.tv).length=(pre++f::post).length:=Ta ..;have pn:=hB.pN f bT;have l6:=hB.l6 f bT;have zr:Ex (Rt R) 1 (.nd (.num 0) []):=.mk ⟨rfl,by decide,by decide⟩ fun k hk=>by cases hk
 refine⟨fun M=>∃(ps:List Str) (mr:List E) (n2:Nat) (z2:Int),ps.Nodup/\(∀x∈ps,Nm x)/\ps.length<=7/\mr.length<=1/\(∀e∈mr,Ex (Rt R) 1 e)/\Tree.cntL mr<=1/\n2<=n+20/\M=⟨[some (.out 0),some (.fz (aT (pre++f::post) main)),some (.out 1),some (.fz (.lst ((pre++f::post).map Fd.tv))),some (.fz (E.tv main)),some (fi df),none,none,some (fi pre.length),some (fs f.nm),some (.fz (.tup (ps.map ts))),some (.fz (E.tv f.bd)),aZ,gu,some (fs f.nm),some (.own (.lst (E.tvL mr)))],[.own (aC ns n2 z2),.own (.lst (ah.map ts))],[]⟩,aL (fun g=>aL (fun g2=>?_) (fun g2=>⟨f.ps,[],n1,z1,hB.nd f bT,pn,by lia,by decide,fun e he=>(by cases he),by decide,by lia,rfl⟩)) (fun g=>⟨f.ps,[],n1,z1,hB.nd f bT,pn,by lia,by decide,fun e he=>(by cases he),by decide,by lia,rfl⟩),?_⟩
 ·refine⟨by rw[Ta,Ta];lia,rfl,ns,n1,z1,_,f.ps++ah,f.ps++Q1,rfl,JZ f.ps ah,hl,by lia,by rw[Tg];lia,by rw[Tg];lia,fun x hx=>?_,fun x hx=>?_,fun y n2 z2 hy pX vw cy=>⟨by rw[Ta];show f.ps.length+1<=16777216;lia,?_⟩⟩
  ·rcases TB.mp hx with h|h
   ·exact TL _ h
   ·exact TM _ (b0 x h).2
  ·rcases TB.mp hx with h|h
   ·exact pn x h
   ·exact(b0 x h).1
  ·refine⟨f.ps ++ [y],[.nd (.num 0) []],n2,z2,nodup_append.mpr ⟨hB.nd f bT,by simp,fun a ha b hb=>by simp at hb;rw[hb];exact fun z=>pX (TL _ (z▸ha))⟩,fun x hx=>?_,by rw[Tg];show f.ps.length+1<=7;lia,by simp,fun e he=>by simp at he;subst he;exact zr,by simp [Tree.cntL,Tree.cnt],by lia,by rw[show(f.ps ++ [y]).map ts=f.ps.map ts ++ [ts y] from by simp];rfl⟩
   rcases TB.mp hx with h|h
   ·exact pn x h
   ·simp at h;exact h▸hy
 rintro M ⟨ps,mr,n2,z2,p1,p2,p3,m1,m2,m3,cy,rfl⟩;refine⟨fun M=>∃(g:Str) (n3:Nat) (z3:Int),Nm g/\n3<=n+40/\M=⟨[some (.out 0),some (.fz (aT (pre++f::post) main)),some (.out 1),some (.fz (.lst ((pre++f::post).map Fd.tv))),some (.fz (E.tv main)),some (fi df),none,none,some (fi pre.length),some (fs f.nm),some (.fz (.tup (ps.map ts))),some (.fz (E.tv f.bd)),aZ,gu,some (fs g),some (.own (.lst (E.tvL mr)))],[.own (aC ns n3 z3),.own (.lst (ah.map ts))],[]⟩,aL (fun g=>?_) (fun g=>⟨f.nm,n2,z2,hB.nm f bT,by lia,rfl⟩),?_⟩
 ·refine⟨by lia,rfl,uR (pre++f::post) [] none fun s'=>⟨rfl,ns,n2,z2,_,(pre++f::post).map Fd.nm,(pre++f::post).map Fd.nm,rfl,.inl rfl,hl,by lia,by rw[Ta];lia,by rw[Ta];lia,fun _ h=>h,fun x hx=>?_,fun x n3 z3 hx nO Iv gY=>⟨x,n3,z3,hx,by lia,rfl⟩⟩⟩;obtain⟨f',g8,rfl⟩:=T5.mp hx;exact hB.nm f' g8
 rintro M ⟨g,n3,z3,hg,gY,rfl⟩;refine⟨by lia,rfl,FE (R:=R) m1 m2 m3 hg v9 (pre++f::post) [] none (fun f' g8=>⟨hB.bd f' g8,ed f' g8⟩) fun hs s' hsl nU=>?_⟩;have p4:hs.length=(pre++f::post).length:=by simpa using hsl
 have i9:gc (hs.map Fd.tv).length (pre.length:Int)=some pre.length:=by rw[Ta,p4,Tg,Tz];unfold gc;rw[Tt (by lia),Tt (by lia)];simp
 refine⟨pre.length,i9,?_⟩;refine⟨rfl,R,7,by decide,main,f.nm,g,_,mr,rfl,.inl rfl,m1,m2,m3,hg,v9,hB.mn,fun m' qa IM=>?_⟩;have fin:=q (hs.set pre.length ⟨g,ps,f.bd⟩) m' n3 z3 ⟨by rw[List.length_set,p4];exact hlen,fun h hh=>?_,fun h hh=>?_,?_,by lia⟩ (by lia)
 ·have e1:aT (hs.set pre.length ⟨g,ps,f.bd⟩) m' = .tup [.tup ((hs.map Fd.tv).set pre.length (.tup [ts g,.tup (ps.map ts),E.tv f.bd])),E.tv m']:=by
   show Tv.tup [.tup ((hs.set pre.length ⟨g,ps,f.bd⟩).map Fd.tv),E.tv m']=_;rw[List.map_set];rfl
  rw[e1] at fin;exact fin
 ·rcases List.mem_or_eq_of_mem_set hh with z|rfl
  ·rcases nU h z with z|⟨f',g8,e1,e2,e3,e4⟩
   ·cases z
   ·exact⟨by rw[e1];exact hB.nm f' g8,by rw[e2];exact hB.nd f' g8,by rw[e2];exact hB.pN f' g8,by rw[e2];have:=hB.l6 f' g8;lia,(e3.mono (R:=Rt R) (R':=RA) hB.hX fun _ _ _=>trivial).up (by decide)⟩
  ·exact⟨hg,p1,p2,p3,((hB.bd f bT).ra hB.hX).up (by decide)⟩
 ·rcases List.mem_or_eq_of_mem_set hh with z|rfl
  ·rcases nU h z with z|⟨f',g8,e1,e2,e3,e4⟩
   ·cases z
   ·lia
  ·have:=ed f bT;show f.bd.cnt<=100;lia
 ·exact(qa.mono (R:=Rt R) (R':=RA) hB.hX fun _ _ _=>trivial).up (by decide)
theorem yC {n n1:Nat}{z z1:Int}{pre post:List Fd}{f:Fd}{k:ad}(hl:ns.length<=63)(hn:n+1000<=1000000000000)(hB:PgB R (pre++f::post) main)(ed:∀f'∈pre++f::post,f'.bd.cnt<=30)(jF:main.cnt<=200)(bA:ah.length<=8000000)(b0:∀x∈ah,Nm x/\x∈Q1)(hV:Q1.length<=20)(hn1:n1<=n+10)
  (q:∀gs mg n' z',gj gs mg->n'<=n+1000->k (.fz (aT gs mg)) [.own (aC ns n' z'),.fz (aT (pre++f::post) main),.own (.lst (ah.map ts))]):
  aH (aB gO N3) (aS [.own (aC ns n z),.fz (aT (pre++f::post) main),.own (.lst (ah.map ts))] k) ⟨[some (.out 0),some (.fz (aT (pre++f::post) main)),some (.out 1),some (.own (.lst ((pre++f::post).map Fd.tv))),some (.fz (E.tv main)),some (fi df),none,none,some (fi pre.length),some (fs f.nm),some (.fz (.tup (f.ps.map ts))),some (.fz (E.tv f.bd)),none,none,none,none],[.own (aC ns n1 z1),.own (.lst (ah.map ts))],[]⟩:=by
 have mA:Ex RA 14 main:=(hB.mn.ra hB.hX).up (by decide);have bT:f∈pre++f::post:=by simp
 have hlen:(pre++f::post).length<=3:=hB.fl;have hA:=hB.fdA;have hfA:=hA f bT;have v9:∀h m,R.A h m->m<=6:=fun h m hm=>by obtain⟨g,hg,_,e⟩:=hB.hA h m hm;rw[<- e];exact hB.l6 g hg
 have el:((pre++f::post).map Fd.tv).length=(pre++f::post).length:=Ta ..;refine⟨rfl,R,7,by decide,main,rfl,hB.mn,by lia,fun xs kT=>?_⟩;refine⟨fun M=>∃(xs:List Str) (gu:Option Sl),xs.length<=1000000/\M=⟨[some (.out 0),some (.fz (aT (pre++f::post) main)),some (.out 1),some (.fz (.lst ((pre++f::post).map Fd.tv))),some (.fz (E.tv main)),some (fi df),none,none,some (fi pre.length),some (fs f.nm),some (.fz (.tup (f.ps.map ts))),some (.fz (E.tv f.bd)),some (.own (.lst (xs.map ts))),gu,none,none],[.own (aC ns n1 z1),.own (.lst (ah.map ts))],[]⟩,?_,?_⟩
 ·refine GP (R:=R) (B:=1000000) (by decide) ⟨_,_,rfl⟩ ?_ (pre++f::post) xs none (fun g hg=>⟨hB.bd g hg,ed g hg⟩) (by lia);exact fun xs gu h=>⟨xs,gu,h,rfl⟩
 rintro M ⟨xs,gu,hx,rfl⟩;have c1:=yD pre (f::post);have c2:=Gb pre post f;have l2:(aO ((pre++f::post).map Fd.tv) none (some (pre.length:Int))).length+(aO ((pre++f::post).map Fd.tv) (some ((pre.length:Int)+1)) none).length<=16777216:=by rw[c1,c2,Ta,Ta];simp at hlen;lia
 refine aL (fun g=>⟨⟨fF xs,rfl⟩,aL (fun g2=>?_) (fun g2=>?_)⟩) (fun g=>?_)
 ·refine⟨l2,?_⟩
  have:=q (pre++post) main n1 z1 ⟨by simp at hlen ⊢;lia,fun g hg=>hA g (by simp at hg ⊢;rcases hg with h|h;exact .inl h;exact .inr (.inr h)),fun g hg=>by have:=ed g (by simp at hg ⊢;rcases hg with h|h;exact .inl h;exact .inr (.inr h));lia,mA,by lia⟩ (by lia);have e1:aT (pre++post) main = .tup [.tup (aO ((pre++f::post).map Fd.tv) none (some (pre.length:Int))++aO ((pre++f::post).map Fd.tv) (some ((pre.length:Int)+1)) none),E.tv main]:=by rw[c1,c2,<- T2];rfl
  rw[e1] at this;exact this
 ·exact EK hl hn hB ed jF bA b0 hV hn1 q
 ·exact EK hl hn hB ed jF bA b0 hV hn1 q
theorem Ku {fs:List Fd}{a:Nat}(h:a<fs.length):∃pre f post,fs=pre++f::post/\pre.length=a:=⟨fs.take a,fs[a],fs.drop (a+1),by rw[List.getElem_cons_drop,List.take_append_drop],by rw[T9];lia⟩
theorem Qx {l:List Str}(h:l.Nodup):(l.drop 1++l.take 1).Nodup:=Gk h 1
theorem N1 (R:Rl):∀args k,fe R args k->aH (aB gO zU) (aS args k) (aU 16 args):=by
 rintro args k ⟨ns,n,z,fs,main,ah,Q1,rfl,hl,hn,hB,ed,jF,nQ,bA,b0,hV,q⟩;refine⟨rfl,ns,n,z,8,rfl,hl,by lia,by decide,by decide,fun df n1 z1 w0 w1 hn1=>?_⟩;refine aL (fun g=>EL hl hn hB ed jF nQ bA b0 hn1 q) (fun g=>aL (fun g2=>EL hl hn hB ed jF nQ bA b0 hn1 q) (fun g2=>?_));have ne:fs ≠ []:=fun h=>g (by rw[h];rfl);have fpos:=length_pos_iff.mpr ne;have f3:=hB.fl;have wA:((fs.map Fd.tv).length:Int)=fs.length:=by rw[Ta]
 refine⟨rfl,ns,n1,z1,_,rfl,hl,by lia,by lia,by lia,fun a n2 z2 a0 a1 cy=>?_⟩;obtain⟨a,rfl⟩:=UC a0;obtain⟨pre,f,post,rfl,rfl⟩:=Ku (fs:=fs) (a:=a) (by lia);have eg:=FD pre post f;have bT:f∈pre++f::post:=by simp
 have mA:Ex RA 14 main:=(hB.mn.ra hB.hX).up (by decide);have hA:=hB.fdA;have l6:=hB.l6 f bT;have c1:=yD pre (f::post);have c2:=Gb pre post f;have hlen:pre.length+(post.length+1)<=3:=by simpa using f3
 have d1:aO (f.ps.map ts) (some 1) none=(f.ps.drop 1).map ts:=by rw[wM,map_drop]
 have d2:aO (f.ps.map ts) none (some 1)=(f.ps.take 1).map ts:=by rw[show aO (f.ps.map ts) none (some 1)=(f.ps.map ts).take 1 from oK _ 1,map_take]
 refine bx eg ?_;refine aL (fun g3=>?_) (fun g3=>aL (fun g4=>aL (fun g5=>?_) (fun g5=>?_)) (fun g4=>?_))
 ·refine⟨?_,?_,?_,?_⟩
  ·show(aO (f.ps.map ts) (some 1) none).length+(aO (f.ps.map ts) none (some 1)).length<=16777216;rw[d1,d2,Ta,Ta,UN,T9];lia
  ·show(aO ((pre++f::post).map Fd.tv) none (some (pre.length:Int))).length+1<=16777216;rw[c1,Ta];lia
  ·show(aO ((pre++f::post).map Fd.tv) none (some (pre.length:Int)) ++ [_]).length+(aO ((pre++f::post).map Fd.tv) (some ((pre.length:Int)+1)) none).length<=16777216;rw[c1,c2,Tg,Ta,Ta];simp;lia
  ·have:=q (pre++⟨f.nm,f.ps.drop 1++f.ps.take 1,f.bd⟩::post) main n2 z2 ⟨by simp;lia,fun h hh=>?_,fun h hh=>?_,mA,by lia⟩ (by lia)
   ·have e1:aT (pre++⟨f.nm,f.ps.drop 1++f.ps.take 1,f.bd⟩::post) main = .tup [.tup (aO ((pre++f::post).map Fd.tv) none (some (pre.length:Int)) ++ [.tup [ts f.nm,.tup (aO (f.ps.map ts) (some 1) none++aO (f.ps.map ts) none (some 1)),E.tv f.bd]]++aO ((pre++f::post).map Fd.tv) (some ((pre.length:Int)+1)) none),E.tv main]:=by
     rw[c1,c2,d1,d2,<- T2];simp [aT,Fd.tv]
    rw[e1] at this;exact this
   ·simp only [TB,Ts] at hh
    rcases hh with hh|rfl|hh
    ·exact hA h (by simp [hh])
    ·have hf:=hA f bT
     refine⟨hf.nm,Qx hf.nd,fun x hx=>?_,by show(f.ps.drop 1++f.ps.take 1).length<=7;rw[Tg,UN,T9];lia,hf.bd⟩;rcases TB.mp hx with h|h
     ·exact hf.pN x (mem_of_mem_drop h)
     ·exact hf.pN x (mem_of_mem_take h)
    ·exact hA h (by simp [hh])
   ·simp only [TB,Ts] at hh
    rcases hh with hh|rfl|hh
    ·have:=ed h (by simp [hh]);lia
    ·have:=ed f bT;show f.bd.cnt<=100;lia
    ·have:=ed h (by simp [hh]);lia
 ·have Jw:(0:Int)<(pre.length:Int):=Ub g5
  obtain⟨pr,f0,rfl⟩:∃pr f0,pre=pr ++ [f0]:=by
   rcases List.eq_nil_or_concat pre with h|⟨pr,f0,h⟩
   ·subst h;simp at Jw
   ·exact⟨pr,f0,by simpa using h⟩
  have ei:(((pr ++ [f0]).length:Nat):Int)-1=(pr.length:Int):=by rw[Tg];simp
  have ef:(pr ++ [f0])++f::post=pr++f0::(f::post):=by simp
  have BU:eh (((pr ++ [f0])++f::post).map Fd.tv) ((((pr ++ [f0]).length:Nat):Int)-1)=some (Fd.tv f0):=by rw[ei,ef];exact FD pr (f::post) f0
  have c3:aO (((pr ++ [f0])++f::post).map Fd.tv) none (some ((((pr ++ [f0]).length:Nat):Int)-1))=pr.map Fd.tv:=by rw[ei,ef];exact yD pr (f0::f::post)
  refine bx BU ⟨rfl,R,4,by decide,f.bd,rfl,hB.bd f bT,by have:=ed f bT;lia,fun xs kT=>⟨⟨fF xs,rfl⟩,aL (fun g6=>?_) (fun g6=>yC hl hn hB ed jF bA b0 hV (by lia) q)⟩⟩;refine bx eg (bx BU ⟨?_,?_,?_⟩)
  ·show(aO (((pr ++ [f0])++f::post).map Fd.tv) none (some ((((pr ++ [f0]).length:Nat):Int)-1))).length+2<=16777216;rw[c3,Ta];simp at hlen;lia
  ·show(aO (((pr ++ [f0])++f::post).map Fd.tv) none (some ((((pr ++ [f0]).length:Nat):Int)-1)) ++ [_,_]).length+(aO (((pr ++ [f0])++f::post).map Fd.tv) (some ((((pr ++ [f0]).length:Nat):Int)+1)) none).length<=16777216;rw[c3,c2,Tg,Ta,Ta];simp at hlen ⊢;lia
  ·have mm:∀h,h∈pr++f::f0::post->h∈(pr ++ [f0])++f::post:=fun h hh=>by
    simp at hh ⊢;rcases hh with h|h|h|h
    ·exact .inl h
    ·exact .inr (.inr (.inl h))
    ·exact .inr (.inl h)
    ·exact .inr (.inr (.inr h))
   have:=q (pr++f::f0::post) main n2 z2 ⟨by simp at hlen ⊢;lia,fun h hh=>hA h (mm h hh),fun h hh=>by have:=ed h (mm h hh);lia,mA,by lia⟩ (by lia);have e1:aT (pr++f::f0::post) main = .tup [.tup (aO (((pr ++ [f0])++f::post).map Fd.tv) none (some ((((pr ++ [f0]).length:Nat):Int)-1)) ++ [Fd.tv f,Fd.tv f0]++aO (((pr ++ [f0])++f::post).map Fd.tv) (some ((((pr ++ [f0]).length:Nat):Int)+1)) none),E.tv main]:=by rw[c3,c2];simp [aT]
   rw[e1] at this;exact this
 ·exact yC hl hn hB ed jF bA b0 hV (by lia) q
 ·exact yC hl hn hB ed jF bA b0 hV (by lia) q
def fX (B:List Str):Wd->Int
 | .name x=>if x∈B then (pos x B.reverse:Nat) else -1
 |_=>-1
mutual
noncomputable def fL (B:List Str):E->List (E×Int)
 | .nd w ks=>(.nd w ks,fX B w)::jk B (dN B w) ks
noncomputable def jk (B C:List Str):List E->List (E×Int)
 |[]=>[]
 |k::ks=>fL B k++jk C C ks
end
mutual
theorem EJ (B:List Str):∀e:E,(fL B e).length=e.cnt
 | .nd w ks=>by rw[fL,Tree.cnt,Tz,FC B (dN B w) ks];lia
theorem FC (B C:List Str):∀ks:List E,(jk B C ks).length=Tree.cntL ks
 |[]=>rfl
 |k::ks=>by rw[jk,Tree.cntL,Tg,EJ B k,FC C C ks]
end
def pJ (p:E×Int):Tv:=.tup [E.tv p.1,ti p.2]
noncomputable def Ba:E->Wd
 | .nd w _=>w
noncomputable def pR:E->List E
 | .nd _ ks=>ks
def bh (w:Wd)(o:Int):List V:=match w with
 | .lt _=>[.str "let"]
 |w=>if 0<=o then [.str "own",.int o] else w.hd
def iV (p:E×Int):List V×Nat:=(bh (Ba p.1) p.2,(pR p.1).length)
def b9 (p:List V×Nat):Tv:=.tup [.tup (p.1.map Tv.at),ti p.2]
theorem JY {w:Wd}(h:Ex R N (.nd w ks)):bh w (fX B w)=hs [] B w:=by
 cases w with
 |name x=>
  rw[hs,fX]
  by_cases hx:x∈B
  ·rw[Tt hx,Tt hx,bh,Tt (by lia)];intro y z;injection z
  ·rw[Tp hx,Tp hx,bh,Tp (by decide),Tp (by simp)];rfl;intro y z;injection z
 |lt x=>rfl
 |_=>simp [bh,fX,hs]
mutual
theorem EI {R:Rl}:∀(N:Nat) (e:E) (B:List Str),Ex R N e->(fL B e).map iV=pre (cV [] B e)
 |N,.nd w ks,B,h=>by
  rw[fL,cV,pre,TX];have h0:=h
  cases h with
  | @mk n _ _ _ hk=>
   rw[FA n ks B (dN B w) hk];have:iV (.nd w ks,fX B w)=(hs [] B w,(dw [] B (dN B w) ks).length):=by unfold iV;rw[uv];show(bh w (fX B w),ks.length)=_;rw[JY h0]
   rw[this]
theorem FA {R:Rl}:∀(N:Nat) (ks:List E) (B C:List Str),(∀k∈ks,Ex R N k)->(jk B C ks).map iV=fB (dw [] B C ks)
 |N,[],B,C,_=>rfl
 |N,k::ks,B,C,h=>by rw[jk,dw,fB,T2,EI N k B (h k Te),FA N ks C C fun j hj=>h j (Tb _ hj)]
theorem uv (ps B C:List Str):∀ks:List E,(dw ps B C ks).length=ks.length
 |[]=>rfl
 |k::ks=>by rw[dw,Tz,Tz,uv ps C C ks]
end
inductive dq (args:List Sl)(k:ad):Prop
 |mk (w:Wd) (ks:List E) (_:args = [.fz (Tree.tv Wd.hd (.nd w ks))]) (_:ks.length<=1000) (_:k (.fz (.tup (w.hd.map Tv.at))) [.fz (Tree.tv Wd.hd (.nd w ks))])
theorem L5:∀args k,dq args k->aH (aB yf yg) (aS args k) (aU 1 args):=by
 rintro args k ⟨w,ks,rfl,hl,q⟩;have h2:=(m7 w).2.2;have ll:(w.hd.map Tv.at++E.tvL ks).length<=16777216:=by rw[Tg,Ta,cw];lia
 refine⟨ll,rfl,nB (w.hd.map Tv.at++E.tvL ks) [] none (tq w ks) fun s'=>?_⟩;rw[Ua,C8];exact q
inductive b6 (args:List Sl)(k:ad):Prop
 |mk (w:Wd) (ks:List E) (_:args = [.fz (Tree.tv Wd.hd (.nd w ks))]) (_:ks.length<=1000) (_:k (.fz (.tup (E.tvL ks))) [.fz (Tree.tv Wd.hd (.nd w ks))])
theorem Pn:∀args k,b6 args k->aH (aB yP yQ) (aS args k) (aU 1 args):=by
 rintro args k ⟨w,ks,rfl,hl,q⟩;have h2:=(m7 w).2.2;have ll:(w.hd.map Tv.at++E.tvL ks).length<=16777216:=by rw[Tg,Ta,cw];lia
 have e:(w.hd.map Tv.at++E.tvL ks).filter cT=E.tvL ks:=yd _ _ fun k hk=>by rw[E.tvL,eM] at hk;obtain⟨k,_,rfl⟩:=T5.mp hk;exact E.tp k
 refine⟨ll,rfl,oU (w.hd.map Tv.at++E.tvL ks) [] none (tq w ks) fun s'=>?_⟩;rw[Ua,e];exact q
inductive bP (args:List Sl)(k:ad):Prop
 |mk (w:Wd) (ks:List E) (o:Int) (_:args = [.fz (Tree.tv Wd.hd (.nd w ks)),fi o]) (_:ks.length<=1000) (_:k (.fz (.tup ((bh w o).map Tv.at))) [.fz (Tree.tv Wd.hd (.nd w ks)),fi o])
theorem RH:∀args k,bP args k->aH (aB (AQ dq) AR) (aS args k) (aU 2 args):=by
 rintro args k ⟨w,ks,o,rfl,hl,q⟩
 cases w with
 |lt x=>exact q
 |_=>
  refine aL (fun g=>?_) (fun g=>?_)
  ·have g':0<=o:=Ub g;simp only [bh,Tt g'] at q;exact q
  ·have g':¬ 0<=o:=fun h=>g (T8 h);simp only [bh,Tp g'] at q;exact⟨rfl,_,ks,rfl,hl,q⟩
inductive dk (args:List Sl)(k:ad):Prop
 |mk (R:Rl) (N:Nat) (e:E) (_:args = [.fz (E.tv e)]) (_:N<=20) (_:Ex R N e) (_:e.cnt<=300000) (_:k (.own (.lst ((fL [] e).map pJ))) [.fz (E.tv e)])
inductive bN (args:List Sl)(k:ad):Prop
 |mk (R:Rl) (N:Nat) (e:E) (_:args = [.fz (E.tv e)]) (_:N<=20) (_:Ex R N e) (_:e.cnt<=300000) (_:k (.own (.lst ((pre (cV [] [] e)).map b9))) [.fz (E.tv e)])
abbrev wu:Gm:=AN dk b6 bP
theorem GN {k:List Tv->Ms->Prop}:∀(l ak:List (E×Int)) (s0 s1:Option Sl),(∀p∈l,(pR p.1).length<=1000)->(∀s0 s1,k ((ak++l).map fun p=>b9 (iV p)) ⟨[s0,s1],[],[]⟩)->aY (bd (.cons (.nm 0) (.cons (.nm 1) .nil))) (av wu .tt).t (av wu HF).e k (l.map pJ) (ak.map fun p=>b9 (iV p)) ⟨[s0,s1],[],[]⟩
 |[],ak,s0,s1,_,q=>by have:=q s0 s1;rw[TJ] at this;exact this
 | (⟨.nd w ks,o⟩)::l,ak,s0,s1,h,q=>by
  have hk:ks.length<=1000:=h _ Te;refine⟨rfl,w,ks,o,rfl,hk,rfl,w,ks,rfl,hk,?_⟩;have e0:((E.tvL ks).length:Int)=ks.length:=by rw[cw]
  have e1:(ak.map fun p=>b9 (iV p)) ++ [.tup [.tup ((bh w o).map Tv.at),ti (E.tvL ks).length]]=(ak ++ [((.nd w ks:E),o)]).map fun p=>b9 (iV p):=by rw[e0];simp [b9,iV,Ba,pR]
  show aY _ _ _ _ (l.map pJ) ((ak.map fun p=>b9 (iV p)) ++ [.tup [.tup ((bh w o).map Tv.at),ti (E.tvL ks).length]]) _;rw[e1];exact GN l (ak ++ [((.nd w ks:E),o)]) _ _ (fun p hp=>h p (Tb _ hp)) fun s0 s1=>by simpa using q s0 s1
mutual
theorem DO {R:Rl}:∀(N:Nat) (e:E) (B:List Str),Ex R N e->∀p∈fL B e,(pR p.1).length<=1000
 |N,.nd w ks,B,h,p,hp=>by
  cases h with
  | @mk n _ _ h hk=>
   rw[fL] at hp;rcases Ts.mp hp with rfl|hp
   ·have:=h.le;show ks.length<=1000;lia
   ·exact EH n ks _ _ hk p hp
theorem EH {R:Rl}:∀(N:Nat) (ks:List E) (B C:List Str),(∀k∈ks,Ex R N k)->∀p∈jk B C ks,(pR p.1).length<=1000
 |N,[],B,C,_,p,hp=>by cases hp
 |N,k::ks,B,C,h,p,hp=>by
  rw[jk] at hp;rcases TB.mp hp with hp|hp
  ·exact DO N k B (h k Te) p hp
  ·exact EH N ks C C (fun j hj=>h j (Tb _ hj)) p hp
end
theorem RG:∀args k,bN args k->aH (aB wu AO) (aS args k) (aU 1 args):=by
 rintro args k ⟨R,N,e,rfl,hN,he,hc,q⟩;refine⟨rfl,R,N,e,rfl,hN,he,hc,by rw[Ta,EJ];lia,rfl,GN (fL [] e) [] none none (DO N e [] he) fun s0 s1=>?_⟩;have e1:((fL [] e).map fun p=>b9 (iV p))=(pre (cV [] [] e)).map b9:=by rw[<- EI N e [] he,map_map];rfl
 rw[Ua,e1];exact q
def iB (ps:List Str):List V×Nat->List V×Nat
 | ([.str w,.str x],m)=>if w="name"/\x∈ps then ([.str "hole",.int (pos x ps)],0) else ([.str w,.str x],m)
 |p=>p
def oa (h:List V):Prop:=(∃x,h = [.str "name",.str x])∨∃w r,h = .str w::r/\w≠"name"
inductive dm (args:List Sl)(k:ad):Prop
 |mk (ps:List Str) (rows:List (List V×Nat)) (_:args = [.fz (.tup (ps.map ts)),.own (.lst (rows.map b9))]) (_:rows.length<=300000) (_:(∀p∈rows,oa p.1)) (_:∀s',k (.own (.lst ((rows.map (iB ps)).map b9))) [.fz (.tup (ps.map ts)),s'])
theorem GL {ps:List Str}{P:PD}{rs:List Tv}{out:List Sl}{a1:Sl}(ho:out = [.fz (.lst rs)]∨out = []):
  ∀(l ak:List (List V×Nat)) (s3 s4 s5:Option Sl),(∀p∈l,oa p.1)->ak.length+l.length<=300000->(∀s3 s4 s5,P.nx ⟨[some (.fz (.tup (ps.map ts))),some a1,some (.own (.lst (((ak++l).map (iB ps)).map b9))),s3,s4,s5],out,[]⟩) →
   cN (bd (.cons (.nm 3) (.cons (.nm 4) .nil))) (aH (aB qX zD)) P (l.map b9) ⟨[some (.fz (.tup (ps.map ts))),some a1,some (.own (.lst ((ak.map (iB ps)).map b9))),s3,s4,s5],out,[]⟩
 |[],ak,s3,s4,s5,_,_,q=>by have:=q s3 s4 s5;rw[TJ] at this;exact this
 | (h,m)::l,ak,s3,s4,s5,hl,hn,q=>by
  have hd:=hl (h,m) Te
  have go:∀(r:List V×Nat),iB ps (h,m)=r->∀s3 s4 s5,cN (bd (.cons (.nm 3) (.cons (.nm 4) .nil))) (aH (aB qX zD)) P (l.map b9) ⟨[some (.fz (.tup (ps.map ts))),some a1,some (.own (.lst ((ak.map (iB ps)).map b9 ++ [b9 r]))),s3,s4,s5],out,[]⟩:=fun r hr s3 s4 s5=>by
   have:=GL (ps:=ps) (P:=P) ho l (ak ++ [(h,m)]) s3 s4 s5 (fun p hp=>hl p (Tb _ hp)) (by simp at hn ⊢;lia) fun s3 s4 s5=>by simpa using q s3 s4 s5
   rw[T2,T2] at this;rw[<- hr];exact this
  have len:((ak.map (iB ps)).map b9).length<16777216:=by rw[Ta,Ta];simp at hn;lia
  rcases hd with ⟨x,rfl⟩|⟨w,r,rfl,hw⟩
  ·rcases ho with rfl|rfl
   all_goals
    by_cases hx:x∈ps
    ·have gf:(false ^^ dY (.str x) ((ps.map ts).map dE))=true:=by rw[(ic x ps).mpr hx];rfl
     refine⟨⟨fF ps,rfl⟩,?_⟩;rw[gf];exact⟨rfl,rfl,ps,x,pos x ps,rfl,rfl,yJ hx,fun m hm=>zO hm,len,go ([.str "hole",.int (pos x ps)],0) (Tt ⟨rfl,hx⟩) _ _ _⟩
    ·have gf:(false ^^ dY (.str x) ((ps.map ts).map dE))=false:=by
      cases e:dY (.str x) ((ps.map ts).map dE) with
      |false=>rfl
      |true=>exact absurd ((ic x ps).mp e) hx
     refine⟨⟨fF ps,rfl⟩,?_⟩;rw[gf];exact⟨rfl,len,go _ (Tp fun z=>hx z.2) _ _ _⟩
  ·have bj:(false ^^ decide (V.str w=V.str "name"))=false:=by
    have:¬V.str w=V.str "name":=fun z=>hw (by injection z);simp [this]
   have Ja:iB ps (.str w::r,m)=(.str w::r,m):=by
    unfold iB
    split
    ·next e=>
     injection e with e1 e2;injection e1 with e1 e3;injection e1 with e1;rw[Tp (fun z=>hw (e1.trans z.1)),e1,e2,e3]
    ·rfl
   rcases ho with rfl|rfl
   all_goals
    refine aL (fun g=>absurd (bj▸g) (by decide)) (fun _=>?_);exact⟨rfl,len,go _ Ja _ _ _⟩
theorem N0:∀args k,dm args k->aH (aB qX yM) (aS args k) (aU 6 args):=by
 rintro args k ⟨ps,rows,rfl,hl,hd,q⟩;refine⟨fun M=>∃(s3 s4 s5:Option Sl),M=⟨[some (.fz (.tup (ps.map ts))),some (.out 0),some (.own (.lst ((rows.map (iB ps)).map b9))),s3,s4,s5],[.fz (.lst (rows.map b9))],[]⟩,?_,?_⟩
 ·refine GL (rs:=rows.map b9) (.inl rfl) rows [] none none none hd (by simpa using hl) ?_;exact fun s3 s4 s5=>⟨s3,s4,s5,by rw[Ua]⟩
 ·rintro M ⟨s3,s4,s5,rfl⟩;exact q _
mutual
theorem Fz {R:Rl}{ps:List Str}:∀(N:Nat) (e:E) (B:List Str),Ex R N e->(pre (cV [] B e)).map (iB ps)=pre (cV ps B e)
 |N,.nd w ks,B,h=>by
  rw[cV,cV,pre,pre,TX]
  cases h with
  | @mk n _ _ h hk=>
   rw[Ga n ks B (dN B w) hk,uv,uv]
   congr 1
   have oth:∀(a:Str) (r:List V) (m:Nat),a≠"name"->iB ps (.str a::r,m)=(.str a::r,m):=fun a r m ha=>by
    unfold iB
    split
    ·next e=>
     injection e with e1 e2;injection e1 with e1 e3;injection e1 with e1;rw[Tp (fun z=>ha (e1.trans z.1)),e1,e2,e3]
    ·rfl
   cases w with
   |name x=>
    have h0:ks = []:=UB h.1;subst h0;rw[hs,hs]
    by_cases h1:x∈B
    ·rw[Tt h1,Tt h1];exact oth "own" _ _ (by decide)
    ·rw[Tp h1,Tp h1,Tp (by simp)]
     by_cases h2:x∈ps
     ·rw[Tt h2];exact Tt ⟨rfl,h2⟩
     ·rw[Tp h2];exact Tp fun z=>h2 z.2
   |num i=>exact oth "num" _ _ (by decide)
   |take=>exact oth "take" _ _ (by decide)
   |op s=>exact oth "op" _ _ (by decide)
   |pick=>exact oth "pick" _ _ (by decide)
   |lt x=>exact oth "let" _ _ (by decide)
   |st x=>exact oth "set" _ _ (by decide)
   |say=>exact oth "say" _ _ (by decide)
   | «do» => exact oth "do" _ _ (by decide)
   |again m=>exact oth "again" _ _ (by decide)
   |call f=>exact oth "call" _ _ (by decide)
theorem Ga {R:Rl}{ps:List Str}:∀(N:Nat) (ks:List E) (B C:List Str),(∀k∈ks,Ex R N k)->(fB (dw [] B C ks)).map (iB ps)=fB (dw ps B C ks)
 |N,[],B,C,_=>rfl
 |N,k::ks,B,C,h=>by rw[dw,dw,fB,fB,T2,Fz N k B (h k Te),Ga N ks C C fun j hj=>h j (Tb _ hj)]
end
mutual
theorem DN (ps:List Str):∀(e:E) (B:List Str),∀p∈pre (cV ps B e),oa p.1
 | .nd w ks,B,p,hp=>by
  rw[cV,pre] at hp;rcases Ts.mp hp with rfl|hp
  ·have oth:∀(a:Str) (r:List V),a≠"name"->oa (.str a::r):=fun a r ha=>.inr ⟨a,r,rfl,ha⟩
   show oa (hs ps B w)
   cases w with
   |name x=>
    rw[hs]
    split
    ·exact oth "own" _ (by decide)
    ·split
     ·exact oth "hole" _ (by decide)
     ·exact .inl ⟨x,rfl⟩
   |num i=>exact oth "num" _ (by decide)
   |take=>exact oth "take" _ (by decide)
   |op s=>exact oth "op" _ (by decide)
   |pick=>exact oth "pick" _ (by decide)
   |lt x=>exact oth "let" _ (by decide)
   |st x=>exact oth "set" _ (by decide)
   |say=>exact oth "say" _ (by decide)
   | «do» => exact oth "do" _ (by decide)
   |again m=>exact oth "again" _ (by decide)
   |call f=>exact oth "call" _ (by decide)
  ·exact EG ps ks _ _ p hp
theorem EG (ps:List Str):∀(ks:List E) (B C:List Str),∀p∈fB (dw ps B C ks),oa p.1
 |[],B,C,p,hp=>by cases hp
 |k::ks,B,C,p,hp=>by
  rw[dw,fB] at hp;rcases TB.mp hp with hp|hp
  ·exact DN ps k B p hp
  ·exact EG ps ks C C p hp
end
mutual
theorem EF (ps:List Str):∀(e:E) (B:List Str),(pre (cV ps B e)).length=e.cnt
 | .nd w ks,B=>by rw[cV,pre,Tree.cnt,Tz,Fy ps ks];lia
theorem Fy (ps:List Str):∀(ks:List E) (B C:List Str),(fB (dw ps B C ks)).length=Tree.cntL ks
 |[],B,C=>rfl
 |k::ks,B,C=>by rw[dw,fB,Tree.cntL,Tg,EF ps k,Fy ps ks]
end
def gq (f:Fd):Tv:=.tup [ts f.nm,ti f.ps.length,.lst ((pre (cV f.ps [] f.bd)).map b9)]
def mj (e:E):Tv:=.tup [ts "",ti 0,.lst ((pre (cV [] [] e)).map b9)]
inductive cA (args:List Sl)(k:ad):Prop
 |mk (fs:List Fd) (main:E) (_:args = [.fz (aT fs main)]) (_:gj fs main) (_:k (.own (.lst (fs.map gq ++ [mj main]))) [.fz (aT fs main)])
abbrev wq:Gm:=zB dm bN
theorem Hr {k:List Tv->Ms->Prop}:∀(l ak:List Fd) (s0 s1 s2:Option Sl),(∀f∈l,jz 14 f/\f.bd.cnt<=100)->(∀s0 s1 s2,k ((ak++l).map gq) ⟨[s0,s1,s2],[],[]⟩)->aY (bd (.cons (.nm 0) (.cons (.nm 1) (.cons (.nm 2) .nil)))) (av wq .tt).t (av wq Gs).e k (l.map Fd.tv) (ak.map gq) ⟨[s0,s1,s2],[],[]⟩
 |[],ak,s0,s1,s2,_,q=>by have:=q s0 s1 s2;rw[TJ] at this;exact this
 |f::l,ak,s0,s1,s2,h,q=>by
  obtain⟨hf,hc⟩:=h f Te;refine⟨rfl,RA,14,f.bd,rfl,by decide,hf.bd,by lia,rfl,f.ps,pre (cV [] [] f.bd),rfl,by rw[EF];lia,DN [] f.bd [],fun s'=>?_⟩;rw[Fz 14 f.bd [] hf.bd];have e0:((f.ps.map ts).length:Int)=f.ps.length:=by rw[Ta]
  have e1:ak.map gq ++ [.tup [ts f.nm,ti (f.ps.map ts).length,.lst ((pre (cV f.ps [] f.bd)).map b9)]]=(ak ++ [f]).map gq:=by rw[e0];simp [gq]
  show aY _ _ _ _ (l.map Fd.tv) (ak.map gq ++ [.tup [ts f.nm,ti (f.ps.map ts).length,.lst ((pre (cV f.ps [] f.bd)).map b9)]]) _;rw[e1];exact Hr l (ak ++ [f]) _ _ _ (fun g hg=>h g (Tb _ hg)) fun s0 s1 s2=>by simpa using q s0 s1 s2
theorem Pm:∀args k,cA args k->aH (aB wq zC) (aS args k) (aU 4 args):=by rintro args k ⟨fs,main,rfl,hC,q⟩;have hfl:=hC.fl;refine⟨by rw[Ta];lia,rfl,Hr fs [] none none none (fun f hf=>⟨hC.fo f hf,hC.fc f hf⟩) fun s0 s1 s2=>?_⟩;refine⟨rfl,RA,14,main,rfl,by decide,hC.mn,by have:=hC.mc;lia,?_⟩;exact⟨by rw[Ua,Ta];show fs.length+1<=16777216;lia,q⟩
noncomputable def dW:V->Bool
 | .int _=>true
 | .str _=>true
 |_=>false
theorem Kt {v w:V}(hv:dW v=true)(hw:dW w=true):ft v w=true↔v=w:=by
 cases v with
 |int i=>
  cases w with
  |int j=>simp [ft]
  |str y=>simp [ft]
  |_=>injection hw
 |str x=>
  cases w with
  |int j=>simp [ft]
  |str y=>simp [ft]
  |_=>injection hw
 |_=>injection hv
theorem Fx {v:V}(h:dW v=true):dz v=true:=by cases v <;> first|rfl|cases h
mutual
noncomputable def ez:Tv->Bool
 | .at v=>dW v
 | .tup l=>jj l
 | .lst l=>jj l
 |_=>false
noncomputable def jj:List Tv->Bool
 |[]=>true
 |t::l=>ez t&&jj l
end
mutual
theorem NZ:∀(t u:Tv),ez t=true->ez u=true->(cI t u=true↔t=u)
 | .at v,.at w,h,h'=>by rw[ez] at h h';rw[cI,Kt h h'];simp
 | .at v,.tup m,_,_=>by simp [cI]
 | .at v,.lst m,_,_=>by simp [cI]
 | .tup l,.at w,_,_=>by simp [cI]
 | .tup l,.tup m,h,h'=>by rw[ez] at h h';rw[cI,uH l m h h'];simp
 | .tup l,.lst m,_,_=>by simp [cI]
 | .lst l,.at w,_,_=>by simp [cI]
 | .lst l,.tup m,_,_=>by simp [cI]
 | .lst l,.lst m,h,h'=>by rw[ez] at h h';rw[cI,uH l m h h'];simp
 | .dic _,_,h,_=>by simp [ez] at h
 | .scr _,_,h,_=>by simp [ez] at h
 | .ktp _,_,h,_=>by simp [ez] at h
 |_,.dic _,_,h=>by simp [ez] at h
 |_,.scr _,_,h=>by simp [ez] at h
 |_,.ktp _,_,h=>by simp [ez] at h
theorem uH:∀(l m:List Tv),jj l=true->jj m=true->(d8 l m=true↔l=m)
 |[],[],_,_=>by simp [d8]
 |[],_::_,_,_=>by simp [d8]
 |_::_,[],_,_=>by simp [d8]
 |t::l,u::m,h,h'=>by rw[jj,S5] at h h';rw[d8,S5,NZ t u h.1 h'.1,uH l m h.2 h'.2,T1]
end
theorem rg:∀{l:List Tv},(∀t∈l,ez t=true)->jj l=true
 |[],_=>rfl
 |t::l,h=>by rw[jj,h t Te,rg fun u hu=>h u (Tb _ hu)];rfl
theorem yc:∀{a b:List V},a.map Tv.at=b.map Tv.at->a=b
 |[],[],_=>rfl
 |[],_::_,h=>by injection h
 |_::_,[],h=>by injection h
 |x::a,y::b,h=>by rw[TX,TX,T1] at h;rw[yc h.2];injection h.1 with h1;rw[h1]
theorem Tc.tp (t:Tc):cT (Tc.tv t)=true:=by cases t;rfl
theorem NY {h h':List V}{ks ks':List Tc}(e:h.map Tv.at++Tc.tvL ks=h'.map Tv.at++Tc.tvL ks'):h=h'/\Tc.tvL ks=Tc.tvL ks':=by
 have Be:∀ks:List Tc,∀t∈Tc.tvL ks,cT t=true:=fun ks t ht=>by rw[Tc.tvL,eM] at ht;obtain⟨k,_,rfl⟩:=T5.mp ht;exact Tc.tp k
 have f1:∀(h:List V) (ks:List Tc),(h.map Tv.at++Tc.tvL ks).filter cT=Tc.tvL ks:=fun h ks=>yd _ _ (Be ks);have f2:∀(h:List V) (ks:List Tc),(h.map Tv.at++Tc.tvL ks).filter (fun t => !cT t)=h.map Tv.at:=fun h ks=>by rw[filter_append,filter_eq_self.mpr (fun t ht=>by obtain⟨v,_,rfl⟩:=T5.mp ht;rfl),filter_eq_nil_iff.mpr (fun t ht=>by simp [Be ks t ht]),TJ]
 exact⟨yc (by rw[<- f2 h ks,e,f2]),by rw[<- f1 h ks,e,f1]⟩
mutual
theorem yb:∀t t':Tc,Tc.tv t=Tc.tv t'->t=t'
 | .nd h ks,.nd h' ks',e=>by have e':Tv.tup (h.map Tv.at++Tc.tvL ks) = .tup (h'.map Tv.at++Tc.tvL ks'):=e;injection e' with e';obtain⟨a,b⟩:=NY e';rw[a,EE ks ks' b]
theorem EE:∀ks ks':List Tc,Tc.tvL ks=Tc.tvL ks'->ks=ks'
 |[],[],_=>rfl
 |[],_::_,e=>by injection e
 |_::_,[],e=>by injection e
 |k::ks,k'::ks',e=>by have e':Tc.tv k::Tc.tvL ks=Tc.tv k'::Tc.tvL ks':=e;rw[T1] at e';rw[yb k k' e'.1,EE ks ks' e'.2]
end
theorem ya:∀{a b:List (List V×Nat)},a.map b9=b.map b9->a=b
 |[],[],_=>rfl
 |[],_::_,h=>by injection h
 |_::_,[],h=>by injection h
 | (x,m)::a,(y,m')::b,h=>by rw[TX,TX,T1] at h;rw[ya h.2];have h1:Tv.tup [.tup (x.map Tv.at),ti m] = .tup [.tup (y.map Tv.at),ti m']:=h.1;injection h1 with h1;rw[T1,T1] at h1;obtain⟨h2,h3,_⟩:=h1;injection h2 with h2;injection h3 with h3;injection h3 with h3;rw[yc h2,show m=m' by lia]
theorem JX {f f':Fd}(h:jz 14 f)(h':jz 14 f'):gq f=gq f'↔dZ f=dZ f':=by
 have gx:f.ps.length=f'.ps.length->(pre (cV f.ps [] f.bd)=pre (cV f'.ps [] f'.bd)↔bare f.ps f.bd=bare f'.ps f'.bd):=fun hl=>by rw[yF,yG h.nd h'.nd hl f.bd f'.bd 14 14 [] [] h.bd h'.bd rfl,TJ,TJ]
 unfold gq dZ;constructor
 ·intro e;injection e with e;simp only [T1,and_true] at e;obtain⟨e1,e2,e3⟩:=e;injection e2 with e2;injection e2 with e2;injection e3 with e3;rw[e1,show f.ps.length=f'.ps.length by lia,(gx (by lia)).mp (ya e3)]
 ·intro e;injection e with e;simp only [T1,and_true] at e;obtain⟨e1,e2,e3⟩:=e;injection e2 with e2;injection e2 with e2;rw[e1,show f.ps.length=f'.ps.length by lia,(gx (by lia)).mpr (yb _ _ e3)]
theorem yB:∀{fs dv:List Fd},(∀f∈fs,jz 14 f)->(∀f∈dv,jz 14 f)->(fs.map gq=dv.map gq↔fs.map dZ=dv.map dZ)
 |[],[],_,_=>by simp
 |[],_::_,_,_=>by simp
 |_::_,[],_,_=>by simp
 |f::fs,f'::dv,h,h'=>by rw[TX,TX,TX,TX,T1,T1,JX (h f Te) (h' f' Te),yB (fun g hg=>h g (Tb _ hg)) fun g hg=>h' g (Tb _ hg)]
theorem NX {fs dv:List Fd}{main':E}(h:gj fs main)(h':gj dv main'):fs.map gq ++ [mj main]=dv.map gq ++ [mj main']↔dy fs main=dy dv main':=by
 have km:mj main=mj main'↔Tc.tv (bare [] main)=Tc.tv (bare [] main'):=by
  have hi:=yG (ps:=[]) (ps':=[]) nodup_nil nodup_nil rfl main main' 14 14 [] [] h.mn h'.mn rfl;unfold mj;constructor
  ·intro e;injection e with e;simp only [T1,and_true,true_and] at e;injection e with e;rw[show bare [] main=bare [] main' from hi.mp ((yF _ _).mp (ya e))]
  ·intro e;rw[(yF _ _).mpr (hi.mpr (yb _ _ e))]
 constructor
 ·intro e;obtain⟨a,b⟩:=List.append_inj' e rfl;rw[T1] at b;unfold dy;rw[(yB h.fo h'.fo).mp a,km.mp b.1]
 ·intro e;unfold dy at e;injection e with e;simp only [T1,and_true] at e;obtain⟨e1,e2⟩:=e;injection e1 with e1;rw[(yB h.fo h'.fo).mpr e1,km.mpr e2]
mutual
theorem x9 (ps:List Str):∀(e:E) (B:List Str),∀p∈pre (cV ps B e),∀v∈p.1,dW v=true
 | .nd w ks,B,p,hp=>by
  rw[cV,pre] at hp;rcases Ts.mp hp with rfl|hp
  ·show ∀v∈hs ps B w,dW v=true
   have lW:∀{a b:V},dW a=true->dW b=true->∀v ∈ [a,b],dW v=true:=fun ha hb v hv=>by simp at hv;rcases hv with rfl|rfl <;> assumption
   have one:∀{a:V},dW a=true->∀v ∈ [a],dW v=true:=fun ha v hv=>by simp at hv;subst hv;exact ha
   cases w with
   |name x=>
    rw[hs]
    split
    ·exact lW rfl rfl
    ·split <;> exact lW rfl rfl
   |num i=>exact lW rfl rfl
   |take=>exact one rfl
   |op s=>exact lW rfl rfl
   |pick=>exact one rfl
   |lt x=>exact one rfl
   |st x=>exact lW rfl rfl
   |say=>exact one rfl
   | «do» => exact one rfl
   |again m=>exact lW rfl rfl
   |call f=>exact lW rfl rfl
  ·exact ED ps ks _ _ p hp
theorem ED (ps:List Str):∀(ks:List E) (B C:List Str),∀p∈fB (dw ps B C ks),∀v∈p.1,dW v=true
 |[],B,C,p,hp=>by cases hp
 |k::ks,B,C,p,hp=>by
  rw[dw,fB] at hp;rcases TB.mp hp with hp|hp
  ·exact x9 ps k B p hp
  ·exact ED ps ks C C p hp
end
theorem Ks {h:List V}(hh:∀v∈h,dW v=true):ez (.tup (h.map Tv.at))=true:=by rw[ez];exact rg fun t ht=>by obtain⟨v,hv,rfl⟩:=T5.mp ht;rw[ez];exact hh v hv
theorem JW {p:List V×Nat}(hh:∀v∈p.1,dW v=true):ez (b9 p)=true:=by unfold b9;rw[ez,jj,Ks hh];rfl
theorem L4 {n:Nat}{h h':List V}(hh:∀v∈h,dW v=true)(qe:∀v∈h',dW v=true):fm (n+1) (.tup (h.map Tv.at)) (.tup (h'.map Tv.at)):=.tup fun j t u h1 h2=>by have m1:=T4 h1;have m2:=T4 h2;obtain⟨v,hv,rfl⟩:=T5.mp m1;obtain⟨w,hw,rfl⟩:=T5.mp m2;exact .at (Fx (hh v hv)) (Fx (qe w hw))
theorem Kr {n:Nat}{p p':List V×Nat}(hh:∀v∈p.1,dW v=true)(qe:∀v∈p'.1,dW v=true):fm (n+2) (b9 p) (b9 p'):=.tup fun j t u h1 h2=>by
 match j with
 | 0=>cases h1;cases h2;exact L4 hh qe
 | 1=>cases h1;cases h2;exact .at rfl rfl
 |j+2=>injection h1
theorem L3 {n:Nat}{l l':List (List V×Nat)}(hh:∀p∈l,∀v∈p.1,dW v=true)(qe:∀p∈l',∀v∈p.1,dW v=true):fm (n+3) (.lst (l.map b9)) (.lst (l'.map b9)):=.lst fun j t u h1 h2=>by obtain⟨p,hp,rfl⟩:=T5.mp (T4 h1);obtain⟨p',mJ,rfl⟩:=T5.mp (T4 h2);exact Kr (hh p hp) (qe p' mJ)
def Sce (t:Tv):Prop:=∃(x:Str) (i:Int) (l:List (List V×Nat)),t = .tup [ts x,ti i,.lst (l.map b9)]/\∀p∈l,∀v∈p.1,dW v=true
theorem Sce.sim {u:Tv}(h:Sce t)(h':Sce u):fm 50 t u:=by
 obtain⟨x,i,l,rfl,hl⟩:=h;obtain⟨x',i',l',rfl,qb⟩:=h';refine .tup fun j t u h1 h2=>?_
 match j with
 | 0=>cases h1;cases h2;exact .at rfl rfl
 | 1=>cases h1;cases h2;exact .at rfl rfl
 | 2=>cases h1;cases h2;exact L3 hl qb
 |j+3=>injection h1
theorem Sce.pl (h:Sce t):ez t=true:=by
 obtain⟨x,i,l,rfl,hl⟩:=h;have:jj (l.map b9)=true:=rg fun t ht=>by obtain⟨p,hp,rfl⟩:=T5.mp ht;exact JW (hl p hp)
 simp only [ez,jj,dW,this,Bool.and_self]
theorem tS (fs:List Fd)(main:E):∀t∈fs.map gq ++ [mj main],Sce t:=fun t ht=>by
 rcases TB.mp ht with h|h
 ·obtain⟨f,_,rfl⟩:=T5.mp h;exact⟨_,_,_,rfl,x9 f.ps f.bd []⟩
 ·simp at h;subst h;exact⟨_,_,_,rfl,x9 [] main []⟩
inductive eW (args:List Sl)(k:ad):Prop
 |mk (fs dv:List Fd) (main main':E) (_:args = [.fz (aT fs main),.fz (aT dv main')]) (_:gj fs main) (_:gj dv main') (_:∀b:Bool,(b=true↔dy fs main=dy dv main')->k (fb b) [.fz (aT fs main),.fz (aT dv main')])
theorem L0:∀args k,eW args k->aH (aB (AY cA) AZ) (aS args k) (aU 2 args):=by rintro args k ⟨fs,dv,main,main',rfl,h,h',q⟩;refine⟨rfl,fs,main,rfl,h,rfl,dv,main',rfl,h',fun j t u h1 h2=>Sce.sim (tS fs main t (T4 h1)) (tS dv main' u (T4 h2)),?_⟩;exact q _ ((uH _ _ (rg fun t ht=>(tS fs main t ht).pl) (rg fun t ht=>(tS dv main' t ht).pl)).trans (NX h h'))
noncomputable abbrev nD (e:E):Str×E:=("node",e)
noncomputable abbrev oD (e:E):Str×E:=("opened",e)
noncomputable abbrev cD (e:E):Str×E:=("closed",e)
def ji (me:E):Wd->List (List (Str×E))->List (Str×E)
 | .lt _,[a,b]=>a++(oD me::(b ++ [cD me]))
 |_,l=>l.flatten
mutual
noncomputable def stp:E->List (Str×E)
 | .nd w ks=>nD (.nd w ks)::ji (.nd w ks) w (fW ks)
noncomputable def fW:List E->List (List (Str×E))
 |[]=>[]
 |k::ks=>stp k::fW ks
end
def inr (me:E):Wd->List E->List (Str×E)
 | .lt _,[a,b]=>[nD a,oD me,nD b,cD me]
 |_,ks=>ks.map nD
def fG (p:Str×E):List (Str×E):=if p.1="node" then stp p.2 else [p]
theorem ub (e:E):fG (nD e)=stp e:=rfl
theorem uG:∀ks:List E,(fW ks).flatten=(ks.map nD).flatMap fG
 |[]=>rfl
 |k::ks=>by rw[fW,UO,TX,Vd,uG ks];rfl
theorem EC (e:E):fG (oD e) = [oD e]:=Tp (show ¬ ("opened":Str)="node" by decide+kernel)
theorem F9 (e:E):fG (cD e) = [cD e]:=Tp (show ¬ ("closed":Str)="node" by decide+kernel)
theorem LZ (w:Wd)(ks:List E):stp (.nd w ks)=nD (.nd w ks)::(inr (.nd w ks) w ks).flatMap fG:=by
 rw[stp]
 congr 1
 cases w with
 |lt x=>
  match ks with
  |[a,b]=>simp only [fW,ji,inr,Vd,List.flatMap_nil,ub,EC,F9];simp
  |[]=>rfl
  |[a]=>have:=uG [a];simp only [fW,ji,inr] at this ⊢;exact this
  |a::b::c::l=>have:=uG (a::b::c::l);simp only [fW,ji,inr] at this ⊢;exact this
 |_=>exact uG _
def dT (p:Str×E):Tv:=.tup [ts p.1,E.tv p.2]
mutual
theorem yA:∀e:E,(stp e).length<=3*e.cnt
 | .nd w ks=>by
  have h:=Fw ks;rw[stp,Tree.cnt,Tz]
  have:(ji (.nd w ks) w (fW ks)).length<=(fW ks).flatten.length+2:=by
   cases w with
   |lt x=>
    match fW ks with
    |[a,b]=>simp [ji];lia
    |[]=>simp [ji]
    |[a]=>simp [ji]
    |a::b::c::l=>simp [ji]
   |_=>exact Nat.le_add_right _ _
  lia
theorem Fw:∀ks:List E,(fW ks).flatten.length<=3*Tree.cntL ks
 |[]=>T3 _
 |k::ks=>by rw[fW,UO,Tg,Tree.cntL];have:=yA k;have:=Fw ks;lia
end
theorem Kq (p:Str×E):1<=(fG p).length:=by
 obtain⟨d,e⟩:=p;unfold fG
 split
 ·cases e;rw[stp];simp
 ·simp
theorem tR:∀l:List (Str×E),l.length<=(l.flatMap fG).length
 |[]=>Tf _
 |p::l=>by rw[Vd,Tz,Tg];have:=Kq p;have:=tR l;lia
inductive dj (args:List Sl)(k:ad):Prop
 |mk (R:Rl) (N:Nat) (e:E) (_:args = [.fz (E.tv e)]) (_:Ex R N e) (_:e.cnt<=300000) (_:k (.own (.lst ((stp e).map dT))) [.fz (E.tv e)])
def Dd (R:Rl)(p:Str×E):Prop:=(∃N,Ex R N p.2)/\(p.1="node"∨p.1="opened"∨p.1="closed")
theorem Ko {w:Wd}(h:Ex R N (.nd w ks)):∀p∈inr (.nd w ks) w ks,Dd R p:=by
 have h0:=h
 cases h with
 | @mk n _ _ h hk=>
  have base:∀p∈ks.map nD,Dd R p:=fun p hp=>by obtain⟨k,z,rfl⟩:=T5.mp hp;exact⟨⟨n,hk k z⟩,.inl rfl⟩
  cases w with
  |lt x=>
   obtain⟨a,b,rfl⟩:=lb h.1;intro p hp;simp only [inr,Ts,TQ,T7] at hp;rcases hp with rfl|rfl|rfl|rfl
   ·exact⟨⟨n,hk _ (by simp)⟩,.inl rfl⟩
   ·exact⟨⟨_,h0⟩,.inr (.inl rfl)⟩
   ·exact⟨⟨n,hk _ (by simp)⟩,.inl rfl⟩
   ·exact⟨⟨_,h0⟩,.inr (.inr rfl)⟩
  |_=>exact base
abbrev wm:Gm:=yN b6
def C1 (R:Rl)(e:E)(m:Nat)(M:Ms):Prop:=∃(dn td:List (Str×E)) (o3 o4 o5:Option Sl),M=⟨[some (.fz (E.tv e)),some (.own (.lst (dn.map dT))),some (.own (.lst (td.reverse.map dT))),o3,o4,o5],[],[]⟩/\dn++td.flatMap fG=stp e/\(∀p∈td,Dd R p)/\m=(td.flatMap fG).length
theorem JA {o:Option (α × β)}{a:α}{b:β}{k:α -> β -> Prop}(e:o=some (a,b))(h:k a b):jn o k:=by rw[e];exact h
theorem GK {k:List Tv->Ms->Prop}:∀(ks:List E) (ak:List Tv) (s:Option Sl),(∀s,k (ak++ks.map fun t=>dT (nD t)) ⟨[s],[],[]⟩)->aY (bd (.nm 0)) (av wm .tt).t (av wm FR).e k (E.tvL ks) ak ⟨[s],[],[]⟩
 |[],ak,s,q=>by have:=q s;rw[map_nil,TJ] at this;exact this
 |t::ks,ak,s,q=>by show aY _ _ _ _ (E.tvL ks) (ak ++ [dT (nD t)]) _;exact GK ks (ak ++ [dT (nD t)]) _ fun s=>by simpa using q s
theorem NW:∀args k,dj args k->aH (aB wm yO) (aS args k) (aU 6 args):=by
 rintro args k ⟨R,N,e,rfl,he,hc,q⟩;have hs:=yA e;refine⟨fun M=>∃(o2 o3 o4 o5:Option Sl),M=⟨[some (.fz (E.tv e)),some (.own (.lst ((stp e).map dT))),o2,o3,o4,o5],[],[]⟩,⟨C1 R e,⟨_,[],[nD e],none,none,none,rfl,by simp [ub],fun p hp=>by rw[Uk.mp hp];exact⟨⟨N,he⟩,.inl rfl⟩,rfl⟩,?_⟩,?_⟩
 ·rintro m M ⟨dn,td,o3,o4,o5,rfl,hi,ht,rfl⟩
  have l1:=UP List.length hi;rw[Tg] at l1;have l2:=tR td
  match td,ht,hi,l1,l2 with
  |[],ht,hi,l1,l2=>rw[List.flatMap_nil,TJ] at hi;subst hi;exact⟨_,_,_,_,rfl⟩
  | (d,.nd w ks)::td,ht,hi,l1,l2=>
   rw[show((d,Tree.nd w ks)::td).reverse.map dT=td.reverse.map dT ++ [dT (d,.nd w ks)] by simp];refine aL (fun g=>?_) (fun g=>absurd (by simp) g);have pe:qF (.lst (td.reverse.map dT ++ [dT (d,.nd w ks)])) []=some (True,.lst (td.reverse.map dT),dT (d,.nd w ks)):=by unfold qF;simp
   generalize td.reverse.map dT ++ [dT (d,.nd w ks)]=l at pe g;refine⟨rfl,JA pe ⟨trivial,?_⟩⟩;obtain⟨⟨N',hN⟩,hd⟩:=ht (d,.nd w ks) Te;have sx:∀p∈td,Dd R p:=fun p hp=>ht p (Tb _ hp);have qg:(dn.map dT).length<16777216:=by rw[Ta];lia
   have pk:∀(p:Str×E),fG p = [p]->dn++(p::td).flatMap fG=stp e->∀o5:Option Sl,∃m',m'<((p::td).flatMap fG).length/\C1 R e m' ⟨[some (.fz (E.tv e)),some (.own (.lst (dn.map dT ++ [dT p]))),some (.own (.lst (td.reverse.map dT))),some (fs p.1),some (.fz (E.tv p.2)),o5],[],[]⟩:=fun p hp hi o5=>
    ⟨(td.flatMap fG).length,by rw[Vd,hp];simp,dn ++ [p],td,some (fs p.1),some (.fz (E.tv p.2)),o5,by simp,by rw[<- hi,Vd,hp];simp,sx,rfl⟩
   rcases hd with hd|hd|hd
   ·simp only at hd
    subst hd;have g9:ks.length<=1000:=by cases hN with|mk h hk=>have:=h.le;lia
    refine⟨rfl,qg,rfl,w,ks,rfl,g9,by rw[cw];lia,rfl,GK ks [] none fun s5=>?_⟩;have hdT:(ks.map fun t=>dT (nD t))=(ks.map nD).map dT:=by rw[map_map];rfl
    rw[Ua,hdT];refine⟨fun M=>∃o3 o4:Option Sl,M=⟨[some (.fz (E.tv e)),some (.own (.lst (dn.map dT ++ [dT (nD (.nd w ks))]))),some (.own (.lst (td.reverse.map dT))),o3,o4,some (.own (.lst ((inr (.nd w ks) w ks).map dT)))],[],[]⟩,?_,?_⟩
    ·cases w with
     |lt x=>
      obtain⟨a,b,rfl⟩:∃a b,ks = [a,b]:=by cases hN with|mk h hk=>exact lb h.1
      exact⟨_,_,rfl⟩
     |_=>exact⟨_,_,rfl⟩
    ·rintro M ⟨o3,o4,rfl⟩
     have hsp:=LZ w ks;have gf:dn++(nD (.nd w ks)::((inr (.nd w ks) w ks).flatMap fG++td.flatMap fG))=stp e:=by rw[<- hi,Vd,ub,hsp];rfl
     have l3:=UP List.length gf;have l4:=tR (inr (.nd w ks) w ks);have l5:=tR td;simp only [Tg,Tz] at l3;refine⟨rfl,?_,(((inr (.nd w ks) w ks)++td).flatMap fG).length,?_,dn ++ [nD (.nd w ks)],inr (.nd w ks) w ks++td,o3,o4,some (.own (.lst ((inr (.nd w ks) w ks).map dT))),?_,?_,?_,rfl⟩
     ·simp only [Ta,Uu];lia
     ·rw[Vd,ub,hsp,List.flatMap_append];simp only [Tg,Tz];lia
     ·rw[show(inr (.nd w ks) w ks++td).reverse.map dT=td.reverse.map dT++((inr (.nd w ks) w ks).map dT).reverse by simp,show(dn ++ [nD (.nd w ks)]).map dT=dn.map dT ++ [dT (nD (.nd w ks))] by simp];rfl
     ·rw[<- gf,List.flatMap_append];simp
     ·intro p hp
      rcases TB.mp hp with hp|hp
      ·exact Ko hN p hp
      ·exact sx p hp
   ·simp only at hd;subst hd;exact⟨rfl,qg,pk (oD (.nd w ks)) (EC _) hi _⟩
   ·simp only at hd;subst hd;exact⟨rfl,qg,pk (cD (.nd w ks)) (F9 _) hi _⟩
 ·rintro M ⟨o2,o3,o4,o5,rfl⟩;exact q
inductive ig:List Str->List (Str×E)->List (E×Int)->Prop where
 |nil {B:List Str}:ig B [] []
 |node {B:List Str} {l:List (Str×E)} {r:List (E×Int)} {w:Wd} {ks:List E} (h:ig B l r):ig B (nD (.nd w ks)::l) ((.nd w ks,fX B.reverse w)::r)
 |opened {B:List Str} {x:Str} {l:List (Str×E)} {r:List (E×Int)} {ks:List E} (h:ig (x::B) l r):ig B (oD (.nd (.lt x) ks)::l) r
 |closed {B:List Str} {x:Str} {l:List (Str×E)} {r:List (E×Int)} {ks:List E} (h:ig B l r):ig (x::B) (cD (.nd (.lt x) ks)::l) r
mutual
theorem tQ {R:Rl}:∀(e:E) (N:Nat) (B:List Str) (l:List (Str×E)) (r:List (E×Int)),Ex R N e->ig B l r->ig B (stp e++l) (fL B.reverse e++r)
 | .nd w ks,N,B,l,r,h,q=>by
  cases h with
  | @mk n _ _ h hk=>
   have plain:dN B.reverse w=B.reverse->ji (.nd w ks) w (fW ks)=(fW ks).flatten->ig B (stp (.nd w ks)++l) (fL B.reverse (.nd w ks)++r):=fun e1 e2=>by rw[stp,fL,e1,e2,TC,TC];exact .node (EB ks n B l r hk q)
   cases w with
   |lt x=>
    match ks,h.1,hk with
    |[a,b],_,hk=>rw[stp,fL,TC,TC];refine .node ?_;simp only [fW,ji,jk,dN,TJ];rw[TF,TF];refine tQ a n B _ _ (hk a (by simp)) ?_;rw[TC,TF];refine .opened ?_;have:=tQ b n (x::B) (cD (.nd (.lt x) [a,b])::l) r (hk b (by simp)) (.closed q);rw[UM] at this;exact this
   |_=>exact plain rfl rfl
theorem EB {R:Rl}:∀(ks:List E) (N:Nat) (B:List Str) (l:List (Str×E)) (r:List (E×Int)),(∀k∈ks,Ex R N k)->ig B l r->ig B ((fW ks).flatten++l) (jk B.reverse B.reverse ks++r)
 |[],N,B,l,r,_,q=>q
 |k::ks,N,B,l,r,h,q=>by rw[fW,UO,jk,TF,TF];exact tQ k N B _ _ (h k Te) (EB ks N B l r (fun j hj=>h j (Tb _ hj)) q)
end
theorem Kn {e:E}(h:Ex R N e):ig [] (stp e) (fL [] e):=by
 have:=tQ e N [] [] [] h .nil
 rwa [TJ,TJ] at this
noncomputable def c0:List Str->Str->List Int
 |[],_=>[]
 |b::B,y=>if y=b then c0 B y ++ [(B.length:Int)] else c0 B y
theorem EA (y:Str):∀B:List Str,(c0 B y).length<=B.length
 |[]=>Tf _
 |b::B=>by
  have:=EA y B;unfold c0
  split
  ·rw[Tg];simp;lia
  ·simp;lia
theorem ixR_no {y:Str}:∀{B:List Str},c0 B y = []↔y∉B
 |[]=>⟨fun _=>TQ,fun _=>rfl⟩
 |b::B=>by
  unfold c0
  split
  ·next h=>simp [h]
  ·next h=>rw[ixR_no,Ts];exact⟨fun z q=>q.elim h z,fun z q=>z (.inr q)⟩
theorem Fv {y:Str}:∀{B:List Str},y∈B->∃l z,c0 B y=l ++ [z]/\(B.length:Int)-1-z=(pos y B:Nat)
 |b::B,h=>by
  unfold c0 pos
  by_cases e:y=b
  ·rw[Tt e,Tt e.symm];exact⟨_,_,rfl,by simp⟩
  ·rw[Tp e,Tp (fun z=>e z.symm)];obtain⟨l,z,h1,h2⟩:=Fv (List.mem_of_ne_of_mem e h);exact⟨l,z,h1,by simp only [Tz];lia⟩
noncomputable abbrev Mp:=Str->List Int
structure rM (H:Hp)(ae:List (aw×V))(m:Mp):Prop where
 no:∀x,bt ae (.inr x)=none->m x = []
 at1:∀x v,bt ae (.inr x)=some v->∃a,v = .ref a/\H a=some (.lst ((m x).map V.int))
theorem LY (v:V)(vs:List V):atI (v::vs) 0=some v:=Fb (j:=0) rfl
theorem qW (u v:V)(vs:List V):atI (u::v::vs) 1=some v:=Fb (j:=1) rfl
inductive fI (K:W.Frag)(vs:List V)(H:Hp)(Q:VK):Prop
 |mk (G:Hp) (v:V) (ld:Addr) (w:Wd) (ks:List E) (ae:List (aw×V)) (B:List Str) (_:vs = [v,.ref ld,.int B.length]) (_:Same G H) (_:IsT K G v (Tree.tv Wd.hd (.nd w ks))) (_:H ld=some (.dK ae)) (_:rM H ae (c0 B)) (_:Q (.int (fX B.reverse w)) H)
noncomputable def Ez (K:W.Frag):Sp:=fun vs H Q _=>fI K vs H Q
theorem LX (w:Wd):∃s r,w.hd = .str s::r/\(s="name"->∃x,w = .name x):=by
 cases w with
 |name x=>exact⟨_,_,rfl,fun _=>⟨x,rfl⟩⟩
 |_=>exact⟨_,_,rfl,fun h=>absurd h (by decide+kernel)⟩
section
abbrev Am:Stmt:=aq 8
abbrev DM:Stmt:=aq 9
theorem LW:bo ["node","lets","level"] ["node","lets","level"] (ej Am):=⟨rfl,rfl,rfl,by decide+kernel,rfl,by decide+kernel,by decide+kernel⟩
theorem NV {f:Addr}(F:Fun K "own_number" "own_number" Am f fd):FnOk P w K mg base f6 1 f fd ["node","lets","level"] (Ez K):=by
 refine F.ok LW (fun vs H Q E h=>?_) (fun cj A outer s H vs Q E hr h=>?_)
 ·obtain⟨G,v,ld,w,ks,ae,B,rfl,_⟩:=h;rfl
 ·obtain⟨G,v,ld,w,ks,ae,B,rfl,sm,ht,hld,hd,k⟩:=h
  have jE:(_:Around).units+1<cLine:=Nat.lt_of_le_of_lt (Nat.add_le_add_left (by decide) _) hr.units;refine'⟨?tt,?body,?fin⟩
  case body=>
   refine' ku ?s1 (jV ?s2)
   case s1=>
    refine' tL ?c (jV ?e1) pss_nil
    case c=>exact(x6 (ur Dy (ng ix_tup (pv 0) iC (fun _ _=>rfl)) Em (yu _)) (El (Ej (zL (O5 jE (pv 1) (ng ix_tup (pv 0) iC (fun _ _=>rfl)) ⟨rfl,rfl,rfl,rfl⟩) (fun _=>rfl))))).pt
    case e1=>exact tZ (x4 yw iC)
   case s2=>exact tZ (lA yx (lA yx (pv 2) iC) (ng ix_list (yZ jE (pv 1) (ng ix_tup (pv 0) iC (fun _ _=>rfl)) (fun _ _=>rfl)) (x4 yw iC) (fun _ _=>rfl)))
  case fin=>
   obtain⟨s0,r0,hw,hnm⟩:=LX w;rw[Tree.tv,hw] at ht
   cases ht with
   | @tup a vs _ ha hvs=>
    cases hvs with
    | @cons v1 vr _ _ c1 c2=>
     cases c1;have ha':=sm _ _ ha;refine⟨_,rfl,a,_,_,_,rfl,rfl,SqT.of ha',LY _ _,rfl,_,rfl,aL (fun g=>?_) (fun g=>?_)⟩
     ·have bj:s0≠"name":=fun z=>by
       subst z;exact absurd g (by decide+kernel)
      have e:fX B.reverse w = -1:=by
       cases w with
       |name x=>exfalso;rw[Wd.hd] at hw;injection hw with h1 h2;injection h1 with h1;exact bj h1.symm
       |_=>rfl
      rw[e] at k;exact xC ⟨_,rfl,k⟩
     ·have he:s0="name":=by
       by_cases z:s0="name"
       ·exact z
       ·exfalso;refine g ?_;have:¬V.str s0=V.str "name":=fun q=>z (by injection q);simp [this]
      obtain⟨x,rfl⟩:=hnm he;rw[Wd.hd] at hw;injection hw with h1 h2;subst h2
      cases c2 with
      | @cons v2 vr2 _ _ c3 c4=>
       cases c3
       cases hv:bt ae (.inr x) with
       |none=>
        refine⟨_,rfl,ld,rfl,.inl ⟨ae,.inl hld⟩,_,rfl,a,_,_,_,rfl,rfl,SqT.of ha',qW _ _ _,none,?_,false,rfl,?_⟩
        ·rw[<- hv];exact DGet.k (k:=.inr x) hld
        ·have e:fX B.reverse (.name x) = -1:=Tp fun z=>ixR_no.mp (hd.no x hv) (U8.mp z);rw[e] at k;exact xC ⟨_,rfl,k⟩
       |some u=>
        obtain⟨b,rfl,hb⟩:=hd.at1 x u hv;refine⟨_,rfl,ld,rfl,.inl ⟨ae,.inl hld⟩,_,rfl,a,_,_,_,rfl,rfl,SqT.of ha',qW _ _ _,some (.ref b),?_,!((c0 B x).map V.int).isEmpty,.inl ⟨_,SqL.of hb,rfl⟩,?_⟩
        ·rw[<- hv];exact DGet.k (k:=.inr x) hld
        ·by_cases hx:x∈B
         ·obtain⟨l,z,hl,hz⟩:=Fv hx
          have e:fX B.reverse (.name x)=(B.length:Int)-1-z:=by rw[hz];show(if x∈B.reverse then ((pos x B.reverse.reverse:Nat):Int) else -1)=_;rw[Tt (U8.mpr hx),List.reverse_reverse]
          rw[e] at k;rw[hl,T2] at hb;have bj:(!((c0 B x).map V.int).isEmpty)=true:=by rw[hl];simp
          rw[bj];refine JL ?_;refine⟨_,rfl,_,_,rfl,rfl,_,rfl,_,rfl,a,_,_,_,rfl,rfl,SqT.of ha',qW _ _ _,ld,.ref b,rfl,?_,_,rfl,b,_,_,_,rfl,rfl,SqL.of hb,O8 _ _,_,_,rfl,rfl,k⟩;rw[<- hv];exact DGet.k (k:=.inr x) hld
         ·have e:fX B.reverse (.name x) = -1:=Tp fun z=>hx (U8.mp z);rw[e] at k;rw[ixR_no.mpr hx];exact xC ⟨_,rfl,k⟩
end
structure Lt (H0:Hp)(ra wk:Addr)(H:Hp)(ae:List (aw×V))(m:Mp):Prop where
 d:rM H ae m
 fr:∀x a,bt ae (.inr x)=some (.ref a)->H0 a=none/\a≠ra/\a≠wk
 inj:∀x y a,bt ae (.inr x)=some (.ref a)->bt ae (.inr y)=some (.ref a)->x=y
noncomputable def push (m:Mp)(x:Str)(L:Int):Mp:=fun y=>if y=x then m x ++ [L] else m y
section
variable {H0:Hp}{ra wk:Addr}{m:Mp}
theorem Lt.mono (h:Lt H0 ra wk H ae m)(s:∀a xs,a≠ra->H a=some (.lst xs)->H' a=some (.lst xs)):Lt H0 ra wk H' ae m:=
 ⟨⟨h.d.no,fun x v e=>by
  obtain⟨a,rfl,ha⟩:=h.d.at1 x v e
  exact⟨a,rfl,s _ _ (h.fr x a e).2.1 ha⟩⟩,h.fr,h.inj⟩
theorem Lt.eqm (h:Lt H0 ra wk H ae m){m':Mp}(e:∀x,m x=m' x):Lt H0 ra wk H ae m':=(funext e:m=m')▸h
theorem Lt.set (h:Lt H0 ra wk H ae m){x:Str}{a:Addr}(e:bt ae (.inr x)=some (.ref a))(zs:List Int):Lt H0 ra wk (ax H a (.lst (zs.map V.int))) ae (fun y=>if y=x then zs else m y):=by
 refine⟨⟨fun y q=>?_,fun y v q=>?_⟩,h.fr,h.inj⟩
 ·have:y≠x:=fun z=>by rw[z,e] at q;cases q
  simp only [Tp this];exact h.d.no y q
 ·obtain⟨b,rfl,hb⟩:=h.d.at1 y v q
  refine⟨b,rfl,?_⟩
  by_cases z:y=x
  ·subst z;rw[e] at q;cases q;simp only [Vi];exact bu
  ·have bj:b≠a:=fun w=>z (h.inj y x a (by rw[q,w]) e);simp only [Tp z];rw[az bj];exact hb
theorem Lt.new (h:Lt H0 ra wk H ae m){x:Str}{q:Addr}{L:Int}(e:bt ae (.inr x)=none)(hq:H q=none)(II:H0 q=none)(n1:q≠ra)(n2:q≠wk)
  (hh:H' q=some (.lst [.int L])) (s:∀a xs,a≠q->H a=some (.lst xs)->H' a=some (.lst xs)):Lt H0 ra wk H' (cc ae (.inr x) (.ref q)) (push m x L):=by
 have bF:∀y a,y≠x->bt (cc ae (.inr x) (.ref q)) (.inr y)=some (.ref a)->bt ae (.inr y)=some (.ref a):=fun y a hy z=>by rw[oP,Tp (fun w=>hy (by injection w))] at z;exact z
 have bj:∀y a,bt ae (.inr y)=some (.ref a)->a≠q:=fun y a z w=>by obtain⟨b,e1,e2⟩:=h.d.at1 y _ z;cases e1;rw[w,hq] at e2;cases e2
 refine⟨⟨fun y z=>?_,fun y v z=>?_⟩,fun y a z=>?_,fun y y' a z z'=>?_⟩
 ·rw[oP] at z
  split at z
  ·injection z
  ·next w=>
   have:y≠x:=fun u=>w (by rw[u]);unfold push;rw[Tp this];exact h.d.no y z
 ·rw[oP] at z
  split at z
  ·next w=>
   cases z;have:y=x:=by injection w
   subst this;refine⟨q,rfl,?_⟩;unfold push;rw[Tt rfl,h.d.no y e];exact hh
  ·next w=>
   have hy:y≠x:=fun u=>w (by rw[u]);obtain⟨b,rfl,hb⟩:=h.d.at1 y v z;refine⟨b,rfl,?_⟩;unfold push;rw[Tp hy];exact s _ _ (bj y b z) hb
 ·by_cases hy:y=x
  ·subst hy;rw[oP,Tt rfl] at z;cases z;exact⟨II,n1,n2⟩
  ·exact h.fr y a (bF y a hy z)
 ·by_cases hy:y=x
  ·by_cases mG:y'=x
   ·rw[hy,mG]
   ·exfalso;have:=bF y' a mG z';rw[hy,oP,Tt rfl] at z;cases z;exact bj y' q this rfl
  ·by_cases mG:y'=x
   ·exfalso;have:=bF y a hy z;rw[mG,oP,Tt rfl] at z';cases z';exact bj y q this rfl
   ·exact h.inj y y' a (bF y a hy z) (bF y' a mG z')
end
theorem Fu (B:List Str)(x:Str)(y:Str):push (c0 B) x B.length y=c0 (x::B) y:=by
 unfold push;rw[c0]
 split
 ·next h=>rw[h]
 ·rfl
noncomputable def GT (G H:Hp):Hp:=fun a=>match H a with
 |some (.tup vs)=>some (.tup vs)
 |_=>G a
theorem GT.tup {G H:Hp}{a:Addr}{vs:List V}(h:H a=some (.tup vs)):GT G H a=some (.tup vs):=by unfold GT;rw[h]
theorem GT.of (s:Same G H):Same G (GT G H):=fun a o e=>by
 unfold GT;rw[s _ _ e]
 split
 ·next h=>exact h.symm
 ·exact e
theorem GT.sub (s:Same G H):Same (GT G H) H:=fun a o e=>by
 unfold GT at e
 split at e
 ·next h=>rw[h];exact e
 ·exact s _ _ e
theorem GT.mono (s:Same G H')(t:∀a vs,H a=some (.tup vs)->H' a=some (.tup vs)):Same (GT G H) (GT G H'):=fun a o e=>by
 unfold GT at e
 split at e
 ·next vs h=>cases e;exact GT.tup (t _ _ h)
 ·exact GT.of s _ _ e
structure Ow (K:W.Frag)(G H1:Hp)(ra wk ld:Addr)(i:Nat)(B:List Str)(dn:List (E×Int))(H:Hp)(f9:List V)(ae:List (aw×V)):Prop where
 kp:∀a o,H1 a=some o->a≠ra->a≠ld->H a=some o
 rows:H ra=some (.lst f9)
 len:f9.length<=i
 rth:IsTs K (GT G H) f9 (dn.map pJ)
 dict:H ld=some (.dK ae)
 few:ae.length<=i
 lt:Lt H1 ra wk H ae (c0 B)
 lens:B.length<=i
theorem Rk (i:Int):kL (.int i)=true:=rfl
section
theorem scOwned:bo ["e","rows","lets","level","deed","node"] ["e"] (ej DM):=⟨rfl,rfl,rfl,by decide+kernel,rfl,by decide+kernel,by decide+kernel⟩
theorem NU {k:Nat}{f fO:Addr}{dO:FuncData}(F:Fun K "owned" "owned" DM f fd)(hS:Fk P w K mg base k ("steps",dj))(O:Fun K "own_number" "own_number" Am fO dO)(bO:Binds K dO ["node","lets","level"] [])(mO:mg "own_number"=some (.ref fO))
  (hN:∃tk,mg "NODE"=some (.str "node" tk)) (hO:∃tk,mg "OPENED"=some (.str "opened" tk)) (IQ:1<=k):FnOk P w K mg base f6 (k+1) f fd ["e"] (iH K dk):=by
 obtain⟨j,fS,dS,pS,GS,hj,mS,kS,bS⟩:=hS;have GO:FnOk P w K mg base f6 1 fO dO ["node","lets","level"] (Ez K):=NV O;obtain⟨tn,hNode⟩:=hN;obtain⟨to,hOpen⟩:=hO;refine F.ok scOwned (fun vs H Q E0 h=>?_) (fun cj A outer s H vs Q E0 hr h=>?_)
 ·obtain⟨G,args,as,K0,_,ha,_,⟨R,N,e,rfl,_⟩,_⟩:=h
  cases ha with
  |fz _ r=>cases r;rfl
 ·obtain⟨G,args,as,K0,sm,ha,kU,⟨R,N,e,rfl,hN20,hex,g9,hK0⟩,hq⟩:=h
  cases ha with
  | @fz _ _ v _ _ ht r=>
  cases r;have hsz:=TY;have hr1:Room 1 _:=hr.mono IQ;have hr2:Room j _:=hr.mono hj;have jE:(_:Around).units+1<cLine:=Nat.lt_of_le_of_lt (Nat.add_le_add_left (by decide) _) hr1.units;refine'⟨?tt,?body,?fin⟩
  case body=>
   refine' ku ?s1 ?r1
   case s1=>exact qU (i:=1) scOwned.nd rfl (Or.inl rfl) (yr pa_nil)
   case r1=>
    refine' ku ?s2 ?r2
    case s2=>exact qU (i:=2) scOwned.nd rfl (Or.inl rfl) pe_dnewK
    case r2=>
     refine' ku ?s3 ?r3
     case s3=>exact qU (i:=3) scOwned.nd rfl (Or.inl rfl) iC
     case r3=>
      refine' ku ?s4 (jV ?s5)
      case s4=>
       refine' Ec PassesOwn.never rfl (NK (y4 GS hr2 (by rfl) mS kS bS .nil xY (ou (pv 0) pa_nil))) (Eg rfl (zM (y6 (i:=4) scOwned.nd rfl (Or.inl rfl)) (zM (y6 (i:=5) scOwned.nd rfl (Or.inl rfl)) pgs_nil))) (jV ?b)
       case b=>
        refine' tL ?c (jV ?e1) (jV ?e2)
        case c=>exact ur x3 (pv 4) (y8 (v:=.str "node") (by rfl) hNode ⟨tn,rfl⟩) (yu _)
        case e1=>
         refine' uu ?m
         case m=>
          refine' qJ Ur PySem.F.slot_list_append PySem.F.type_list_append Al (pv 1) ?a
          case a=>
           refine' JK (Ea ?z) pa_nil
           case z=>exact ou (pv 5) (JJ (y4 GO hr1 (by rfl) mO O.kp bO .nil xY (ou (pv 5) (ou (pv 2) (ou (pv 3) pa_nil)))) pa_nil)
        case e2=>
         refine' tL ?c2 (ku ?e3 (jV ?e4)) (ku ?e5 (jV ?e6))
         case c2=>exact ur x3 (pv 4) (y8 (v:=.str "opened") (by rfl) hOpen ⟨to,rfl⟩) (yu _)
         case e3=>
          refine' uu ?m3
          case m3=>
           refine' qJ Ur PySem.F.slot_list_append PySem.F.type_list_append Al ?o3 ?a3
           case o3=>exact OW (pv 2) (ng ix_tup (pv 5) iC (fun _ _=>rfl)) (yr pa_nil) ⟨rfl,rfl,rfl,rfl⟩
           case a3=>exact ou (pv 3) pa_nil
         case e4=>exact Ee (i:=3) scOwned.nd rfl (Or.inl rfl) iC Lw
         case e5=>
          refine' uu ?m5
          case m5=>
           refine' D7 Ur PySem.F.slot_list_pop PySem.F.type_list_pop D6 ?o5
           case o5=>exact yZ jE (pv 2) (ng ix_tup (pv 5) iC (fun _ _=>rfl)) (fun _ _=>rfl)
         case e6=>exact Ee (i:=3) scOwned.nd rfl (Or.inl rfl) iC Lv
      case s5=>exact tZ (pv 1)
  case fin=>
   refine⟨T3 _,fun ra nP=>?_⟩;intro ld hld;have z1:=oO (o:=.lst []) nP;have z2:=oO (o:=.dK []) hld;have za:=z1.trans z2;have j6:H ld=none:=Gw z1 hld;have BC:ra≠ld:=fun z=>by rw[<- z,bu] at hld;cases hld
   refine⟨_,rfl,G,[.fz (E.tv e)],[],fun r ss=>r = .own (.lst ((stp e).map dT)),sm.trans za,.fz ht .nil,.nil,⟨R,N,e,rfl,hex,g9,rfl⟩,fun r ss v' G' H1 IF post aps HV=>?_⟩;subst IF;obtain⟨wk,rfl,hwk,⟨ws,L1,hws⟩,hwg⟩:=HV;have s1:Same _ H1:=fun a o e=>post.k a o e (by simp);have R1:H1 ra=some (.lst []):=s1 _ _ (z2 _ _ bu);have D1:H1 ld=some (.dK []):=s1 _ _ bu;have By:wk≠ra:=fun z=>by rw[z,z2 _ _ bu] at hwk;cases hwk
   have Bz:wk≠ld:=fun z=>by rw[z,bu] at hwk;cases hwk
   have BL:G' ra=none:=by
    cases eg:G' ra with
    |none=>rfl
    |some o=>
     exfalso;rcases post.d ra o eg with h|h|h|h
     ·rw[sm _ _ h] at nP;injection nP
     ·rw[z2 _ _ bu] at h;injection h
     ·cases h
     ·have:=post.s _ _ eg;rw[R1] at this;cases this;exact h
   have vO:G' ld=none:=by
    cases eg:G' ld with
    |none=>rfl
    |some o=>
     exfalso;rcases post.d ld o eg with h|h|h|h
     ·rw[sm _ _ h] at j6;injection j6
     ·rw[bu] at h;injection h
     ·cases h
     ·have:=post.s _ _ eg;rw[D1] at this;cases this;exact h
   have hwl:=IsTs.len hws;rw[Ta] at hwl;have hls:=yA e;have eB:∀{H2:Hp},(∀a o,H1 a=some o->a≠ra->a≠ld->H2 a=some o)->Same G' H2:=fun kp a o e=>kp a o (post.s _ _ e) (fun z=>by rw[z,BL] at e;injection e) (fun z=>by rw[z,vO] at e;injection e)
   refine⟨wk,rfl,⟨_,SqL.of L1⟩,Pd (K:=K) (a:=wk) (xs:=ws) (fun i σ H'=>∃(B:List Str) (dn rr:List (E×Int)) (f9:List V) (ae:List (aw×V)) (o4 o5:Option V),σ = [some v,some (.ref ra),some (.ref ld),some (.int B.length),o4,o5]/\ig B ((stp e).drop i) rr/\dn++rr=fL [] e/\Ow K G' H1 ra wk ld i B dn H' f9 ae)
    ⟨[],[],fL [] e,[],[],none,none,rfl,Kn hex,rfl,⟨fun a o e _ _=>e,R1,Tf _,.nil,D1,Tf _,⟨⟨fun x _=>rfl,fun x v e=>(by injection e)⟩,fun x a e=>(by injection e),fun x y a e=>(by injection e)⟩,T3 _⟩⟩ (fun i σ H' _ ⟨_,_,_,_,_,_,_,_,_,_,S⟩=>SqL.of (S.kp _ _ L1 By Bz)) ?_ ?_⟩
   ·rintro i x σ H2 hx ⟨B,dn,rr,f9,ae,o4,o5,rfl,hrun,hdn,S⟩
    have sG:Same G' H2:=eB S.kp;have SV:i<ws.length:=(Tn.mp hx).1;have sE:i<(stp e).length:=by lia
    have hi:i<900000:=by lia
    have hl1:=S.len;have hf1:=S.few;have hB1:=S.lens;have hdi:=drop_eq_getElem_cons sE;rw[hdi] at hrun;have nN:IsT K G' x (dT (stp e)[i]):=by obtain⟨x',e1,e2⟩:=IsTs.get (i:=i) hws (t:=dT (stp e)[i]) (by rw[Ui,Td sE];rfl);rw[hx] at e1;cases e1;exact e2
    generalize (stp e)[i]=p at hrun nN;generalize hrest:(stp e).drop (i+1)=aj at hrun;have rZ:∀{H3:Hp},Same G' H3->(∀c vs,H2 c=some (.tup vs)->H3 c=some (.tup vs))->IsTs K (GT G' H3) f9 (dn.map pJ):=fun s t=>S.rth.mono (GT.mono s t)
    cases hrun with
    | @node _ _ r w ks hrun=>
     cases nN with
     | @tup a vs2 _ ha hvs2=>
     cases hvs2 with
     | @cons v1 vr _ _ c1 c2=>
     cases c2 with
     | @cons v2 vr2 _ _ c3 c4=>
     cases c4;cases c1;refine⟨a,[.str "node",v2],rfl,SqT.of (sG _ _ ha),rfl,_,_,rfl,_,_,rfl,rfl,?_⟩;refine⟨_,rfl,rfl,_,rfl,aL (fun g=>?_) (fun g=>absurd (by decide+kernel) g)⟩;refine⟨_,rfl,.inl ⟨rfl,_,SqL.of S.rows⟩,_,rfl,?_⟩;refine⟨_,rfl,_,rfl,_,rfl,G',v2,ld,w,ks,ae,B,rfl,sG,c3,S.dict,S.lt.d,?_⟩;refine⟨(by show 2<=sizeLine;decide),fun q hq=>?_⟩;have s3:=oO (o:=.tup [v2,.int (fX B.reverse w)]) hq;have sA:ra≠q:=cb S.rows hq;have R3:=s3 _ _ S.rows;refine⟨ra,f9,_,rfl,rfl,R3,(by lia),B,dn ++ [(.nd w ks,fX B.reverse w)],r,f9 ++ [.ref q],ae,_,_,rfl,hrest▸hrun,by rw[<- hdn];simp,?_⟩;have i5:∀a o,H1 a=some o->a≠ra->a≠ld->ax (ax H2 q (.tup [v2,.int (fX B.reverse w)])) ra (.lst (f9 ++ [.ref q])) a=some o:=fun a o e1 e2 e3=>by rw[az e2];exact s3 _ _ (S.kp a o e1 e2 e3)
     have q3:ax (ax H2 q (.tup [v2,.int (fX B.reverse w)])) ra (.lst (f9 ++ [.ref q])) q=some (.tup [v2,.int (fX B.reverse w)]):=by rw[az sA.symm];exact bu
     have sG3:=eB i5;refine⟨i5,bu,by rw[Tg];simp;lia,?_,?_,by lia,?_,by lia⟩
     ·rw[T2];refine IsTs.app (rZ sG3 fun c vs e=>?_) (.cons (.tup (GT.tup q3) (.cons (c3.mono (GT.of sG3)) (.cons (.at (Rk _)) .nil))) .nil);rw[az (fun z=>by rw[z,S.rows] at e;cases e)];exact s3 _ _ e
     ·rw[az BC.symm];exact s3 _ _ S.dict
     ·refine S.lt.mono fun b xs hb e=>?_;rw[az hb];exact s3 _ _ e
    | @opened _ x _ r ks hrun=>
     cases nN with
     | @tup a vs2 _ ha hvs2=>
     cases hvs2 with
     | @cons v1 vr _ _ c1 c2=>
     cases c2 with
     | @cons v2 vr2 _ _ c3 c4=>
     cases c4;cases c1
     cases c3 with
     | @tup an vns _ han hvns=>
     cases hvns with
     | @cons vh vr' _ _ d1 d2=>
     cases d2 with
     | @cons vh2 vr2 _ _ d3 d4=>
     cases d1;cases d3;have han2:=sG _ _ han;refine⟨a,[.str "opened",.ref an],rfl,SqT.of (sG _ _ ha),rfl,_,_,rfl,_,_,rfl,rfl,?_⟩;refine⟨_,rfl,rfl,_,rfl,aL (fun g=>absurd g (by decide+kernel)) (fun g=>?_)⟩;refine⟨_,rfl,rfl,_,rfl,aL (fun g2=>?_) (fun g2=>absurd (by decide+kernel) g2)⟩;refine⟨_,rfl,ld,rfl,.inl ⟨ae,.inl S.dict⟩,_,rfl,an,_,_,_,rfl,rfl,SqT.of han2,qW _ _ _,T3 _,fun q hq=>?_⟩;have s3:=oO (o:=.lst []) hq;refine⟨ae,.inr x,s3 _ _ S.dict,rfl,(by lia),fun v' hv=>?_,fun hv=>?_⟩
     ·obtain⟨b,rfl,hb⟩:=S.lt.d.at1 x v' hv
      have hb3:=s3 _ _ hb;have hf:=S.lt.fr x b hv;have hlen:=EA x B;refine⟨.inl ⟨rfl,_,SqL.of hb3⟩,_,rfl,b,_,_,rfl,rfl,hb3,(by rw[Ta];lia),?_⟩;refine⟨_,rfl,_,_,rfl,rfl,x::B,dn,rr,f9,ae,_,_,rfl,hrest▸hrun,hdn,?_⟩;have i5:∀a o,H1 a=some o->a≠ra->a≠ld->ax (ax H2 q (.lst [])) b (.lst ((c0 B x).map V.int ++ [.int B.length])) a=some o:=fun a o e1 e2 e3=>by rw[az (cb e1 hf.1)];exact s3 _ _ (S.kp a o e1 e2 e3)
      refine⟨i5,?_,by lia,rZ (eB i5) (fun c vs e=>?_),?_,by lia,?_,by simp;lia⟩
      ·rw[az hf.2.1.symm];exact s3 _ _ S.rows
      ·rw[az (fun z=>by rw[z,hb] at e;cases e)];exact s3 _ _ e
      ·rw[az (tM (s3 _ _ S.dict) hb3 (by intro q;injection q))];exact s3 _ _ S.dict
      ·have l3:Lt H1 ra wk (ax H2 q (.lst [])) ae (c0 B):=S.lt.mono fun c xs _ e=>s3 _ _ e;have:=l3.set hv (c0 B x ++ [(B.length:Int)]);rw[T2] at this;exact this.eqm fun y=>Fu B x y
     ·have sC:H1 q=none:=by
       cases e1:H1 q with
       |none=>rfl
       |some o=>
        exfalso
        by_cases z1:q=ra
        ·rw[z1,S.rows] at hq;injection hq
        by_cases z2:q=ld
        ·rw[z2,S.dict] at hq;injection hq
        rw[S.kp _ _ e1 z1 z2] at hq;injection hq
      have sA:q≠ra:=(cb S.rows hq).symm;have IG:q≠wk:=(cb (S.kp _ _ L1 By Bz) hq).symm;have BD:q≠ld:=(cb S.dict hq).symm;have q3:ax (ax H2 q (.lst [])) ld (.dK (cc ae (.inr x) (.ref q))) q=some (.lst []):=by rw[az BD];exact bu
      refine⟨.inl ⟨rfl,_,SqL.of q3⟩,_,rfl,q,_,_,rfl,rfl,q3,(by show 0<sizeLine;lia),?_⟩;refine⟨_,rfl,_,_,rfl,rfl,x::B,dn,rr,f9,cc ae (.inr x) (.ref q),_,_,rfl,hrest▸hrun,hdn,?_⟩;have hpk:=oV ae (Sum.inr x:aw) (.ref q);have i5:∀a o,H1 a=some o->a≠ra->a≠ld->ax (ax (ax H2 q (.lst [])) ld (.dK (cc ae (.inr x) (.ref q)))) q (.lst ([] ++ [.int B.length])) a=some o:=fun a o e1 e2 e3=>by rw[az (cb e1 sC),az e3];exact s3 _ _ (S.kp a o e1 e2 e3)
      refine⟨i5,?_,by lia,rZ (eB i5) (fun c vs e=>?_),?_,by lia,?_,by simp;lia⟩
      ·rw[az sA.symm,az BC];exact s3 _ _ S.rows
      ·rw[az (cb e hq),az (fun z=>by rw[z,S.dict] at e;cases e)];exact s3 _ _ e
      ·rw[az BD.symm];exact bu
      ·refine Lt.eqm (S.lt.new hv hq sC sA IG bu fun c xs hc e=>?_) (fun y=>Fu B x y);rw[az hc,az (tM e S.dict (by intro q;injection q))];exact s3 _ _ e
    | @closed B x _ r ks hrun=>
     cases nN with
     | @tup a vs2 _ ha hvs2=>
     cases hvs2 with
     | @cons v1 vr _ _ c1 c2=>
     cases c2 with
     | @cons v2 vr2 _ _ c3 c4=>
     cases c4;cases c1
     cases c3 with
     | @tup an vns _ han hvns=>
     cases hvns with
     | @cons vh vr' _ _ d1 d2=>
     cases d2 with
     | @cons vh2 vr2 _ _ d3 d4=>
     cases d1;cases d3;have han2:=sG _ _ han;refine⟨a,[.str "closed",.ref an],rfl,SqT.of (sG _ _ ha),rfl,_,_,rfl,_,_,rfl,rfl,?_⟩;refine⟨_,rfl,rfl,_,rfl,aL (fun g=>absurd g (by decide+kernel)) (fun g=>?_)⟩;refine⟨_,rfl,rfl,_,rfl,aL (fun g2=>absurd g2 (by decide+kernel)) (fun g2=>?_)⟩;have i9:c0 (x::B) x=c0 B x ++ [(B.length:Int)]:=Tt rfl
     cases hv:bt ae (.inr x) with
     |none=>have:=S.lt.d.no x hv;rw[i9] at this;simp at this
     |some v'=>
      obtain⟨b,rfl,hb⟩:=S.lt.d.at1 x v' hv;have hf:=S.lt.fr x b hv;rw[i9,T2] at hb;refine⟨_,rfl,_,rfl,an,_,_,_,rfl,rfl,SqT.of han2,qW _ _ _,ld,.ref b,rfl,?_,.inl ⟨rfl,_,SqL.of hb⟩,b,_,.int B.length,rfl,rfl,hb,?_,?_⟩
      ·rw[<- hv];exact DGet.k (k:=.inr x) S.dict
      ·simp
      have mV:((x::B).length:Int)-1=B.length:=by simp
      refine⟨_,rfl,_,_,rfl,rfl,B,dn,rr,f9,ae,some (.str "closed"),some (.ref an),by
       show[some v,some (V.ref ra),some (V.ref ld),some (V.int (((x::B).length:Int)-1)),some (V.str "closed"),some (V.ref an)]=_
       rw[mV],hrest▸hrun,hdn,?_⟩
      have qg:((c0 B x).map V.int ++ [(B.length:Int)].map V.int).dropLast=(c0 B x).map V.int:=by simp
      rw[qg];have i5:∀a o,H1 a=some o->a≠ra->a≠ld->ax H2 b (.lst ((c0 B x).map V.int)) a=some o:=fun a o e1 e2 e3=>by rw[az (cb e1 hf.1)];exact S.kp a o e1 e2 e3
      refine⟨i5,?_,by lia,rZ (eB i5) (fun c vs e=>?_),?_,by lia,?_,by simp at hB1;lia⟩
      ·rw[az hf.2.1.symm];exact S.rows
      ·rw[az (fun z=>by rw[z,hb] at e;cases e)];exact e
      ·rw[az (tM S.dict hb (by intro q;injection q))];exact S.dict
      ·exact(S.lt.set hv (c0 B x)).eqm fun y=>by
        show(if y=x then c0 B x else (if y=x then _ else _))=_
        by_cases z:y=x
        ·rw[Tt z,z]
        ·rw[Tp z,Tp z]
   ·rintro σ H2 ⟨B,dn,rr,f9,ae,o4,o5,rfl,hrun,hdn,S⟩
    have sG:Same G' H2:=eB S.kp;rw[hwl,List.drop_length] at hrun;cases hrun;rw[TJ] at hdn;subst hdn;refine⟨_,rfl,hq _ _ (.ref ra) (GT G' H2) H2 hK0 ⟨post.g.trans (GT.of sG),GT.sub sG,fun a o e _=>?_,fun a o e=>?_,fun a o e=>⟨o,?_⟩⟩ (.fz .nil) ⟨ra,rfl,nP,⟨f9,S.rows,S.rth⟩,?_⟩⟩
    ·exact S.kp a o (s1 _ _ (za _ _ e)) (cb e nP) (cb e j6)
    ·unfold GT at e
     split at e
     ·cases e;exact .inr (.inr (.inr trivial))
     ·rcases post.d a o e with h|h|h|h
      ·exact .inl h
      ·exact .inr (.inl (Gw za h))
      ·cases h
      ·exact .inr (.inr (.inr h))
    ·exact S.kp a o (s1 _ _ (za _ _ e)) (cb e nP) (cb e j6)
    ·unfold GT;rw[S.rows];exact BL
end
end M50
namespace L2
open PySem PySem.Spec PyProof.Rows
noncomputable def n9 (c:Nat):Bool:=decide (32<c)&&decide (c<127)&&decide (c≠39)&&decide (c≠92)
def nJ (x:Str):Bool:=x.cps.toList.all n9
variable {x:Str}{t:Tv}{m:Nat}
theorem ua {c:Nat}(h:n9 c=true):c≠39/\Builtin.Str.reprChar 39 c = [c]:=by
 unfold n9 at h;simp only [S5,Uv] at h;refine⟨h.1.2,?_⟩;unfold Builtin.Str.reprChar
 have hp:Unicode.isPrintable c=true:=by
  rw[cls_isprintable c (by lia)];have:∀c:Fin 127,32<c.val->inR 32 126 ⟨#[c.val]⟩=true:=by decide+kernel
  exact this ⟨c,by lia⟩ h.1.1.1
 have e1:(c==39||c==92)=false:=by simp [h.1.2,h.2]
 have e2:(c==10)=false:=by simp;lia
 have e3:(c==13)=false:=by simp;lia
 have e4:(c==9)=false:=by simp;lia
 simp only [e1,e2,e3,e4,hp,Vi,Uo,UU]
theorem LV:∀(l:List Nat) (ak:Array Nat),l.all n9=true->(l.foldl (fun out c=>out++(Builtin.Str.reprChar 39 c).toArray) ak).toList=ak.toList++l:=by
 intro l
 induction l with
 |nil=>intro ak _;simp
 |cons c l ih=>intro ak h;rw[all_cons,S5] at h;rw[foldl_cons,(ua h.1).2,ih _ h.2];simp
theorem NS (h:nJ x=true):reprQuote x=39:=by
 unfold reprQuote
 have:x.cps.contains 39=false:=by
  rw[Bool.eq_false_iff];intro q;have hm:39∈x.cps.toList:=by rw[Array.contains_iff_mem] at q;exact Array.mem_def.mp q
  exact(ua (Uq.mp h 39 hm)).1 rfl
 rw[this];rfl
abbrev cd (t:Th):List Nat:=(aR t).shown.cps.toList
theorem lD (h:nJ x=true):cd (.at (.str x))=39::(x.cps.toList ++ [39]):=by show(PyData.shown (.str x)).cps.toList=_;rw[PyData.shown];unfold reprText;rw[NS h,<- Array.foldl_toList];show(Array.push _ 39).toList=_;rw[Array.toList_push,LV _ _ h];rfl
theorem lC (n:Nat):cd (.at (.int (n:Nat)))=(Nat.toDigits 10 n).map Char.toNat:=by show(PyData.shown (.int (n:Nat))).cps.toList=_;rw[PyData.shown,signs_ofString,Int.toString_eq_repr,Int.repr_eq_if];simp only [Int.natCast_nonneg,Vi,Int.toNat_natCast,Nat.toList_repr]
noncomputable def qv (c:Nat):Bool:=decide (48<=c)&&decide (c<=57)
theorem yz (n:Nat):∀c∈(Nat.toDigits 10 n).map Char.toNat,qv c=true:=fun c hc=>by obtain⟨ch,h,rfl⟩:=T5.mp hc;have:=digit_range (Nat.isDigit_of_mem_toDigits (by decide) (by decide) h);unfold qv;rw[S5];exact⟨T8 this.1,T8 this.2⟩
theorem LU {n:Nat}(h:(Nat.toDigits 10 n).map Char.toNat=(Nat.toDigits 10 m).map Char.toNat):n=m:=by
 have e:Nat.toDigits 10 n=Nat.toDigits 10 m:=by refine(List.map_inj_right fun a b q=>?_).mp h;exact Char.ext (UInt32.toNat_inj.mp q)
 have h1:=Nat.ofDigitChars_toDigits (b:=10) (n:=n) (by decide) (by decide);have h2:=Nat.ofDigitChars_toDigits (b:=10) (n:=m) (by decide) (by decide);rw[<- h1,<- h2,e]
noncomputable def eU:List Th->List Nat
 |[]=>[41]
 |t::ts=>44::32::(cd t++eU ts)
theorem LR:∀(t:Th) (ts:List Th),(Str.join ", " (PyData.shownAll (bG (t::ts)))).cps.toList ++ [41]=cd t++eU ts:=by
 intro t ts
 induction ts generalizing t with
 |nil=>rw[bG,bG,PyData.shownAll,PyData.shownAll,join_one,eU]
 |cons u ts ih=>rw[bG,bG,PyData.shownAll,PyData.shownAll,join_cons_cons,Ug,Ug,eU];have:=ih u;rw[bG,PyData.shownAll] at this;rw[TF,this,TF];rfl
theorem lM:cd (.tup []) = [40,41]:=by
 show(PyData.shown (.tuple (bG []))).cps.toList=_;rw[PyData.shown,bG,PyData.shownAll];unfold tupleText
 decide+kernel
theorem lL (t:Th):cd (.tup [t])=40::(cd t ++ [44,41]):=by show(PyData.shown (.tuple (bG [t]))).cps.toList=_;rw[PyData.shown,bG,bG,PyData.shownAll,PyData.shownAll];unfold tupleText;rw[Ug,Ug,join_one];rfl
theorem jS (t u:Th)(ts:List Th):cd (.tup (t::u::ts))=40::(cd t++eU (u::ts)):=by show(PyData.shown (.tuple (bG (t::u::ts)))).cps.toList=_;rw[PyData.shown,<- LR];unfold tupleText;rw[Ug,Ug];rfl
mutual
noncomputable def okS:Th->Bool
 | .at (.str x)=>nJ x
 | .at (.int i)=>decide (0<=i)
 | .at _=>false
 | .tup ts=>cK ts
 | .lst _=>false
noncomputable def cK:List Th->Bool
 |[]=>true
 |t::ts=>okS t&&cK ts
end
def Bh (r:List Nat):Prop:=∀c,r.head? = some c->c=44∨c=41∨c=93
inductive uV:Th->Prop where
 |s (x:Str):nJ x=true->uV (.at (.str x))
 |i (n:Nat):uV (.at (.int (n:Nat)))
 |t (ts:List Th):cK ts=true->uV (.tup ts)
theorem okS.kd:∀{t:Th},okS t=true->uV t
 | .at (.str x),h=>.s x h
 | .at (.int i),h=>by have h0:0<=i:=Ub h;obtain⟨n,rfl⟩:=UC h0;exact .i n
 | .tup ts,h=>.t ts h
theorem DL {p:Nat->Bool}:∀{a b r r':List Nat},(∀c∈a,p c=true)->(∀c∈b,p c=true)->(∀c,r.head? = some c->p c=false)->(∀c,r'.head? = some c->p c=false)->a++r=b++r'->a=b/\r=r':=by
 intro a
 induction a with
 |nil=>
  intro b r r' _ hb hr _ e
  cases b with
  |nil=>exact⟨rfl,e⟩
  |cons y b=>rw[Ua,TC] at e;have:=hr y (by rw[e];rfl);rw[hb y (Te ..)] at this;injection this
 |cons x a ih=>
  intro b r r' ha hb hr iy e
  cases b with
  |nil=>rw[Ua,TC] at e;have:=iy x (by rw[<- e];rfl);rw[ha x (Te ..)] at this;injection this
  |cons y b=>rw[TC,TC] at e;injection e with e1 e2;obtain⟨h1,h2⟩:=ih (fun c hc=>ha c (Tb _ hc)) (fun c hc=>hb c (Tb _ hc)) hr iy e2;exact⟨by rw[e1,h1],h2⟩
theorem nv (n:Nat):∃c l,(Nat.toDigits 10 n).map Char.toNat=c::l/\qv c=true:=by
 cases e:(Nat.toDigits 10 n).map Char.toNat with
 |nil=>exact absurd (List.map_eq_nil_iff.mp e) Nat.toDigits_ne_nil
 |cons c l=>exact⟨c,l,rfl,yz n c (by rw[e];exact Te ..)⟩
theorem t9 {t:Th}(h:okS t=true):∃c l,cd t=c::l/\c≠41/\c≠32:=by
 cases okS.kd h with
 |s x hx=>exact⟨39,_,lD hx,by decide,by decide⟩
 |i n=>obtain⟨c,l,e,hc⟩:=nv n;refine⟨c,l,by rw[lC,e],?_,?_⟩ <;> (rintro rfl;injection hc)
 |t ts hts=>
  match ts with
  |[]=>exact⟨40,_,lM,by decide,by decide⟩
  |[t]=>exact⟨40,_,lL t,by decide,by decide⟩
  |t::u::ts=>exact⟨40,_,jS t u ts,by decide,by decide⟩
theorem oy (ts:List Th)(r:List Nat):Bh (eU ts++r):=by
 intro c h
 cases ts with
 |nil=>rw[eU] at h;exact .inr (.inl (Tw h).symm)
 |cons t ts=>rw[eU] at h;exact .inl (Tw h).symm
theorem sP (r:List Nat):Bh (44::41::r):=fun c h=>.inl (Tw h).symm
theorem DK {r:List Nat}(h:Bh r):∀c,r.head? = some c->qv c=false:=fun c hc=>by rcases h c hc with rfl|rfl|rfl <;> rfl
mutual
theorem nh:∀(t u:Th),okS t=true->okS u=true->∀r r':List Nat,Bh r->Bh r'->cd t++r=cd u++r'->t=u/\r=r'
 | .at (.str x),u,ht,hu,r,r',hr,iy,e=>by
  have ht:nJ x=true:=ht;rw[lD ht] at e
  cases okS.kd hu with
  |s y hy=>rw[lD hy] at e;rw[TC,TC,TF,TF] at e;injection e with _ e;obtain⟨h1,h2⟩:=DL (p:=fun c=>decide (c≠39)) (fun c hc=>T8 (ua (Uq.mp ht c hc)).1) (fun c hc=>T8 (ua (Uq.mp hy c hc)).1) (fun c hc=>by rw[<- Tw hc];decide) (fun c hc=>by rw[<- Tw hc];decide) e;injection h2 with _ h2;refine⟨?_,h2⟩;obtain⟨⟨x⟩⟩:=x;obtain⟨⟨y⟩⟩:=y;have h1:x=y:=h1;rw[h1]
  |i n=>obtain⟨c,l,e2,hc⟩:=nv n;rw[lC,e2] at e;injection e with e _;rw[<- e] at hc;injection hc
  |t us hus=>
   match us with
   |[]=>rw[lM] at e;injection e with e _;cases e
   |[u]=>rw[lL] at e;injection e with e _;cases e
   |u::u'::us=>rw[jS] at e;injection e with e _;cases e
 | .at (.int i),u,ht,hu,r,r',hr,iy,e=>by
  have h0:0<=i:=Ub ht;obtain⟨n,rfl⟩:=UC h0;have hr1:=DK hr;obtain⟨c,l,e2,hc⟩:=nv n;rw[lC] at e
  cases okS.kd hu with
  |s y hy=>rw[lD hy,e2] at e;injection e with e _;rw[e] at hc;injection hc
  |i m=>rw[lC] at e;obtain⟨h1,h2⟩:=DL (p:=qv) (yz n) (yz m) hr1 (DK iy) e;rw[LU h1];exact⟨rfl,h2⟩
  |t us hus=>
   rw[e2] at e
   match us with
   |[]=>rw[lM] at e;injection e with e _;rw[e] at hc;injection hc
   |[u]=>rw[lL] at e;injection e with e _;rw[e] at hc;injection hc
   |u::u'::us=>rw[jS] at e;injection e with e _;rw[e] at hc;injection hc
 | .at (.bl _),_,ht,_,_,_,_,_,_=>by injection ht
 | .at .non,_,ht,_,_,_,_,_,_=>by injection ht
 | .at (.ref _),_,ht,_,_,_,_,_,_=>by injection ht
 | .at (.ty _),_,ht,_,_,_,_,_,_=>by injection ht
 | .lst _,_,ht,_,_,_,_,_,_=>by injection ht
 | .tup [],u,ht,hu,r,r',hr,iy,e=>by
  rw[lM] at e
  cases okS.kd hu with
  |s y hy=>rw[lD hy] at e;injection e with e _;cases e
  |i m=>obtain⟨c,l,e2,hc⟩:=nv m;rw[lC,e2] at e;injection e with e _;rw[<- e] at hc;injection hc
  |t us hus=>
   match us,hus with
   |[],_=>rw[lM] at e;exact⟨rfl,by injection e with _ e;injection e⟩
   |[u],hus=>rw[cK,S5] at hus;obtain⟨c,l,e2,h1,_⟩:=t9 hus.1;rw[lL,e2] at e;injection e with _ e;injection e with e _;exact absurd e.symm h1
   |u::u'::us,hus=>rw[cK,S5] at hus;obtain⟨c,l,e2,h1,_⟩:=t9 hus.1;rw[jS,e2] at e;injection e with _ e;injection e with e _;exact absurd e.symm h1
 | .tup [t],u,ht,hu,r,r',hr,iy,e=>by
  have ht:cK [t]=true:=ht;rw[cK,S5] at ht;rw[lL] at e
  cases okS.kd hu with
  |s y hy=>rw[lD hy] at e;injection e with e _;cases e
  |i m=>obtain⟨c,l,e2,hc⟩:=nv m;rw[lC,e2] at e;injection e with e _;rw[<- e] at hc;injection hc
  |t us hus=>
   match us,hus with
   |[],_=>obtain⟨c,l,e2,h1,_⟩:=t9 ht.1;rw[lM,e2] at e;injection e with _ e;injection e with e _;exact absurd e h1
   |[u],hus=>rw[cK,S5] at hus;rw[lL,TC,TC,TF,TF] at e;injection e with _ e;obtain⟨h1,h2⟩:=nh t u ht.1 hus.1 _ _ (sP r) (sP r') e;rw[h1];exact⟨rfl,by injection h2 with _ h2;injection h2⟩
   |u::u'::us,hus=>rw[cK,S5] at hus;rw[jS,TC,TC,TF,TF] at e;injection e with _ e;obtain⟨h1,h2⟩:=nh t u ht.1 hus.1 _ _ (sP r) (oy _ _) e;rw[eU] at h2;injection h2 with _ h2;injection h2 with h2 _;cases h2
 | .tup (t::t'::ts),u,ht,hu,r,r',hr,iy,e=>by
  have ht:cK (t::t'::ts)=true:=ht;rw[cK,S5] at ht;rw[jS] at e
  cases okS.kd hu with
  |s y hy=>rw[lD hy] at e;injection e with e _;cases e
  |i m=>obtain⟨c,l,e2,hc⟩:=nv m;rw[lC,e2] at e;injection e with e _;rw[<- e] at hc;injection hc
  |t us hus=>
   match us,hus with
   |[],_=>obtain⟨c,l,e2,h1,_⟩:=t9 ht.1;rw[lM,e2] at e;injection e with _ e;injection e with e _;exact absurd e h1
   |[u],hus=>rw[cK,S5] at hus;rw[lL,TC,TC,TF,TF] at e;injection e with _ e;obtain⟨h1,h2⟩:=nh t u ht.1 hus.1 _ _ (oy _ _) (sP r') e;rw[eU] at h2;injection h2 with _ h2;injection h2 with h2 _;cases h2
   |u::u'::us,hus=>rw[cK,S5] at hus;rw[jS,TC,TC,TF,TF] at e;injection e with _ e;obtain⟨h1,h2⟩:=nh t u ht.1 hus.1 _ _ (oy _ _) (oy _ _) e;obtain⟨h3,h4⟩:=x8 (t'::ts) (u'::us) ht.2 hus.2 _ _ h2;rw[h1,h3];exact⟨rfl,h4⟩
theorem x8:∀(ts us:List Th),cK ts=true->cK us=true->∀r r':List Nat,eU ts++r=eU us++r'->ts=us/\r=r'
 |[],[],_,_,r,r',e=>⟨rfl,by rw[eU] at e;injection e⟩
 |[],_::_,_,_,r,r',e=>by rw[eU,eU] at e;injection e with e _;cases e
 |_::_,[],_,_,r,r',e=>by rw[eU,eU] at e;injection e with e _;cases e
 |t::ts,u::us,ht,hu,r,r',e=>by rw[cK,S5] at ht hu;rw[eU,eU,TC,TC,TC,TC,TF,TF] at e;injection e with _ e;injection e with _ e;obtain⟨h1,h2⟩:=nh t u ht.1 hu.1 _ _ (oy _ _) (oy _ _) e;obtain⟨h3,h4⟩:=x8 ts us ht.2 hu.2 _ _ h2;exact⟨by rw[h1,h3],h4⟩
end
def gg:V->Bool
 | .str x=>decide (x.length<=16)&&nJ x
 | .int i=>decide (0<=i)&&decide (i<10 ^ 12)
 |_=>false
mutual
noncomputable def gvT:Tv->Bool
 | .at v=>gg v
 | .tup l=>gvTs l
 |_=>false
noncomputable def gvTs:List Tv->Bool
 |[]=>true
 |t::l=>gvT t&&gvTs l
end
mutual
noncomputable def bX:Tv->Th
 | .at v=>.at v
 | .tup l=>.tup (cz l)
 | .lst l=>.lst (cz l)
 |_=>.at .non
noncomputable def cz:List Tv->List Th
 |[]=>[]
 |t::l=>bX t::cz l
end
mutual
noncomputable def iF:Tv->Nat
 | .tup l=>1+d7 l
 |_=>1
noncomputable def d7:List Tv->Nat
 |[]=>0
 |t::l=>iF t+d7 l
end
mutual
noncomputable def jK:Tv->Nat
 | .tup l=>1+d6 l
 |_=>0
noncomputable def d6:List Tv->Nat
 |[]=>0
 |t::l=>max (jK t) (d6 l)
end
theorem Pl {v:V}(h:gg v=true):yo v=true:=by
 cases v with
 |str x=>unfold gg at h;rw[S5,UJ] at h;exact T8 (by lia)
 |int i=>rfl
 |_=>injection h
mutual
theorem gvT.th:∀{t:Tv},gvT t=true->TvTh t (bX t)
 | .at v,h=>.at (Pl h)
 | .tup l,h=>.tup (gvTs.th (by rw[gvT] at h;exact h))
 | .ktp l,h=>by injection h
 | .lst l,h=>by injection h
 | .scr l,h=>by injection h
 | .dic l,h=>by injection h
theorem gvTs.th:∀{l:List Tv},gvTs l=true->TvThs l (cz l)
 |[],_=>.nil
 |t::l,h=>by rw[gvTs,S5] at h;exact .cons (gvT.th h.1) (gvTs.th h.2)
end
mutual
theorem gvT.oks:∀{t:Tv},gvT t=true->okS (bX t)=true
 | .at v,h=>by
  rw[gvT] at h
  cases v with
  |str x=>unfold gg at h;rw[S5] at h;exact h.2
  |int i=>unfold gg at h;rw[S5] at h;exact h.1
  |_=>injection h
 | .tup l,h=>by rw[bX,okS];exact gvTs.oks (by rw[gvT] at h;exact h)
 | .ktp l,h=>by injection h
 | .lst l,h=>by injection h
 | .scr l,h=>by injection h
 | .dic l,h=>by injection h
theorem gvTs.oks:∀{l:List Tv},gvTs l=true->cK (cz l)=true
 |[],_=>rfl
 |t::l,h=>by rw[gvTs,S5] at h;rw[cz,cK,gvT.oks h.1,gvTs.oks h.2];rfl
end
mutual
theorem Ey:∀{t u:Tv},gvT t=true->gvT u=true->bX t=bX u->t=u
 | .at v,.at w,_,_,e=>by rw[bX,bX] at e;injection e with e;rw[e]
 | .at v,.tup l,_,_,e=>by rw[bX,bX] at e;injection e
 | .tup l,.at v,_,_,e=>by rw[bX,bX] at e;injection e
 | .tup l,.tup m,h,h',e=>by rw[bX,bX] at e;rw[gvT] at h h';injection e with e;rw[zb h h' e]
 | .ktp l,_,h,_,_=>by injection h
 | .lst l,_,h,_,_=>by injection h
 | .scr l,_,h,_,_=>by injection h
 | .dic l,_,h,_,_=>by injection h
 |_,.ktp l,_,h,_=>by injection h
 |_,.lst l,_,h,_=>by injection h
 |_,.scr l,_,h,_=>by injection h
 |_,.dic l,_,h,_=>by injection h
theorem zb:∀{l m:List Tv},gvTs l=true->gvTs m=true->cz l=cz m->l=m
 |[],[],_,_,_=>rfl
 |[],_::_,_,_,e=>by rw[cz,cz] at e;injection e
 |_::_,[],_,_,e=>by rw[cz,cz] at e;injection e
 |t::l,u::m,h,h',e=>by rw[cz,cz] at e;rw[gvTs,S5] at h h';injection e with e1 e2;rw[Ey h.1 h'.1 e1,zb h.2 h'.2 e2]
end
theorem Pk {i:Int}(h:i.natAbs<10 ^ 12):i.natAbs.log2<1920:=by
 by_cases h0:i.natAbs=0
 ·rw[h0];decide
 ·have h1:i.natAbs<2 ^ 40:=TK h (by decide);have:=(Nat.log2_lt h0).mpr h1;lia
mutual
theorem gvT.ok:∀{t:Tv},gvT t=true->(aR (bX t)).showable=true/\(aR (bX t)).leavesShort 13=true/\(aR (bX t)).bulk+1<=17*iF t/\(aR (bX t)).depth<=jK t
 | .at v,h=>by
  rw[gvT] at h;rw[bX]
  cases v with
  |str x=>
   unfold gg at h;rw[S5,UJ] at h;have hx:x.cps.size=x.length:=rfl;refine⟨by simp [aR,jN,PyData.showable],?_,?_,by simp [aR,jN,PyData.depth]⟩
   ·simp only [aR,jN,PyData.leavesShort];refine Uq.mpr fun c hc=>?_;have:=Uq.mp h.2 c hc;unfold n9 at this;simp only [S5,Uv] at this;exact T8 (by lia)
   ·simp only [aR,jN,PyData.bulk,iF];lia
  |int i=>
   unfold gg at h;rw[S5,UJ,UJ] at h;have h':i.natAbs<10 ^ 12:=by lia
   refine⟨?_,?_,by simp [aR,jN,PyData.bulk,iF],by simp [aR,jN,PyData.depth]⟩
   ·simp only [aR,jN,PyData.showable];exact T8 (Pk h')
   ·simp only [aR,jN,PyData.leavesShort];exact T8 (PyData.shown_int_le h')
  |_=>injection h
 | .tup l,h=>by
  rw[gvT] at h;obtain⟨h1,h2,h3,h4⟩:=gvTs.ok h;rw[bX];refine⟨by simpa only [aR,PyData.showable] using h1,by simpa only [aR,PyData.leavesShort] using h2,?_,?_⟩
  ·simp only [aR,PyData.bulk,iF];lia
  ·simp only [aR,PyData.depth,jK];lia
 | .ktp l,h=>by injection h
 | .lst l,h=>by injection h
 | .scr l,h=>by injection h
 | .dic l,h=>by injection h
theorem gvTs.ok:∀{l:List Tv},gvTs l=true->PyData.showableAll (bG (cz l))=true/\PyData.leavesShortAll 13 (bG (cz l))=true/\PyData.bulkAll (bG (cz l))<=17*d7 l/\PyData.depthAll (bG (cz l))<=d6 l
 |[],_=>⟨by simp [bG,cz,PyData.showableAll],by simp [bG,cz,PyData.leavesShortAll],by simp [bG,cz,PyData.bulkAll],by simp [bG,cz,PyData.depthAll]⟩
 |t::l,h=>by
  rw[gvTs,S5] at h;obtain⟨a1,a2,a3,a4⟩:=gvT.ok h.1;obtain⟨b1,b2,b3,b4⟩:=gvTs.ok h.2;rw[cz,bG];refine⟨?_,?_,?_,?_⟩
  ·rw[PyData.showableAll,a1,b1];rfl
  ·rw[PyData.leavesShortAll,a2,b2];rfl
  ·rw[PyData.bulkAll,d7];lia
  ·rw[PyData.depthAll,d6];lia
end
noncomputable def fH:List Th->List Nat
 |[]=>[93]
 |t::ts=>44::32::(cd t++fH ts)
theorem NR:∀(t:Th) (ts:List Th),(Str.join ", " (PyData.shownAll (bG (t::ts)))).cps.toList ++ [93]=cd t++fH ts:=by
 intro t ts
 induction ts generalizing t with
 |nil=>rw[bG,bG,PyData.shownAll,PyData.shownAll,join_one,fH]
 |cons u ts ih=>rw[bG,bG,PyData.shownAll,PyData.shownAll,join_cons_cons,Ug,Ug,fH];have:=ih u;rw[bG,PyData.shownAll] at this;rw[TF,this,TF];rfl
theorem LQ:cd (.lst []) = [91,93]:=by
 show(PyData.shown (.list (bG []))).cps.toList=_;rw[PyData.shown,bG,PyData.shownAll];unfold listText
 decide+kernel
theorem yy (t:Th)(ts:List Th):cd (.lst (t::ts))=91::(cd t++fH ts):=by show(PyData.shown (.list (bG (t::ts)))).cps.toList=_;rw[PyData.shown,<- NR,listText_eq_join,Ug,Ug];rfl
theorem NQ {t:Th}(h:okS t=true):∃c l,cd t=c::l/\c≠93:=by
 cases okS.kd h with
 |s x hx=>exact⟨39,_,lD hx,by decide⟩
 |i n=>obtain⟨c,l,e,hc⟩:=nv n;refine⟨c,l,by rw[lC,e],?_⟩;rintro rfl;injection hc
 |t ts hts=>
  match ts with
  |[]=>exact⟨40,_,lM,by decide⟩
  |[t]=>exact⟨40,_,lL t,by decide⟩
  |t::u::ts=>exact⟨40,_,jS t u ts,by decide⟩
theorem tP (ts:List Th)(r:List Nat):Bh (fH ts++r):=by
 intro c h
 cases ts with
 |nil=>rw[fH] at h;exact .inr (.inr (Tw h).symm)
 |cons t ts=>rw[fH] at h;exact .inl (Tw h).symm
theorem Ew:∀(ts us:List Th),cK ts=true->cK us=true->∀r r':List Nat,fH ts++r=fH us++r'->ts=us/\r=r'
 |[],[],_,_,r,r',e=>⟨rfl,by rw[fH] at e;injection e⟩
 |[],_::_,_,_,r,r',e=>by rw[fH,fH] at e;injection e with e _;cases e
 |_::_,[],_,_,r,r',e=>by rw[fH,fH] at e;injection e with e _;cases e
 |t::ts,u::us,ht,hu,r,r',e=>by rw[cK,S5] at ht hu;rw[fH,fH,TC,TC,TC,TC,TF,TF] at e;injection e with _ e;injection e with _ e;obtain⟨h1,h2⟩:=nh t u ht.1 hu.1 _ _ (tP _ _) (tP _ _) e;obtain⟨h3,h4⟩:=Ew ts us ht.2 hu.2 _ _ h2;exact⟨by rw[h1,h3],h4⟩
theorem DJ {u:Th}(us:List Th)(h:okS u=true)(r r':List Nat):¬cd (.lst [])++r=cd (.lst (u::us))++r':=fun e=>by rw[LQ,yy] at e;obtain⟨c,l,hc,hn⟩:=NQ h;rw[hc] at e;injection e with _ e;injection e with e _;exact hn e.symm
theorem LN:∀(ts us:List Th),cK ts=true->cK us=true->∀r r':List Nat,cd (.lst ts)++r=cd (.lst us)++r'->ts=us/\r=r'
 |[],[],_,_,r,r',e=>⟨rfl,List.append_cancel_left e⟩
 |[],u::us,_,hu,r,r',e=>by rw[cK,S5] at hu;exact absurd e (DJ us hu.1 r r')
 |t::ts,[],ht,_,r,r',e=>by rw[cK,S5] at ht;exact absurd e.symm (DJ ts ht.1 r' r)
 |t::ts,u::us,ht,hu,r,r',e=>by rw[cK,S5] at ht hu;rw[yy,yy,TC,TC,TF,TF] at e;injection e with _ e;obtain⟨h1,h2⟩:=nh t u ht.1 hu.1 _ _ (tP _ _) (tP _ _) e;obtain⟨h3,h4⟩:=Ew ts us ht.2 hu.2 _ _ h2;exact⟨by rw[h1,h3],h4⟩
theorem NP {l m:List Tv}{u:Tv}(hl:gvTs l=true)(hm:gvTs m=true)(ht:gvT t=true)(hu:gvT u=true)(e:(aR (bX (.tup [.lst l,t]))).shown=(aR (bX (.tup [.lst m,u]))).shown):Tv.tup [.lst l,t] = .tup [.lst m,u]:=by
 have e1:cd (.tup [.lst (cz l),bX t])=cd (.tup [.lst (cz m),bX u]):=by unfold cd;simp only [bX,cz] at e;rw[e]
 rw[jS,jS] at e1;injection e1 with _ e1;obtain⟨h1,h2⟩:=LN _ _ (gvTs.oks hl) (gvTs.oks hm) _ _ e1;obtain⟨h3,_⟩:=x8 [bX t] [bX u] (by rw[cK,gvT.oks ht];rfl) (by rw[cK,gvT.oks hu];rfl) [] [] (by rw[h2]);injection h3 with h3 _;rw[zb hl hm h1,Ey ht hu h3]
theorem Pj {l:List Tv}(hl:gvTs l=true)(ht:gvT t=true)(hs:d7 l+iF t<=60000)(hd:d6 l<=50)(BM:jK t<=50):
  TvTh (.tup [.lst l,t]) (bX (.tup [.lst l,t]))/\(aR (bX (.tup [.lst l,t]))).showable=true/\(aR (bX (.tup [.lst l,t]))).depth<=60/\(aR (bX (.tup [.lst l,t]))).shown.length<=16777216:=by
 obtain⟨a1,a2,a3,a4⟩:=gvTs.ok hl;obtain⟨b1,b2,b3,b4⟩:=gvT.ok ht;have e:bX (.tup [.lst l,t]) = .tup [.lst (cz l),bX t]:=by simp only [bX,cz]
 rw[e];refine⟨.tup (.cons (.lst (gvTs.th hl)) (.cons (gvT.th ht) .nil)),?_,?_,?_⟩
 ·simp only [aR,bG,PyData.showable,PyData.showableAll,a1,b1];rfl
 ·simp only [aR,bG,PyData.depth,PyData.depthAll];lia
 ·have h1:(aR (.tup [.lst (cz l),bX t])).leavesShort 13=true:=by simp only [aR,bG,PyData.leavesShort,PyData.leavesShortAll,a2,b2];rfl
  have h2:=PyData.shown_le_bulk 13 (by decide) _ h1;have h3:(aR (.tup [.lst (cz l),bX t])).bulk<=17*60000+10:=by simp only [aR,bG,PyData.bulk,PyData.bulkAll];lia
  lia
end L2
namespace M50
open PySem L2
variable {x:Str}{P:Program}{w:World}{h base:Heap}{G:Hp}{N i j m:Nat}{K:W.Frag}{st:Stmt}{R:Rl}{mg:Str->Option Value}{T:String}{a0:Sl}{gs:List Fd}{main:E}
theorem Nm.gv (h:Nm x):gg (.str x)=true:=by unfold gg;rw[S5,UJ];refine⟨by have:=h.2.1;lia,Uq.mpr fun c hc=>?_⟩;have:=h.2.2 c hc;unfold n9;simp only [S5,Uv];lia
theorem tO {i:Int}(h:0<=i)(h':i<10 ^ 12):gg (.int i)=true:=by unfold gg;rw[S5,UJ,UJ];exact⟨h,h'⟩
theorem NO:∀s∈gp,gg (.str s)=true:=by decide+kernel
theorem Ft:∀a b:List Tv,gvTs (a++b)=(gvTs a&&gvTs b)
 |[],b=>by simp [gvTs]
 |t::a,b=>by rw[TC,gvTs,gvTs,Ft a b,Bool.and_assoc]
theorem Fq:∀a b:List Tv,d7 (a++b)=d7 a+d7 b
 |[],b=>by simp [d7]
 |t::a,b=>by rw[TC,d7,d7,Fq a b];lia
theorem Fp:∀a b:List Tv,d6 (a++b)=max (d6 a) (d6 b)
 |[],b=>by simp [d6]
 |t::a,b=>by rw[TC,d6,d6,Fp a b];lia
theorem C0:∀l:List V,(∀v∈l,gg v=true)->gvTs (l.map Tv.at)=true
 |[],_=>rfl
 |v::l,h=>by rw[TX,gvTs,C0 l fun w hw=>h w (Tb _ hw),gvT,h v Te];rfl
theorem CZ:∀l:List V,d7 (l.map Tv.at)=l.length
 |[]=>rfl
 |v::l=>by have e:d7 ((v::l).map Tv.at)=1+d7 (l.map Tv.at):=rfl;rw[e,CZ l,Tz];lia
theorem CY:∀l:List V,d6 (l.map Tv.at)=0
 |[]=>rfl
 |v::l=>by have e:d6 ((v::l).map Tv.at)=max 0 (d6 (l.map Tv.at)):=rfl;rw[e,CY l];rfl
theorem JV {w:Wd}(h:Ar RA w m):∀v∈w.hd,gg v=true:=by
 intro v hv
 cases w with
 |num i=>
  simp only [Wd.hd,Ts,TQ,T7] at hv;rcases hv with rfl|rfl
  ·decide+kernel
  ·exact tO h.2.1 (by have:=h.2.2;lia)
 |name x=>
  simp only [Wd.hd,Ts,TQ,T7] at hv;rcases hv with rfl|rfl
  ·decide+kernel
  ·exact Nm.gv h.2
 |take=>simp only [Wd.hd,Ts,TQ,T7] at hv;subst hv;decide+kernel
 |op s=>
  simp only [Wd.hd,Ts,TQ,T7] at hv;rcases hv with rfl|rfl
  ·decide+kernel
  ·exact NO s h.2
 |pick=>simp only [Wd.hd,Ts,TQ,T7] at hv;subst hv;decide+kernel
 |lt x=>
  simp only [Wd.hd,Ts,TQ,T7] at hv;rcases hv with rfl|rfl
  ·decide+kernel
  ·exact Nm.gv h.2
 |st x=>
  simp only [Wd.hd,Ts,TQ,T7] at hv;rcases hv with rfl|rfl
  ·decide+kernel
  ·exact Nm.gv h.2
 |say=>simp only [Wd.hd,Ts,TQ,T7] at hv;subst hv;decide+kernel
 | «do» => simp only [Wd.hd, Ts, TQ, T7] at hv; subst hv; decide +kernel
 |again j=>
  simp only [Wd.hd,Ts,TQ,T7] at hv;rcases hv with rfl|rfl
  ·decide+kernel
  ·exact tO h.2.1 (by have:=h.2.2;lia)
 |call f=>
  simp only [Wd.hd,Ts,TQ,T7] at hv;rcases hv with rfl|rfl
  ·decide+kernel
  ·exact Nm.gv h.2.1
def Gd (N s:Nat)(t:Tc):Prop:=gvT (Tc.tv t)=true/\iF (Tc.tv t)<=3*s/\jK (Tc.tv t)<=N
def A6 (N s:Nat)(l:List Tc):Prop:=gvTs (Tc.tvL l)=true/\d7 (Tc.tvL l)<=3*s/\d6 (Tc.tvL l)<=N
theorem Gd.nd {s:Nat}{h:List V}{l:List Tc}(hv:∀v∈h,gg v=true)(hh:h.length<=2)(g:A6 N s l):Gd (N+1) (1+s) (.nd h l):=by have e:Tc.tv (.nd h l) = .tup (h.map Tv.at++Tc.tvL l):=rfl;unfold Gd;rw[e,gvT,iF,jK,Ft,Fq,Fp,CZ,CY,C0 h hv,g.1];have:=g.2.1;have:=g.2.2;exact⟨rfl,by lia,by lia⟩
theorem DI (x:Str):∀l:List Str,pos x l<=l.length
 |[]=>Tf _
 |y::l=>by
  have:=DI x l;rw[pos]
  split
  ·exact T3 _
  ·simp;lia
mutual
theorem qV:∀(N:Nat) (e:E) (b:List Str),Ex RA N e->b.length+N<=1000->Gd N e.cnt (bare b e)
 |N,.nd w ks,b,h,hb=>by
  cases h with
  | @mk n _ _ h hk=>
   have hl:=y9 n ks b b hk (by lia) (by lia);have hw:=JV h;rw[Tree.cnt]
   cases w with
   |name x=>
    rw[bare]
    split
    ·refine Gd.nd (fun v hv=>?_) (by simp) ⟨rfl,T3 _,T3 _⟩
     simp only [Ts,TQ,T7] at hv;rcases hv with rfl|rfl
     ·decide+kernel
     ·have:=DI x b.reverse;rw[Uu] at this;exact tO (by lia) (by lia)
    ·exact Gd.nd hw (by simp) hl
   |lt x=>rw[bare];refine Gd.nd (fun v hv=>hw v (by simp only [Ts,TQ,T7] at hv;rw[hv];exact Te)) (by simp) (y9 n ks b (b ++ [x]) hk (by lia) (by rw[Tg];simp;lia))
   |_=>exact Gd.nd hw (by simp [Wd.hd]) hl
theorem y9:∀(N:Nat) (ks:List E) (b c:List Str),(∀k∈ks,Ex RA N k)->b.length+N<=1000->c.length+N<=1000->A6 N (Tree.cntL ks) (bB b c ks)
 |N,[],b,c,_,_,_=>⟨rfl,T3 _,T3 _⟩
 |N,k::ks,b,c,h,hb,hc=>by obtain⟨a1,a2,a3⟩:=qV N k b (h k Te) hb;obtain⟨b1,b2,b3⟩:=y9 N ks c c (fun j hj=>h j (Tb _ hj)) hc hc;rw[bB,Tree.cntL];unfold A6;have e:Tc.tvL (bare b k::bB c c ks)=Tc.tv (bare b k)::Tc.tvL (bB c c ks):=rfl;rw[e,gvTs,d7,d6,a1,b1];exact⟨rfl,by lia,by lia⟩
end
theorem Km {f:Fd}(h:jz 14 f)(hc:f.bd.cnt<=100):gvT (dZ f)=true/\iF (dZ f)<=303/\jK (dZ f)<=15:=by
 obtain⟨a1,a2,a3⟩:=qV 14 f.bd f.ps h.bd (by have:=h.l7;lia);unfold dZ;have e1:gvT (ts f.nm)=true:=Nm.gv h.nm;have e2:gg (.int (f.ps.length:Int))=true:=tO (by lia) (by have:=h.l7;lia);have e2:gvT (ti f.ps.length)=true:=by rw[gvT];exact e2
 rw[gvT,gvTs,gvTs,gvTs,gvTs,a1,e1,e2,iF,d7,d7,d7,d7,jK,d6,d6,d6,d6];have s1:iF (ts f.nm)=1:=rfl;have s2:iF (ti f.ps.length)=1:=rfl;have d1:jK (ts f.nm)=0:=rfl;have d2:jK (ti f.ps.length)=0:=rfl;rw[s1,s2,d1,d2];exact⟨rfl,by lia,by lia⟩
theorem tN:∀fs:List Fd,(∀f∈fs,jz 14 f)->(∀f∈fs,f.bd.cnt<=100)->gvTs (fs.map dZ)=true/\d7 (fs.map dZ)<=303*fs.length/\d6 (fs.map dZ)<=15
 |[],_,_=>⟨rfl,T3 _,T3 _⟩
 |f::fs,h,h'=>by obtain⟨a1,a2,a3⟩:=Km (h f Te) (h' f Te);obtain⟨b1,b2,b3⟩:=tN fs (fun g hg=>h g (Tb _ hg)) (fun g hg=>h' g (Tb _ hg));rw[TX,gvTs,d7,d6,a1,b1,Tz];exact⟨rfl,by lia,by lia⟩
def sO (fs:List Fd)(main:E):Str:=(aR (bX (dy fs main))).shown
theorem Fm {fs:List Fd}(h:gj fs main):∃u,TvTh (dy fs main) u/\(aR u).showable=true/\(aR u).depth<=60/\(aR u).shown.length<=16777216/\(aR u).shown=sO fs main:=by obtain⟨a1,a2,a3⟩:=tN fs h.fo h.fc;obtain⟨b1,b2,b3⟩:=qV 14 main [] h.mn (by simp);have:=h.fl;have:=h.mc;obtain⟨c1,c2,c3,c4⟩:=Pj a1 b1 (by lia) (by lia) (by lia);exact⟨_,c1,c2,c3,c4,rfl⟩
theorem LM {fs dv:List Fd}{main':E}(h:gj fs main)(h':gj dv main'):sO fs main=sO dv main'↔dy fs main=dy dv main':=by
 constructor
 ·intro e;exact NP (tN fs h.fo h.fc).1 (tN dv h'.fo h'.fc).1 (qV 14 main [] h.mn (by simp)).1 (qV 14 main' [] h'.mn (by simp)).1 e
 ·intro e;unfold sO;rw[e]
theorem PgOk.b {P:List Str}{fs:List Fd}(h:PgOk P fs main):PgB (Rp P fs) fs main:=
 ⟨fun x hx=>h.pn x hx,fun g m hm=>hm,h.fl,fun f hf=>(h.fo f hf).nm,fun f hf=>(h.fo f hf).nd,fun f hf x hx=>h.pn x ((h.fo f hf).sub x hx),fun f hf=>(h.fo f hf).l6,fun f hf=>(h.fo f hf).bd,h.mn⟩
theorem PgB.c {fs:List Fd}(h:PgB R fs main)(h1:∀f∈fs,f.bd.cnt<=30)(h2:main.cnt<=200):gj fs main:=
 ⟨h.fl,h.fdA,fun f hf=>by have:=h1 f hf;lia,(h.mn.ra h.hX).up (by decide),by lia⟩
theorem RcL.mem {fs:List Fd}(h:RcL R fs gs):∀g∈gs,∃f∈fs,Rc R f g:=by
 induction h with
 |nil=>intro g hg;cases hg
 | @cons f g fs gs h r ih=>
  intro g' hg;rcases Ts.mp hg with rfl|hg
  ·exact⟨f,Te,h⟩
  ·obtain⟨f',a,b⟩:=ih g' hg;exact⟨f',Tb _ a,b⟩
theorem RcL.mem' {fs:List Fd}(h:RcL R fs gs):∀f∈fs,∃g∈gs,Rc R f g:=by
 induction h with
 |nil=>intro g hg;cases hg
 | @cons f g fs gs h r ih=>
  intro g' hg;rcases Ts.mp hg with rfl|hg
  ·exact⟨g,Te,h⟩
  ·obtain⟨f',a,b⟩:=ih g' hg;exact⟨f',Tb _ a,b⟩
theorem RcL.can {fs:List Fd}(h:RcL R fs gs):gs.map dZ=fs.map dZ:=by
 induction h with
 |nil=>rfl
 | @cons f g fs gs h r ih=>rw[TX,TX,ih];unfold dZ;rw[h.nm,h.ln,h.br]
theorem RcPg.can {fs:List Fd}{mg:E}(h:RcPg R fs main gs mg):dy gs mg=dy fs main:=by unfold dy;rw[h.fn.can,h.br]
theorem RcPg.b {P:List Str}{fs:List Fd}{mg:E}(h:RcPg (Rp P fs) fs main gs mg)(o:PgOk P fs main):PgB (Rn (Rp P fs)) gs mg/\(∀f∈gs,f.bd.cnt<=30)/\mg.cnt<=200:=by
 refine⟨⟨fun x hx=>hx,fun g m ⟨f,hf,e1,e2⟩=>?_,by rw[h.fn.len];exact o.fl,fun g hg=>?_,fun g hg=>?_,fun g hg=>?_,fun g hg=>?_,fun g hg=>?_,h.mn⟩,fun g hg=>?_,by rw[h.ct];exact o.mc⟩
 ·obtain⟨g',a,b⟩:=h.fn.mem' f hf;exact⟨g',a,by rw[b.nm,e1],by rw[b.ln,e2]⟩
 all_goals obtain⟨f,hf,r⟩:=h.fn.mem g hg
 ·rw[r.nm];exact(o.fo f hf).nm
 ·exact r.nd
 ·exact r.pN
 ·rw[r.ln];exact(o.fo f hf).l6
 ·exact r.bd
 ·rw[r.ct];exact(o.fo f hf).bc
inductive ff (args:List Sl)(k:ad):Prop
 |mk (ns:List Int) (_:args = [.fz (.scr (ns.map ti))]) (_:ns.length<=16777216) (_:k (.own (aC (ns.take 63) 0 0)) [.fz (.scr (ns.map ti))])
theorem LL:∀args k,ff args k->aH (aB zy zA) (aS args k) (aU 1 args):=by
 rintro args k ⟨ns,rfl,hl,q⟩
 have e:aO (ns.map ti) none (some 63)=(ns.take 63).map ti:=by
  unfold aO;have h0:HT.sIx (ns.map ti).length 0 none=0:=rfl;have h1:HT.sIx (ns.map ti).length (ns.map ti).length (some 63)=min 63 ns.length:=by rw[Ta];unfold HT.sIx;simp
  rw[h0,h1,drop_zero,Nat.sub_zero,<- map_take];rw[show min 63 ns.length=min 63 ns.length from rfl,List.take_eq_take_min,List.take_eq_take_min (i:=63)];simp
 have q':k (.own (.dic [(.inr "cells",.lst (aO (ns.map ti) none (some 63))),(.inr "at",ti 0),(.inr "left",ti 0)])) [.fz (.scr (ns.map ti))]:=by rw[e];exact q
 have jb:(aO (ns.map ti) none (some 63)).length<=16777216:=by rw[e,Ta,T9];lia
 first
  |exact q'
  |exact⟨jb,q'⟩
  |exact⟨rfl,q'⟩
  |exact⟨jb,rfl,q'⟩
noncomputable def fJ:aM:=fun args k=>∃ns:List Int,args = [.fz (.scr (ns.map ti))]/\ns.length<=16777216/\k (fb true) [.fz (.scr (ns.map ti))]
noncomputable def Fl:aM:=fun args k=>∃R,fe R args k
abbrev mY:Gm:=xJ ff eX yE cE (dr 14) cC eW Fl aG
theorem F8 {fd:Ob}{pg:Sl}{P:List Str}{fs0:List Fd}{D:PD}{o5 o6 o7 o8 o9 o10 o11 aZ bw:Option Sl}:∀(l:List Fd) (ah:List Str) (i:Sl),(∀f∈l,FdOk P fs0 f)->ah.length+1000*l.length<=100000 →
  (∀cW o5 o6 o7,(∀x∈cW,x∈ah∨x∈P)->ah ⊆ cW->cW.length<=ah.length+1000*l.length->D.nx ⟨[some a0,some (.own fd),some i,some pg,some (.own (.lst (cW.map ts))),o5,o6,o7,o8,o9,o10,o11,aZ,bw],[],[]⟩) →
  cN (bd (.cons (.nm 5) (.cons (.nm 6) (.cons (.nm 7) .nil)))) (aH (aB mY tU)) D (l.map Fd.tv) ⟨[some a0,some (.own fd),some i,some pg,some (.own (.lst (ah.map ts))),o5,o6,o7,o8,o9,o10,o11,aZ,bw],[],[]⟩
 |[],ah,i,_,_,q=>q ah o5 o6 o7 (fun x h=>.inl h) (fun x h=>h) (by simp)
 |f::l,ah,i,h,hb,q=>by
  have hf:=h f Te;have l6:=hf.l6;have bc:=hf.bc;have fl:=lE [] f.bd;simp only [Tz] at hb q;have hfx:=qA (R:=Rp P fs0) 4 f.bd [] hf.bd;refine⟨by simp only [Ta];lia,rfl,Rp P fs0,4,by decide,f.bd,_,[],rfl,.inl rfl,by decide,hf.bd,by lia,fun s' hs'=>?_⟩;have hm:ah.map ts++f.ps.map ts++(fr [] f.bd).map ts=(ah++f.ps++fr [] f.bd).map ts:=by simp
  have gx:∀o5 o6 o7:Option Sl,cN (bd (.cons (.nm 5) (.cons (.nm 6) (.cons (.nm 7) .nil)))) (aH (aB mY tU)) D (l.map Fd.tv) ⟨[some a0,some (.own fd),some i,some pg,some (.own (.lst (ah.map ts++f.ps.map ts++(fr [] f.bd).map ts))),o5,o6,o7,o8,o9,o10,o11,aZ,bw],[],[]⟩:=fun o5 o6 o7=>by
   rw[hm];refine F8 l (ah++f.ps++fr [] f.bd) i (fun g hg=>h g (Tb _ hg)) (by simp only [Tg];lia) fun cW o5 o6 o7 h1 h2 h3=>?_;simp only [Tg] at h3;refine q cW o5 o6 o7 (fun x hx=>?_) (fun x hx=>h2 (by simp [hx])) (by lia);rcases h1 x hx with h|h
   ·simp only [TB] at h
    rcases h with (h|h)|h
    ·exact .inl h
    ·exact .inr (hf.sub x h)
    ·exact .inr (hfx x h)
   ·exact .inr h
  rcases hs' with rfl|rfl
  all_goals exact⟨by simp only [Tg,Ta];lia,gx _ _ _⟩
theorem BY {fs hs:List Fd}{mg mh:E}(hC:gj fs main)(hD:gj gs mg)(hcan:dy gs mg=dy fs main)(hH:gj hs mh){a0 o1 o2:Option Sl}{pl:Option Sl}{D:PD}{o5 o6 o7 o10 aZ bw:Option Sl}
  (q:∀aZ bw,D.nx ⟨[a0,o1,o2,some (.fz (aT fs main)),pl,o5,o6,o7,some (.fz (dy fs main)),some (.fz (aT gs mg)),o10,some (.fz (aT hs mh)),aZ,bw],[],[]⟩):
  aH (aB mY (.seq (.set 12 (.cmp .eq (.b1 .repr (.call 4 (.cons (.var 11) .nil))) (.b1 .repr (.var 8)))) (.for (.nm 13) (.lst (.cons (.call 6 (.cons (.var 3) (.cons (.var 11) .nil))) (.cons (.call 6 (.cons (.var 11) (.cons (.var 9) .nil))) .nil))) DV))) D
   ⟨[a0,o1,o2,some (.fz (aT fs main)),pl,o5,o6,o7,some (.fz (dy fs main)),some (.fz (aT gs mg)),o10,some (.fz (aT hs mh)),aZ,bw],[],[]⟩:=by
 obtain⟨u,c1,c2,c3,c4,c5⟩:=Fm hH;obtain⟨u',d1,d2,d3,d4,d5⟩:=Fm hC;refine⟨rfl,hs,mh,rfl,by decide,by have:=hH.fl;lia,hH.fo,hH.mn,_,⟨u,rfl,c1,c2,c3,c4,rfl⟩,_,⟨u',rfl,d1,d2,d3,d4,rfl⟩,?_⟩;refine⟨rfl,fs,hs,main,mh,rfl,hC,hH,fun b hb=>?_⟩;refine⟨rfl,hs,gs,mh,mg,rfl,hH,hD,fun b' jH=>?_⟩;have hk:(false ^^ decide (V.str (aR u).shown=V.str (aR u').shown))=true↔dy hs mh=dy fs main:=by simp only [Bool.false_xor,Uv,V.str.injEq,c5,d5];exact LM hH hC
 have e1:b=(false ^^ decide (V.str (aR u).shown=V.str (aR u').shown)):=by rw[U3,hb,hk];exact eq_comm
 have e2:b'=(false ^^ decide (V.str (aR u).shown=V.str (aR u').shown)):=by rw[U3,jH,hk,hcan]
 refine aL (fun g=>absurd g (by rw[<- e1];simp)) (fun g=>?_);refine aL (fun g=>absurd g (by rw[<- e2];simp)) (fun g=>?_);exact q _ _
theorem xH {cs:List Int}(cR:cs.length<=63){n:Nat}{z:Int}{R R':Rl}{fs gs:List Fd}{main mg:E}(hB:PgB R fs main)(hB1:∀f∈fs,f.bd.cnt<=30)(mU:main.cnt<=200)(hG:PgB R' gs mg)(BP:∀f∈gs,f.bd.cnt<=30)(BO:mg.cnt<=200)
  (hcan:dy gs mg=dy fs main) {ah Q1:List Str} (hp:ah ≠ []) (bA:ah.length<=8000000) (b0:∀x∈ah,Nm x/\x∈Q1) (hQ:Q1.length<=20) {a0:Sl} {o2 o5 o6 o7 o10 o11 aZ bw:Option Sl} {D:PD} (hn:n+2000<=1000000000000)
  (q:∀n' z' o11 aZ bw,n'<=n+2000->D.nx ⟨[some a0,some (.own (aC cs n' z')),o2,some (.fz (aT fs main)),some (.own (.lst (ah.map ts))),o5,o6,o7,some (.fz (dy fs main)),some (.fz (aT gs mg)),o10,o11,aZ,bw],[],[]⟩):
  aH (aB mY ye) D ⟨[some a0,some (.own (aC cs n z)),o2,some (.fz (aT fs main)),some (.own (.lst (ah.map ts))),o5,o6,o7,some (.fz (dy fs main)),some (.fz (aT gs mg)),o10,o11,aZ,bw],[],[]⟩:=by
 have hC:=hB.c hB1 mU;have hD:=hG.c BP BO;refine⟨rfl,cs,n,z,2,rfl,cR,by lia,by decide,by decide,fun r n1 z1 r0 r1 hn1=>?_⟩;obtain rfl|rfl:r=0∨r=1:=by lia
 ·refine⟨rfl,R,cs,n1,z1,fs,main,ah,Q1,rfl,cR,by lia,hB,hB1,mU,hp,bA,b0,hQ,fun hs mh n2 z2 hH cy=>?_⟩;exact BY hC hD hcan hH fun aZ bw=>q n2 z2 _ _ _ (by lia)
 ·refine⟨rfl,R',cs,n1,z1,gs,mg,ah,Q1,rfl,cR,by lia,hG,BP,BO,hp,bA,b0,hQ,fun hs mh n2 z2 hH cy=>?_⟩;exact BY hC hD hcan hH fun aZ bw=>q n2 z2 _ _ _ (by lia)
theorem eE {cs:List Int}(cR:cs.length<=63){n:Nat}{z:Int}{a0:Sl}{i:Nat}(hi:i<=2){D:PD}{o3 o4 o5 o6 o7 o8 o9 o10 o11 aZ bw:Option Sl}(hn:n+300000000<=1000000000000)
  (q:∀n' z' o2 o3 o4 o5 o6 o7 o8 o9 o10 o11 aZ bw,n'<=n+300000000->D.nx ⟨[some a0,some (.own (aC cs n' z')),o2,o3,o4,o5,o6,o7,o8,o9,o10,o11,aZ,bw],[],[]⟩):
  aH (aB mY DU) D ⟨[some a0,some (.own (aC cs n z)),some (fi i),o3,o4,o5,o6,o7,o8,o9,o10,o11,aZ,bw],[],[]⟩:=by
 obtain⟨r,e,hr⟩:∃r:Int,eh [ti 8,ti 32,ti 20] (i:Int)=some (ti r)/\r<=32:=by
  match i,hi with
  | 0,_=>exact⟨8,rfl,by decide⟩
  | 1,_=>exact⟨32,rfl,by decide⟩
  | 2,_=>exact⟨20,rfl,by decide⟩
 refine bx e ?_;refine⟨rfl,cs,n,z,r,rfl,hr,cR,by lia,fun P fs main n1 z1 hP hn1=>?_⟩;refine⟨rfl,Rp P fs,7,by decide,main,_,[],rfl,.inl rfl,by decide,hP.mn,by have:=hP.mc;lia,fun s' hs'=>?_⟩;have mc:=hP.mc;have fl:=lE [] main;have mx:=qA (R:=Rp P fs) 7 main [] hP.mn;have hC:=(hP.b.c (fun f hf=>(hP.fo f hf).bc) hP.mc)
 have aj:∀(xs:List Str) (n2:Nat) (z2:Int) (o5 o6 o7:Option Sl),xs.length=2->(∀x∈xs,Nm x)->n2<=n1+1000->aH (aB mY (.cut (.for (.cons (.nm 5) (.cons (.nm 6) (.cons (.nm 7) .nil))) (.ix (.var 3) (.cst (.int 0))) tU) (.seq (.set 8 (.call 4 (.cons (.var 3) .nil))) (.seq (.set 9 (.call 5 (.cons (.var 1) (.cons (.var 3) (.cons (.var 4) .nil))))) (.seq (.ife (.or (.cmp .isnt (.call 6 (.cons (.var 3) (.cons (.var 9) .nil))) (.cst (.bl true))) (.cmp .isnt (.call 6 (.cons (.var 9) (.cons (.var 3) .nil))) (.cst (.bl true)))) (.ret (.cst (.bl false))) .skip) (.for (.nm 10) (.rng (.cst (.int 3))) ye)))))) D ⟨[some a0,some (.own (aC cs n2 z2)),some (fi i),some (.fz (aT fs main)),some (.own (.lst ((fr [] main++xs).map ts))),o5,o6,o7,o8,o9,o10,o11,aZ,bw],[],[]⟩:=by
  intro xs n2 z2 o5 o6 o7 hx2 kT cy;refine⟨fun M=>∃(ah:List Str) (o5 o6 o7:Option Sl),M=⟨[some a0,some (.own (aC cs n2 z2)),some (fi i),some (.fz (aT fs main)),some (.own (.lst (ah.map ts))),o5,o6,o7,o8,o9,o10,o11,aZ,bw],[],[]⟩/\(∀x∈ah,x∈P++xs)/\ah ≠ []/\ah.length<=100000,?_,?_⟩
  ·refine F8 (P:=P) (fs0:=fs) fs (fr [] main++xs) (fi i) hP.fo (by have:=hP.fl;rw[Tg];lia) fun cW o5 o6 o7 h1 h2 h3=>⟨cW,o5,o6,o7,rfl,fun x hx=>?_,fun z=>?_,by have:=hP.fl;rw[Tg] at h3;lia⟩
   ·rcases h1 x hx with h|h
    ·rcases TB.mp h with h|h
     ·exact TL _ (mx x h)
     ·exact TM _ h
    ·exact TL _ h
   ·obtain⟨a,b,rfl⟩:=lb hx2;have:=h2 (show a∈fr [] main ++ [a,b] by simp);rw[z] at this;cases this
  ·rintro M ⟨ah,o5,o6,o7,rfl,p8,hp2,hp3⟩
   have pl:=hP.pl
   have b0:∀x∈ah,Nm x/\x∈P++xs:=fun x hx=>⟨by
    rcases TB.mp (p8 x hx) with h|h
    ·exact hP.pn x h
    ·exact kT x h,p8 x hx⟩
   have hQ:(P++xs).length<=20:=by rw[Tg];lia
   refine⟨rfl,fs,main,rfl,by decide,by have:=hP.fl;lia,hC.fo,hC.mn,?_⟩;refine⟨rfl,cs,n2,z2,P,P++xs,ah,fs,main,rfl,cR,by lia,hP,by lia,b0,hQ,fun gs mg n3 z3 hR gY=>?_⟩;obtain⟨hB,hB1,mU⟩:=hR.b hP;have hD:=hB.c hB1 mU;have hcan:=hR.can;refine⟨rfl,fs,gs,main,mg,rfl,hC,hD,fun b hb=>?_⟩;obtain rfl:b=true:=hb.mpr hcan.symm;refine⟨rfl,gs,fs,mg,main,rfl,hD,hC,fun b hb=>?_⟩;obtain rfl:b=true:=hb.mpr hcan;have hF:=fun f hf=>(hP.fo f hf).bc;refine⟨⟨by decide,by decide⟩,?_⟩;refine xH (n:=n3) (z:=z3) cR hP.b hF hP.mc hB hB1 mU hcan hp2 (by lia) b0 hQ (by lia) fun n4 z4 o11 aZ bw h4=>?_;refine xH (n:=n4) (z:=z4) cR hP.b hF hP.mc hB hB1 mU hcan hp2 (by lia) b0 hQ (by lia) fun n5 z5 o11 aZ bw h5=>?_;refine xH (n:=n5) (z:=z5) cR hP.b hF hP.mc hB hB1 mU hcan hp2 (by lia) b0 hQ (by lia) fun n6 z6 o11 aZ bw h6=>?_;exact q n6 z6 _ _ _ _ _ _ _ _ _ _ _ _ (by lia)
 rcases hs' with rfl|rfl
 all_goals
  refine⟨rfl,cs,n1,z1,2,rfl,cR,by decide,by decide,by lia,fun xs n2 z2 vz nO kT cy=>⟨by simp only [Ta];lia,?_⟩⟩;rw[show(fr [] main).map ts++xs.map ts=(fr [] main++xs).map ts by simp];exact aj xs n2 z2 _ _ _ (by lia) (fun x hx=>(kT x hx).1) cy
theorem Kl:∀args k,fJ args k->aH (aB mY xK) (aS args k) (aU 14 args):=by
 rintro args k ⟨ns,rfl,hl,q⟩;refine⟨rfl,ns,rfl,hl,?_⟩;generalize gX:ns.take 63=cs;have cR:cs.length<=63:=by rw[<- gX,T9];lia
 refine⟨fun M=>∃o1 o2 o3 o4 o5 o6 o7 o8 o9 o10 o11 aZ bw:Option Sl,M=⟨[some (.fz (.scr (ns.map ti))),o1,o2,o3,o4,o5,o6,o7,o8,o9,o10,o11,aZ,bw],[],[]⟩,?_,?_⟩
 ·refine⟨⟨by decide,by decide⟩,?_⟩;refine eE cR (n:=0) (z:=0) (i:=0) (by decide) (by decide) fun n1 z1 o2 o3 o4 o5 o6 o7 o8 o9 o10 o11 aZ bw h1=>?_;refine eE cR (i:=1) (by decide) (by lia) fun n1 z1 o2 o3 o4 o5 o6 o7 o8 o9 o10 o11 aZ bw h2=>?_;refine eE cR (i:=2) (by decide) (by lia) fun n1 z1 o2 o3 o4 o5 o6 o7 o8 o9 o10 o11 aZ bw h3=>?_;exact⟨_,_,_,_,_,_,_,_,_,_,_,_,_,rfl⟩
 ·rintro M ⟨o1,o2,o3,o4,o5,o6,o7,o8,o9,o10,o11,aZ,bw,rfl⟩;exact q
theorem jJ {e:E}:¬Ex R 0 e:=fun h=>by cases h
theorem ln {a b:List Sl}(e:a=b):a.length=b.length:=UP _ e
abbrev Dx (K:W.Frag)(mg:Str->Option Value)(x:Str)(i:Nat):Prop:=A8 K mg x (aq i) (jL (aq i))
section
theorem Eu (T:Tx K mg)(a:Dx K mg "_law_nodes" 26)(lp:Fk P w K mg base 1 ("_law_parts",ag)):∀N R,Fs P w K mg base (N+1) "_law_nodes" (aq 26) (aQ R N)
 | 0,R=>i4 a fun _ _ h=>by cases h;exact absurd ‹Ex _ 0 _› jJ
 |N+1,R=>bR T a QM (Pw R N) ⟨lp.up (by omega),(Eu T a lp N R).up (Tf _),trivial⟩ (fun _ _ h=>by rcases h with ⟨_,e,_⟩;exact ln e) trivial
theorem CW (T:Tx K mg)(a:Dx K mg "_law_all" 45)(lp:Fk P w K mg base 1 ("_law_parts",ag)):∀N R,Fs P w K mg base (N+1) "_law_all" (aq 45) (cQ R N)
 | 0,R=>i4 a fun _ _ h=>by cases h;exact absurd ‹Ex _ 0 _› jJ
 |N+1,R=>bR T a Ot (Ml R N) ⟨lp.up (by omega),(CW T a lp N R).up (Tf _),trivial⟩ (fun _ _ h=>by rcases h with ⟨_,e,_⟩;exact ln e) trivial
theorem Et (T:Tx K mg)(a:Dx K mg "_law_right" 28)(lp:Fk P w K mg base 1 ("_law_parts",ag)):∀N R,Fs P w K mg base (N+1) "_law_right" (aq 28) (aV R N)
 | 0,R=>i4 a fun _ _ h=>by cases h;exact absurd ‹Ex _ 0 _› jJ
 |N+1,R=>bR T a QL (Oa R N) ⟨(Et T a lp N R).up (Tf _),lp.up (by omega),trivial⟩ (fun _ _ h=>by rcases h with ⟨_,_,_,e,_⟩;exact ln e) trivial
theorem Es (T:Tx K mg)(a:Dx K mg "_law_calls" 43)(lp:Fk P w K mg base 1 ("_law_parts",ag)):∀N R,Fs P w K mg base (N+1) "_law_calls" (aq 43) (bg R N)
 | 0,R=>i4 a fun _ _ h=>by cases h;exact absurd ‹Ex _ 0 _› jJ
 |N+1,R=>bR T a QC (N9 R N) ⟨lp.up (by omega),(Es T a lp N R).up (Tf _),trivial⟩ (fun _ _ h=>by rcases h with ⟨_,e,_⟩;exact ln e) trivial
theorem GJ (T:Tx K mg)(a:Dx K mg "_law_by_calls" 44)(lp:Fk P w K mg base 1 ("_law_parts",ag))(lw:Fk P w K mg base 1 ("_law_with",aE)):∀N R,Fs P w K mg base (N+1) "_law_by_calls" (aq 44) (fg R N)
 | 0,R=>i4 a fun _ _ h=>by cases h;exact absurd ‹Ex _ 0 _› jJ
 |N+1,R=>bR T a Sb (J1 R N) ⟨lp.up (by omega),(GJ T a lp lw N R).up (Tf _),lw.up (by omega),trivial⟩ (fun _ _ h=>by rcases h with ⟨_,_,_,_,_,e,_⟩;exact ln e) trivial
theorem DH (T:Tx K mg)(a:Dx K mg "_law_free" 40)(lp:Fk P w K mg base 1 ("_law_parts",ag)):∀N R,Fs P w K mg base (N+1) "_law_free" (aq 40) (cq R N)
 | 0,R=>i4 a fun _ _ h=>by cases h;exact absurd ‹Ex _ 0 _› jJ
 |N+1,R=>bR T a Py (Md R N) ⟨lp.up (by omega),(DH T a lp N R).up (Tf _),trivial⟩ (fun _ _ h=>by rcases h with ⟨_,_,_,e,_⟩;exact ln e) trivial
theorem Er (T:Tx K mg)(a:Dx K mg "_law_bared" 38)(lp:Fk P w K mg base 1 ("_law_parts",ag))(lw:Fk P w K mg base 1 ("_law_with",aE)):∀N R,Fs P w K mg base (N+1) "_law_bared" (aq 38) (bM R N)
 | 0,R=>i4 a fun _ _ h=>by cases h;exact absurd ‹Ex _ 0 _› jJ
 |N+1,R=>bR T a QG (N8 R N) ⟨(Er T a lp lw N R).up (Tf _),lw.up (by omega),lp.up (by omega),trivial⟩ (fun _ _ h=>by rcases h with ⟨_,_,_,e,_⟩;exact ln e) trivial
theorem DG (T:Tx K mg)(a:Dx K mg "_law_work" 27)(lp:Fk P w K mg base 1 ("_law_parts",ag)):∀N R,Fs P w K mg base (N+1) "_law_work" (aq 27) (bK R N)
 | 0,R=>i4 a fun _ _ h=>by cases h;exact absurd ‹Ex _ 0 _› jJ
 |N+1,R=>bR T a PH (Mf R N) ⟨lp.up (by omega),(DG T a lp N R).up (Tf _),trivial⟩ (fun _ _ h=>by rcases h with ⟨_,_,_,e,_⟩;exact ln e) trivial
theorem Fj (T:Tx K mg)(a:Dx K mg "_law_spoilt" 30)(lp:Fk P w K mg base 1 ("_law_parts",ag))(hn:∀N R,Fs P w K mg base (N+1) "_law_nodes" (aq 26) (aQ R N))(lw:Fk P w K mg base 1 ("_law_with",aE)):∀N R m,Fs P w K mg base (N+1) "_law_spoilt" (aq 30) (bC R m N)
 | 0,R,m=>i4 a fun _ _ h=>by cases h;exact absurd ‹Ex _ 0 _› jJ
 |N+1,R,m=>bR T a Ru (Pp R m N) ⟨lp.up (by omega),(hn _ R).up (by omega),(Fj T a lp hn lw N R m).up (Tf _),lw.up (by omega),trivial⟩ (fun _ _ h=>by rcases h with ⟨_,_,_,e,_⟩;exact ln e) trivial
theorem Ep (T:Tx K mg)(a:Dx K mg "_law_relet" 41)(lw:Fk P w K mg base 1 ("_law_with",aE))(lp:Fk P w K mg base 1 ("_law_parts",ag))(hf:∀N R,Fs P w K mg base (N+1) "_law_free" (aq 40) (cq R N))(h2:Fk P w K mg base 2 ("_law_name",bp))(h3:Fk P w K mg base 1 ("_law_draw",aG)):∀N R,Fs P w K mg base (N+2) "_law_relet" (aq 41) (cB R N)
 | 0,R=>i4 a fun _ _ h=>by cases h;exact absurd ‹Ex _ 0 _› jJ
 |N+1,R=>bR T a QD (N7 R N) ⟨lw.up (by omega),lp.up (by omega),(Ep T a lw lp hf h2 h3 N R).up (Tf _),(hf _ R).up (by omega),h2.up (by omega),h3.up (by omega),trivial⟩ (fun _ _ h=>by rcases h with ⟨_,_,_,_,_,_,_,_,e,_⟩;exact ln e) trivial
theorem DF (T:Tx K mg)(a:Dx K mg "_law_expr" 33)(ab:Dx K mg "_law_bound" 31)(ac:Dx K mg "_law_called" 32)(hd:Fk P w K mg base 1 ("_law_draw",aG))(hl:∀R,Fk P w K mg base 3 ("_law_leaf",cn R))(hp:∀R,Fk P w K mg base 4 ("_law_copied",b7 R))(R:Rl):∀b,Fs P w K mg base (2*b+5) "_law_expr" (aq 33) (bL R b)
 | 0=>i4 a fun _ _ h=>by rcases h with ⟨_,_,_,_,_,_,_,_,_,_,_,_,h⟩;exact absurd h (by decide)
 |b+1=>by have ih:=DF T a ab ac hd hl hp R b;have hb:=bR (k:=2*b+5) T ab QJ (Oe R b) ⟨hd.up (by omega),ih.up (Tf _),trivial⟩ (fun _ _ h=>by rcases h with ⟨_,_,_,_,_,_,_,_,_,e,_⟩;exact ln e) trivial;have hc:=bR (k:=2*b+5) T ac Rq (Pq R b) ⟨(hl R).up (by omega),hd.up (by omega),ih.up (Tf _),trivial⟩ (fun _ _ h=>by rcases h with ⟨_,_,_,_,_,_,_,_,e,_⟩;exact ln e) trivial;exact bR (k:=2*b+6) T a Pz (Mg R b) ⟨hd.up (by omega),(hl R).up (by omega),(hp R).up (by omega),hc.up (Tf _),hb.up (Tf _),ih.up (by omega),trivial⟩ (fun _ _ h=>by rcases h with ⟨_,_,_,_,_,_,_,_,e,_⟩;exact ln e) trivial
end
structure rR (K:W.Frag)(mg:Str->Option Value):Prop where
 T:Tx K mg
 nd:∃tk,mg "NODE"=some (.str "node" tk)
 op:∃tk,mg "OPENED"=some (.str "opened" tk)
 cl:∃tk,mg "CLOSED"=some (.str "closed" tk)
 a_head:Dx K mg "head" 4
 a_parts:Dx K mg "parts" 5
 a_steps:Dx K mg "steps" 6
 a_bare_head:Dx K mg "bare_head" 11
 a_bare_rows:Dx K mg "bare_rows" 12
 a_holed:Dx K mg "holed" 14
 a_scopes:Dx K mg "scopes" 15
 a_same_program:Dx K mg "same_program" 16
 a_l_feed:Dx K mg "_law_feed" 18
 a_l_draw:Dx K mg "_law_draw" 19
 a_l_value:Dx K mg "_law_value" 20
 a_l_spelled:Dx K mg "_law_spelled" 21
 a_l_name:Dx K mg "_law_name" 22
 a_l_names:Dx K mg "_law_names" 23
 a_l_parts:Dx K mg "_law_parts" 24
 a_l_with:Dx K mg "_law_with" 25
 a_l_nodes:Dx K mg "_law_nodes" 26
 a_l_work:Dx K mg "_law_work" 27
 a_l_right:Dx K mg "_law_right" 28
 a_l_leaf:Dx K mg "_law_leaf" 29
 a_l_spoilt:Dx K mg "_law_spoilt" 30
 a_l_bound:Dx K mg "_law_bound" 31
 a_l_called:Dx K mg "_law_called" 32
 a_l_expr:Dx K mg "_law_expr" 33
 a_l_world:Dx K mg "_law_world" 34
 a_l_seeds:Dx K mg "_law_seeds" 35
 a_l_program:Dx K mg "_law_program" 36
 a_l_copied:Dx K mg "_law_copied" 37
 a_l_bared:Dx K mg "_law_bared" 38
 a_l_canon:Dx K mg "_law_canon" 39
 a_l_free:Dx K mg "_law_free" 40
 a_l_relet:Dx K mg "_law_relet" 41
 a_l_recast:Dx K mg "_law_recast" 42
 a_l_calls:Dx K mg "_law_calls" 43
 a_l_by_calls:Dx K mg "_law_by_calls" 44
 a_l_all:Dx K mg "_law_all" 45
 a_l_changed:Dx K mg "_law_changed" 46
 a_l_other:Dx K mg "_law_other" 47
 a_law:Dx K mg "law" 48
 a_own_number:Dx K mg "own_number" 8
 a_owned:Dx K mg "owned" 9
section
theorem la {k M:Nat}{sp:Rl->Nat->aM}(h:∀N,N<=M->∀R,Fs P w K mg base j x st (sp R N))(e:j<=k):Fk P w K mg base k (x,fun a q=>∃R N,N<=M/\sp R N a q):=
 Fs.any (ι := Rl×{N // N<=M}) (sp:=fun i=>sp i.1 i.2.1) (RA,⟨0,T3 _⟩) (fun i=>h i.2.1 i.2.2 i.1) (fun _ _ ⟨R,N,hN,z⟩=>⟨(R,⟨N,hN⟩),z⟩) e
end
theorem Kk (D:rR K mg):Fs P w K mg base 21 "law" (aq 48) fJ:=by
 have T:=D.T;have draw:Fs P w K mg base 1 "_law_draw" (aq 19) aG:=bR T D.a_l_draw PR Mo trivial (fun _ _ h=>by rcases h with ⟨_,_,_,_,e,_⟩;exact ln e) trivial;have jZ:Fs P w K mg base 1 "_law_spelled" (aq 21) bD:=bR T D.a_l_spelled RM QA trivial (fun _ _ h=>by rcases h with ⟨_,_,e,_⟩;exact ln e) trivial;have value:Fs P w K mg base 2 "_law_value" (aq 20) di:=bR T D.a_l_value QS Oq ⟨draw.up,trivial⟩ (fun _ _ h=>by rcases h with ⟨_,_,_,e,_⟩;exact ln e) trivial;have name:Fs P w K mg base 2 "_law_name" (aq 22) bp:=bR T D.a_l_name PN Mj ⟨draw.up,jZ.up,trivial⟩ (fun _ _ h=>by rcases h with ⟨_,_,_,_,_,_,e,_⟩;exact ln e) trivial;have names:Fs P w K mg base 3 "_law_names" (aq 23) cE:=bR T D.a_l_names QQ Om ⟨name.up,trivial⟩ (fun _ _ h=>by rcases h with ⟨_,_,_,_,e,_⟩;exact ln e) trivial;have bq:Fs P w K mg base 1 "_law_parts" (aq 24) ag:=bR T D.a_l_parts QO Px trivial (fun _ _ h=>by rcases h with ⟨_,_,e,_⟩;exact ln e) trivial;have gU:Fs P w K mg base 1 "_law_with" (aq 25) aE:=bR T D.a_l_with PL Oj trivial (fun _ _ h=>by rcases h with ⟨_,_,_,_,e,_⟩;exact ln e) trivial;have oX:Fs P w K mg base 1 "_law_world" (aq 34) dh:=bR T D.a_l_world QI Od trivial (fun _ _ h=>by rcases h with ⟨_,_,_,_,_,_,_,_,e,_⟩;exact ln e) trivial;have kJ:Fs P w K mg base 1 "parts" (aq 5) b6:=bR T D.a_parts Oz Pn trivial (fun _ _ h=>by rcases h with ⟨_,_,e,_⟩;exact ln e) trivial;obtain⟨t1,hN⟩:=D.nd;obtain⟨t2,hO⟩:=D.op;obtain⟨t3,hC⟩:=D.cl;have ph:Fs P w K mg base 2 "steps" (aq 6) dj:=bR T D.a_steps Ox NW ⟨kJ.up,trivial⟩ (fun _ _ h=>by rcases h with ⟨_,_,_,e,_⟩;exact ln e) ⟨⟨.str "node",_,hN,⟨t1,rfl⟩,fun G=>.at (by decide+kernel)⟩,⟨.str "closed",_,hC,⟨t3,rfl⟩,fun G=>.at (by decide+kernel)⟩,⟨.str "opened",_,hO,⟨t2,rfl⟩,fun G=>.at (by decide+kernel)⟩,trivial⟩;have pI:Fk P w K mg base 3 ("owned",dk):=by obtain⟨f,d,F⟩:=D.a_owned;obtain⟨fo,do',Fo⟩:=D.a_own_number;exact⟨3,f,d,_,NU F.F ph.up Fo.F Fo.b Fo.m D.nd D.op (by decide),Tf _,F.m,F.F.kp,F.b⟩
 have mN:Fs P w K mg base 1 "head" (aq 4) dq:=bR T D.a_head Mu L5 trivial (fun _ _ h=>by rcases h with ⟨_,_,e,_⟩;exact ln e) trivial;have qy:Fs P w K mg base 2 "bare_head" (aq 11) bP:=bR T D.a_bare_head RP RH ⟨mN.up,trivial⟩ (fun _ _ h=>by rcases h with ⟨_,_,_,e,_⟩;exact ln e) trivial;have qx:Fs P w K mg base 4 "bare_rows" (aq 12) bN:=bR T D.a_bare_rows RO RG ⟨pI.up,kJ.up,qy.up,trivial⟩ (fun _ _ h=>by rcases h with ⟨_,_,_,e,_⟩;exact ln e) trivial;have p9:Fs P w K mg base 1 "holed" (aq 14) dm:=bR T D.a_holed Ov N0 trivial (fun _ _ h=>by rcases h with ⟨_,_,e,_⟩;exact ln e) trivial;have mf:Fs P w K mg base 5 "scopes" (aq 15) cA:=bR T D.a_scopes PX Pm ⟨p9.up,qx.up,trivial⟩ (fun _ _ h=>by rcases h with ⟨_,_,e,_⟩;exact ln e) trivial;have same:Fs P w K mg base 6 "same_program" (aq 16) eW:=bR T D.a_same_program Sv L0 ⟨mf.up,trivial⟩ (fun _ _ h=>by rcases h with ⟨_,_,_,_,e,_⟩;exact ln e) trivial;have dH:∀R,Fs P w K mg base 3 "_law_leaf" (aq 29) (cn R):=fun R=>bR T D.a_l_leaf PF (Mh R) ⟨draw.up,value.up,trivial⟩ (fun _ _ h=>by rcases h with ⟨_,_,_,_,_,_,e,_⟩;exact ln e) trivial;have mW:∀R,Fs P w K mg base 4 "_law_copied" (aq 37) (b7 R):=fun R=>bR T D.a_l_copied Ro (Pr R) ⟨(dH R).up,trivial⟩ (fun _ _ h=>by rcases h with ⟨_,_,_,_,_,_,_,_,e,_⟩;exact ln e) trivial;have expr:=fun R=>DF T D.a_l_expr D.a_l_bound D.a_l_called draw.up (fun R=>(dH R).up) (fun R=>(mW R).up) R;have nodes_:=Eu T D.a_l_nodes bq.up;have all_:=CW T D.a_l_all bq.up;have right_:=Et T D.a_l_right bq.up;have calls_:=Es T D.a_l_calls bq.up;have by_calls_:=GJ T D.a_l_by_calls bq.up gU.up;have free_:=DH T D.a_l_free bq.up;have bared_:=Er T D.a_l_bared bq.up gU.up;have work_:=DG T D.a_l_work bq.up;have spoilt_:=Fj T D.a_l_spoilt bq.up nodes_ gU.up;have relet_:=Ep T D.a_l_relet gU.up bq.up free_ name.up draw.up;have kW:Fk P w K mg base 15 ("_law_free",yE):=la (M:=14) (fun N hN R=>(free_ N R).lift (by omega)) (Tf _);have mq:Fk P w K mg base 9 ("_law_relet",FK):=la (M:=7) (fun N hN R=>(relet_ N R).lift (by omega)) (Tf _);have mD:Fk P w K mg base 8 ("_law_nodes",FH):=la (M:=7) (fun N hN R=>(nodes_ N R).lift (by omega)) (Tf _);have wL:Fk P w K mg base 8 ("_law_all",DP):=la (M:=7) (fun N hN R=>(all_ N R).lift (by omega)) (Tf _);have ml:Fk P w K mg base 15 ("_law_right",FG):=la (M:=14) (fun N hN R=>(right_ N R).lift (by omega)) (Tf _);have mX:Fk P w K mg base 8 ("_law_calls",FF):=la (M:=7) (fun N hN R=>(calls_ N R).lift (by omega)) (Tf _);have Jz:Fk P w K mg base 8 ("_law_by_calls",C3):=la (M:=7) (fun N hN R=>(by_calls_ N R).lift (by omega)) (Tf _);have qt:Fk P w K mg base 19 ("_law_expr",EY):=la (M:=7) (fun N hN R=>(expr R N).lift (by omega)) (Tf _);have ma:Fk P w K mg base 14 ("_law_seeds",FO):=Fs.any RA (fun R=>bR (k:=13) T D.a_l_seeds QH (Oc R) ⟨(expr R 4).up,trivial⟩ (fun _ _ h=>by rcases h with ⟨_,_,_,_,_,e,_⟩;exact ln e) trivial) (fun _ _ z=>z);have oY:Fk P w K mg base 5 ("_law_work",EX):=Fs.any RA (fun R=>work_ 4 R) (fun _ _ z=>z);have j0:Fs P w K mg base 20 "_law_program" (aq 36) eX:=bR T D.a_l_program RJ Qz ⟨names.up,draw.up,name.up,oX.up,qt.up,oY.up,ma.up,trivial⟩ (fun _ _ h=>by rcases h with ⟨_,_,_,_,e,_⟩;exact ln e) trivial;have canon:Fs P w K mg base 16 "_law_canon" (aq 39) (dr 14):=bR T D.a_l_canon QF (N6 14) ⟨(bared_ 14 RA).up,trivial⟩ (fun _ _ h=>by rcases h with ⟨_,_,e,_⟩;exact ln e) trivial;have mv:Fs P w K mg base 16 "_law_recast" (aq 42) cC:=bR T D.a_l_recast Rm Po ⟨kW.up,name.up,draw.up,mq.up,trivial⟩ (fun _ _ h=>by rcases h with ⟨_,_,_,_,_,_,_,_,e,_⟩;exact ln e) trivial;have jY:Fk P w K mg base 8 ("_law_spoilt",Ge):=Fs.any (ι := Rl×Nat×{N // N<=7}) (sp:=fun i=>bC i.1 i.2.1 i.2.2.1) (RA,0,⟨0,T3 _⟩) (fun i=>(spoilt_ _ i.1 i.2.1).lift (by have:=i.2.2.2;omega)) (fun _ _ ⟨R,m,N,_,hN,z⟩=>⟨(R,m,⟨N,hN⟩),z⟩) (Tf 8);have jh:Fk P w K mg base 2 ("_law_changed",GQ):=Fs.any RA (fun R=>bR (k:=1) T D.a_l_changed RI (Qy R) ⟨draw.up,trivial⟩ (fun _ _ h=>by rcases h with ⟨_,_,_,_,_,_,_,e,_⟩;exact ln e) trivial) (fun _ _ z=>z);have mB:Fk P w K mg base 16 ("_law_other",Fl):=Fs.any RA (fun R=>bR (k:=15) T D.a_l_other QB (N1 R) ⟨draw.up,mD.up,jY.up,jh.up,wL.up,ml.up,mX.up,name.up,Jz.up,trivial⟩ (fun _ _ h=>by rcases h with ⟨_,_,_,_,_,_,_,e,_⟩;exact ln e) trivial) (fun _ _ z=>z);have wF:Fs P w K mg base 1 "_law_feed" (aq 18) ff:=bR T D.a_l_feed PU LL trivial (fun _ _ h=>by rcases h with ⟨_,e,_⟩;exact ln e) trivial;exact bR T D.a_law KD Kl ⟨wF.up,j0.up,kW.up,names.up,canon.up,mv.up,same.up,mB.up,draw.up,trivial⟩ (fun _ _ h=>by rcases h with ⟨_,e,_⟩;exact ln e) trivial
theorem LK {P:List Value->Prop}(h:P []):∀us:List Value,us.length=0->P us:=fun us e=>by
 cases us with
 |nil=>exact h
 |cons a r=>injection e
theorem us_len1 {P:List Value->Prop}(h:∀a,P [a]):∀us:List Value,us.length=1->P us:=fun us e=>by
 cases us with
 |nil=>injection e
 |cons a r=>exact LK (P:=fun r=>P (a::r)) (h a) r (Nat.succ.inj e)
theorem us_len2 {P:List Value->Prop}(h:∀a b,P [a,b]):∀us:List Value,us.length=2->P us:=fun us e=>by
 cases us with
 |nil=>injection e
 |cons a r=>exact us_len1 (P:=fun r=>P (a::r)) (h a) r (Nat.succ.inj e)
theorem us_len3 {P:List Value->Prop}(h:∀a b c,P [a,b,c]):∀us:List Value,us.length=3->P us:=fun us e=>by
 cases us with
 |nil=>injection e
 |cons a r=>exact us_len2 (P:=fun r=>P (a::r)) (h a) r (Nat.succ.inj e)
theorem us_len4 {P:List Value->Prop}(h:∀a b c d,P [a,b,c,d]):∀us:List Value,us.length=4->P us:=fun us e=>by
 cases us with
 |nil=>injection e
 |cons a r=>exact us_len3 (P:=fun r=>P (a::r)) (h a) r (Nat.succ.inj e)
theorem us_len5 {P:List Value->Prop}(h:∀a b c d e,P [a,b,c,d,e]):∀us:List Value,us.length=5->P us:=fun us e=>by
 cases us with
 |nil=>injection e
 |cons a r=>exact us_len4 (P:=fun r=>P (a::r)) (h a) r (Nat.succ.inj e)
theorem us_len6 {P:List Value->Prop}(h:∀a b c d e f,P [a,b,c,d,e,f]):∀us:List Value,us.length=6->P us:=fun us e=>by
 cases us with
 |nil=>injection e
 |cons a r=>exact us_len5 (P:=fun r=>P (a::r)) (h a) r (Nat.succ.inj e)
abbrev hB (n:Str)(S:Stmt)(ps:List Str):Prop:=∀(kV dc pm:Value) (an:Option Addr) (cd ct:Value) (us:List Value),us.length=ps.length->bindArgs (PySem.W.fnOf n n (lP S) (ju S) (ej S) .none kV dc pm an cd ct) ⟨us,[]⟩=pure (ps.zip us)
section
theorem at_mk {f:Addr}{oc kV dc pm cd ct:Value}{od an:Option Addr}{sl:Array (Option Value)}(X:K.In h)(G:h.Ns mainGlobals mg)(hb:hB x (aq i) (jL (aq i)))(a:PySem.W.nsIn K mainGlobals x=some (some (.ref f)))(l:K.lookup f=some ⟨oc,od,.func (PySem.W.fnOf x x (lP (aq i)) (ju (aq i)) (ej (aq i)) .none kV dc pm an cd ct),sl⟩)(c:PySem.W.codeIn K cd x=true)(k:PySem.W.keepIn K (.ref f)=true):Dx K mg x i:=
 have F:=Lg (st:=aq i) l c k
 ⟨f,_,F,F.binds hb,PySem.W.mg_of X G a⟩
theorem tk_mk {y:Str}{tk:Tok}(X:K.In h)(G:h.Ns mainGlobals mg)(a:PySem.W.nsIn K mainGlobals x=some (some (.str y tk))):∃tk,mg x=some (.str y tk):=⟨tk,PySem.W.mg_of X G a⟩
theorem kt_mk (k0:PySem.W.kitOne K (.type "NoneType") (.type T)=some (iu "NoneType" T))(k1:PySem.W.kitOne K (.type "bool") (.type T)=some (iu "bool" T))(k2:PySem.W.kitOne K (.type "int") (.type T)=some (iu "int" T))(k3:PySem.W.kitOne K (.type "str") (.type T)=some (iu "str" T))(k4:PySem.W.kitOne K (.type "tuple") (.type T)=some (iu "tuple" T))(k5:PySem.W.kitOne K (.type "list") (.type T)=some (iu "list" T))(k6:PySem.W.kitOne K (.type "dict") (.type T)=some (iu "dict" T)):qB K T:=by intro n hn;simp only [Ts,TQ,T7] at hn;rcases hn with rfl|rfl|rfl|rfl|rfl|rfl|rfl <;> assumption
theorem tx_mk (X:K.In h)(G:h.Ns mainGlobals mg)(q0:PySem.W.nsIn K mainGlobals "range"=some none)(q1:PySem.W.nsIn K mainGlobals "list"=some none)(q2:PySem.W.nsIn K mainGlobals "repr"=some none)(q3:PySem.W.nsIn K mainGlobals "isinstance"=some none)(q4:PySem.W.nsIn K mainGlobals "bool"=some none)(q5:PySem.W.nsIn K mainGlobals "len"=some none)(q6:PySem.W.nsIn K mainGlobals "tuple"=some none)(q7:PySem.W.nsIn K mainGlobals "int"=some none)(q8:PySem.W.nsIn K mainGlobals "sum"=some none)(q9:PySem.W.nsIn K mainGlobals "dict"=some none)(Ii:PySem.W.nsIn K mainGlobals "zip"=some none)(Ih:PySem.W.nsIn K mainGlobals "reversed"=some none)(Ig:PySem.W.nsIn K mainGlobals "all"=some none)(Ie:PySem.W.nsIn K mainGlobals "any"=some none)(Ic:PySem.W.nsIn K mainGlobals "enumerate"=some none)(t0:qB K "tuple")(t1:qB K "bool")(t2:qB K "int"):Tx K mg:=by
 refine⟨fun x hx=>?_,fun T hT=>?_⟩
 ·unfold wK at hx;simp only [Ts,TQ,T7] at hx;rcases hx with rfl|rfl|rfl|rfl|rfl|rfl|rfl|rfl|rfl|rfl|rfl|rfl|rfl|rfl|rfl <;> (refine PySem.W.mg_none_of X G ?_;assumption)
 ·unfold vk at hT;simp only [Ts,TQ,T7] at hT;rcases hT with rfl|rfl|rfl <;> assumption
theorem Eo:∀ns:List Int,IsTs K G (ns.map V.int) (ns.map ti)
 |[]=>.nil
 |n::ns=>.cons (.at rfl) (Eo ns)
theorem all_mk {l:PySem.W.OpenLaw}{fa:Addr}(Jd:mg "law"=some (.ref fa))(D:rR K mg):
  ∃fd:FuncData,(∀(s:Shared) (v:Value),BindsTo s fd ⟨[v],[]⟩ [("_law_script",v)])/\∀base:Heap,K.In base->base.Ns mainGlobals mg->FnOk l.prog w K mg base f6 21 fa fd ["_law_script"] (iH K fJ):=by
 obtain⟨f,d,F⟩:=D.a_law;have e:=Jd.symm.trans F.m;cases e;refine⟨d,?_,fun base _ _=>?_⟩
 ·obtain⟨_,_,_,_,_,_,_,_,_,rfl,_⟩:=F.F.ex;exact fun s v=>.of_eq rfl
 ·obtain⟨f',d',F',h⟩:=Kk (P:=l.prog) (w:=w) (base:=base) D
  obtain⟨rfl,rfl⟩:=F.same F';have e:jL (aq 48)=(["_law_script"]:List Str):=by decide+kernel
  rw[e] at h;exact h
end
theorem walk {l:PySem.W.OpenLaw}{q:Program}{loose:List Str}{XP:(Str->Option Value)->Heap->Prop}{YP:World->Heap->Prop}{d:DefRec}{K:Params->W.Frag}(hn:l.most=some 63)(qh:d.params.defaults = [])
  (hY:∀(w:World) (h:Heap),YP w h->(K w.params).In h)
  (F:∀(w:World) (mg:Str->Option Value) (fa:Addr) (h:Heap),(K w.params).In h->h.Ns mainGlobals mg->mg d.name=some (.ref fa) →
   ∃fd:FuncData,(∀(s:Shared) (u:Value),BindsTo s fd ⟨[u],[]⟩ [("_law_script",u)])/\∀base:Heap,(K w.params).In base->base.Ns mainGlobals mg->FnOk l.prog w (K w.params) mg base f6 21 fa fd ["_law_script"] (iH (K w.params) fJ)):
  PySem.W.WalkO q loose XP YP l.row.toRowW d [] (fun f vs=>PySem.call f vs):=
 L2.walk_of (n:=63) (k:=21) (x:="_law_script") (CX:=fun _=>f6) (sp:=fun w=>iH (K w.params) fJ) hn (by decide) qh ⟨rfl,rfl,by decide,by decide⟩ hY F (fun _ H a ns hl _ hS=>⟨H,[.fz (.scr (ns.map ti))],[],fun r _=>r=fb true,fun _ _ z=>z,.fz (.scr hS (Eo ns)) .nil,.nil,⟨ns,rfl,Ue hl (by decide),rfl⟩,fun r ss v G' H' e _ _ ro=>by
  subst e;cases (show IsT _ G' v (.at (.bl true)) from ro)
  rfl⟩) fun _ _ _ _ _ z=>z
end M50
open PySem PySem.W PyProof.Rows M50
set_option maxRecDepth 100000 in
set_option maxHeartbeats 0 in
theorem PySem.Challenge.cw_likepieces_k50_programs_the_same_holds : PySem.Challenge.rw_likepieces_k50_programs_the_same.Holds := by
 w_on
 refine holds_law hdS fun sd=>?_
 refine holds_open (q:=hdQ) (loose:=hdL) (Yf:=hdH.obs) (Ya:=hdH.val)
  (XP:=XL hdQ []) (YP:=InK hdK) (N:=hdN) hdT hdH.of
  hdH.keeps (fun s e=>xl_of s (Bool.and_eq_true_iff.mp e).1) XL.keeps (by rfl) (by rfl)
  (by rfl) (fun s e=>recFacts_of (Bool.and_eq_true_iff.mp e).2) (by rfl) sd (by decide+kernel)
  ⟨rfl,rfl,rfl,rfl,rfl,by decide+kernel⟩ ?hw ?hc
 (case hw=>w_witness2)
 k_fill
 refine walk (l:=PySem.Challenge.rw_likepieces_k50_programs_the_same) rfl rfl (K:=hdK) (fun w h Y=>Y) ?F
 case F=>
  intro w mg fa h KX G hmg;refine' all_mk hmg ⟨?dT,?dnd,?dop,?dcl,at_mk KX G (fun _ _ _ _ _ _=>us_len1 fun _=>rfl) ?a4 ?l4 ?c4 ?k4,at_mk KX G (fun _ _ _ _ _ _=>us_len1 fun _=>rfl) ?a5 ?l5 ?c5 ?k5,at_mk KX G (fun _ _ _ _ _ _=>us_len1 fun _=>rfl) ?a6 ?l6 ?c6 ?k6,at_mk KX G (fun _ _ _ _ _ _=>us_len2 fun _ _=>rfl) ?a7 ?l7 ?c7 ?k7,at_mk KX G (fun _ _ _ _ _ _=>us_len1 fun _=>rfl) ?a8 ?l8 ?c8 ?k8,at_mk KX G (fun _ _ _ _ _ _=>us_len2 fun _ _=>rfl) ?a9 ?l9 ?c9 ?k9,at_mk KX G (fun _ _ _ _ _ _=>us_len1 fun _=>rfl) ?a10 ?l10 ?c10 ?k10,at_mk KX G (fun _ _ _ _ _ _=>us_len2 fun _ _=>rfl) ?a11 ?l11 ?c11 ?k11,at_mk KX G (fun _ _ _ _ _ _=>us_len1 fun _=>rfl) ?a12 ?l12 ?c12 ?k12,at_mk KX G (fun _ _ _ _ _ _=>us_len2 fun _ _=>rfl) ?a13 ?l13 ?c13 ?k13,at_mk KX G (fun _ _ _ _ _ _=>us_len1 fun _=>rfl) ?a14 ?l14 ?c14 ?k14,at_mk KX G (fun _ _ _ _ _ _=>us_len2 fun _ _=>rfl) ?a15 ?l15 ?c15 ?k15,at_mk KX G (fun _ _ _ _ _ _=>us_len2 fun _ _=>rfl) ?a16 ?l16 ?c16 ?k16,at_mk KX G (fun _ _ _ _ _ _=>us_len2 fun _ _=>rfl) ?a17 ?l17 ?c17 ?k17,at_mk KX G (fun _ _ _ _ _ _=>us_len1 fun _=>rfl) ?a18 ?l18 ?c18 ?k18,at_mk KX G (fun _ _ _ _ _ _=>us_len2 fun _ _=>rfl) ?a19 ?l19 ?c19 ?k19,at_mk KX G (fun _ _ _ _ _ _=>us_len1 fun _=>rfl) ?a20 ?l20 ?c20 ?k20,at_mk KX G (fun _ _ _ _ _ _=>us_len2 fun _ _=>rfl) ?a21 ?l21 ?c21 ?k21,at_mk KX G (fun _ _ _ _ _ _=>us_len2 fun _ _=>rfl) ?a22 ?l22 ?c22 ?k22,at_mk KX G (fun _ _ _ _ _ _=>us_len3 fun _ _ _=>rfl) ?a23 ?l23 ?c23 ?k23,at_mk KX G (fun _ _ _ _ _ _=>us_len3 fun _ _ _=>rfl) ?a24 ?l24 ?c24 ?k24,at_mk KX G (fun _ _ _ _ _ _=>us_len6 fun _ _ _ _ _ _=>rfl) ?a25 ?l25 ?c25 ?k25,at_mk KX G (fun _ _ _ _ _ _=>us_len5 fun _ _ _ _ _=>rfl) ?a26 ?l26 ?c26 ?k26,at_mk KX G (fun _ _ _ _ _ _=>us_len5 fun _ _ _ _ _=>rfl) ?a27 ?l27 ?c27 ?k27,at_mk KX G (fun _ _ _ _ _ _=>us_len6 fun _ _ _ _ _ _=>rfl) ?a28 ?l28 ?c28 ?k28,at_mk KX G (fun _ _ _ _ _ _=>us_len3 fun _ _ _=>rfl) ?a29 ?l29 ?c29 ?k29,at_mk KX G (fun _ _ _ _ _ _=>us_len2 fun _ _=>rfl) ?a30 ?l30 ?c30 ?k30,at_mk KX G (fun _ _ _ _ _ _=>us_len5 fun _ _ _ _ _=>rfl) ?a31 ?l31 ?c31 ?k31,at_mk KX G (fun _ _ _ _ _ _=>us_len2 fun _ _=>rfl) ?a32 ?l32 ?c32 ?k32,at_mk KX G (fun _ _ _ _ _ _=>us_len1 fun _=>rfl) ?a33 ?l33 ?c33 ?k33,at_mk KX G (fun _ _ _ _ _ _=>us_len2 fun _ _=>rfl) ?a34 ?l34 ?c34 ?k34,at_mk KX G (fun _ _ _ _ _ _=>us_len4 fun _ _ _ _=>rfl) ?a35 ?l35 ?c35 ?k35,at_mk KX G (fun _ _ _ _ _ _=>us_len3 fun _ _ _=>rfl) ?a36 ?l36 ?c36 ?k36,at_mk KX G (fun _ _ _ _ _ _=>us_len1 fun _=>rfl) ?a37 ?l37 ?c37 ?k37,at_mk KX G (fun _ _ _ _ _ _=>us_len4 fun _ _ _ _=>rfl) ?a38 ?l38 ?c38 ?k38,at_mk KX G (fun _ _ _ _ _ _=>us_len1 fun _=>rfl) ?a39 ?l39 ?c39 ?k39,at_mk KX G (fun _ _ _ _ _ _=>us_len4 fun _ _ _ _=>rfl) ?a40 ?l40 ?c40 ?k40,at_mk KX G (fun _ _ _ _ _ _=>us_len3 fun _ _ _=>rfl) ?a41 ?l41 ?c41 ?k41,at_mk KX G (fun _ _ _ _ _ _=>us_len1 fun _=>rfl) ?a42 ?l42 ?c42 ?k42,at_mk KX G (fun _ _ _ _ _ _=>us_len3 fun _ _ _=>rfl) ?a43 ?l43 ?c43 ?k43,at_mk KX G (fun _ _ _ _ _ _=>us_len1 fun _=>rfl) ?a44 ?l44 ?c44 ?k44⟩
  (case dT=>refine' tx_mk KX G ?q0 ?q1 ?q2 ?q3 ?q4 ?q5 ?q6 ?q7 ?q8 ?q9 ?Ii ?Ih ?Ig ?Ie ?Ic (kt_mk ?z0 ?z1 ?z2 ?z3 ?z4 ?z5 ?z6) (kt_mk ?z7 ?z8 ?z9 ?z10 ?z11 ?z12 ?z13) (kt_mk ?z14 ?z15 ?z16 ?z17 ?z18 ?z19 ?z20);(all_goals first|k_is|rfl|decide))
  (case dnd=>refine' tk_mk KX G ?a;(case a=>k_is))
  (case dop=>refine' tk_mk KX G ?a;(case a=>k_is))
  (case dcl=>refine' tk_mk KX G ?a;(case a=>k_is))
  (case a4|l4|c4|k4|a5|l5|c5|k5|a6|l6|c6|k6|a7|l7|c7|k7|a8|l8|c8|k8|a9|l9|c9|k9|a10|l10|c10|k10|a11|l11|c11|k11|a12|l12|c12|k12|a13|l13|c13|k13|a14|l14|c14|k14|a15|l15|c15|k15|a16|l16|c16|k16|a17|l17|c17|k17|a18|l18|c18|k18|a19|l19|c19|k19|a20|l20|c20|k20|a21|l21|c21|k21|a22|l22|c22|k22|a23|l23|c23|k23|a24|l24|c24|k24|a25|l25|c25|k25|a26|l26|c26|k26|a27|l27|c27|k27|a28|l28|c28|k28|a29|l29|c29|k29|a30|l30|c30|k30|a31|l31|c31|k31|a32|l32|c32|k32|a33|l33|c33|k33|a34|l34|c34|k34|a35|l35|c35|k35|a36|l36|c36|k36|a37|l37|c37|k37|a38|l38|c38|k38|a39|l39|c39|k39|a40|l40|c40|k40|a41|l41|c41|k41|a42|l42|c42|k42|a43|l43|c43|k43|a44|l44|c44|k44=>k_is)
