import PyProof.Rows.All
import Wide.All
import OpenK.AllK
import Wide.FinOn
import Lean
import PyProof.EqAt
import PyProof.EqKinds
import PyProof.TupleCall
import PyProof.NeKinds
import PyProof.Rows.SortStr
import PyProof.Rows.SeqMore
import PyProof.Rows.CatFin
import PyProof.MeetsStr
import PyProof.Rows.SumAny
import PyProof.Rows.SortShell
import PyProof.Rows.SetFrom
import PyProof.DictWalks
import PyProof.Rows.SortReads
import KE.KDictSum
import PyProof.ZipIter
import PyProof.Rows.ZipGen
import PyProof.TupleOfGen
import PyProof.TupleOfStr
import KE.KIsAll
import PyProof.Rows.StrJoin2
import PyProof.AttrMissSeq
import KE.KDictOf
import PyProof.DictCompW
import PySem.Challenge.RW_likepieces_k31_tables_told
import PyProof.Rows.Range3
import PyProof.Rows.ReprOcc
import PyProof.Rows.StrAscii
import PyProof.ReprBulk
import PyProof.ReprText
noncomputable section
open List (all_cons all_eq_true any_cons any_eq_true append_assoc append_nil cons_append contains_iff_mem drop_eq_nil_of_le drop_zero eq_nil_of_length_eq_zero filterMap_cons filter_append filter_cons filter_eq_self filter_nil flatMap_append flatMap_cons flatten_cons foldl_cons forIn_cons getElem_mem length_append length_cons length_drop length_filter_le length_map length_nil length_pos_iff length_range length_reverse length_set length_singleton length_take length_zip lookup_cons map_append map_congr_left map_cons map_drop map_map map_nil map_reverse map_take mem_append mem_append_left mem_append_right mem_cons mem_cons_of_mem mem_cons_self mem_filter mem_filterMap mem_map mem_map_of_mem mem_of_getElem? mem_of_mem_drop mem_of_mem_take mem_range mem_reverse mem_singleton nil_append nodup_append nodup_cons nodup_nil not_mem_nil of_mem_zip replicate_succ reverse_append reverse_cons reverse_reverse set_set size_toArray sum_cons take_add_one take_length take_of_length_le zipIdx_cons)
set_option Elab.async false
set_option bootstrap.genMatcherCode false
set_option genSizeOf false
set_option genInjectivity false
local macro_rules|`(tactic|cases $x:ident)=>`(tactic|first|subst (($x):_=_)|(exfalso;injection $x;done)|(injection $x with a b c d;cases a<;>cases b<;>cases c<;>cases d)|(injection $x with a b c;cases a<;>cases b<;>cases c)|(injection $x with a b;cases a<;>cases b)|(injection $x with a;cases a))
set_option linter.all false
set_option maxRecDepth 100000
set_option maxHeartbeats 4000000
def W3:=@PySem.wpAny_bind
def W4:=@Bool.and_eq_true
def W5:=@PySem.Heap.get?_push_of_some
def W6:=@Bool.false_ne_true
def W7.{u}:=@List.mem_cons_of_mem.{u}
def W8.{u}:=@List.mem_cons_self.{u}
def W9:=@Nat.le_refl
def Xa.{u,v}:=@List.length_map.{u,v}
def Xb:=@PySem.wpAny_pure
def Xc.{u}:=@List.getElem?_eq_getElem.{u}
def Xd.{u}:=@List.length_append.{u}
def Xe.{u}:=@List.getElem?_eq_some_iff.{u}
def Xf.{u}:=@List.size_toArray.{u}
def Xg:=@PySem.Heap.get?_push_size
def Xh.{u}:=@if_neg.{u}
def Xi:=@PySem.Heap.lt_size
def Xj.{u}:=@List.mem_cons.{u}
def Xk.{u}:=@if_pos.{u}
def Xl.{u}:=@List.length_cons.{u}
def Xm.{u}:=@List.append_nil.{u}
def Xn.{u}:=@List.mem_append.{u}
def Xo:=@PySem.wpAny_newObj_type
def Xp.{u,v}:=@List.map_cons.{u,v}
def Xq.{u,v}:=@List.map_append.{u,v}
def Xr.{u}:=@List.getElem?_append_right.{u}
def Xs:=@decide_eq_true
def Xt.{u}:=@Option.some.inj.{u}
def Xu:=@Nat.ne_of_lt
def Xv.{u}:=@beq_iff_eq.{u}
def Xw:=@Nat.zero_le
def Xx:=@Nat.lt_of_lt_of_le
def Xy.{u}:=@List.append_assoc.{u}
def Xz:=@PySem.wpAny_call_entry
def XA.{u,v}:=@List.mem_map.{u,v}
def XB:=@PySem.wpAny_field
def XC:=@PySem.wpAny_callSpecial?_slot
def XD:=@PySem.sizeLine_eq
def XE.{u}:=@List.mem_append_right.{u}
def XF.{u}:=@List.getElem?_append_left.{u}
def XG.{u,v}:=@List.getElem?_map.{u,v}
def XH.{u}:=@List.mem_singleton.{u}
def XI:=@decide_eq_true_iff
def XJ.{u}:=@List.length_take.{u}
def XM.{u}:=@List.nil_append.{u}
def XO.{u}:=@List.not_mem_nil.{u}
def XQ.{u}:=@List.length_reverse.{u}
def XR.{u}:=@List.cons_append.{u}
def XS.{u}:=@Array.length_toList.{u}
def XT.{u}:=@List.mem_of_getElem?.{u}
def XU:=@PySem.wpAny_mono
def XW:=@decide_eq_false
def XX.{u}:=@beq_eq_false_iff_ne.{u}
def XY:=@of_decide_eq_true
def XZ:=@Nat.le_trans
def X0:=@PySem.F.plainAttrs_list
def X1:=@PyProof.Rows.slot_tuple_getitem
def X4:=@PySem.Obj.data_mapFields
def X5:=@PySem.Calls.spliced_cons
def X6.{u}:=@List.mem_append_left.{u}
def X7:=@Nat.lt_irrefl
def X8.{u}:=@List.find?_cons.{u}
def X9:=@PySem.Heap.SameBut.update
def Yb.{u}:=@Option.some.injEq.{u}
def Yc:=@PySem.F.slot_dict_get
def Yd.{u,v}:=@congrArg.{u,v}
def Ye:=@PySem.W.kia_one
def Yg.{u}:=@List.contains_iff_mem.{u}
def Yh:=@PyProof.Rows.callWith_type1
def Yi:=@PySem.wpAny_truthy_bool
def Yj:=@Int.toNat_natCast
def Yk:=@PySem.Calls.callWith_builtin
def Yl:=@PySem.builtinLookup_eq_fast
def Ym:=@PySem.Heap.get?_update_self
def Yn:=@PySem.wpAny_seqItems
def Yo:=@or_false
def Yp.{u}:=@List.all_eq_true.{u}
def Yq:=@decide_eq_true_eq
def Yr.{u}:=@List.reverse_cons.{u}
def Ys.{u}:=@List.flatten_cons.{u}
def Yt.{u,v}:=@List.flatMap_cons.{u,v}
def Yu:=@PySem.wpAny_holding
def Yv.{u,v}:=@List.lookup_cons.{u,v}
def Yw.{u}:=@List.length_drop.{u}
def Yx:=@Nat.lt_succ_self
def Yy:=@PySem.wpAny_Call_Name_kw
def Yz:=@PySem.isSubtype_type
def YA:=@PySem.F.slot_dict_keyiterator_next
def YB:=@PySem.Heap.size_push
def YC.{u}:=@List.getElem_mem.{u}
def YD.{u}:=@List.drop_eq_nil_of_le.{u}
def YE:=@Nat.ne_of_gt
def YF:=@PySem.Calls.evalArgs_plain
def YG:=@PySem.wpAny_attempt
def YH.{u}:=@List.nodup_cons.{u}
def YI:=@PySem.wpAny_setField
def YJ.{u}:=@List.replicate_succ.{u}
def YK.{u,v}:=@List.mem_map_of_mem.{u,v}
def YL.{u}:=@List.length_pos_iff.{u}
def YM:=@PySem.F.plainAttrs_dict
def YN:=@Int.eq_ofNat_of_zero_le
def YO:=@PySem.wpAny_typeNameOfWhole_keyiter
def YQ.{u}:=@List.filter_cons.{u}
def YR:=@PySem.F.entry_dict_get
def YS:=@PySem.wpAny_passesOwn
def YT:=@PySem.typeLookup_type
def YU:=@PySem.F.slot_dict_setdefault
def YV.{u,v}:=@Option.map_some.{u,v}
def YW:=@PySem.Obj.isFreed_of_fields
def YX.{u}:=@List.take_of_length_le.{u}
def YY:=@PySem.Calls.spliced_nil
def YZ:=@Bool.not_eq_true'
def Y0:=@PySem.wpAny_rule
def Y1:=@PySem.F.slot_tuple_iterator_next
def Y2.{u}:=@List.nodup_append.{u}
def Y3.{u,v}:=@List.map_nil.{u,v}
def Y4:=@List.length_range
def Y5:=@PySem.mem_of_lookup
def Y6:=@Nat.add_le_add_left
def Y7:=@PySem.wpAny_typeNameOf_keyiter
def Y8:=@PySem.wpAny_comprehension_free
def Y9.{u}:=@if_false.{u}
def Za.{u}:=@List.eq_nil_of_length_eq_zero.{u}
def Zb:=@PySem.F.type_list_append
def Zc:=@PySem.F.slot_list_append
def Zd:=@PySem.wpAny_specialOf
def Ze.{u,v,w}:=@List.map_map.{u,v,w}
def Zf.{u}:=@if_true.{u}
def Zg:=@Bool.eq_iff_iff
def Zh:=@PySem.wpAny_setField_rec
def Zi:=@PySem.wpAny_pyIter_tuple
def Zj:=@Nat.lt_of_le_of_lt
def Zk:=@Int.emod_lt_of_pos
def Zl:=@PySem.wpAny_of_eq
def Zm:=@PySem.wpAny_getItem_str_slice
def Zn.{u}:=@List.mem_reverse.{u}
namespace Lake
open PySem PySem.Spec PyProof.Rows
noncomputable def ku (s:Stmt):Arguments:=match s with
 | .FunctionDef _ a _ _ _ _ _ _ _ _=>a
 |_=>{ posonlyargs:=[],args:=[],vararg:=none,kwonlyargs:=[],kw_defaults:=[],kwarg:=none,defaults:=[] }
noncomputable def iT (s:Stmt):List Stmt:=match s with
 | .FunctionDef _ _ b _ _ _ _ _ _ _=>b
 |_=>[]
noncomputable def cO (s:Stmt):Scope:=match s with
 | .FunctionDef _ _ _ _ _ _ a _ _ _=>a
 |_=>{ kind:=.function,names:=[],isGenerator:=false,isCoroutine:=false }
noncomputable def Qz (s:Stmt):List Stmt:=match s with
 | .ClassDef _ _ _ b _ _ _ _ _ _ _=>b
 |_=>[]
noncomputable def av (i:Nat):Stmt:=PySem.Challenge.pw_likepieces_k31_tables_told.main.body.getD i (.Pass ⟨0,0,0,0⟩)
noncomputable abbrev eT:Obj:=⟨(.type "tuple"),none,(.seq #[] 0),#[]⟩
abbrev eF (m:Value)(n:Str)(i:Nat)(r:Addr):Obj:=⟨(.type "function"),none,(.func (PySem.W.fnOf n n (ku (av i)) (iT (av i)) (cO (av i)) .none .none .none m none (.ref r) .none)),#[]⟩
abbrev mC:=eF (.str "likepieces.trees" 241)
abbrev yp:=eF (.str "likepieces.names" 309)
abbrev ML:=eF (.str "likepieces.bares" 342)
abbrev BU:=eF (.str "likepieces.likes" 352)
abbrev MK:=eF (.str "likepieces.programs" 369)
abbrev uA:=eF (.str "likepieces.pieces" 377)
abbrev BS:=eF (.str "likepieces.tables" 417)
abbrev cV:=eF (.str "law_likepieces_k31_tables_told" 436)
noncomputable abbrev eS (a:Array Value):Obj:=⟨(.type "tuple"),none,(.seq a 0),#[]⟩
noncomputable abbrev eC (n:Str)(a b c:Tok)(l k f:Int)(r s:Addr)(v w:Value)(t:Addr)(m:Int)(d:Tok):Obj:=⟨(.type "code"),none,(.fields #[(.str n a),(.str n b),(.str "/claim/cut.py" c),(.int l 0),(.int k 0),(.int 0 0),(.int 0 0),(.int f 0),(.ref r),(.bool true),(.int 181 0),(.ref s),.none,v,w,(.ref t),(.int m 0),(.int l 0),(.str "/claim/cut.py" d)]),#[]⟩
def qc (i j:Nat):Stmt:=(Qz (av i)).getD j (.Pass ⟨0,0,0,0⟩)
def hdQ:Program:={ PySem.Challenge.pw_likepieces_k31_tables_told with main:={ PySem.Challenge.pw_likepieces_k31_tables_told.main with body:=[av 1,av 2,av 4,av 5,av 6,av 7,av 8,av 9,av 10,av 11,av 12,av 13,av 14,av 16,av 17,av 18,av 20,av 22,av 23,av 25,av 27,av 28,av 29,av 30,av 32,av 33,av 35,av 36,av 37,av 38,av 39,av 40,av 41,av 42,av 43,av 44,av 45,av 46,av 47,av 48,av 49,av 50,av 51,av 52,av 53,av 54,av 55,av 56,av 57,av 58,av 59,av 60,av 61] } }
section
local macro_rules
|`($s:str $t:num $a:num)=>do
 let p:=Lean.mkIdent `P
 `(⟨PySem.PyData.keyHash $p $s,.str $s $t,.ref $a⟩)
|`($s:str $b:num $t:num $l:num $k:num $f:num $j:num $g:ident [$x,*]::$r)=>do
 let m i:=Lean.Syntax.mkNumLit (toString (b.getNat+i))
 let u i:=Lean.Syntax.mkNumLit (toString (t.getNat+i))
 let y:=x.getElems
 let c:=y.size
 let e (d:Nat) (o p:Lean.TSyntax `term) r:=`((nat_lit $(m d):num,eC $s $(u 0) $(u 1) $(u 2) $l $k $f $(m 0) $(m 1) $o $p $(m (d-1)) $(u (c+3)) $(u (c+4)))::(nat_lit $(m (d+1)):num,$g $s $j $(m d))::$r)
 let r<-if c=0 then e 3 (<- `(.none)) (<- `(.none)) r else do
  let z<-y.mapIdxM fun i q=>`(.str $q $(u (i+3)))
  `((nat_lit $(m 2):num,eS #[$z,*])::(nat_lit $(m 3):num,eT)::$(<- e 5 (<- `(.ref $(m 2))) (<- `(.ref $(m 3))) r))
 `((nat_lit $(m 0):num,eT)::$r)
def hdK:Params->W.Frag:=fun P=>
 (nat_lit 2,⟨.none,none,(.dict #[] 0),#[]⟩)::
 (nat_lit 3,⟨(.type "dict"),none,(.dict #[⟨(PySem.PyData.keyHash P "__name__"),(.str "__name__" 165),(.str "law_likepieces_k31_tables_told" 436)⟩,⟨(PySem.PyData.keyHash P "__doc__"),(.str "__doc__" 166),.none⟩,⟨(PySem.PyData.keyHash P "__package__"),(.str "__package__" 167),.none⟩,⟨(PySem.PyData.keyHash P "__loader__"),(.str "__loader__" 168),(.builtin "__main__.__loader__#opaque")⟩,⟨(PySem.PyData.keyHash P "__spec__"),(.str "__spec__" 169),.none⟩,"__annotations__" 170 6,"__builtins__" 171 4,⟨(PySem.PyData.keyHash P "__file__"),(.str "__file__" 173),(.str "/claim/cut.py" 172)⟩,⟨(PySem.PyData.keyHash P "__cached__"),(.str "__cached__" 174),.none⟩,"LikeError" 215 32,"NoPlace" 240 52,⟨(PySem.PyData.keyHash P "NODE"),(.str "NODE" 244),(.str "node" 243)⟩,⟨(PySem.PyData.keyHash P "OPENED"),(.str "OPENED" 246),(.str "opened" 245)⟩,⟨(PySem.PyData.keyHash P "CLOSED"),(.str "CLOSED" 248),(.str "closed" 247)⟩,"is_whole" 255 61,"head" 261 66,"parts" 267 71,"steps" 273 76,"flat" 279 81,"built" 291 88,"paths" 297 93,"way" 308 100,"own_number" 319 107,"owned" 331 114,"free_names" 341 121,"bare_head" 351 128,"shape_head" 362 135,"shape_rows" 368 140,"bodies" 376 145,"place_way" 389 152,"piece_at" 397 159,"node_counts" 410 166,"places_of" 416 171,"gathered" 429 178,"table" 435 183,"_law_feed" 444 190,"_law_draw" 456 197,"_law_value" 464 204,"_law_spelled" 474 211,"_law_name" 489 218,"_law_names" 499 225,"_law_parts" 505 230,"_law_with" 511 235,"_law_nodes" 517 240,"_law_work" 523 245,"_law_right" 529 250,"_law_leaf" 540 257,"_law_turned" 546 262,"_law_spoilt" 558 269,"_law_copied" 564 274,"_law_bound" 570 279,"_law_called" 576 284,"_law_expr" 582 289,"_law_world" 594 296,"_law_seeds" 606 303,"_law_program" 612 308,"_law_all_paths" 618 313,"_law_bodies" 624 318,"_law_pieces" 630 323,"_law_shape" 636 328,"_law_rows" 642 333,"law" 653 340] 62),#[]⟩)::
 (nat_lit 15,⟨(.type "tuple"),none,(.seq #[(.type "ValueError")] 0),#[]⟩)::
 (nat_lit 22,eS #[(.str "" 201)])::
 (nat_lit 23,eT)::
 (nat_lit 25,eS #[(.str "self" 205),(.str "words" 206)])::
 (nat_lit 26,eT)::
 (nat_lit 28,⟨(.type "code"),none,(.fields #[(.str "__init__" 202),(.str "LikeError.__init__" 203),(.str "/claim/cut.py" 204),(.int 4 0),(.int 2 0),(.int 0 0),(.int 0 0),(.int 3 0),(.ref 23),(.bool true),(.int 181 0),(.ref 24),.none,(.ref 25),(.ref 26),(.ref 27),(.int 207 0),(.int 4 0),(.str "/claim/cut.py" 208)]),#[]⟩)::
 (nat_lit 29,⟨(.type "function"),none,(.func (PySem.W.fnOf "__init__" "LikeError.__init__" (ku (qc 1 0)) (iT (qc 1 0)) (cO (qc 1 0)) (.ref 22) .none .none (.str "likepieces.errors" 187) none (.ref 28) .none)),#[]⟩)::
 (nat_lit 30,eT)::
 (nat_lit 31,⟨(.type "dict"),none,(.dict #[⟨(PySem.PyData.keyHash P "__module__"),(.str "__module__" 196),(.str "likepieces.errors" 187)⟩,⟨(PySem.PyData.keyHash P "__firstlineno__"),(.str "__firstlineno__" 200),(.int 2 199)⟩,"__init__" 209 29,"__static_attributes__" 210 30,"__weakref__" 212 33,⟨(PySem.PyData.keyHash P "__doc__"),(.str "__doc__" 213),.none⟩] 3),#[]⟩)::
 (nat_lit 32,⟨(.type "type"),none,(.cls ⟨"LikeError",[(.type "ValueError")],[(.ref 32),(.type "ValueError"),(.type "Exception"),(.type "BaseException"),(.type "object")],31,"LikeError",true,[],[(.ref 52)],false,none,false⟩),#[(some (.ref 15)),none,(some (.str "LikeError" 189)),(some (.str "LikeError" 197)),(some (.builtin "ValueError.__new__")),(some (.bool true))]⟩)::
 (nat_lit 33,⟨(.type "getset_descriptor"),none,(.fields #[(.str "__weakref__" 211),(.ref 32),(.builtin "ExceptionGroup.__weakref__"),.none]),#[]⟩)::
 (nat_lit 36,⟨(.type "tuple"),none,(.seq #[(.ref 32)] 0),#[]⟩)::
 (nat_lit 43,eT)::
 (nat_lit 45,eS #[(.str "self" 231),(.str "place" 232)])::
 (nat_lit 46,eT)::
 (nat_lit 48,⟨(.type "code"),none,(.fields #[(.str "__init__" 228),(.str "NoPlace.__init__" 229),(.str "/claim/cut.py" 230),(.int 8 0),(.int 2 0),(.int 0 0),(.int 0 0),(.int 3 0),(.ref 43),(.bool true),(.int 181 0),(.ref 44),.none,(.ref 45),(.ref 46),(.ref 47),(.int 233 0),(.int 8 0),(.str "/claim/cut.py" 234)]),#[]⟩)::
 (nat_lit 49,⟨(.type "function"),none,(.func (PySem.W.fnOf "__init__" "NoPlace.__init__" (ku (qc 2 0)) (iT (qc 2 0)) (cO (qc 2 0)) .none .none .none (.str "likepieces.errors" 187) none (.ref 48) .none)),#[]⟩)::
 (nat_lit 50,eS #[(.str "place" 236)])::
 (nat_lit 51,⟨(.type "dict"),none,(.dict #[⟨(PySem.PyData.keyHash P "__module__"),(.str "__module__" 223),(.str "likepieces.errors" 187)⟩,⟨(PySem.PyData.keyHash P "__firstlineno__"),(.str "__firstlineno__" 227),(.int 6 226)⟩,"__init__" 235 49,"__static_attributes__" 237 50,⟨(PySem.PyData.keyHash P "__doc__"),(.str "__doc__" 238),.none⟩] 2),#[]⟩)::
 (nat_lit 52,⟨(.type "type"),none,(.cls ⟨"NoPlace",[(.ref 32)],[(.ref 52),(.ref 32),(.type "ValueError"),(.type "Exception"),(.type "BaseException"),(.type "object")],51,"NoPlace",true,[],[],false,none,false⟩),#[(some (.ref 36)),none,(some (.str "NoPlace" 216)),(some (.str "NoPlace" 224)),(some (.builtin "ValueError.__new__")),(some (.bool true))]⟩)::
 "is_whole" 55 249 15 1 3 7 mC ["thing"]::
 "head" 62 256 17 1 3 8 mC []::
 "parts" 67 262 19 1 3 9 mC []::
 "steps" 72 268 21 1 3 10 mC []::
 "flat" 77 274 33 1 3 11 mC []::
 "built" 82 280 35 1 3 12 mC ["rows","done","lead","many","start","inner"]::
 "paths" 89 292 43 1 3 13 mC []::
 "way" 94 298 52 2 3 14 mC ["e","path","found","at","inner"]::
 "own_number" 101 311 61 3 3 16 yp ["node","lets","level"]::
 "owned" 108 320 65 1 3 17 yp ["e","rows","lets","level","deed","node"]::
 "free_names" 115 332 79 1 3 18 yp ["e","seen","node","own"]::
 "bare_head" 122 344 86 2 3 20 ML ["node","own"]::
 "shape_head" 129 354 93 3 3 22 BU ["node","own","numbers"]::
 "shape_rows" 136 363 99 1 3 23 BU []::
 "bodies" 141 371 103 1 3 25 MK []::
 "place_way" 146 379 107 2 3 27 uA ["program","place","number","path","trees"]::
 "piece_at" 153 390 118 2 3 28 uA ["program","place"]::
 "node_counts" 160 398 120 1 3 29 uA ["e","counts","done","lead","many","start","count"]::
 "places_of" 167 411 130 2 3 30 uA []::
 "gathered" 172 419 137 2 3 32 BS ["program","least","found","place","rows"]::
 "table" 179 430 143 2 3 33 BS []::
 "_law_feed" 184 438 147 1 3 35 cV ["_law_script"]::
 "_law_draw" 191 445 149 2 3 36 cV ["_law_feed_here","_law_many","_law_found","_law_at","_law_cell","_law_number"]::
 "_law_value" 198 457 166 1 3 37 cV ["_law_feed_here","_law_way"]::
 "_law_spelled" 205 465 173 2 3 38 cV ["_law_number","_law_long","_law_word","_law_k"]::
 "_law_name" 212 475 179 2 3 39 cV ["_law_feed_here","_law_taken","_law_words","_law_way","_law_long","_law_number","_law_name_here","_law_word","_law_at"]::
 "_law_names" 219 490 201 2 3 40 cV ["_law_feed_here","_law_many","_law_names_here","_law_k"]::
 "_law_parts" 226 500 206 1 3 41 cV []::
 "_law_with" 231 506 208 2 3 42 cV []::
 "_law_nodes" 236 512 210 1 3 43 cV []::
 "_law_work" 241 518 212 2 3 44 cV []::
 "_law_right" 246 524 219 2 3 45 cV []::
 "_law_leaf" 251 530 225 3 3 46 cV ["_law_feed_here","_law_world_here","_law_bound_here","_law_way","_law_some"]::
 "_law_turned" 258 541 233 3 3 47 cV []::
 "_law_spoilt" 263 547 237 3 3 48 cV ["_law_e","_law_at","_law_leaf_here","_law_inner","_law_k","_law_long"]::
 "_law_copied" 270 559 248 5 3 49 cV []::
 "_law_bound" 275 565 266 6 3 50 cV []::
 "_law_called" 280 571 277 5 3 51 cV []::
 "_law_expr" 285 577 286 5 3 52 cV []::
 "_law_world" 290 583 313 6 3 53 cV ["_law_names_here","_law_lets","_law_functions","_law_works","_law_room","_law_toil"]::
 "_law_seeds" 297 595 315 3 3 54 cV ["_law_feed_here","_law_world_here","_law_many","_law_found","_law_k","_law_small"]::
 "_law_program" 304 607 324 2 3 55 cV []::
 "_law_all_paths" 309 613 347 1 3 56 cV []::
 "_law_bodies" 314 619 352 1 3 57 cV []::
 "_law_pieces" 319 625 354 2 3 58 cV []::
 "_law_shape" 324 631 359 3 3 59 cV []::
 "_law_rows" 329 637 370 2 3 60 cV []::
 "law" 334 643 376 1 3 61 cV ["_law_script","_law_feed_here","_law_program_here","_law_some","_law_least"]::[]
end
noncomputable def Mm:List Addr:=[2,3,15,22,23,25,26,28,29,30,31,32,33,36,43,45,46,48,49,50,51,52,55,57,58,60,61,62,65,66,67,70,71,72,75,76,77,80,81,82,84,85,87,88,89,92,93,94,96,97,99,100,101,103,104,106,107,108,110,111,113,114,115,117,118,120,121,122,124,125,127,128,129,131,132,134,135,136,139,140,141,144,145,146,148,149,151,152,153,155,156,158,159,160,162,163,165,166,167,170,171,172,174,175,177,178,179,182,183,184,186,187,189,190,191,193,194,196,197,198,200,201,203,204,205,207,208,210,211,212,214,215,217,218,219,221,222,224,225,226,229,230,231,234,235,236,239,240,241,244,245,246,249,250,251,253,254,256,257,258,261,262,263,265,266,268,269,270,273,274,275,278,279,280,283,284,285,288,289,290,292,293,295,296,297,299,300,302,303,304,307,308,309,312,313,314,317,318,319,322,323,324,327,328,329,332,333,334,336,337,339,340]
noncomputable abbrev hdL:List Str:=["LikeError"]
noncomputable abbrev hdN:Nat:=4064
abbrev hdH:PySem.W.Hook:=PySem.W.kHook hdK Mm (fun _=>by kernel_rfl)
theorem hdS:PySem.Challenge.rw_likepieces_k31_tables_told.wellSaid=true:=by decide+kernel
set_option maxHeartbeats 0 in
open PySem.W.Fast in
theorem hdT:PySem.W.LeftO (PySem.Challenge.rw_likepieces_k31_tables_told).row.toRowW.prog hdQ hdL (fun s=>PySem.W.xlAt hdQ [] s&&PySem.W.recOk (PySem.W.RowW.records (PySem.Challenge.rw_likepieces_k31_tables_told).row.toRowW) s) (PySem.W.Hook.obs hdH) (PySem.W.Hook.val hdH) hdN:=by intro w;unfold PySem.W.openEnds PySem.W.fencedOpening PySem.W.topFrom;rw[te10274390034422433532,te1435165496053646825,te14289696077712309145,te14082659384304107361,te4187177175401517315,te14364793385576792824,te8920871248978507458,te5923862056798008813];kernel_rfl
section
abbrev aj:=Sum Int Str
noncomputable def oH:aj->Value->Bool
 | .inl k,v=>Value.isInt k v
 | .inr x,v=>Value.isStrOf x v
noncomputable def Wa (w:World):aj->Int
 | .inl k=>hashInt k
 | .inr x=>hashStr w x
variable {B G:List Value}{x L:Str}{u:Value}{a b it C:Addr}{P:Program}{w:World}{h h' base:Heap}{q I J:Type}{e O iter:Expr}{S:List (Addr×Obj)}{t' i j:Nat}{Q:Value->Shared->Prop}{K:W.Frag}{st:Stmt}{es:List Expr}{M p R:Pos}{body:List Stmt}{fp:List Addr}{mg:Str->Option Value}{U:FuncData}{ps:List Str}{scope:Scope}{T:String}{Y:Array Value}
theorem jm:∀{k:aj}{v:Value},oH k v=true->(∃i t,k=Sum.inl i/\v=Value.int i t)∨(∃x t,k=Sum.inr x/\v=Value.str x t)
 | .inl i,v,h=>by obtain⟨t,e⟩:=Value.isInt_shape (k:=i) (v:=v) h;exact .inl ⟨i,t,rfl,e⟩
 | .inr x,v,h=>by obtain⟨t,e⟩:=Value.isStrOf_shape (x:=x) (v:=v) h;exact .inr ⟨x,t,rfl,e⟩
theorem TN (i:Int)(t:Tok):oH (.inl i) (.int i t)=true:=by simp [oH,Value.isInt]
theorem TM (x:Str)(t:Tok):oH (.inr x) (.str x t)=true:=by simp [oH,Value.isStrOf]
theorem OB (a b:Int):decide ((Sum.inl a:aj)=Sum.inl b)=(a==b):=by by_cases e:a=b;subst e;simp;have h:¬ (Sum.inl a:aj)=Sum.inl b:=fun q=>e (Sum.inl.inj q);rw[XW h];exact(XX.mpr e).symm
theorem OA (a b:Str):decide ((Sum.inr a:aj)=Sum.inr b)=decide (a=b):=by by_cases e:a=b;subst e;simp;have h:¬ (Sum.inr a:aj)=Sum.inr b:=fun q=>e (Sum.inr.inj q);rw[XW h,XW e]
theorem Oz (a:Int)(b:Str):decide ((Sum.inl a:aj)=Sum.inr b)=false:=XW (fun q=>nomatch q)
theorem Oy (a:Str)(b:Int):decide ((Sum.inr a:aj)=Sum.inl b)=false:=XW (fun q=>nomatch q)
def bg (prog:Program)(w:World):PySem.KeyKind prog w aj where
 is:=oH
 hash:=Wa w
 inj:=fun v a b ha hb=>by
  rcases jm ha with ⟨i,t,rfl,rfl⟩|⟨x,t,rfl,rfl⟩;rcases jm hb with ⟨j,u,rfl,e⟩|⟨y,u,rfl,e⟩;injection e with e1 _;rw[e1];exact nomatch e
  rcases jm hb with ⟨j,u,rfl,e⟩|⟨y,u,rfl,e⟩;exact nomatch e
  injection e with e1 _;rw[e1]
 byValue:=fun k v h=>by rcases jm h with ⟨i,t,rfl,rfl⟩|⟨x,t,rfl,rfl⟩ <;> rfl
 pyHash:=fun hv h=>by rcases jm hv with ⟨i,t,rfl,rfl⟩|⟨x,t,rfl,rfl⟩;exact wpAny_pyHash_int h;exact wpAny_pyHash_str h
 eqBool:=fun hu hv h=>by rcases jm hu with ⟨i,t,rfl,rfl⟩|⟨x,t,rfl,rfl⟩;rcases jm hv with ⟨j,u,rfl,rfl⟩|⟨y,u,rfl,rfl⟩;rw[OB] at h;exact wpAny_eqBool_int h;rw[Oz] at h;exact SeqAt.EqAt.int_str i t y u _ _ _ _ h;rcases jm hv with ⟨j,u,rfl,rfl⟩|⟨y,u,rfl,rfl⟩;rw[Oy] at h;exact SeqAt.EqAt.str_int x t j u _ _ _ _ h;rw[OA] at h;exact wpAny_eqBool_str h
 «strs» := fun k x t v h => by
  rcases jm h with ⟨i,u,rfl,e⟩|⟨y,u,rfl,e⟩;exact nomatch e
  injection e with e1 _;subst e1;cases v <;> rfl
theorem U0 (prog:Program)(w:World)(i:Int)(t:Tok):(bg prog w).is (.inl i) (.int i t)=true:=TN i t
theorem UZ (prog:Program)(w:World)(x:Str)(t:Tok):(bg prog w).is (.inr x) (.str x t)=true:=TM x t
set_option genInjectivity true in
inductive V where
 |non|bl (b:Bool)|int (i:Int)|str (x:Str)|byt (b:Array UInt8)|flt (b:UInt64)|ref (a:Addr)|ty (n:String)
 deriving DecidableEq
def RelV:V->Value->Prop
 | .non,u=>u=Value.none
 | .bl b,u=>u=Value.bool b
 | .int i,u=>∃t,u=Value.int i t
 | .str x,u=>∃t,u=Value.str x t
 | .byt b,u=>∃t,u=Value.bytes b t
 | .flt b,u=>∃t,u=Value.float b t
 | .ref a,u=>u=Value.ref a
 | .ty n,u=>u=Value.type n
abbrev Vals:List V->List Value->Prop:=Paired RelV
variable {xs Z:List V}{y:V}
theorem Vals.length (r:Vals xs B):xs.length=B.length:=Paired.length r
theorem Vals.get:∀{xs:List V}{B:List Value}{i:Nat}{x:V},Vals xs B->xs[i]?=some x->∃u,B[i]?=some u/\RelV x u
 |_,_,_,_,.nil,e=>by simp at e
 |_,_,0,_,.cons r _,e=>by simp at e;subst e;exact⟨_,rfl,r⟩
 |_,_,i+1,x,.cons _ t,e=>by obtain⟨u,h1,a⟩:=Vals.get (i:=i) (x:=x) t (by simpa using e);exact⟨u,by simpa using h1,a⟩
theorem Vals.set {x:V}(r:RelV x u):∀{xs:List V}{B:List Value}(i:Nat),Vals xs B->Vals (xs.set i x) (B.set i u)
 |_,_,_,.nil=>.nil
 |_,_,0,.cons _ t=>.cons r t
 |_,_,i+1,.cons q t=>.cons q (Vals.set r i t)
theorem Vals.append {xs a:List V}{B ws:List Value}(h:Vals xs B)(s:Vals a ws):Vals (xs++a) (B++ws):=by induction h with|nil=>exact s|cons r _ i=>exact .cons r i
theorem Vals.take:∀{xs:List V}{B:List Value}(n:Nat),Vals xs B->Vals (xs.take n) (B.take n)
 |_,_,0,_=>.nil
 |_,_,_+1,.nil=>.nil
 |_,_,n+1,.cons r t=>.cons r (Vals.take n t)
theorem Vals.drop:∀{xs:List V}{B:List Value}(n:Nat),Vals xs B->Vals (xs.drop n) (B.drop n)
 |_,_,0,r=>r
 |_,_,_+1,.nil=>.nil
 |_,_,n+1,.cons _ t=>Vals.drop n t
def RelO:Option V->Option Value->Prop
 |some v,some u=>RelV v u
 |none,none=>True
 |_,_=>False
def KV {J : Type}:List (J × V)->List (J × Value)->Prop:=Paired fun(p : J × V) (q : J × Value)=>p.1=q.1/\RelV p.2 q.2
noncomputable def kV:aj->V
 | .inl i=>.int i
 | .inr x=>.str x
inductive HO where
 |lst (xs:List V)
 |tup (xs:List V)
 |dK (kvs:List (aj×V))|dT (kvs:List (List aj×V))
 |set (S:Int->Bool) (n:Nat)
 |ins (C dx:Addr) (fs:List (Str×V))
 |own (x:Addr)
 |xd (fs:List (Str×V))
 |met (f x:Addr)
 |rng (lo hi:Int)
 |frz (o:Obj) (u:HO)
 |tbl (ps:Array Value)
 |ext (φ : Heap->Prop)
abbrev Hp:=Addr->Option HO
noncomputable def ak (H:Hp)(a:Addr)(o:HO):Hp:=fun b=>if b=a then some o else H b
variable {H H':Hp}
theorem aJ {o:HO}:ak H a o a=some o:=by unfold ak;rw[Xk rfl]
theorem ay {o:HO}(h:b≠a):ak H a o b=H b:=by unfold ak;rw[Xh h]
theorem so {o u:HO}(h:H a=some o)(h':H b=some u)(d:o≠u):a≠b:=by intro e;subst e;rw[h] at h';exact d (Xt h')
theorem bL {o:HO}(h:H a=some o)(h':H b=none):a≠b:=by intro e;subst e;rw[h] at h';cases h'
def IsTupN (h:Heap)(a:Addr)(Y:Array Value):Prop:=∃o,h.get? a=some o/\o.cls=.type "tuple"/\∃n,o.data=.seq Y n/\o.dict=none
theorem IsTupN.tup {h:Heap}{a:Addr}{Y:Array Value}(x:IsTupN h a Y):IsTup h a Y:=let ⟨o,b,c,n,hd,_⟩:=x;⟨o,b,c,n,hd⟩
theorem IsTupN.new (h:Heap)(Y:Array Value):IsTupN (h.push { cls:=.type "tuple",data:=.seq Y }) h.objs.size Y:=⟨_,Xg _ rfl,rfl,_,rfl,rfl⟩
section
variable (P:Program)(w:World)
def ObjOk (H:Hp)(h:Heap)(a:Addr):HO->Prop
 | .lst xs=>xs.length<=sizeLine/\∃(G:List Value)(n:Nat),Vals xs G/\h.get? a=some { cls:=.type "list",data:=.seq G.toArray n }
 | .tup xs=>xs.length<=sizeLine/\∃G:List Value,Vals xs G/\IsTupN h a G.toArray
 | .dK kvs=>kvs.length<=sizeLine/\(a==sysModules)=false/\∃Z,KV kvs Z/\h.DictOf (bg P w) a Z
 | .dT kvs=>kvs.length<=sizeLine/\(a==sysModules)=false/\∃xs:List (List aj×Addr×Value),Paired (fun(p:List aj×V) (q:List aj×Addr×Value)=>p.1=q.1/\H q.2.1=some (.tup (p.1.map kV))/\RelV p.2 q.2.2) kvs xs ∧∃o es ep,h.get? a=some o/\o.ExactDict/\o.data=.dict es ep/\es.toList=xs.map (entryOfKey (tupleKind (bg P w)))/\(xs.map (·.1)).Nodup
 | .set S n=>h.SetOf (intKind P w) a S n
 | .ins C c fs=>H c=some (.own a)/\fs.length<=1000/\c≠a/\h.get? a=some (PySem.W.instObj C c) ∧∃b,h.Ns1 c b/\(∀f,RelO (fs.lookup f) (b f))/\PySem.Within b (fs.map (·.1))
 | .own _=>∃o,h.get? a=some o
 | .xd fs=>∃b,h.Ns1 a b/\∀f,RelO (fs.lookup f) (b f)
 | .rng lo g=>∃t u v,h.get? a=some { cls:=.type "range",data:=.fields #[.int lo t,.int g u,.int 1 v] }
 | .frz o u=>h.get? a=some o/\ObjOk H h a u
 | .tbl ps=>h.get? a=some { cls:=.none,data:=.fields ps }
 | .met f x=>h.get? a=some (PySem.W.methodObj (.ref f) (.ref x))
 | .ext d => d h/\(∃o,h.get? a=some o)/\∀h1 e:Heap,d h1->(∀o,h1.get? a=some o->e.get? a=some o) -> d e
def HOk (H:Hp)(h:Heap):Prop:=∀a o,H a=some o->ObjOk P w H h a o
end
section
variable {o:HO}
theorem ObjOk.lt (x:ObjOk P w H h a o):a<h.objs.size:=by cases o with|lst xs=>(obtain⟨_,_,_,_,e⟩:=x;exact Xi e)|tup xs=>(obtain⟨_,_,_,p⟩:=x;exact p.tup.lt)|dK kvs=>(obtain⟨_,_,_,_,o,_,_,e,_⟩:=x;exact Xi e)|dT kvs=>(obtain⟨_,_,_,_,o,_,_,e,_⟩:=x;exact Xi e)|set S n=>(obtain⟨o,_,_,_,e,_⟩:=x;exact Xi e)|ins C b fs=>(obtain⟨_,_,_,e,_⟩:=x;exact Xi e)|own y=>(obtain⟨_,e⟩:=x;exact Xi e)|xd fs=>(obtain⟨_,⟨_,_,_,e,_⟩,_⟩:=x;exact Xi e)|rng lo c=>(obtain⟨_,_,_,e⟩:=x;exact Xi e)|frz ob u=>(obtain⟨e,_⟩:=x;exact Xi e)|tbl ps=>exact Xi (show h.get? a=some _ from x)|met f y=>exact Xi (show h.get? a=some _ from x)|ext d => obtain⟨_,⟨_,e⟩,_⟩:=x;exact Xi e
theorem Paired.mapP {F G:q -> I -> Prop}{l₁:List q}{l₂:List I}(h:Paired F l₁ l₂)(f:∀a b,F a b->G a b):Paired G l₁ l₂:=by induction h with|nil=>exact .nil|cons r _ i=>exact .cons (f _ _ r) i
theorem ObjOk.stay (x:ObjOk P w H h a o)(k:∀b u,(b=a∨H b=some (.own a))->h.get? b=some u->h'.get? b=some u)
  (j:∀b,H b=some (.own a)->H' b=some (.own a)) (l:∀b xs,H b=some (.tup xs)->H' b=some (.tup xs)):ObjOk P w H' h' a o:=by
 induction o with
 |lst xs=>obtain⟨z,G,n,r,e⟩:=x;exact⟨z,G,n,r,k _ _ (.inl rfl) e⟩
 |tup xs=>obtain⟨z,G,r,ob,e,c⟩:=x;exact⟨z,G,r,ob,k _ _ (.inl rfl) e,c⟩
 |dK kvs=>obtain⟨z,y,Z,r,ob,es,ep,e,c⟩:=x;exact⟨z,y,Z,r,ob,es,ep,k _ _ (.inl rfl) e,c⟩
 |dT kvs=>obtain⟨z,y,xs,r,ob,es,ep,e,c⟩:=x;exact⟨z,y,xs,Paired.mapP r fun p q z=>⟨z.1,l _ _ z.2.1,z.2.2⟩,ob,es,ep,k _ _ (.inl rfl) e,c⟩
 |set S n=>obtain⟨ob,es,ep,t,e,c⟩:=x;exact⟨ob,es,ep,t,k _ _ (.inl rfl) e,c⟩
 |ins C A fs=>obtain⟨d,z,ne,e,g,⟨i,es,ep,m,c⟩,r⟩:=x;exact⟨j _ d,z,ne,k _ _ (.inl rfl) e,g,⟨i,es,ep,k _ _ (.inr d) m,c⟩,r⟩
 |own y=>obtain⟨ob,e⟩:=x;exact⟨ob,k _ _ (.inl rfl) e⟩
 |xd fs=>obtain⟨g,⟨i,es,ep,e,c⟩,r⟩:=x;exact⟨g,⟨i,es,ep,k _ _ (.inl rfl) e,c⟩,r⟩
 |rng lo B=>obtain⟨t,u,v,e⟩:=x;exact⟨t,u,v,k _ _ (.inl rfl) e⟩
 |frz ob u s=>obtain⟨e,q⟩:=x;exact⟨k _ _ (.inl rfl) e,s q⟩
 |tbl ps=>have e:h.get? a=some { cls:=.none,data:=.fields ps }:=x;show h'.get? a=some { cls:=.none,data:=.fields ps };exact k a _ (.inl rfl) e
 |met f y=>have e:h.get? a=some (PySem.W.methodObj (.ref f) (.ref y)):=x;show h'.get? a=some (PySem.W.methodObj (.ref f) (.ref y));exact k a _ (.inl rfl) e
 |ext D => obtain⟨p,⟨o,e⟩,st⟩:=x;exact⟨st _ _ p fun o q=>k _ _ (.inl rfl) q,⟨o,k _ _ (.inl rfl) e⟩,st⟩
theorem HOk.lt (x:HOk P w H h)(e:H a=some o):a<h.objs.size:=(x a o e).lt
theorem HOk.fresh (x:HOk P w H h)(e:h.objs.size<=a):H a=none:=by cases q:H a with|none=>rfl|some u=>exact absurd (Xx (x.lt q) e) (X7 _)
theorem HOk.kept (x:HOk P w H h)(k:∀b u,h.get? b=some u->h'.get? b=some u):HOk P w H h':=fun a o e=>
 (x a o e).stay (fun b u _ q=>k b u q) (fun _ q=>q) fun _ _ q=>q
theorem HOk.laid (x:HOk P w H h)(k:∀b u,h.get? b=some u->h'.get? b=some u)(g:h.objs.size<=a)(new:ObjOk P w (ak H a o) h' a o):HOk P w (ak H a o) h':=fun b u e=>by have d:=x.fresh g;by_cases f:b=a;subst f;rw[aJ] at e;cases e;exact new;rw[ay f] at e;exact(x b u e).stay (fun c v _ q=>k c v q) (fun c q=>by rw[ay (bL q d)];exact q) fun c xs q=>by rw[ay (bL q d)];exact q
end
def Rd (H:Hp)(a:Addr)(u:HO):Prop:=H a=some u∨∃o,H a=some (.frz o u)
theorem Rd.of {u:HO}(h:H a=some u):Rd H a u:=.inl h
theorem Rd.ok {u:HO}(r:Rd H a u)(x:HOk P w H h):ObjOk P w H h a u:=by rcases r with r|⟨o,r⟩;exact x a u r;obtain⟨_,q⟩:=x a _ r;exact q
def tF:Option HO->Prop
 |some (.lst _)=>True
 |some (.dK _)=>True
 |some (.dT _)=>True
 |some (.set _ _)=>True
 |some (.ins _ _ _)=>True
 |some (.ext _)=>True
 |_=>False
section
variable {x e:Addr}{o':HO}
theorem HOk.write (ok:HOk P w H h)(d:tF (H x))(he:e=x∨H e=some (.own x))(k:∀b u,b≠e->h.get? b=some u->h'.get? b=some u)(l:∃u,h'.get? e=some u)
  (new:ObjOk P w (ak H x o') h' x o'):HOk P w (ak H x o') h':=fun b u q=>by
 have i:∀c y,H c=some (.own y)->c≠x:=fun c y r z=>by subst z;rw[r] at d;exact d
 have m:∀c xs,H c=some (.tup xs)->c≠x:=fun c xs r z=>by subst z;rw[r] at d;exact d
 by_cases f:b=x
 .subst f;rw[aJ] at q;cases q;exact new
 .rw[ay f] at q
  by_cases a:b=e
  .have j:H b=some (.own x):=by
    rcases he with z|z
    .exact absurd (a.trans z) f
    .rw[a];exact z
   rw[q] at j;cases j;obtain⟨v,n⟩:=l;exact⟨v,by rw[a];exact n⟩
  .refine(ok b u q).stay (fun c v g r=>k c v ?_ r) (fun c r=>by rw[ay (i c b r)];exact r) fun c xs r=>by rw[ay (m c xs r)];exact r
   rcases g with rfl|g
   .exact a
   .rintro rfl
    rcases he with z|z
    .exact i c b g z
    .rw[g] at z;cases z;exact f rfl
end
structure Un (fs ex:List Addr)(H H':Hp)(h h':Heap):Prop where
 keep:∀b o,h.get? b=some o->H b=none->b∉fs->b∉ex->h'.get? b=some o
 slot:∀b o,h.get? b=some o->H b=none->b∈fs->b∉ex->∃sl,h'.get? b=some { o with slots:=sl }
 free:∀b o,h.get? b=some o->H b=none->b∉ex->H' b=none
 there:∀b o,h.get? b=some o->b∉ex->∃o',h'.get? b=some o'
 tups:∀b xs,H b=some (.tup xs)->H' b=some (.tup xs)
 frzs:∀b o u,H b=some (.frz o u)->H' b=some (.frz o u)
 tbls:∀b ps,H b=some (.tbl ps)->∃more,H' b=some (.tbl (ps++more))
section
variable {fs c ex r:List Addr}{H1 H2:Hp}{h1 h2:Heap}{x e:Addr}{o:HO}
theorem Un.any (u:Un fs ex H H1 h h1){b:Addr}{ob:Obj}(q:h.get? b=some ob)(n:H b=none)(a:b∉ex):∃d,h1.get? b=some { ob with slots:=d }:=by by_cases c:b∈fs;exact u.slot b ob q n c a;exact⟨ob.slots,u.keep b ob q n c a⟩
theorem Un.kept (k:∀b u,h.get? b=some u->h'.get? b=some u):Un fs ex H H h h':=⟨fun b ob q _ _ _=>k b ob q,fun b ob q _ _ _=>⟨ob.slots,k b ob q⟩,fun _ _ _ n _=>n,fun b ob q _=>⟨ob,k b ob q⟩,fun _ _ q=>q,fun _ _ _ q=>q,fun _ ps q=>⟨#[],by rw[q];simp⟩⟩
theorem Un.refl:Un fs ex H H h h:=Un.kept fun _ _ q=>q
theorem Un.laid (k:∀b u,h.get? b=some u->h'.get? b=some u)(hp:h.objs.size<=a)(hn:H a=none):Un fs ex H (ak H a o) h h' where
 keep:=fun b u q _ _ _=>k b u q
 slot:=fun b u q _ _ _=>⟨u.slots,k b u q⟩
 free:=fun b u q n _=>by rw[ay (Xu (Xx (Xi q) hp))];exact n
 there:=fun b u q _=>⟨u,k b u q⟩
 tups:=fun b xs q=>by rw[ay (bL q hn)];exact q
 frzs:=fun b u xs q=>by rw[ay (bL q hn)];exact q
 tbls:=fun b ps q=>⟨#[],by rw[ay (bL q hn),q];simp⟩
theorem Un.write (c:tF (H x))(he:e=x∨H e=some (.own x))(k:∀b u,b≠e->h.get? b=some u->h'.get? b=some u)(i:∃u,h'.get? e=some u):Un fs ex H (ak H x o) h h':=by
 have f:∀b,H b=none->b≠x:=fun b n z=>by subst z;rw[n] at c;exact c
 have g:∀b,H b=none->b≠e:=fun b n z=>by subst z;rcases he with r|r;exact f b n r;rw[n] at r;cases r
 have d:∀b u,H b=some u->¬tF (some u)->b≠x:=fun b u q nm z=>by subst z;rw[q] at c;exact nm c
 refine⟨fun b u q n _ _=>k b u (g b n) q,fun b u q n _ _=>⟨u.slots,k b u (g b n) q⟩,fun b u q n _=>by rw[ay (f b n)];exact n,fun b u q _=>?_,fun b xs q=>by rw[ay (d b _ q fun z=>z)];exact q,fun b u xs q=>by rw[ay (d b _ q fun z=>z)];exact q,fun b ps q=>⟨#[],by rw[ay (d b _ q fun z=>z),q];simp⟩⟩;by_cases a:b=e;subst a;exact i;exact⟨u,k b u a q⟩
end
noncomputable def tR (h:Heap)(H:Hp):List Addr:=(List.range h.objs.size).filter fun a=>(H a).isSome
def lx (h:Heap)(H:Hp):Heap:=PySem.W.hideAll h (tR h H)
theorem TL (h:Heap)(H:Hp):(lx h H).objs.size=h.objs.size:=PySem.W.hideAll_size _ _
theorem Sf {o:Obj}(e:h.get? b=some o)(n:H b=none):(lx h H).get? b=some o:=PySem.W.hideAll_get _ e fun a=>by have q:(H b).isSome=true:=(mem_filter.mp a).2;rw[n] at q;simp at q
theorem Qy {o:Obj}(e:(lx h H).get? b=some o):h.get? b=some o/\H b=none:=by have a:h.get? b=some o:=PySem.W.of_hideAll (tR h H) e;refine⟨a,?_⟩;cases q:H b with|none=>rfl|some x=>have c:b∈tR h H:=mem_filter.mpr ⟨mem_range.mpr (Xi a),by simp [q]⟩;have z:(lx h H).get? b=none:=PySem.W.hideAll_none (tR h H) c;rw[z] at e;cases e
structure Mod (K:W.Frag)(mg:Str->Option Value)(base:Heap):Prop where
 kin:K.In base
 glob:base.Ns mainGlobals mg
 blt:∃mb,base.Ns builtinsNs mb/\∀x:Str,x≠"__name__"->mb x=bootBuiltins x
 nolimit:base.NoLimit
structure Cx where
 prog:Program
 w:World
 K:W.Frag
 mg:Str->Option Value
 base:Heap
 A:Around
 N:List Str
 s₀:Shared
 H₀:Hp
 env:Env
 outer:List Env
 stack:List Env
 ex:List Addr
 fn:Str->Bool
 calm:Bool
 pn:List (Addr×Obj)
 xe:Value->Shared->Prop
noncomputable def ig (l:List Env):List Addr:=l.filterMap (·.frame)
abbrev Cx.fs (X:Cx):List Addr:=ig X.outer
def tq (a:Scope)(x:Str):Prop:=a.names.lookup x=some .local∨a.names.lookup x=some .cell∨a.names.lookup x=some .free
def lI (a:Scope)(x:Str):Prop:=a.names.lookup x=some .local∨a.names.lookup x=some .cell
def V9 (env:Env)(h:Heap)(m:Str->Option Value)(x:Str)(u:Value):Prop:=(env.kindOf x=some .local/\m x=some u)∨((env.kindOf x=some .cell∨env.kindOf x=some .free)/\∃c,env.cells.lookup x=some c/\h.IsCell c (some u))
abbrev lf (X:Cx)(x:Str):Prop:=X.fn x=true∨X.env.scope.names.lookup x=some .local
structure Cx.Ok (X:Cx):Prop where
 mod:Mod X.K X.mg X.base
 kind:X.env.scope.kind=.function
 glob:X.env.globals=mainGlobals
 blt:X.env.builtins=builtinsNs
 above:X.s₀.heap.objs.size<=X.env.locals
 inj:∀x y c,X.env.cells.lookup x=some c->X.env.cells.lookup y=some c->x=y
 has:∀x,(X.env.kindOf x=some .cell∨X.env.kindOf x=some .free)->∃c,X.env.cells.lookup x=some c
 cab:∀x c,X.fn x=true->X.env.cells.lookup x=some c->X.s₀.heap.objs.size<=c
 hd:X.calm=true->X.A.handled=none
 frames:X.A.frames=some X.stack
 stk:X.stack=X.outer∨(X.stack=X.env::X.outer/\X.env.frame=some X.env.locals)
 exf:∀b∈X.ex,b≠X.env.locals/\∀x c,X.env.cells.lookup x=some c->c≠b
 bs:∀b o,X.base.get? b=some o->X.s₀.heap.get? b=some o/\X.H₀ b=none
 bsz:X.base.objs.size<=X.s₀.heap.objs.size
 noex:∀b o,X.base.get? b=some o->b∉X.ex
 exfs:∀b∈X.ex,b∉X.fs
 funs:X.s₀.heap.FunFrames X.base X.outer
 frf:∀b∈X.fs,X.H₀ b=none
structure Inv (X:Cx)(S:List (Addr×Obj))(σ:List (Option V))(H:Hp)(s:Shared):Prop where
 ok:X.Ok
 os:s.os=X.s₀.os
 bare:AllBare s.gens
 base:Un X.fs X.ex X.H₀ H X.s₀.heap s.heap
 loc:∃m,s.heap.Ns X.env.locals m/\∀(i:Nat)(x:Str)(v:V),X.N[i]?=some x->σ[i]?=some (some v)->tq X.env.scope x->∃u,RelV v u/\V9 X.env s.heap m x u
 cell:∀x c,X.env.cells.lookup x=some c->∃v,s.heap.IsCell c v
 free:H X.env.locals=none
 freeC:∀x c,X.env.cells.lookup x=some c->H c=none
 pin:∀p∈X.pn++S,s.heap.get? p.1=some p.2/\H p.1=none/\p.1≠X.env.locals/\p.1∉X.fs/\∀v,p.2.data ≠ .cell v
 hok:HOk X.prog X.w H s.heap
 len:σ.length=X.N.length
variable {X:Cx}
section
variable {c:List (Option V)}{s:Shared}
theorem Cx.Ok.nofr (ok:X.Ok){b:Addr}{o:Obj}(e:X.base.get? b=some o):b∉X.fs:=fun a=>by have:=(ok.funs.mem a).1;rw[e] at this;cases this
theorem Inv.bs (I:Inv X S c H s):∀b o,X.base.get? b=some o->s.heap.get? b=some o/\H b=none:=fun b o e=>
 ⟨I.base.keep b o (I.ok.bs b o e).1 (I.ok.bs b o e).2 (I.ok.nofr e) (I.ok.noex b o e),I.base.free b o (I.ok.bs b o e).1 (I.ok.bs b o e).2 (I.ok.noex b o e)⟩
theorem Inv.bk (I:Inv X S c H s):∀b o,X.base.get? b=some o->s.heap.get? b=some o:=fun b o e=>(I.bs b o e).1
theorem Inv.mod (I:Inv X S c H s):Mod X.K X.mg X.base:=I.ok.mod
theorem Inv.kIn (I:Inv X S c H s):X.K.In s.heap:=I.ok.mod.kin.keeps I.bk
theorem Inv.lt (I:Inv X S c H s):X.env.locals<s.heap.objs.size:=let ⟨_,a,_⟩:=I.loc;a.lt
theorem Inv.sz (I:Inv X S c H s):X.s₀.heap.objs.size<=s.heap.objs.size:=XZ I.ok.above (Nat.le_of_lt I.lt)
theorem Inv.nofs (I:Inv X S c H s){a:Addr}(h:s.heap.objs.size<=a):a∉X.fs:=fun b=>by obtain⟨_,o,d,_⟩:=I.ok.funs.mem b;exact absurd (Xx (Xi d) (XZ I.sz h)) (X7 _)
theorem Inv.cne (I:Inv X S c H s):∀x r,X.env.cells.lookup x=some r->r≠X.env.locals:=fun x r e z=>by obtain⟨v,o,b,hd⟩:=I.cell x r e;obtain⟨m,⟨o',es,ep,d,a,_⟩,_⟩:=I.loc;rw[z,d] at b;cases b;rw[a] at hd;cases hd
theorem Inv.funs (I:Inv X S c H s):s.heap.FunFrames X.base X.outer:=by
 have all:∀(l:List Env),(∀b∈ig l,b∈X.fs)->X.s₀.heap.FunFrames X.base l->s.heap.FunFrames X.base l:=by intro l;induction l with|nil=>(intro _ _;trivial)|cons env r h=>intro g i;obtain⟨j,⟨L,o,a,k,m,hd⟩,n⟩:=i;have d:L∈X.fs:=g L (by unfold ig;rw[filterMap_cons,a];exact W8);obtain⟨p,e⟩:=I.base.slot L o m (I.ok.frf L d) d fun z=>I.ok.exfs L z d;exact⟨j,⟨L,_,a,k,e,hd⟩,h (fun b f=>g b (by unfold ig;rw[filterMap_cons,a];exact W7 _ f)) n⟩
 exact all X.outer (fun _ f=>f) I.ok.funs
theorem Inv.stack (I:Inv X S c H s):s.heap.FunFrames X.base X.stack:=by rcases I.ok.stk with e|⟨e,a⟩;rw[e];exact I.funs;rw[e];obtain⟨m,b,_⟩:=I.loc;refine .cons (by rw[I.ok.kind];decide) a b ?_ I.funs;exact Heap.get?_none_of_le (XZ I.ok.bsz I.ok.above)
theorem Inv.stkSub (I:Inv X S c H s):∀b∈ig X.stack,b∈X.env.locals::X.fs:=fun b a=>by rcases I.ok.stk with e|⟨e,d⟩;rw[e] at a;exact W7 _ a;rw[e] at a;unfold ig at a;rw[filterMap_cons,d] at a;exact a
theorem Inv.stkFree (I:Inv X S c H s):∀b∈ig X.stack,H b=none:=fun b a=>by rcases Xj.mp (I.stkSub b a) with e|a;rw[e];exact I.free;obtain⟨_,o,d,_⟩:=I.ok.funs.mem a;exact I.base.free b o d (I.ok.frf b a) fun z=>I.ok.exfs b z a
theorem Inv.step {g':Array GenState}{d':Drawn}{ch:List Addr}(I:Inv X S c H s)
  (j:∀b∈ch,(b∈X.ex∨X.s₀.heap.objs.size<=b)/\b≠X.env.locals/\(∀x a0,X.env.cells.lookup x=some a0->a0≠b)/\∀p∈X.pn++S,p.1≠b)
  (keep:∀b o,b≠X.env.locals->b∉X.fs->b∉ch->s.heap.get? b=some o->H b=none->h'.get? b=some o)
  (slot:∀b o,b≠X.env.locals->b∈X.fs->b∉ch->s.heap.get? b=some o->H b=none->∃B,h'.get? b=some { o with slots:=B }) (free:∀b o,b∉ch->s.heap.get? b=some o->H b=none->H' b=none)
  (there:∀b o,b∉ch->s.heap.get? b=some o->∃o',h'.get? b=some o')
  (tups:∀b xs,H b=some (.tup xs)->H' b=some (.tup xs)) (frzs:∀b o u,H b=some (.frz o u)->H' b=some (.frz o u)) (tbls:∀b ps,H b=some (.tbl ps)->∃more,H' b=some (.tbl (ps++more)))
  (ns:∀m,s.heap.Ns X.env.locals m->h'.Ns X.env.locals m) (hok:HOk X.prog X.w H' h') (K:AllBare g'):
  Inv X S c H' { s with heap:=h',gens:=g',drawn:=d',toks:=t' }:=by
 have D:∀b o,X.s₀.heap.get? b=some o->b≠X.env.locals:=fun b o e=>Xu (Xx (Xi e) I.ok.above)
 have A:∀b o,X.s₀.heap.get? b=some o->b∉X.ex->b∉ch:=fun b o e a g=>by rcases(j b g).1 with z|z;exact a z;exact absurd (Xx (Xi e) z) (X7 _)
 have E:∀x a0,X.env.cells.lookup x=some a0->∀v,s.heap.IsCell a0 v->h'.IsCell a0 v:=fun x a0 e v ⟨o,h,hd⟩=>by have t:a0∉ch:=fun z=>(j a0 z).2.2.1 x a0 e rfl;by_cases F:a0∈X.fs;obtain⟨B,q⟩:=slot a0 o (I.cne x a0 e) F t h (I.freeC x a0 e);exact⟨_,q,hd⟩;exact⟨o,keep a0 o (I.cne x a0 e) F t h (I.freeC x a0 e),hd⟩
 refine⟨I.ok,I.os,K,⟨fun b o e n g a=>?_,fun b o e n g a=>?_,fun b o e n a=>?_,fun b o e a=>?_,fun b xs e=>tups b xs (I.base.tups b xs e),fun b o xs e=>frzs b o xs (I.base.frzs b o xs e),fun b ps e=>?_⟩,?_,fun x a0 e=>?_,?_,fun x a0 e=>?_,fun p G=>?_,hok,I.len⟩
 .exact keep b o (D b o e) g (A b o e a) (I.base.keep b o e n g a) (I.base.free b o e n a)
 .obtain⟨B,f⟩:=I.base.slot b o e n g a;obtain⟨C,y⟩:=slot b _ (D b o e) g (A b o e a) f (I.base.free b o e n a);exact⟨C,y⟩
 .obtain⟨o',f⟩:=I.base.there b o e a;exact free b o' (A b o e a) f (I.base.free b o e n a)
 .obtain⟨o',f⟩:=I.base.there b o e a;exact there b o' (A b o e a) f
 .obtain⟨L,f⟩:=I.base.tbls b ps e;obtain⟨M,y⟩:=tbls b _ f;exact⟨L++M,by rw[y,Array.append_assoc]⟩
 .obtain⟨m,N,O⟩:=I.loc
  refine⟨m,ns m N,fun i x v f y P=>?_⟩;obtain⟨u,r,l⟩:=O i x v f y P;refine⟨u,r,?_⟩;rcases l with l|⟨k,a0,e,z⟩
  .exact .inl l
  .exact .inr ⟨k,a0,e,E x a0 e _ z⟩
 .obtain⟨v,z⟩:=I.cell x a0 e;exact⟨v,E x a0 e v z⟩
 .obtain⟨m,⟨o,_,_,h,_⟩,_⟩:=I.loc;exact free _ o (fun z=>(j _ z).2.1 rfl) h I.free
 .obtain⟨v,o,h,hd⟩:=I.cell x a0 e;exact free a0 o (fun z=>(j a0 z).2.2.1 x a0 e rfl) h (I.freeC x a0 e)
 .obtain⟨e,n,ne,J,d⟩:=I.pin p G;have t:p.1∉ch:=fun z=>(j p.1 z).2.2.2 p G rfl;exact⟨keep p.1 p.2 ne J t e n,free p.1 p.2 t e n,ne,J,d⟩
theorem Inv.un (I:Inv X S c H s)(u:Un X.fs [] H H' s.heap h')(hok:HOk X.prog X.w H' h'):Inv X S c H' { s with heap:=h',toks:=t' }:=by
 obtain⟨m,⟨o,es,ep,d,r⟩,_⟩:=id I.loc;obtain⟨l,g⟩:=u.any d I.free (by simp);exact I.step (g':=s.gens) (d':=s.drawn) (ch:=[]) (fun _ z=>nomatch z) (fun b o _ a _ e n=>u.keep b o e n a (by simp)) (fun b o _ a _ e n=>u.slot b o e n a (by simp)) (fun b o _ e n=>u.free b o e n (by simp)) (fun b o _ e=>u.there b o e (by simp)) u.tups u.frzs u.tbls (fun p h=>by
  obtain⟨o',i,j,f,k⟩:=h;rw[d] at f;cases f
  exact⟨_,i,j,g,k⟩) hok I.bare
theorem Inv.call {g':Array GenState}{d':Drawn}{ch:List Addr}(I:Inv X S c H s)(u:Un (ig X.stack) ch H H' s.heap h')(hok:HOk X.prog X.w H' h')(i:AllBare g')
  (f:∀b∈ch,(b∈X.ex∨X.s₀.heap.objs.size<=b)/\b≠X.env.locals/\(∀x a0,X.env.cells.lookup x=some a0->a0≠b)/\∀p∈X.pn++S,p.1≠b):
  Inv X S c H' { s with heap:=h',gens:=g',drawn:=d',toks:=t' }:=by
 obtain⟨m,⟨o,es,ep,g,r⟩,_⟩:=id I.loc;obtain⟨v,d⟩:=u.any g I.free fun z=>(f _ z).2.1 rfl
 exact I.step (ch:=ch) f (fun b o d j a e n=>u.keep b o e n (fun z=>(Xj.mp (I.stkSub b z)).elim d j) a) (fun b o _ _ a e n=>u.any e n a) (fun b o a e n=>u.free b o e n a) (fun b o a e=>u.there b o e a) u.tups u.frzs u.tbls (fun y k=>by
  obtain⟨o',l,q,h,t⟩:=k;rw[g] at h;cases h
  exact⟨_,l,q,d,t⟩) hok i
theorem Inv.turned (I:Inv X S c H s)(k:∀b o,b≠it->s.heap.get? b=some o->h'.get? b=some o)(g:H it=none)(d:it≠X.env.locals)
  (h1:it∈X.ex∨X.s₀.heap.objs.size<=it) (h:∀x a0,X.env.cells.lookup x=some a0->a0≠it) (i:∀p∈X.pn++S,p.1≠it):Inv X S c H { s with heap:=h',toks:=t' }:=by
 have f:∀b u,H b=some u->b≠it:=fun b u e z=>by rw[z,g] at e;cases e
 refine I.step (g':=s.gens) (d':=s.drawn) (ch:=[it]) (fun b j=>?_) (fun b o _ _ a e _=>k b o (fun z=>a (by simp [z])) e) (fun b o _ _ a e _=>⟨o.slots,k b o (fun z=>a (by simp [z])) e⟩) (fun _ _ _ _ n=>n)
  (fun b o a e=>⟨o,k b o (fun z=>a (by simp [z])) e⟩) (fun _ _ e=>e) (fun _ _ _ e=>e) (fun b ps e=>⟨#[],by rw[e];simp⟩) (fun m l=>?_) (fun b u e=>?_) I.bare
 .have e:b=it:=by simpa using j
  subst e;exact⟨h1,d,h,i⟩
 .obtain⟨o,es,ep,t,r⟩:=l;exact⟨o,es,ep,k _ o (Ne.symm d) t,r⟩
 .refine(I.hok b u e).stay (fun a0 v a q=>k a0 v ?_ q) (fun _ q=>q) fun _ _ q=>q
  rcases a with z|z
  .rw[z];exact f b u e
  .exact f a0 _ z
theorem Inv.tok (I:Inv X S c H s)(t:Nat):Inv X S c H { s with toks:=t }:=I.un (h':=s.heap) (t':=t) Un.refl I.hok
theorem Inv.kept (I:Inv X S c H s)(k:∀b u,s.heap.get? b=some u->h'.get? b=some u):Inv X S c H { s with heap:=h',toks:=t' }:=I.un (Un.kept k) (I.hok.kept k)
theorem Inv.laid {o:HO}(I:Inv X S c H s)(k:∀b u,s.heap.get? b=some u->h'.get? b=some u)(d:s.heap.objs.size<=a)(new:ObjOk X.prog X.w (ak H a o) h' a o):Inv X S c (ak H a o) { s with heap:=h',toks:=t' }:=I.un (Un.laid k d (I.hok.fresh d)) (I.hok.laid k d new)
theorem Inv.write {x e:Addr}{o:HO}(I:Inv X S c H s)(a:tF (H x))(he:e=x∨H e=some (.own x))(k:∀b u,b≠e->s.heap.get? b=some u->h'.get? b=some u)(d:∃u,h'.get? e=some u)
  (new:ObjOk X.prog X.w (ak H x o) h' x o):Inv X S c (ak H x o) { s with heap:=h',toks:=t' }:=I.un (Un.write a he k d) (I.hok.write a he k d new)
theorem Inv.pins_of {pins':List (Addr×Obj)}(I:Inv X S c H s)(h:∀p∈pins',s.heap.get? p.1=some p.2/\H p.1=none/\p.1≠X.env.locals/\p.1∉X.fs/\∀v,p.2.data ≠ .cell v):Inv X pins' c H s:=⟨I.ok,I.os,I.bare,I.base,I.loc,I.cell,I.free,I.freeC,fun p a=>(Xn.mp a).elim (fun z=>I.pin p (X6 _ z)) (h p),I.hok,I.len⟩
theorem Gy {N:List Str}(c:N.Nodup){i j:Nat}{x:Str}(a:N[i]?=some x)(b:N[j]?=some x):i=j:=by obtain⟨h1,d⟩:=Xe.mp a;obtain⟨f,e⟩:=Xe.mp b;exact(List.getElem_inj c).mp (d.trans e.symm)
theorem Ah {M:Model}{A:Around}{E:Value->Shared->Prop}{v:V}{Q:Unit->Shared->Prop}(I:Inv X S c H s)(hN:X.N.Nodup)(K:X.N[i]?=some x)(t:lI X.env.scope x)(r:RelV v u)
  (h:∀W,Inv X S (c.set i (some v)) H W->(∃a,Heap.SameBut a s.heap W.heap/\(a=X.env.locals∨X.env.cells.lookup x=some a))->Q () W) (hf:lf X x:=by first|exact .inl rfl|exact .inr rfl|assumption):wpAny M A (storeName X.env x u) Q E s:=by
 obtain⟨m,Y,hl⟩:=id I.loc;have x4:(X.env.scope.kind == .class||(X.env.scope.kind == .module&&X.env.locals != X.env.globals))=false:=by rw[I.ok.kind];rfl
 have D:i<c.length:=by rw[I.len];exact(Xe.mp K).1
 have cne:=I.cne
 have gN:∀{a:Addr}{h':Heap},(∃o,s.heap.get? a=some o/\H a=none)->Heap.SameBut a s.heap h'->HOk X.prog X.w H h':=fun {a h'} ha f b ob e=>by obtain⟨_,_,B⟩:=ha;refine(I.hok b ob e).stay (fun a0 T l q=>(f.2 a0 ?_).trans q) (fun _ q=>q) fun _ _ q=>q;rintro rfl;rcases l with rfl|l;rw[B] at e;cases e;rw[B] at l;cases l
 rcases t with F|F
 .refine wpAny_storeName_local F Y (fun h' i5 f=>?_) x4
  obtain⟨oL,_,_,Z,_⟩:=id Y;refine h _ ⟨I.ok,I.os,I.bare,⟨fun b o e n G t=>?_,fun b o e n G t=>?_,I.base.free,fun b o e t=>?_,I.base.tups,I.base.frzs,I.base.tbls⟩,⟨_,i5,fun j y v' g C e3=>?_⟩,fun y a0 e=>?_,I.free,I.freeC,fun p hp=>?_,gN ⟨oL,Z,I.free⟩ f,by simpa using I.len⟩ ⟨_,f,.inl rfl⟩
  .exact(f.2 b (Xu (Xx (Xi e) I.ok.above))).trans (I.base.keep b o e n G t)
  .obtain⟨sl,g⟩:=I.base.slot b o e n G t;exact⟨sl,(f.2 b (Xu (Xx (Xi e) I.ok.above))).trans g⟩
  .obtain⟨o',g⟩:=I.base.there b o e t;exact⟨o',(f.2 b (Xu (Xx (Xi e) I.ok.above))).trans g⟩
  .by_cases J:j=i
   .subst J;rw[K] at g;cases g;rw[List.getElem?_set_self D] at C;cases C;exact⟨u,r,.inl ⟨F,by simp⟩⟩
   .rw[List.getElem?_set_ne (Ne.symm J)] at C
    obtain⟨u',r',q⟩:=hl j y v' g C e3;refine⟨u',r',?_⟩;rcases q with ⟨k,e⟩|⟨k,a0,e,z⟩
    .refine .inl ⟨k,?_⟩;have:y≠x:=fun e=>J (Gy hN g (e▸K));simp [this,e]
    .exact .inr ⟨k,a0,e,z.sameBut f (cne y a0 e)⟩
  .obtain⟨T,z⟩:=I.cell y a0 e;exact⟨T,z.sameBut f (cne y a0 e)⟩
  .obtain⟨e,n,ne,nf,d⟩:=I.pin p hp;exact⟨(f.2 p.1 ne).trans e,n,ne,nf,d⟩
 .have k8:X.fn x=true:=by
   rcases hf with z|z
   .exact z
   .rw[z] at F;cases F
  obtain⟨a0,l⟩:=I.ok.has x (.inl F);obtain⟨T,z⟩:=I.cell x a0 l;refine wpAny_storeName_cell I.ok.kind F l z (fun h' L f=>?_);obtain⟨oc,O,P⟩:=id z;refine h { s with heap:=h' } ⟨I.ok,I.os,I.bare,⟨fun b o e n G t=>?_,fun b o e n G t=>?_,I.base.free,fun b o e t=>?_,I.base.tups,I.base.frzs,I.base.tbls⟩,⟨m,Y.sameBut f (Ne.symm (cne x a0 l)),fun j y v' g C e3=>?_⟩,fun y U e=>?_,I.free,I.freeC,fun p hp=>?_,gN ⟨oc,O,I.freeC x a0 l⟩ f,by simpa using I.len⟩ ⟨a0,f,.inr l⟩
  .exact(f.2 b (Xu (Xx (Xi e) (I.ok.cab x a0 k8 l)))).trans (I.base.keep b o e n G t)
  .obtain⟨sl,g⟩:=I.base.slot b o e n G t;exact⟨sl,(f.2 b (Xu (Xx (Xi e) (I.ok.cab x a0 k8 l)))).trans g⟩
  .obtain⟨o',g⟩:=I.base.there b o e t;exact⟨o',(f.2 b (Xu (Xx (Xi e) (I.ok.cab x a0 k8 l)))).trans g⟩
  .by_cases J:j=i
   .subst J;rw[K] at g;cases g;rw[List.getElem?_set_self D] at C;cases C;exact⟨u,r,.inr ⟨.inl F,a0,l,L⟩⟩
   .rw[List.getElem?_set_ne (Ne.symm J)] at C
    obtain⟨u',r',q⟩:=hl j y v' g C e3;refine⟨u',r',?_⟩;rcases q with q|⟨k,U,e,z'⟩
    .exact .inl q
    .refine .inr ⟨k,U,e,z'.sameBut f ?_⟩;rintro rfl;exact J (Gy hN g (I.ok.inj _ _ _ e l▸K))
  .by_cases R:U=a0
   .subst R;exact⟨_,L⟩
   .obtain⟨w2,z2⟩:=I.cell y U e;exact⟨w2,z2.sameBut f R⟩
  .obtain⟨e,n,ne,nf,d⟩:=I.pin p hp;refine⟨(f.2 p.1 ?_).trans e,n,ne,nf,d⟩;intro q;rw[q,O] at e;have q':oc=p.2:=Xt e;exact d T (by rw[<- q'];exact P)
theorem z9 {M:Model}{A:Around}{E:Value->Shared->Prop}{v:V}{Q:Unit->Shared->Prop}(I:Inv X S c H s)(b:X.N.Nodup)(d:X.N[i]?=some x)(e:lI X.env.scope x)(r:RelV v u)
  (h:∀a,Inv X S (c.set i (some v)) H a->Q () a) (f:lf X x:=by first|exact .inl rfl|exact .inr rfl|assumption):wpAny M A (storeName X.env x u) Q E s:=
 Ah I b d e r (fun a g _=>h a g) f
theorem Inv.call' {a:Shared}{ch:List Addr}(I:Inv X S c H s)(d:a.os=s.os)(u:Un (ig X.stack) ch H H' s.heap a.heap)(hok:HOk X.prog X.w H' a.heap)(f:AllBare a.gens)
  (g:∀b∈ch,(b∈X.ex∨X.s₀.heap.objs.size<=b)/\b≠X.env.locals/\(∀x r,X.env.cells.lookup x=some r->r≠b)/\∀p∈X.pn++S,p.1≠b):Inv X S c H' a:=by
 obtain⟨h',g',d',t',o'⟩:=a;have e:o'=s.os:=d;subst e;exact I.call (g':=g') (t':=t') (d':=d') u hok f g
end
abbrev XK:=Value->Option Addr->Hp->Prop
abbrev St:=List (Option V)
abbrev VK:=V->Hp->Prop
abbrev TE:=St->Hp->VK->Prop
abbrev TT:=St->Hp->(Bool->Hp->Prop)->Prop
abbrev TA:=St->Hp->(List V->Hp->Prop)->Prop
structure bp where
 nx:St->Hp->Prop
 rt:VK
 bk:St->Hp->Prop:=fun _ _=>False
 ct:St->Hp->Prop:=fun _ _=>False
abbrev TS:=bp->St->Hp->Prop
def EP (X:Cx)(S:List (Addr×Obj))(a:St)(Q:VK)(u:Value)(b:Shared):Prop:=∃v H',Inv X S a H' b/\RelV v u/\Q v H'
def TP (X:Cx)(S:List (Addr×Obj))(a:St)(Q:Bool->Hp->Prop)(b:Bool)(c:Shared):Prop:=∃H',Inv X S a H' c/\Q b H'
def AP (X:Cx)(S:List (Addr×Obj))(a:St)(Q:List V->Hp->Prop)(B:List Value)(b:Shared):Prop:=∃Z H',Inv X S a H' b/\Vals Z B/\Q Z H'
def SP (X:Cx)(S:List (Addr×Obj))(D:bp)(f:Flow)(b:Shared):Prop:=match f with
 | .next=>∃ a H',Inv X S a H' b/\D.nx a H'
 | .brk=>∃ a H',Inv X S a H' b/\D.bk a H'
 | .cont=>∃ a H',Inv X S a H' b/\D.ct a H'
 | .ret u=>∃v a H',Inv X S a H' b/\RelV v u/\D.rt v H'
def PE (X:Cx)(e:Expr)(t:TE):Prop:=∀(S:List (Addr×Obj))(s:Shared)(a:St)(H:Hp)(Q:VK),Inv X S a H s->t a H Q->wpAny (model X.prog X.w) X.A (eval e X.env) (EP X S a Q) X.xe s
def PT (X:Cx)(e:Expr)(t:TT):Prop:=∀(S:List (Addr×Obj))(s:Shared)(a:St)(H:Hp)(Q:Bool->Hp->Prop),Inv X S a H s->t a H Q->wpAny (model X.prog X.w) X.A (isTrue e X.env (eval e X.env)) (TP X S a Q) X.xe s
def PW (X:Cx)(e:Expr)(t:TT):Prop:=∀(b:Sem Value)(S:List (Addr×Obj))(s:Shared)(a:St)(H:Hp)(Q:Bool->Hp->Prop),Inv X S a H s->t a H Q->wpAny (model X.prog X.w) X.A (isTrue e X.env b) (TP X S a Q) X.xe s
variable {σ:St}{te tl:TE}
theorem PW.pt {t:TT}(h:PW X e t):PT X e t:=h _
def PA (X:Cx)(es:List Expr)(t:TA):Prop:=∀(pos:Pos)(S:List (Addr×Obj))(s:Shared)(σ:St)(H:Hp)(Q:List V->Hp->Prop),Inv X S σ H s->t σ H Q->wpAny (model X.prog X.w) X.A (spliced (backTo pos (starEach es X.env))) (AP X S σ Q) X.xe s
def PS (X:Cx)(st:Stmt)(t:TS):Prop:=∀(S:List (Addr×Obj))(s:Shared)(σ:St)(H:Hp)(D:bp),Inv X S σ H s->t D σ H->wpAny (model X.prog X.w) X.A (exec st X.env) (SP X S D) X.xe s
def PSs (X:Cx)(st:List Stmt)(t:TS):Prop:=∀(S:List (Addr×Obj))(s:Shared)(σ:St)(H:Hp)(D:bp),Inv X S σ H s->t D σ H->wpAny (model X.prog X.w) X.A (execs st X.env) (SP X S D) X.xe s
theorem aw {t:Sem q}{Q b:q -> Shared->Prop}{M:Model}{A:Around}{E:Value->Shared->Prop}{s:Shared}(h:wpAny M A t Q E s)(c:∀a s,Q a s->b a s):wpAny M A t b E s:=XU h c fun _ _ x=>x
section
def se (i:Nat):TE:=fun σ H Q=>∃v,σ[i]?=some (some v)/\Q v H
def tC (v:V):TE:=fun _ H Q=>Q v H
theorem DW {pos:Pos}(g:X.N[i]?=some x)(j:tq X.env.scope x)(hd:(x==("__debug__":Str))=false:=by decide)(k:(x==("__classdict__":Str))=false:=by decide):PE X (.Name x pos) (se i):=by intro S s σ H Q I h;obtain⟨v,e,h⟩:=h;obtain⟨m,n,o⟩:=I.loc;obtain⟨u,r,l⟩:=o i x v g e j;have d:EP X S σ Q u s:=⟨v,H,I,r,h⟩;rcases l with ⟨b,p⟩|⟨b,c,f,a⟩;exact wpAny_Name (wpAny_loadName_local I.ok.kind b n p d) hd;rcases b with b|b;exact wpAny_Name (wpAny_loadName_cell I.ok.kind b f a d) hd;exact wpAny_Name (wpAny_loadName_free I.ok.kind b f a d k) hd
theorem jh {i j pos}:PE X (.Constant (.int i) j pos) (tC (.int i)):=fun _ _ _ H _ I h=>wpAny_Constant_int ⟨.int i,H,I.tok _,⟨_,rfl⟩,h⟩
theorem MX {b j pos}:PE X (.Constant (.bool b) j pos) (tC (.bl b)):=fun _ _ _ H _ I h=>Constant_bool ⟨.bl b,H,I,rfl,h⟩
theorem Ox {j pos}:PE X (.Constant .none j pos) (tC .non):=fun _ _ _ H _ I h=>Constant_none ⟨.non,H,I,rfl,h⟩
theorem DV {x j pos}:PE X (.Constant (.str x) j pos) (tC (.str x)):=fun _ _ _ H _ I h=>Calls.Constant_str ⟨.str x,H,I.tok _,⟨_,rfl⟩,h⟩
def Gl (X:Cx)(x:Str):Prop:=X.env.kindOf x=some .globalImplicit
theorem Fg {E:Value->Shared->Prop}{s:Shared}{pos:Pos}(I:Inv X S σ H s)(a:Gl X x)(b:X.mg x=some u)(h:Q u s)
  (hd:(x==("__debug__":Str))=false:=by decide):wpAny (model X.prog X.w) X.A (eval (.Name x pos) X.env) Q E s:=
 Calls.Name_function_global I.ok.kind a (Calls.loadGlobal_global (by rw[I.ok.glob];exact I.mod.glob.keeps I.bk) b h) hd
theorem mZ {E:Value->Shared->Prop}{s:Shared}{pos:Pos}(I:Inv X S σ H s)(a:Gl X x)(b:X.mg x=none)(c:bootBuiltins x=some u)(h:Q u s)
  (d:x≠"__name__":=by decide) (hd:(x==("__debug__":Str))=false:=by decide):wpAny (model X.prog X.w) X.A (eval (.Name x pos) X.env) Q E s:=by
 obtain⟨f,h1,e⟩:=I.mod.blt;exact Calls.Name_function_global I.ok.kind a (Calls.loadGlobal_builtin (by rw[I.ok.glob];exact I.mod.glob.keeps I.bk) b (by rw[I.ok.blt];exact h1.keeps I.bk) ((e x d).trans c) h) hd
theorem zG {v:V}{pos:Pos}(a:Gl X x)(b:X.mg x=some u)(r:RelV v u)(hd:(x==("__debug__":Str))=false:=by decide):PE X (.Name x pos) (tC v):=fun _ _ _ H _ I h=>Fg I a b ⟨v,H,I,r,h⟩ hd
theorem Qx {v:V}{pos:Pos}(a:Gl X x)(b:X.mg x=none)(c:bootBuiltins x=some u)(r:RelV v u)(d:x≠"__name__":=by decide)(hd:(x==("__debug__":Str))=false:=by decide):PE X (.Name x pos) (tC v):=fun _ _ _ H _ I h=>mZ I a b c ⟨v,H,I,r,h⟩ d hd
variable {a b:Expr}{r tb:TE}{pos:Pos}
variable {tA tV:TT}{ag:List Expr}
def KR (t u:TT):TT:=fun σ H Q=>t σ H fun c a=>if c=true then u σ a Q else Q false a
def Bc (t u:TT):TT:=fun σ H Q=>t σ H fun c a=>if c=true then Q true a else u σ a Q
def KQ (t:TT):TT:=fun σ H Q=>t σ H fun c a=>Q (!c) a
theorem Qw (b:PT X a tA):PW X (.BoolOp .And [a] pos) tA:=by intro d S s σ H Q I h;refine isTrue_and (aw (b S s σ H Q I h) fun c f e=>?_);cases c with|true=>exact isTrue_and_nil e|false=>exact e
theorem DU (b:PT X a tA):PW X (.BoolOp .Or [a] pos) tA:=by intro d S s σ H Q I h;refine isTrue_or (aw (b S s σ H Q I h) fun c f e=>?_);cases c with|false=>exact isTrue_or_nil e|true=>exact e
theorem DT (g:PT X a tA)(i:PW X (.BoolOp .And (b::ag) pos) tV):PW X (.BoolOp .And (a::b::ag) pos) (KR tA tV):=by intro j S s σ H Q I h;refine isTrue_and (aw (g S s σ H _ I h) fun c k ⟨d,e,f⟩=>?_);cases c with|true=>exact i j S k σ d Q e f|false=>exact⟨d,e,f⟩
theorem yP (g:PT X a tA)(i:PW X (.BoolOp .Or (b::ag) pos) tV):PW X (.BoolOp .Or (a::b::ag) pos) (Bc tA tV):=by intro j S s σ H Q I h;refine isTrue_or (aw (g S s σ H _ I h) fun c k ⟨d,e,f⟩=>?_);cases c with|true=>exact⟨d,e,f⟩|false=>exact i j S k σ d Q e f
theorem DS (b:PT X a tA):PT X (.UnaryOp .Not a pos) (KQ tA):=by intro S s σ H Q I h;exact isTrue_not (b S s σ H (fun c d=>Q (!c) d) I h)
def CM (r tb:TE):TE:=fun σ H Q=>r σ H fun x a=>∃c,x=.bl c/\if c=true then tb σ a Q else Q (.bl false) a
def KP (r tb:TE):TE:=fun σ H Q=>r σ H fun x a=>∃c,x=.bl c/\if c=true then Q (.bl true) a else tb σ a Q
def CL (r:TE):TE:=fun σ H Q=>r σ H fun x a=>∃c,x=.bl c/\Q (.bl (!c)) a
theorem DR {op}{t:TE}(h:PE X a t):PE X (.BoolOp op [a] pos) t:=fun S s σ H Q I b=>BoolOp_one (h S s σ H Q I b)
theorem DQ (g:PE X a r)(i:PE X (.BoolOp .And (b::ag) pos) tb):PE X (.BoolOp .And (a::b::ag) pos) (CM r tb):=by intro S s σ H Q I h;refine BoolOp_and (aw (g S s σ H _ I h) fun v j ⟨x,e,f,k,d⟩=>?_);obtain⟨c,rfl,d⟩:=d;cases k;refine Yi ?_;cases c with|true=>exact i S j σ e Q f d|false=>exact⟨.bl false,e,f,rfl,d⟩
theorem CK (g:PE X a r)(i:PE X (.BoolOp .Or (b::ag) pos) tb):PE X (.BoolOp .Or (a::b::ag) pos) (KP r tb):=by intro S s σ H Q I h;refine BoolOp_or (aw (g S s σ H _ I h) fun v j ⟨x,e,f,k,d⟩=>?_);obtain⟨c,rfl,d⟩:=d;cases k;refine Yi ?_;cases c with|false=>exact i S j σ e Q f d|true=>exact⟨.bl true,e,f,rfl,d⟩
theorem Ov (d:PE X a r):PE X (.UnaryOp .Not a pos) (CL r):=by intro S s σ H Q I h;refine UnaryOp_ (aw (d S s σ H _ I h) fun v i ⟨x,e,f,g,b⟩=>?_);obtain⟨c,rfl,b⟩:=b;cases g;exact not_of (Yi ⟨.bl (!c),e,f,rfl,b⟩)
end
def SqL (K:W.Frag)(H:Hp)(a:Addr)(xs:List V):Prop:=Rd H a (.lst xs) ∨
  ∃(o:Obj)(G:Array Value)(n:Nat),K.lookup a=some o/\o.cls=.type "list"/\o.dict=none/\o.data=.seq G n/\G.size<=sizeLine/\Vals xs G.toList
def SqT (K:W.Frag)(H:Hp)(a:Addr)(xs:List V):Prop:=Rd H a (.tup xs) ∨
  ∃(o:Obj)(G:Array Value)(n:Nat),K.lookup a=some o/\o.cls=.type "tuple"/\o.data=.seq G n/\G.size<=sizeLine/\Vals xs G.toList
noncomputable def V8:Value->Option V
 | .none=>some .non
 | .bool b=>some (.bl b)
 | .int i _=>some (.int i)
 | .str x _=>some (.str x)
 | .bytes b _=>some (.byt b)
 | .float b _=>some (.flt b)
 | .ref a=>some (.ref a)
 | .type n=>some (.ty n)
 |_=>none
theorem RelV.abs {x:V}(r:RelV x u):V8 u=some x:=by cases x with|non=>(cases r;rfl)|bl _=>(cases r;rfl)|int _=>(obtain⟨t,rfl⟩:=r;rfl)|str _=>(obtain⟨t,rfl⟩:=r;rfl)|byt _=>(obtain⟨t,rfl⟩:=r;rfl)|flt _=>(obtain⟨t,rfl⟩:=r;rfl)|ref _=>(cases r;rfl)|ty _=>cases r;rfl
theorem RelV.inj {x:V}(r:RelV x u)(q:RelV y u):x=y:=Xt (r.abs.symm.trans q.abs)
theorem Vals.inj {xs a:List V}{B:List Value}(h:Vals xs B)(g:Vals a B):xs=a:=by induction h generalizing a with|nil=>(cases g;rfl)|cons r _ i=>cases g with|cons b t=>rw[r.inj b,i t]
section
variable {s:Shared}{c:List V}
theorem SqL.of (h:H a=some (.lst xs)):SqL K H a xs:=.inl (.inl h)
theorem SqT.of (h:H a=some (.tup xs)):SqT K H a xs:=.inl (.inl h)
theorem Inv.list (I:Inv X S σ H s)(h:SqL X.K H a xs):∃G:List Value,Vals xs G/\PlainL s.heap a G.toArray/\xs.length<=sizeLine:=by rcases h with h|⟨o,G,n,b,c,hd,d,hz,r⟩;obtain⟨z,G,n,r,e⟩:=h.ok I.hok;exact⟨G,r,⟨_,n,e,rfl,rfl,rfl⟩,z⟩;refine⟨G.toList,r,⟨o,n,I.kIn a o b,c,hd,by simpa using d⟩,?_⟩;have e:=r.length;simp only [XS] at e;lia
theorem Inv.tuple (I:Inv X S σ H s)(h:SqT X.K H a xs):∃G:List Value,Vals xs G/\IsTup s.heap a G.toArray/\xs.length<=sizeLine:=by rcases h with h|⟨o,G,n,b,c,d,hz,r⟩;obtain⟨z,G,r,p⟩:=h.ok I.hok;exact⟨G,r,p.tup,z⟩;refine⟨G.toList,r,⟨o,I.kIn a o b,c,n,by simpa using d⟩,?_⟩;have e:=r.length;simp only [XS] at e;lia
theorem Inv.list_inj (I:Inv X S σ H s)(h:SqL X.K H a xs)(h':SqL X.K H a c):xs=c:=by
 obtain⟨G,r,⟨o,n,e,_,_,d⟩,_⟩:=I.list h;obtain⟨its',f,⟨o',i,b,_,_,d'⟩,_⟩:=I.list h';rw[e] at b;cases b;rw[d] at d';injection d' with g _;have:G=its':=by simpa using Yd Array.toList g
 subst this;exact r.inj f
theorem Inv.tuple_inj (I:Inv X S σ H s)(h:SqT X.K H a xs)(h':SqT X.K H a c):xs=c:=by
 obtain⟨G,r,⟨o,e,_,n,d⟩,_⟩:=I.tuple h;obtain⟨its',f,⟨o',b,_,i,d'⟩,_⟩:=I.tuple h';rw[e] at b;cases b;rw[d] at d';injection d' with g _;have:G=its':=by simpa using Yd Array.toList g
 subst this;exact r.inj f
end
noncomputable abbrev Cx.wish (X:Cx)(E:Value->Shared->Prop):Cx:={ X with xe:=E }
abbrev Cx.nox (X:Cx):Cx:=X.wish fun _ _=>False
theorem Cx.Ok.wish (ok:X.Ok)(E:Value->Shared->Prop):(X.wish E).Ok:=⟨ok.mod,ok.kind,ok.glob,ok.blt,ok.above,ok.inj,ok.has,ok.cab,ok.hd,ok.frames,ok.stk,ok.exf,ok.bs,ok.bsz,ok.noex,ok.exfs,ok.funs,ok.frf⟩
theorem Cx.Ok.unwish {E:Value->Shared->Prop}(ok:(X.wish E).Ok):X.Ok:=⟨ok.mod,ok.kind,ok.glob,ok.blt,ok.above,ok.inj,ok.has,ok.cab,ok.hd,ok.frames,ok.stk,ok.exf,ok.bs,ok.bsz,ok.noex,ok.exfs,ok.funs,ok.frf⟩
section
variable {s:Shared}{E:Value->Shared->Prop}
theorem Inv.wish (I:Inv X S σ H s)(E:Value->Shared->Prop):Inv (X.wish E) S σ H s:=⟨I.ok.wish E,I.os,I.bare,I.base,I.loc,I.cell,I.free,I.freeC,I.pin,I.hok,I.len⟩
theorem Inv.unwish (I:Inv (X.wish E) S σ H s):Inv X S σ H s:=⟨I.ok.unwish,I.os,I.bare,I.base,I.loc,I.cell,I.free,I.freeC,I.pin,I.hok,I.len⟩
theorem SP.unwish {D:bp}{f:Flow}{b:Shared}(h:SP (X.wish E) S D f b):SP X S D f b:=by cases f with|next=>(obtain⟨a,H',I,q⟩:=h;exact⟨a,H',I.unwish,q⟩)|brk=>(obtain⟨a,H',I,q⟩:=h;exact⟨a,H',I.unwish,q⟩)|cont=>(obtain⟨a,H',I,q⟩:=h;exact⟨a,H',I.unwish,q⟩)|ret u=>obtain⟨v,a,H',I,r,q⟩:=h;exact⟨v,a,H',I.unwish,r,q⟩
theorem PSs.nox {st:List Stmt}{t:TS}(h:PSs X.nox st t):PSs X st t:=fun S s σ H D I a=>
 XU (h S s σ H D (I.wish _) a) (fun _ _ q=>q.unwish) fun _ _ z=>False.elim z
end
section
variable {c:List Stmt}{t u:TS}{pos:Pos}
def jn:TS:=fun D σ H=>D.nx σ H
def yw (t u:TS):TS:=fun D σ H=>t { D with nx:=u D } σ H
theorem pss_nil:PSs X [] jn:=fun _ _ σ H _ I h=>wpAny_execs_nil ⟨σ,H,I,h⟩
theorem gA (h1:PS X st t)(b:PSs X c u):PSs X (st::c) (yw t u):=by intro S s σ H D I h;refine wpAny_execs_cons (aw (h1 S s σ H { D with nx:=u D } I h) fun f d q=>?_);cases f with|next=>(obtain⟨a,H',e,q⟩:=q;exact b S d a H' D e q)|ret v=>exact q|brk=>exact q|cont=>exact q
theorem gM (h1:PS X st t):PSs X [st] t:=by intro S s σ H D I h;refine wpAny_execs_cons (aw (h1 S s σ H D I h) fun f a q=>?_);cases f with|next=>exact wpAny_execs_nil q|ret v=>exact q|brk=>exact q|cont=>exact q
theorem ps_pass:PS X (.Pass pos) jn:=fun _ _ σ H _ I h=>wpAny_Pass ⟨σ,H,I,h⟩
theorem Inv.quiet {s:Shared}(I:Inv X S σ H s):interactive X.env=false:=by simp [interactive,I.ok.kind]
def CJ (te:TE):TS:=fun D σ H=>te σ H fun _ a=>D.nx σ a
theorem sR (he:PE X e te)(a:swapsWith e none pos.line X.env=pure false:=by rfl):PS X (.Expr e pos) (CJ te):=by intro S s σ H D I h;exact wpAny_Expr_any (aw (he S s σ H _ I h) fun v f ⟨x,b,c,g,d⟩=>⟨σ,b,c,d⟩) I.quiet a
def KO (te:TE):TS:=fun D σ H=>te σ H D.rt
theorem oN (he:PE X e te):PS X (.Return (some e) pos) (KO te):=by intro S s σ H D I h;exact wpAny_Return_some (aw (he S s σ H _ I h) fun v f ⟨x,a,b,c,d⟩=>⟨x,σ,a,b,c,d⟩)
def KN (c:TT)(t u:TS):TS:=fun D σ H=>c σ H fun b a=>if b=true then t D σ a else u D σ a
theorem u5 {c:Expr}{a b:List Stmt}{e:TT}(k:PT X c e)(l:PSs X a t)(m:PSs X b u):PS X (.If c a b pos) (KN e t u):=by intro S s σ H D I h;refine wpAny_If (aw (k S s σ H _ I h) fun d f ⟨g,i,j⟩=>?_);cases d with|true=>exact l S f σ g D i j|false=>exact m S f σ g D i j
end
abbrev TG:=V->St->Hp->(St->Hp->Prop)->Prop
abbrev ng:=List V->St->Hp->(St->Hp->Prop)->Prop
def PG (X:Cx)(b:Expr)(t:TG):Prop:=∀(S:List (Addr×Obj))(s:Shared)(σ:St)(H:Hp)(v:V)(u:Value)(Q:St->Hp->Prop),Inv X S σ H s->RelV v u->t v σ H Q →wpAny (model X.prog X.w) X.A (assign b X.env u) (fun _ c=>∃ a H',Inv X S a H' c/\Q a H') X.xe s
def PGs (X:Cx)(ts:List Expr)(t:ng):Prop:=∀(S:List (Addr×Obj))(s:Shared)(σ:St)(H:Hp)(Z:List V)(B:List Value)(Q:St->Hp->Prop),Inv X S σ H s->Vals Z B->t Z σ H Q →wpAny (model X.prog X.w) X.A (assignInOrder ((assignEach ts X.env).map (·.2)) B) (fun _ b=>∃ a H',Inv X S a H' b/\Q a H') X.xe s
abbrev oS:=V->V->V->Hp->(Hp->Prop)->Prop
def KL (X:Cx)(t:oS):Prop:=∀(S:List (Addr×Obj))(s:Shared)(σ:St)(H:Hp)(o i v:V)(a b u:Value)(Q:Hp->Prop),Inv X S σ H s->RelV o a->RelV i b->RelV v u->t o i v H Q →wpAny (model X.prog X.w) X.A (setItem a b u) (fun _ c=>∃H',Inv X S σ H' c/\Q H') X.xe s
abbrev wN:=V->V->Hp->VK->Prop
def A0 (X:Cx)(op:Operator)(t:wN):Prop:=∀(S:List (Addr×Obj))(s:Shared)(σ:St)(H:Hp)(x y:V)(v u:Value)(Q:VK),Inv X S σ H s->RelV x v->RelV y u->t x y H Q →wpAny (model X.prog X.w) X.A (inplaceOp op v u) (EP X S σ Q) X.xe s
section
variable {pos:Pos}
def pZ (i:Nat):TG:=fun v σ H Q=>Q (σ.set i (some v)) H
theorem m9 (a:X.N.Nodup)(b:X.N[i]?=some x)(c:lI X.env.scope x)(d:lf X x:=by first|exact .inl rfl|exact .inr rfl|assumption):PG X (.Name x pos) (pZ i):=by intro S s σ H v u Q I r h;exact wpAny_assign_Name (z9 I a b c r (fun f e=>⟨_,H,e,h⟩) d)
def rL:ng:=fun Z σ H Q=>Z=[]/\Q σ H
def CI (t:TG)(u:ng):ng:=fun Z σ H Q=>∃v r,Z=v::r/\t v σ H fun a H'=>u r a H' Q
theorem pgs_nil:PGs X [] rL:=by intro S s σ H Z B Q I r h;obtain⟨e,h⟩:=h;subst e;cases r;exact assignInOrder_nil ⟨σ,H,I,h⟩
theorem sZ {t:TG}{u:ng}(h1:PG X e t)(b:PGs X es u)
  (c:(assignEach (e::es) X.env).map (·.2)=assign e X.env::(assignEach es X.env).map (·.2):=by rfl):PGs X (e::es) (CI t u):=by
 intro S s σ H Z B Q I r h;obtain⟨v,l,d,h⟩:=h;subst d
 cases r with
 |cons r f=>rw[c];refine assignInOrder_cons (aw (h1 S s σ H _ _ _ I r h) fun _ g ⟨a,i,j,k⟩=>?_);exact b S g a i _ _ Q j f k
def KJ (K:W.Frag)(n:Nat)(t:ng):TG:=fun v σ H Q=>∃a xs,v=.ref a/\SqT K H a xs/\xs.length=n/\t xs σ H Q
theorem zf {k:Nat}{t:ng}{n:Nat}(f:X.calm=true)(h:PGs X es t)
  (g:(assignEach es X.env).length=n:=by rfl) (i:(assignEach es X.env).findIdx? (·.1)=none:=by rfl):PG X (.Tuple es k pos) (KJ X.K n t):=by
 intro S s σ H v u Q I r c;obtain⟨a,xs,j,l,m,c⟩:=c;subst j;cases r;obtain⟨G,d,p,hz⟩:=I.tuple l;refine assign_Tuple_tuple (I.ok.hd f) p (by simp [g,<- m,d.length]) i fun h' q=>?_;have w:Inv X S σ H { s with heap:=h' }:=I.kept (t':=s.toks) fun b o e=>q b o (Xu (Xi e)) e;exact h S _ σ H xs _ Q w (by simpa using d) c
def KI (to ti:TE)(t:oS):TG:=fun v σ H Q=>to σ H fun o a=>ti σ a fun i b=>t o i v b fun c=>Q σ c
theorem Ou {o i:Expr}{to ti:TE}{t:oS}(c:PE X o to)(d:PE X i ti)(e:KL X t)
  (f:∀v,assign (.Subscript o i pos) X.env v=(do
   let a ← holding [v] (eval o X.env)
   let b ← holding [v,a] (eval i X.env)
   standAt pos
   holding [v,a,b] (setItem a b v)
   release [v,a,b] []):=by intro _;rfl):PG X (.Subscript o i pos) (KI to ti t):=by
 intro S s σ H v u Q I r h;rw[f];refine W3 (Yu (aw (c S s σ H _ I h) fun a g Z=>?_));obtain⟨x,j,k,l,m⟩:=Z;refine W3 (Yu (aw (d S g σ j _ k m) fun b n Y=>?_));obtain⟨y,p,q,w,z⟩:=Y;refine W3 (wpAny_standAt (W3 (Yu (aw (e S n σ p x y v a b u _ q l w r z) fun _ s3 W=>?_))));obtain⟨A,B,C⟩:=W;exact wpAny_release ⟨σ,A,B,C⟩
def oy (te:TE)(g:TG):TS:=fun D σ H=>te σ H fun x a=>g x σ a D.nx
theorem DP {g:TG}(he:PE X e te)(a:PG X O g)(b:swapsWithSole [O] e pos.line X.env=pure false:=by rfl)(c:swappedStores [O] e X.env=pure none:=by rfl)
  (h1:(assignEach [O] X.env).map (·.2)=[assign O X.env]:=by rfl):PS X (.Assign [O] e pos) (oy te g):=by
 intro S s σ H D I h;refine wpAny_Assign_stores (aw (he S s σ H _ I h) fun v d ⟨x,f,i,j,k⟩=>?_) b c;rw[h1];exact aw (a S d σ f x v _ i j k) fun _ l q=>q
theorem jV (a:X.N.Nodup)(b:X.N[i]?=some x)(c:lI X.env.scope x)(he:PE X e te)(d:swapsWith e (some (.Name x M)) pos.line X.env=pure false:=by rfl)(f:lf X x:=by first|exact .inl rfl|exact .inr rfl|assumption):PS X (.Assign [.Name x M] e pos) (oy te (pZ i)):=by intro S s σ H D I h;refine wpAny_Assign_Name (aw (he S s σ H _ I h) fun v n ⟨y,g,j,k,l⟩=>?_) d;exact z9 j a b c k (fun o m=>⟨_,g,m,l⟩) f
def V7 (i:Nat)(te:TE)(ti:wN):TS:=fun D σ H=>∃x,σ[i]?=some (some x)/\te σ H fun y a=>ti x y a fun z b=>D.nx (σ.set i (some z)) b
theorem DO {op:Operator}{ti:wN}(g:X.N.Nodup)(f:X.N[i]?=some x)(d:lI X.env.scope x)(he:PE X e te)(j:A0 X op ti)(n:lf X x:=by first|exact .inl rfl|exact .inr rfl|assumption):PS X (.AugAssign (.Name x M) op e pos) (V7 i te ti):=by
 intro S s σ H D I h;obtain⟨v,o,h⟩:=h;obtain⟨m,p,q⟩:=I.loc;have vis:tq X.env.scope x:=by rcases d with k|k;exact .inl k;exact .inr (.inl k)
 obtain⟨u,r,l⟩:=q i x v f o vis;refine wpAny_AugAssign_Name ?_;have go:wpAny (model X.prog X.w) X.A (eval e X.env) (fun w s₂=>wpAny (model X.prog X.w) X.A (inplaceOp op u w) (fun r s₃=>wpAny (model X.prog X.w) X.A (storeName X.env x r) (fun _=>SP X S D .next) X.xe s₃) X.xe s₂) X.xe s:=by refine aw (he S s σ H _ I h) fun w t ⟨y,B,C,E,F⟩=>?_;refine aw (j S t σ B v y u w _ C r E F) fun z R Z=>?_;obtain⟨T,G,J,K,L⟩:=Z;exact z9 J g f d K (fun s3 O=>⟨_,G,O,L⟩) n
 rcases l with ⟨a,P⟩|⟨a,c,Q,b⟩;exact wpAny_loadName_local I.ok.kind a p P go;rcases a with a|a;exact wpAny_loadName_cell I.ok.kind a Q b go;rcases d with k|k;have:X.env.scope.names.lookup x=some .free:=a;rw[k] at this;cases this;have:X.env.scope.names.lookup x=some .free:=a;rw[k] at this;cases this
def Bs (f:Int->Int->Int):wN:=fun x y H Q=>∃i j,x=.int i/\y=.int j/\Q (.int (f i j)) H
theorem Ot:A0 X .Add (Bs fun i j=>i+j):=by intro S s σ H x y v u Q I a b h;obtain⟨i,j,c,d,q⟩:=h;subst c;subst d;obtain⟨t,rfl⟩:=a;obtain⟨t',rfl⟩:=b;exact iadd_int ⟨.int _,H,I.tok _,⟨_,rfl⟩,q⟩
theorem Oq:A0 X .Sub (Bs fun i j=>i-j):=by intro S s σ H x y v u Q I a b h;obtain⟨i,j,c,d,q⟩:=h;subst c;subst d;obtain⟨t,rfl⟩:=a;obtain⟨t',rfl⟩:=b;exact isub_int ⟨.int _,H,I.tok _,⟨_,rfl⟩,q⟩
def DN (c:TT)(tb:TS):TS:=fun D σ H=>∃W:Nat->St->Hp->Prop,(∃m,W m σ H)/\∀m σ H,W m σ H →c σ H fun b d=>if b=true then ∃N:St->Hp->Prop,(∀ a H',N a H'->∃e,e<m/\W e a H')/\tb { D with nx:=N,ct:=N,bk:=D.nx } σ d else D.nx σ d
theorem Se {c:Expr}{q:TT}{tb:TS}(r:PassesOwn (model X.prog X.w) X.A X.env X.xe)(z:PT X c q)(B:PSs X body tb):PS X (.While c body [] pos) (DN q tb):=by intro S s σ H D I h;obtain⟨W,⟨C,E⟩,F⟩:=h;refine wpAny_While (codeAny_whileLoop (fun n G=>∃ e H',Inv X S e H' G/\W n e H') ?_ C ⟨σ,H,I,E⟩);rintro n J ⟨d,t,K,L⟩;refine YS r (aw (z S J d t _ K (F n d t L)) fun b M ⟨u,x,i⟩=>?_);cases b with|true=>(obtain⟨N,y,i⟩:=i;rw[Xk rfl];refine YS r (aw (B S M d u _ x i) fun f s3 j=>?_);cases f with|next=>(obtain⟨a,g,k,l⟩:=j;obtain⟨m,o,p⟩:=y a g l;exact⟨m,o,a,g,k,p⟩)|cont=>(obtain⟨a,g,k,l⟩:=j;obtain⟨m,o,p⟩:=y a g l;exact⟨m,o,a,g,k,p⟩)|brk=>exact j|ret v=>exact j)|false=>rw[Xh W6];exact wpAny_execs_nil ⟨d,u,x,i⟩
end
structure It where
 go:Nat->Hp->Prop
 yld:Nat->Hp->V->Hp->Prop
 stop:Nat->Hp->Prop
def bW (X:Cx)(S:List (Addr×Obj))(H:Hp)(b:Addr):Prop:=H b=none/\b≠X.env.locals/\b∉X.fs/\(b∈X.ex∨X.s₀.heap.objs.size<=b)/\(∀x c,X.env.cells.lookup x=some c->c≠b)/\∀p∈X.pn++S,p.1≠b
theorem Inv.fpOk {s:Shared}(I:Inv X S σ H s)(a:s.heap.objs.size<=b)(d:H' b=none):bW X S H' b:=by refine⟨d,YE (Xx I.lt a),I.nofs a,.inr (XZ I.sz a),fun x c e z=>?_,fun p f z=>?_⟩;obtain⟨v,q⟩:=I.cell x c e;exact absurd (Xx q.lt (by rw[z];exact a)) (X7 _);exact absurd (Xx (Xi (I.pin p f).1) (by rw[z];exact a)) (X7 _)
structure cA (P:Program)(w:World)(K:W.Frag)(O:Expr)(J:It)(fp:List Addr)(it:Addr)(tn:Nat->Heap->Prop):Prop where
 mem:it∈fp
 obj:∀i h,tn i h->∀b∈fp,∃o,h.get? b=some o/\∀v,o.data ≠ .cell v
 keep:∀i h h',tn i h->(∀b∈fp,∀o,h.get? b=some o->h'.get? b=some o)->tn i h'
 item:∀(X:Cx),X.prog=P->X.w=w->X.K=K->X.calm=true->∀(i:Nat)(S:List (Addr×Obj))(s:Shared)(σ:St)(H:Hp)(E:Value->Shared->Prop),Inv X S σ H s->(∀b∈fp,bW X S H b)->tn i s.heap->J.go i H →wpAny (model P w) X.A (pyNext (.ref it)) (fun r s1=>∃u,r=some u ∧wpAny (model P w) X.A (letOwnedTupleGo O (.ref it) u) (fun _ s2=>∃x H',Inv X S σ H' s2/\RelV x u/\J.yld i H x H'/\tn (i+1) s2.heap/\∀b∈fp,H' b=none) E s1) E s
 done:∀(X:Cx),X.prog=P->X.w=w->X.K=K->X.calm=true->∀(i:Nat)(S:List (Addr×Obj))(s:Shared)(σ:St)(H:Hp)(E:Value->Shared->Prop),Inv X S σ H s->(∀b∈fp,bW X S H b)->tn i s.heap->J.stop i H →wpAny (model P w) X.A (pyNext (.ref it)) (fun r s1=>r=none/\Inv X S σ H s1) E s
 self:∀(A:Around)(i:Nat)(s:Shared)(Q:Value->Shared->Prop)(E:Value->Shared->Prop),tn i s.heap->Q (.ref it) s->wpAny (model P w) A (pyIter (.ref it)) Q E s
abbrev TI:=St->Hp->(It->Hp->Prop)->Prop
def A3 (X:Cx)(S:List (Addr×Obj))(σ:St)(O:Expr)(R:It->Hp->Prop)(d:Value)(a:Shared):Prop:=∃(it:Addr)(fp:List Addr)(c:Nat->Heap->Prop)(J:It)(H':Hp),d=.ref it/\Inv X S σ H' a/\cA X.prog X.w X.K O J fp it c/\c 0 a.heap/\(∀b∈fp,bW X S H' b)/\R J H'
def PI (X:Cx)(O iter:Expr)(a:TI):Prop:=∀(S:List (Addr×Obj))(s:Shared)(σ:St)(H:Hp)(R:It->Hp->Prop),Inv X S σ H s->a σ H R →wpAny (model X.prog X.w) X.A (eval iter X.env) (fun v b=>wpAny (model X.prog X.w) X.A (pyIter v) (A3 X S σ O R) X.xe b) X.xe s
variable {wi:TI}
theorem pY {M:Model}{A:Around}{E:Value->Shared->Prop}{s:Shared}{o:Obj}{n:String}{Z:Array Value}{Q:Unit->Shared->Prop}(b:s.heap.get? it=some o)(c:o.cls=.type n)(hd:o.data=.fields Z)
  (d : ["enumerate","zip","dict_itemiterator","dict_reverseitemiterator","odict_iterator","itertools.zip_longest","itertools.pairwise"].contains n=false) (a:Q () s):wpAny M A (letOwnedTupleGo O (.ref it) u) Q E s:=by
 unfold letOwnedTupleGo
 cases O <;> first
  |exact Xb a
  | (cases u <;> first
    |exact Xb a
    | (refine W3 (wpAny_load b ?_)
       rw[c,hd];show wpAny M A (if (["enumerate","zip","dict_itemiterator","dict_reverseitemiterator","odict_iterator","itertools.zip_longest","itertools.pairwise"].contains n&&Z[0]? == some (rawInt _))=true then _ else _) Q E s;rw[Xh (by intro h;rw[d,Bool.false_and] at h;cases h)]
       exact Xb a))
noncomputable def qu (K:W.Frag)(a:Addr):It:=⟨fun i H=>∃xs x,SqL K H a xs/\xs[i]?=some x,fun i H x H'=>H'=H/\∀xs,SqL K H a xs->xs[i]?=some x,fun i H=>∃xs,SqL K H a xs/\xs.length<=i⟩
noncomputable def qt (K:W.Frag)(a:Addr):It:=⟨fun i H=>∃xs x,SqT K H a xs/\xs[i]?=some x,fun i H x H'=>H'=H/\∀xs,SqT K H a xs->xs[i]?=some x,fun i H=>∃xs,SqT K H a xs/\xs.length<=i⟩
noncomputable def wQ (lo:Int)(n:Nat):It:=⟨fun i _=>i<n,fun i H x H'=>H'=H/\x=.int (lo+i),fun i _=>n<=i⟩
theorem Hj (a it:Addr):cA P w K O (qu K a) [it] it (fun i h=>h.IsListIter it a i) where
 mem:=by simp
 obj:=fun i h st b hb=>by
  have e:b=it:=by simpa using hb
  subst e;obtain⟨o,e,c,d⟩:=st;exact⟨o,e,fun v z=>by rw[d] at z;cases z⟩
 keep:=fun i h h' st k=>st.at fun o e=>k it (by simp) o e
 item:=by intro X hP hw hK hc i S s σ H E I hf st hg;subst hP hw hK;obtain⟨xs,x,hq,hx⟩:=hg;obtain⟨G,rv,p,hz⟩:=I.list hq;obtain⟨u,hu,ru⟩:=rv.get hx;obtain⟨f0,f1,f2,f3,f4,f5⟩:=hf it (by simp);refine wpAny_pyNext_list_item st p.isList (x:=u) (by simpa using hu) fun h' ed sb=>?_;have I1:Inv X S σ H { s with heap:=h' }:=I.turned (t':=s.toks) (fun b o hb e=>(sb.2 b hb).trans e) f0 f1 f3 f4 f5;obtain⟨o,e,c,d⟩:=id ed;exact⟨u,rfl,pY (s:={ s with heap:=h' }) e c d (by decide) ⟨x,H,I1,ru,⟨rfl,fun ys hy=>by rw[I.list_inj hy hq];exact hx⟩,ed,fun b hb=>(hf b hb).1⟩⟩
 done:=by intro X hP hw hK hc i S s σ H E I hf st hg;subst hP hw hK;obtain⟨xs,hq,hx⟩:=hg;obtain⟨G,rv,p,hz⟩:=I.list hq;obtain⟨f0,f1,f2,f3,f4,f5⟩:=hf it (by simp);have hl:=rv.length;exact wpAny_pyNext_list_end (I.ok.hd hc) st p.isList (by simp;lia) fun h' eb=>⟨rfl,I.turned (t':=s.toks) (fun b o hb e=>eb b o hb e) f0 f1 f3 f4 f5⟩
 self:=fun _ _ _ _ _ st h=>wpAny_pyIter_listiter st h
theorem Ia (a it:Addr):cA P w K O (qt K a) [it] it (fun i h=>h.IsTupleIter it a i) where
 mem:=by simp
 obj:=fun i h st b hb=>by
  have e:b=it:=by simpa using hb
  subst e;obtain⟨o,e,c,d⟩:=st;exact⟨o,e,fun v z=>by rw[d] at z;cases z⟩
 keep:=fun i h h' st k=>st.at fun o e=>k it (by simp) o e
 item:=by intro X hP hw hK hc i S s σ H E I hf st hg;subst hP hw hK;obtain⟨xs,x,hq,hx⟩:=hg;obtain⟨G,rv,p,hz⟩:=I.tuple hq;obtain⟨u,hu,ru⟩:=rv.get hx;obtain⟨f0,f1,f2,f3,f4,f5⟩:=hf it (by simp);refine wpAny_pyNext_tuple_item st (show s.heap.IsTuple a G.toArray from p) (x:=u) (by simpa using hu) fun h' ed sb=>?_;have I1:Inv X S σ H { s with heap:=h' }:=I.turned (t':=s.toks) (fun b o hb e=>(sb.2 b hb).trans e) f0 f1 f3 f4 f5;obtain⟨o,e,c,d⟩:=id ed;exact⟨u,rfl,pY (s:={ s with heap:=h' }) e c d (by decide) ⟨x,H,I1,ru,⟨rfl,fun ys hy=>by rw[I.tuple_inj hy hq];exact hx⟩,ed,fun b hb=>(hf b hb).1⟩⟩
 done:=by intro X hP hw hK hc i S s σ H E I hf st hg;subst hP hw hK;obtain⟨xs,hq,hx⟩:=hg;obtain⟨G,rv,p,hz⟩:=I.tuple hq;obtain⟨f0,f1,f2,f3,f4,f5⟩:=hf it (by simp);have hl:=rv.length;exact wpAny_pyNext_tuple_end (I.ok.hd hc) st (show s.heap.IsTuple a G.toArray from p) (by simp;lia) fun h' eb=>⟨rfl,I.turned (t':=s.toks) (fun b o hb e=>eb b o hb e) f0 f1 f3 f4 f5⟩
 self:=fun _ _ _ _ _ st h=>wpAny_pyIter_tupleiter st h
theorem UC (it:Addr)(lo:Int)(n:Nat):cA P w K O (wQ lo n) [it] it (fun i h=>IsRangeIter h it (lo+(i:Nat)*1) ((n:Int)-(i:Nat)) 1) where
 mem:=by simp
 obj:=fun i h st b hb=>by
  have e:b=it:=by simpa using hb
  subst e;exact⟨_,st,fun v z=>by
   have z':Data.fields _=Data.cell v:=z
   cases z'⟩
 keep:=fun i h h' st k=>k it (by simp) _ st
 item:=by intro X hP hw hK hc i S s σ H E I hf st hg;subst hP hw hK;obtain⟨f0,f1,f2,f3,f4,f5⟩:=hf it (by simp);have W:=Walks.range (prog:=X.prog) (w:=X.w) (I.ok.hd hc) it lo 1 n;refine W.item i s _ _ hg st fun v h' tk hv ed kk=>?_;obtain⟨t,rfl⟩:=hv;have I1:Inv X S σ H { s with heap:=h',toks:=tk }:=I.turned (fun b o hb e=>kk b o (by simpa using hb) e) f0 f1 f3 f4 f5;refine⟨_,rfl,pY (s:={ s with heap:=h',toks:=tk }) (n:="range_iterator") ed rfl rfl (by decide) ⟨.int (lo+i),H,I1,⟨t,?_⟩,⟨rfl,rfl⟩,ed,fun b hb=>(hf b hb).1⟩⟩;rw[Int.mul_one]
 done:=by intro X hP hw hK hc i S s σ H E I hf st hg;subst hP hw hK;obtain⟨f0,f1,f2,f3,f4,f5⟩:=hf it (by simp);exact wpAny_pyNext_range_end (I.ok.hd hc) st (by have:n<=i:=hg;lia) fun h' eb=>⟨rfl,I.turned (t':=s.toks) (fun b o hb e=>eb b o hb e) f0 f1 f3 f4 f5⟩
 self:=fun _ _ _ _ _ st h=>wpAny_pyIter_rangeiter st h
section
def MW (K:W.Frag)(tl:TE):TI:=fun σ H R=>tl σ H fun x b=>∃a,x=.ref a/\(∃xs,SqL K b a xs)/\R (qu K a) b
def V6 (K:W.Frag)(tl:TE):TI:=fun σ H R=>tl σ H fun x b=>∃a,x=.ref a/\(∃xs,SqT K b a xs)/\R (qt K a) b
theorem Ff {l:Expr}(f:PE X l tl):PI X O l (MW X.K tl):=by
 intro S s σ H R I h;refine aw (f S s σ H _ I h) fun v c z=>?_;obtain⟨x,g,d,i,j⟩:=z;obtain⟨a,e,⟨xs,k⟩,q⟩:=j;subst e;cases i;obtain⟨G,n,p,hz⟩:=d.list k;refine wpAny_pyIter_list p.isList ?_;refine⟨c.heap.objs.size,[c.heap.objs.size],_,_,g,rfl,d.kept (t':=c.toks) fun b o e=>W5 _ e,Hj a _,⟨_,Xg _ rfl,rfl,rfl⟩,fun b m=>?_,q⟩;have e:b=c.heap.objs.size:=by simpa using m
 subst e;exact d.fpOk (W9 _) (d.hok.fresh (W9 _))
theorem Oo {l:Expr}(f:PE X l tl):PI X O l (V6 X.K tl):=by
 intro S s σ H R I h;refine aw (f S s σ H _ I h) fun v c z=>?_;obtain⟨x,g,d,i,j⟩:=z;obtain⟨a,e,⟨xs,k⟩,q⟩:=j;subst e;cases i;obtain⟨G,n,p,hz⟩:=d.tuple k;refine Zi (show c.heap.IsTuple a G.toArray from p) ?_;refine⟨c.heap.objs.size,[c.heap.objs.size],_,_,g,rfl,d.kept (t':=c.toks) fun b o e=>W5 _ e,Ia a _,⟨_,Xg _ rfl,rfl,rfl⟩,fun b m=>?_,q⟩;have e:b=c.heap.objs.size:=by simpa using m
 subst e;exact d.fpOk (W9 _) (d.hok.fresh (W9 _))
theorem Sd {s:Shared}{R:It->Hp->Prop}{E:Value->Shared->Prop}{lo a:Int}{t u v:Tok}{tk:Nat}(I:Inv X S σ H s)(h1 : -(2 ^ 62)<=lo)(d:lo<2 ^ 62)(f : -(2 ^ 62)<=a)(g:a<2 ^ 62)
  (q:R (wQ lo (a-lo).toNat) H):wpAny (model X.prog X.w) X.A (pyIter (.ref s.heap.objs.size)) (A3 X S σ O R) E { s with heap:=s.heap.push { cls:=.type "range",data:=.fields #[.int lo t,.int a u,.int 1 v] },toks:=tk }:=by
 refine wpAny_pyIter_range (IsRange.new ..) (small_one h1 d f g) ?_;have c:Inv X S σ H { s with heap:=s.heap.push { cls:=.type "range",data:=.fields #[.int lo t,.int a u,.int 1 v] },toks:=tk }:=I.kept fun b o e=>W5 _ e
 refine⟨(s.heap.push { cls:=.type "range",data:=.fields #[.int lo t,.int a u,.int 1 v] }).objs.size,[(s.heap.push { cls:=.type "range",data:=.fields #[.int lo t,.int a u,.int 1 v] }).objs.size],_,_,H,rfl,c.kept (t':=tk) fun b o e=>W5 _ e,UC _ lo (a-lo).toNat,?_,fun b h=>?_,q⟩
 .have i:lo+((0:Nat):Int)*1=lo:=by simp
  have j:(((a-lo).toNat:Nat):Int)-((0:Nat):Int)=Builtin.Range.rangeSize lo a 1:=by rw[rangeSize_one];split <;> lia
  show IsRangeIter _ _ (lo+((0:Nat):Int)*1) ((((a-lo).toNat:Nat):Int)-((0:Nat):Int)) 1;rw[i,j];exact Xg _ rfl
 .have e:b=(s.heap.push { cls:=.type "range",data:=.fields #[.int lo t,.int a u,.int 1 v] }).objs.size:=by simpa using h
  subst e;exact c.fpOk (W9 _) (c.hok.fresh (W9 _))
def CH (a:TA):TI:=fun σ H R=>a σ H fun Z b=>∃j:Int,Z=[.int j] /\ -(2 ^ 62)<=j/\j<2 ^ 62/\R (wQ 0 j.toNat) b
theorem TK {a:Expr}{c:TA}{pos:Pos}(d:Gl X "range")(f:X.mg "range"=none)(g:PA X [a] c)(i:starEach [a] X.env=[(false,eval a X.env)]:=by rfl):PI X O (.Call (.Name "range" p) [a] [] pos) (CH c):=by intro S s σ H R I h;refine Call_ (mZ I d f boot_range (Yh (aw (g pos S s σ H _ I h) fun B o ⟨Z,u,k,l,b⟩=>?_) i rfl));obtain⟨j,e,b,m,q⟩:=b;subst e;cases l with|cons r n=>cases n;obtain⟨t,rfl⟩:=r;exact call_range_1 (Sd k (by lia) (by lia) b m (by simpa using q))
def KH (wi:TI)(g:TG)(tb:TS):TS:=fun D σ H=>wi σ H fun J d=>∃W:Nat->Nat->St->Hp->Prop,(∃m,W 0 m σ d)/\∀i m σ H,W i m σ H →(J.stop i H/\D.nx σ H)∨(J.go i H/\∃N:St->Hp->Prop,(∀ a H',N a H'->∃c,c<m/\W (i+1) c a H')/\∀x H',J.yld i H x H'->g x σ H' fun b e=>tb { D with nx:=N,ct:=N,bk:=D.nx } b e)
noncomputable def qb (fp:List Addr)(h:Heap):List (Addr×Obj):=fp.filterMap fun b=>(h.get? b).map fun o=>(b,o)
theorem qo {o:Obj}(a:b∈fp)(e:h.get? b=some o):(b,o)∈qb fp h:=mem_filterMap.mpr ⟨b,a,by rw[e];rfl⟩
theorem TJ {p:Addr×Obj}(a:p∈qb fp h):p.1∈fp/\h.get? p.1=some p.2:=by obtain⟨b,c,e⟩:=mem_filterMap.mp a;cases q:h.get? b with|none=>(rw[q] at e;cases e)|some o=>rw[q] at e;have d:(b,o)=p:=Xt e;subst d;exact⟨c,q⟩
theorem Inv.pinned {s:Shared}(I:Inv X S σ H s)(f:∀b∈fp,bW X S H b)(g:∀b∈fp,∃o,s.heap.get? b=some o/\∀v,o.data ≠ .cell v):Inv X (S++qb fp s.heap) σ H s:=I.pins_of fun p h=>(Xn.mp h).elim (fun z=>I.pin p (XE _ z)) fun z=>by obtain⟨a,e⟩:=TJ z;obtain⟨i,f1,j,_⟩:=f p.1 a;obtain⟨o,c,d⟩:=g p.1 a;rw[e] at c;cases c;exact⟨e,i,f1,j,d⟩
theorem Inv.unpinned {pl:List (Addr×Obj)}{s:Shared}(I:Inv X (S++pl) σ H s):Inv X S σ H s:=I.pins_of fun p a=>I.pin p (XE _ (X6 _ a))
theorem vz {g:TG}{tb:TS}{pos:Pos}(y:PassesOwn (model X.prog X.w) X.A X.env X.xe)(R:X.calm=true)(hi:PI X O iter wi)(hg:PG X O g)(c:PSs X body tb)
  (hs:∀x,foldedSetIterable iter X.env x=pure x:=by intro _;rfl):PS X (.For O iter body [] pos) (KH wi g tb):=by
 intro S s σ H D I h;refine wpAny_For (aw (hi S s σ H _ I h) fun v s1 h1=>aw h1 fun pf s2 h2=>?_) hs;obtain⟨it,fp,U,J,H2,e,I2,T,F,V,W,⟨m0,w0⟩,br⟩:=h2;subst e;have G:∀{H':Hp},(∀b∈fp,H' b=none)->∀b∈fp,bW X S H' b:=fun hn b c=>⟨hn b c,(V b c).2⟩;refine codeAny_forLoop_any (fun n Y=>∃i j H',Inv X S j H' Y/\U i Y.heap/\(∀b∈fp,H' b=none)/\W i n j H') ?_ m0 ⟨0,σ,H2,I2,F,fun b c=>(V b c).1,w0⟩;rintro n s3 ⟨i,k,E,Z,z,B,w3⟩;rcases br i n k E w3 with ⟨stop,qn⟩|⟨go,N,hN,step⟩
 .refine YS y (aw (T.done X rfl rfl rfl R i S s3 k E X.xe Z (G B) z stop) fun r s4 z0=>?_);obtain⟨K,I4⟩:=z0;subst K;exact wpAny_execs_nil ⟨k,E,I4,qn⟩
 .refine YS y (aw (T.item X rfl rfl rfl R i S s3 k E X.xe Z (G B) z go) fun r s4 z1=>?_);obtain⟨u,K,h4⟩:=z1
  subst K;refine YS y (aw h4 fun _ s5 z2=>?_);obtain⟨x,H5,I5,r5,y5,t,L⟩:=z2;have M:=I5.pinned (G L) (T.obj _ _ t);refine YS y (aw (hg _ s5 k H5 x u _ M r5 (step x H5 y5)) fun _ s6 z3=>?_);obtain⟨P,H6,I6,q6⟩:=z3;refine YS y (aw (c _ s6 P H6 _ I6 q6) fun f Q q=>?_);have again:∀{a:St}{l:Hp},Inv X (S++qb fp s5.heap) a l Q->N a l->∃m,m<n/\∃i j H',Inv X S j H' Q/\U i Q.heap/\(∀b∈fp,H' b=none)/\W i m j H':=fun {a l} p C=>by obtain⟨m',hm,w7⟩:=hN a l C;refine⟨m',hm,i+1,a,l,p.unpinned,T.keep _ _ _ t fun b c o e=>(p.pin (b,o) (XE _ (XE _ (qo c e)))).1,fun b c=>?_,w7⟩;obtain⟨o,e,d⟩:=T.obj _ _ t b c;exact(p.pin (b,o) (XE _ (XE _ (qo c e)))).2.1
  cases f with
  |next=>obtain⟨a,l,p,C⟩:=q;exact again p C
  |cont=>obtain⟨a,l,p,C⟩:=q;exact again p C
  |brk=>obtain⟨a,l,p,q⟩:=q;exact⟨a,l,p.unpinned,q⟩
  |ret v=>obtain⟨x7,a,l,p,r7,q⟩:=q;exact⟨x7,a,l,p.unpinned,r7,q⟩
end
theorem Gx {g:TG}{tb:TS}{D:bp}(Pv:Nat->St->Hp->Prop)(j:Pv 0 σ H)(k:∀i σ H,i<=xs.length->Pv i σ H->SqL K H a xs)
  (l:∀i x σ H,xs[i]?=some x->Pv i σ H->g x σ H fun b f=>tb { D with nx:=Pv (i+1),ct:=Pv (i+1),bk:=D.nx } b f) (hd:∀ σ H,Pv xs.length σ H->D.nx σ H):
  ∃W:Nat->Nat->St->Hp->Prop,(∃m,W 0 m σ H)/\∀i m σ H,W i m σ H →((qu K a).stop i H/\D.nx σ H)∨((qu K a).go i H/\∃N:St->Hp->Prop,(∀ c H',N c H'->∃h,h<m/\W (i+1) h c H')/\∀x H',(qu K a).yld i H x H'->g x σ H' fun b f=>tb { D with nx:=N,ct:=N,bk:=D.nx } b f):=by
 refine⟨fun i m σ H=>m=xs.length-i/\i<=xs.length/\Pv i σ H,⟨xs.length,by simp,Xw _,j⟩,?_⟩;rintro i m σ H ⟨rfl,n,p⟩;have q:=k i σ H n p
 by_cases d:i<xs.length
 .refine .inr ⟨⟨xs,xs[i],q,by simp [d]⟩,Pv (i+1),fun c H' o=>⟨xs.length-(i+1),by lia,rfl,d,o⟩,fun x H' y=>?_⟩;obtain⟨e,y⟩:=y;subst e;exact l i x σ _ (y xs q) p
 .have e:i=xs.length:=by lia
  subst e;exact .inl ⟨⟨xs,q,W9 _⟩,hd σ H p⟩
theorem Qv {g:TG}{tb:TS}{D:bp}(Pv:Nat->St->Hp->Prop)(j:Pv 0 σ H)(k:∀i σ H,i<=xs.length->Pv i σ H->SqT K H a xs)
  (l:∀i x σ H,xs[i]?=some x->Pv i σ H->g x σ H fun b f=>tb { D with nx:=Pv (i+1),ct:=Pv (i+1),bk:=D.nx } b f) (hd:∀ σ H,Pv xs.length σ H->D.nx σ H):
  ∃W:Nat->Nat->St->Hp->Prop,(∃m,W 0 m σ H)/\∀i m σ H,W i m σ H →((qt K a).stop i H/\D.nx σ H)∨((qt K a).go i H/\∃N:St->Hp->Prop,(∀ c H',N c H'->∃h,h<m/\W (i+1) h c H')/\∀x H',(qt K a).yld i H x H'->g x σ H' fun b f=>tb { D with nx:=N,ct:=N,bk:=D.nx } b f):=by
 refine⟨fun i m σ H=>m=xs.length-i/\i<=xs.length/\Pv i σ H,⟨xs.length,by simp,Xw _,j⟩,?_⟩;rintro i m σ H ⟨rfl,n,p⟩;have q:=k i σ H n p
 by_cases d:i<xs.length
 .refine .inr ⟨⟨xs,xs[i],q,by simp [d]⟩,Pv (i+1),fun c H' o=>⟨xs.length-(i+1),by lia,rfl,d,o⟩,fun x H' y=>?_⟩;obtain⟨e,y⟩:=y;subst e;exact l i x σ _ (y xs q) p
 .have e:i=xs.length:=by lia
  subst e;exact .inl ⟨⟨xs,q,W9 _⟩,hd σ H p⟩
abbrev R2:=V->V->Hp->VK->Prop
def OpR (X:Cx)(f:Value->Value->Sem Value)(r:R2):Prop:=∀(S:List (Addr×Obj))(s:Shared)(σ:St)(H:Hp)(x y:V)(v u:Value)(Q:VK),Inv X S σ H s->RelV x v->RelV y u->r x y H Q →wpAny (model X.prog X.w) X.A (f v u) (EP X S σ Q) X.xe s
def AY (X:Cx)(f:Value->Sem Value)(r:V->Hp->VK->Prop):Prop:=∀(S:List (Addr×Obj))(s:Shared)(σ:St)(H:Hp)(x:V)(v:Value)(Q:VK),Inv X S σ H s->RelV x v->r x H Q →wpAny (model X.prog X.w) X.A (f v) (EP X S σ Q) X.xe s
def gy (X:Cx)(f:Value)(r:List V->Hp->VK->Prop):Prop:=∀(S:List (Addr×Obj))(s:Shared)(σ:St)(H:Hp)(xs:List V)(B:List Value)(Q:VK),Inv X S σ H s->Vals xs B->r xs H Q →wpAny (model X.prog X.w) X.A (call f B) (EP X S σ Q) X.xe s
def V5 (X:Cx)(r:V->Hp->(Bool->Hp->Prop)->Prop):Prop:=∀(S:List (Addr×Obj))(s:Shared)(σ:St)(H:Hp)(x:V)(v:Value)(Q:Bool->Hp->Prop),Inv X S σ H s->RelV x v->r x H Q →wpAny (model X.prog X.w) X.A (truthy v) (TP X S σ Q) X.xe s
def qy (r:R2)(a tb:TE):TE:=fun σ H Q=>a σ H fun x b=>tb σ b fun y c=>r x y c Q
def tU (r:V->Hp->VK->Prop)(a:TE):TE:=fun σ H Q=>a σ H fun x b=>r x b Q
def rI (C:Int->Int->Prop)(g:Int->Int->V):R2:=fun x y H Q=>∃i j,x=.int i/\y=.int j/\C i j/\Q (g i j) H
def j4 (g:Int->Int->V):R2:=fun x y H Q=>∃i j,x=.int i/\y=.int j/\Q (g i j) H
def rU (g:Int->V):V->Hp->VK->Prop:=fun x H Q=>∃i,x=.int i/\Q (g i) H
variable {r r':R2}
section
variable {a b c:Expr}{ta tb tc:TE}{pos:Pos}
theorem yu (g:PE X a ta)(i:PE X b tb){S:List (Addr×Obj)}{s:Shared}{σ:St}{H:Hp}{R:V->V->Hp->Prop}(I:Inv X S σ H s)
  (h:ta σ H fun x e=>tb σ e fun y c=>R x y c) {Q:Value->Shared->Prop} {f:Value->Value->Sem Value}
  (j:∀v u d x y c,Inv X S σ c d->RelV x v->RelV y u->R x y c->wpAny (model X.prog X.w) X.A (f v u) Q X.xe d):
  wpAny (model X.prog X.w) X.A (eval a X.env) (fun v s₁=>wpAny (model X.prog X.w) X.A (eval b X.env) (fun u s₂=>wpAny (model X.prog X.w) X.A (f v u) Q X.xe s₂) X.xe s₁) X.xe s:=by
 refine aw (g S s σ H _ I h) fun v k z=>?_;obtain⟨x,e,l,m,n⟩:=z;refine aw (i S k σ e _ l n) fun u d t=>?_;obtain⟨y,c,o,p,q⟩:=t;exact j v u d x y c o m p q
theorem lB {op:Operator}(c:OpR X (binaryOp op) r)(d:PE X a ta)(e:PE X b tb):PE X (.BinOp a op b pos) (qy r ta tb):=by intro S s σ H Q I h;exact wpAny_BinOp (yu d e I h fun v u f x y g i j k q=>c S f σ g x y v u Q i j k q)
theorem u4 {op:UnaryOp}{r:V->Hp->VK->Prop}(b:AY X (unaryOp op) r)(c:PE X a ta):PE X (.UnaryOp op a pos) (tU r ta):=by intro S s σ H Q I h;exact UnaryOp_ (aw (c S s σ H _ I h) fun v d ⟨x,e,f,g,i⟩=>b S d σ e x v Q f g i)
theorem tY {f:Value->Value->Sem Value}{C:Int->Int->Prop}{g:Int->Int->Int}
  (rule:∀(i j:Int)(t u:Tok)(s:Shared)(Q:Value->Shared->Prop)(E:Value->Shared->Prop),C i j->Q (.int (g i j) s.toks) { s with toks:=s.toks+1 }->wpAny (model X.prog X.w) X.A (f (.int i t) (.int j u)) Q E s):
  OpR X f (rI C fun i j=>.int (g i j)):=by
 intro S s σ H x y v u Q I a b h;obtain⟨i,j,rfl,rfl,c,q⟩:=h;obtain⟨t,rfl⟩:=a;obtain⟨t',rfl⟩:=b;exact rule i j t t' s _ _ c ⟨.int (g i j),H,I.tok _,⟨_,rfl⟩,q⟩
theorem KG {f:Value->Value->Sem Value}{g:Int->Int->Int}
  (rule:∀(i j:Int)(t u:Tok)(s:Shared)(Q:Value->Shared->Prop)(E:Value->Shared->Prop),Q (.int (g i j) s.toks) { s with toks:=s.toks+1 }->wpAny (model X.prog X.w) X.A (f (.int i t) (.int j u)) Q E s):
  OpR X f (j4 fun i j=>.int (g i j)):=by
 intro S s σ H x y v u Q I a b h;obtain⟨i,j,rfl,rfl,q⟩:=h;obtain⟨t,rfl⟩:=a;obtain⟨t',rfl⟩:=b;exact rule i j t t' s _ _ ⟨.int (g i j),H,I.tok _,⟨_,rfl⟩,q⟩
theorem uO {f:Value->Value->Sem Value}{g:Int->Int->Bool}
  (rule:∀(i j:Int)(t u:Tok)(s:Shared)(Q:Value->Shared->Prop)(E:Value->Shared->Prop),Q (.bool (g i j)) s->wpAny (model X.prog X.w) X.A (f (.int i t) (.int j u)) Q E s):
  OpR X f (j4 fun i j=>.bl (g i j)):=by
 intro S s σ H x y v u Q I a b h;obtain⟨i,j,rfl,rfl,q⟩:=h;obtain⟨t,rfl⟩:=a;obtain⟨t',rfl⟩:=b;exact rule i j t t' s _ _ ⟨.bl (g i j),H,I,rfl,q⟩
def KD (i j:Int):Prop:=0<=j/\j<=1000000/\i.natAbs<2 ^ 64
def CMul (i j:Int):Prop:=(-(2 ^ 64)<i/\i<2 ^ 64)∨(-(2 ^ 64)<j/\j<2 ^ 64)
theorem CMul.ok {i j:Int}(h:CMul i j):IntMulOk i j:=by rcases h with ⟨h1,a⟩|⟨h1,a⟩;exact .of_left (intBits_le_64 h1 a);exact .of_right (intBits_le_64 h1 a)
theorem op_add:OpR X (binaryOp .Add) (j4 fun i j=>.int (i+j)):=KG fun _ _ _ _ _ _ _ q=>add_int q
theorem ze:OpR X (binaryOp .Sub) (j4 fun i j=>.int (i-j)):=KG fun _ _ _ _ _ _ _ q=>sub_int q
theorem op_mul:OpR X (binaryOp .Mult) (rI CMul fun i j=>.int (i*j)):=tY fun _ _ _ _ _ _ _ a q=>mul_int q a.ok
theorem Om:OpR X (binaryOp .Mod) (rI (fun _ j=>0<j) fun i j=>.int (i % j)):=tY fun i j _ _ _ _ _ a q=>by have h1:(0:Int)<j:=a;exact mod_int' (by lia) (by rw[Int.fmod_eq_emod_of_nonneg i (by lia)];exact q)
theorem Ol:OpR X (binaryOp .Pow) (rI KD fun i j=>.int (i ^ j.toNat)):=tY fun _ _ _ _ _ _ _ a q=>pow_int_small a.1 a.2.1 a.2.2 q
theorem Ld {f:Value->Sem Value}{g:Int->Int}
  (rule:∀(i:Int)(t:Tok)(s:Shared)(Q:Value->Shared->Prop)(E:Value->Shared->Prop),Q (.int (g i) s.toks) { s with toks:=s.toks+1 }->wpAny (model X.prog X.w) X.A (f (.int i t)) Q E s):
  AY X f (rU fun i=>.int (g i)):=by
 intro S s σ H x v Q I a h;obtain⟨i,rfl,q⟩:=h;obtain⟨t,rfl⟩:=a;exact rule i t s _ _ ⟨.int (g i),H,I.tok _,⟨_,rfl⟩,q⟩
theorem vw:AY X (unaryOp .USub) (rU fun i=>.int (-i)):=Ld fun _ _ _ _ _ q=>neg_int q
end
noncomputable def yt:V->V->Bool
 | .non,.non=>true | .non,.int _=>true | .int _,.non=>true | .non,.bl _=>true | .bl _,.non=>true | .non,.str _=>true | .str _,.non=>true
 | .int _,.int _=>true | .bl _,.bl _=>true | .str _,.str _=>true | .byt _,.byt _=>true
 | .int _,.str _=>true | .str _,.int _=>true | .bl _,.str _=>true | .str _,.bl _=>true
 |_,_=>false
def Bh:R2:=fun x y H Q=>yt x y=true/\Q (.bl (decide (x=y))) H
def Bf:R2:=fun x y H Q=>yt x y=true/\Q (.bl (!decide (x=y))) H
theorem Fe {i j:Int}:decide (V.int i=V.int j)=(i==j):=by rw[Zg];simp
theorem DM {i j:Bool}:decide (V.bl i=V.bl j)=(i==j):=by rw[Zg];simp
theorem Fc {i j:Str}:decide (V.str i=V.str j)=(i==j):=by rw[Zg];simp
theorem Fb {i j:Array UInt8}:decide (V.byt i=V.byt j)=(i.toList==j.toList):=by rw[Zg];cases i;cases j;simp
section
variable {a b c:Expr}{ta tb tc:TE}{pos:Pos}
theorem bT {s:Shared}{Q:VK}{k a:Bool}(I:Inv X S σ H s)(q:Q (.bl k) H)(e:k=a):EP X S σ Q (.bool a) s:=by subst e;exact⟨.bl k,H,I,rfl,q⟩
theorem yO:OpR X (compareOp .Eq) Bh:=by intro S s σ H x y v u Q I c a h;obtain⟨b,q⟩:=h;cases x with|non=>(cases c;cases y with|non=>(cases a;exact PySem.EqNone.eq_none_none (bT I q (by simp)))|bl j=>(cases a;exact PySem.EqNone.eq_none_bool (bT I q (by simp)))|int j=>(obtain⟨t',rfl⟩:=a;exact PySem.EqNone.eq_none_int (bT I q (by simp)))|str j=>(obtain⟨t',rfl⟩:=a;exact PySem.EqNone.eq_none_str (bT I q (by simp)))|_=>exact absurd (show false=true from b) W6)|bl i=>(cases c;cases y with|non=>(cases a;exact PySem.EqNone.eq_bool_none (bT I q (by simp)))|bl j=>(cases a;exact eq_bool (bT I q DM))|str j=>(obtain⟨t',rfl⟩:=a;exact PySem.EqMixed.eq_bool_str (bT I q (by simp)))|_=>exact absurd (show false=true from b) W6)|int i=>(obtain⟨t,rfl⟩:=c;cases y with|non=>(cases a;exact PySem.EqNone.eq_int_none (bT I q (by simp)))|int j=>(obtain⟨t',rfl⟩:=a;exact eq_int (bT I q Fe))|str j=>(obtain⟨t',rfl⟩:=a;exact PySem.EqMixed.eq_int_str (bT I q (by simp)))|_=>exact absurd (show false=true from b) W6)|str i=>(obtain⟨t,rfl⟩:=c;cases y with|non=>(cases a;exact PySem.EqNone.eq_str_none (bT I q (by simp)))|bl j=>(cases a;exact PySem.EqMixed.eq_str_bool (bT I q (by simp)))|int j=>(obtain⟨t',rfl⟩:=a;exact PySem.EqMixed.eq_str_int (bT I q (by simp)))|str j=>(obtain⟨t',rfl⟩:=a;exact eq_str (bT I q Fc))|_=>exact absurd (show false=true from b) W6)|byt i=>(obtain⟨t,rfl⟩:=c;cases y with|byt j=>(obtain⟨t',rfl⟩:=a;exact PySem.W.eq_bytes (bT I q Fb))|_=>exact absurd (show false=true from b) W6)|_=>cases y <;> exact absurd (show false=true from b) W6
theorem CG:OpR X (compareOp .NotEq) Bf:=by intro S s σ H x y v u Q I c a h;obtain⟨b,q⟩:=h;cases x with|non=>(cases c;cases y with|non=>(cases a;exact PySem.EqNone.ne_none_none (bT I q (by simp)))|bl j=>(cases a;exact PySem.EqNone.ne_none_bool (bT I q (by simp)))|int j=>(obtain⟨t',rfl⟩:=a;exact PySem.EqNone.ne_none_int (bT I q (by simp)))|str j=>(obtain⟨t',rfl⟩:=a;exact PySem.EqNone.ne_none_str (bT I q (by simp)))|_=>exact absurd (show false=true from b) W6)|bl i=>(cases c;cases y with|non=>(cases a;exact PySem.EqNone.ne_bool_none (bT I q (by simp)))|bl j=>(cases a;exact ne_bool (bT I q (Yd not DM)))|str j=>(obtain⟨t',rfl⟩:=a;exact PySem.EqMixed.ne_bool_str (bT I q (by simp)))|_=>exact absurd (show false=true from b) W6)|int i=>(obtain⟨t,rfl⟩:=c;cases y with|non=>(cases a;exact PySem.EqNone.ne_int_none (bT I q (by simp)))|int j=>(obtain⟨t',rfl⟩:=a;exact ne_int (bT I q (Yd not Fe)))|str j=>(obtain⟨t',rfl⟩:=a;exact PySem.EqMixed.ne_int_str (bT I q (by simp)))|_=>exact absurd (show false=true from b) W6)|str i=>(obtain⟨t,rfl⟩:=c;cases y with|non=>(cases a;exact PySem.EqNone.ne_str_none (bT I q (by simp)))|bl j=>(cases a;exact PySem.EqMixed.ne_str_bool (bT I q (by simp)))|int j=>(obtain⟨t',rfl⟩:=a;exact PySem.EqMixed.ne_str_int (bT I q (by simp)))|str j=>(obtain⟨t',rfl⟩:=a;exact ne_str (bT I q (Yd not Fc)))|_=>exact absurd (show false=true from b) W6)|byt i=>(obtain⟨t,rfl⟩:=c;cases y with|byt j=>(obtain⟨t',rfl⟩:=a;exact PySem.W.ne_bytes (bT I q (Yd not Fb)))|_=>exact absurd (show false=true from b) W6)|_=>cases y <;> exact absurd (show false=true from b) W6
theorem MV:OpR X (compareOp .Lt) (j4 fun i j=>.bl (decide (i<j))):=uO fun _ _ _ _ _ _ _ q=>lt_int q
theorem MU:OpR X (compareOp .LtE) (j4 fun i j=>.bl (decide (i<=j))):=uO fun _ _ _ _ _ _ _ q=>le_int q
theorem MT:OpR X (compareOp .Gt) (j4 fun i j=>.bl (decide (j<i))):=uO fun _ _ _ _ _ _ _ q=>gt_int q
theorem MS:OpR X (compareOp .GtE) (j4 fun i j=>.bl (decide (j<=i))):=uO fun _ _ _ _ _ _ _ q=>ge_int q
theorem OpR.or {f:Value->Value->Sem Value}(h:OpR X f r)(h':OpR X f r'):OpR X f (fun x y H Q=>r x y H Q∨r' x y H Q):=by intro S s σ H x y v u Q I a b q;rcases q with q|q;exact h S s σ H x y v u Q I a b q;exact h' S s σ H x y v u Q I a b q
theorem zd (b:Expr){op:CmpOp}(h:op ≠ .In:=by decide)(c:op ≠ .NotIn:=by decide):behindInMarks op b=false:=by
 have d:(op==CmpOp.In)=false:=by cases op <;> first|rfl|exact absurd rfl h
 have e:(op==CmpOp.NotIn)=false:=by cases op <;> first|rfl|exact absurd rfl c
 cases b with|Set a k p=>(show (k==0&&(_||_)&&_)=false;rw[d,e];cases k==0 <;> rfl)|_=>rfl
theorem Qu {op:CmpOp}(c:OpR X (compareOp op) r)(d:PE X a ta)(e:PE X b tb)(f:behindInMarks op b=false):PE X (.Compare a [op] [b] pos) (qy r ta tb):=by intro S s σ H Q I h;exact wpAny_Compare1 (yu d e I h fun v u g x y i j k l q=>c S g σ i x y v u Q j k l q) f
def yN (t:TE):TT:=fun σ H Q=>t σ H fun x H'=>∃k,x=.bl k/\Q k H'
theorem vT {op:CmpOp}(d:OpR X (compareOp op) r)(f:PE X a ta)(g:PE X b tb)(i:behindInMarks op b=false):PT X (.Compare a [op] [b] pos) (yN (qy r ta tb)):=by
 intro S s σ H Q I h;refine wpAny_isTrue_Compare1 (aw (f S s σ H _ I h) fun v j ⟨x,l,m,n,o⟩=>aw (g S j σ l _ m o) fun u p ⟨y,q,t,w,A⟩=>
  aw (d S p σ q x y v u _ t n w A) fun c s3 ⟨z,B,C,D,k,e,E⟩=>?_) i
 subst e;cases D;exact Yi ⟨B,C,E⟩
def zc (r r':R2)(ta tb tc:TE):TE:=fun σ H Q=>ta σ H fun x b=>tb σ b fun y c=>r x y c fun z a=>∃k,z=.bl k ∧(if k=true then tc σ a fun d e=>r' y d e Q else Q (.bl false) a)
theorem Sb {op f:CmpOp}(m:OpR X (compareOp op) r)(n:OpR X (compareOp f) r')(o:PE X a ta)(p:PE X b tb)(q:PE X c tc)
  (t:lastMarks [op,f] [b,c]=false:=by with_unfolding_all rfl):PE X (.Compare a [op,f] [b,c] pos) (zc r r' ta tb tc):=by
 intro S s σ H Q I h
 refine Compare_chain (aw (o S s σ H _ I h) fun v w ⟨x,A,B,C,D⟩=>chain_link (aw (p S w σ A _ B D) fun u E ⟨y,F,G,g,J⟩=>
  aw (m S E σ F x y v u _ G C g J) fun d s3 ⟨z,i,j,K,k,e,l⟩=>?_)) t
 subst e;cases K;refine Yi ?_
 cases k with
 |false=>exact ite_ff ⟨.bl false,i,j,rfl,l⟩
 |true=>exact ite_tt (chain_last (aw (q S s3 σ i _ j l) fun L M Z=>by obtain⟨N,O,P,R,T⟩:=Z;exact n S M σ O y N u L Q P g R T))
theorem Sa {op f:CmpOp}(m:OpR X (compareOp op) r)(n:OpR X (compareOp f) r')(o:PE X a ta)(p:PE X b tb)(q:PE X c tc)
  (t:lastMarks [op,f] [b,c]=false:=by with_unfolding_all rfl):PT X (.Compare a [op,f] [b,c] pos) (yN (zc r r' ta tb tc)):=by
 intro S s σ H Q I h
 refine isTrue_chain (aw (o S s σ H _ I h) fun v w ⟨x,A,B,C,D⟩=>test_link (aw (p S w σ A _ B D) fun u E ⟨y,F,G,g,J⟩=>
  aw (m S E σ F x y v u _ G C g J) fun d s3 ⟨z,i,j,K,k,e,l⟩=>?_)) t
 subst e;cases K;refine Yi ?_
 cases k with
 |false=>obtain⟨k',L,M⟩:=l;cases L;exact ite_ff ⟨i,j,M⟩
 |true=>refine ite_tt (test_last (aw (q S s3 σ i _ j l) fun N O ⟨P,R,T,U,V⟩=>aw (n S O σ R y P u N _ T g U V) fun d' s5 z0=>?_));obtain⟨z2,W,Y,Z,k2,e2,q5⟩:=z0;subst e2;cases Z;exact Yi ⟨W,Y,q5⟩
def uN (K:W.Frag)(x:V)(H:Hp)(k:Bool):Prop:=match x with
 | .non=>k=false
 | .bl b=>k=b
 | .int i=>k=(i != 0)
 | .str y=>y.length<=sizeLine/\k=((y.length:Int) != 0)
 | .byt y=>y.size<=sizeLine/\k=((y.size:Int) != 0)
 | .ref p=>(∃xs,SqL K H p xs/\k=!xs.isEmpty)∨(∃xs,SqT K H p xs/\k=!xs.isEmpty)∨∃kvs,H p=some (.dK kvs)/\k=!kvs.isEmpty
 |_=>False
theorem UB {kvs:List (J × V)}{Z:List (J × Value)}(r:KV kvs Z):(!Z.isEmpty)=!kvs.isEmpty:=by cases r <;> rfl
theorem HZ (r:Vals xs G):(!G.toArray.isEmpty)=!xs.isEmpty:=by cases r <;> simp
theorem oM:(sizeLine:Nat)<2 ^ 63:=by rw[XD];decide
theorem Oj:V5 X (fun x H Q=>∃k,uN X.K x H k/\Q k H):=by intro S s σ H x v Q I d h;obtain⟨k,e,q⟩:=h;have l:=oM;have n:=XD;cases x with|non=>(cases d;have a:k=false:=e;subst a;exact truthy_none ⟨H,I,q⟩)|bl b=>(cases d;have a:k=b:=e;subst a;exact Yi ⟨H,I,q⟩)|int i=>(obtain⟨t,rfl⟩:=d;have a:k=(i != 0):=e;subst a;exact PySem.P.truthy_int ⟨H,I,q⟩)|str y=>(obtain⟨t,rfl⟩:=d;obtain⟨g,a⟩:y.length<=sizeLine/\k=((y.length:Int) != 0):=e;subst a;exact PySem.P.truthy_str (by lia) ⟨H,I.tok _,q⟩)|byt y=>(obtain⟨t,rfl⟩:=d;obtain⟨g,a⟩:y.size<=sizeLine/\k=((y.size:Int) != 0):=e;subst a;exact PySem.W.truthy_bytes (by lia) ⟨H,I.tok _,q⟩)|ref p=>(cases d;have a:(∃xs,SqL X.K H p xs/\k=!xs.isEmpty)∨(∃xs,SqT X.K H p xs/\k=!xs.isEmpty)∨∃kvs,H p=some (.dK kvs)/\k=!kvs.isEmpty:=e;rcases a with ⟨xs,f,a⟩|⟨xs,f,a⟩|⟨kvs,f,a⟩;subst a;obtain⟨G,r,pl,hz⟩:=I.list f;have c:=r.length;exact wpAny_truthy_list pl.isList (by simp only [Xf];lia) ⟨H,I.tok _,by rw[HZ r];exact q⟩;subst a;obtain⟨G,r,pl,hz⟩:=I.tuple f;have c:=r.length;exact truthy_tuple pl (by simp only [Xf];lia) ⟨H,I.tok _,by rw[HZ r];exact q⟩;subst a;obtain⟨hz,j,Z,r,m⟩:kvs.length<=sizeLine/\(p==sysModules)=false/\∃Z,KV kvs Z/\s.heap.DictOf (bg X.prog X.w) p Z:=I.hok p _ f;have c:kvs.length=Z.length:=Paired.length r;exact wpAny_truthy_dict j m (by lia) ⟨H,I.tok _,by rw[UB r];exact q⟩)|_=>exact(show False from e).elim
theorem zZ (c:PE X a ta)(he:∀b,isTrue a X.env b=(do let v ← b;standAt a.pos;holding [v] (truthy v))):PT X a (fun σ H Q=>ta σ H fun x H'=>∃k,uN X.K x H' k/\Q k H'):=by intro S s σ H Q I h;exact isTrue_plain (aw (c S s σ H _ I h) fun v d ⟨x,e,f,g,i⟩=>Oj S d σ e x v Q f g i) (he _)
theorem UA:OpR X (binaryOp .Add) (fun x y H Q=>∃i j,x=.str i/\y=.str j/\i.length+j.length<=sizeLine/\Q (.str (i++j)) H):=by intro S s σ H x y v u Q I a b h;obtain⟨i,j,rfl,rfl,hz,q⟩:=h;obtain⟨t,rfl⟩:=a;obtain⟨t',rfl⟩:=b;exact add_str (fun t' tk=>⟨.str (i++j),H,I.tok _,⟨_,rfl⟩,q⟩) hz
theorem jf {x:V}(r:Vals [x] B):∃u,B=[u]/\RelV x u:=by cases r with|cons a b=>cases b;exact⟨_,rfl,a⟩
theorem MR {x:V}(r:Vals [x,y] B):∃u a,B=[u,a]/\RelV x u/\RelV y a:=by cases r with|cons b c=>cases c with|cons d e=>cases e;exact⟨_,_,rfl,b,d⟩
theorem TH:gy X (.type "int") (fun xs H Q=>(∃i,xs=[.int i]/\Q (.int i) H)∨∃k,xs=[.bl k]/\Q (.int (if k then 1 else 0)) H):=by intro S s σ H xs B Q I r h;rcases h with ⟨i,rfl,q⟩|⟨k,rfl,q⟩;obtain⟨u,rfl,t,rfl⟩:=jf r;exact call_int_int ⟨.int i,H,I,⟨_,rfl⟩,q⟩;obtain⟨u,rfl,a⟩:=jf r;cases a;exact call_int_bool ⟨.int (if k then 1 else 0),H,I.tok _,⟨_,rfl⟩,q⟩
end
structure ObjM (h:Heap)(x dx C:Addr)(mA:Str->Option Value):Prop where
 obj:h.get? x=some (PySem.W.instObj C dx)
 ns:h.Ns1 dx mA
 ne:dx≠x
theorem TF {b:Addr}{c:Str->Option Value}(n:h.Ns1 b c):∃d,h.get? b=some d/\∀name,PySem.W.lookIn name d=some (c name):=by
 obtain⟨o,es,ep,f,hd,g,_,i⟩:=n;refine⟨o,f,fun name=>?_⟩;have e:=i name;unfold nsFind findBy at e;rw[<- Array.find?_toList] at e;unfold PySem.W.lookIn;rw[hd];dsimp only;split;rename_i y q;rw[q] at e;exact Yd some e;rename_i q;rw[q] at e;have a:es.toList.any (·.refKey)=false:=by rw[List.any_eq_false];intro y j;obtain⟨z,t,k⟩:=g y (Array.mem_toList_iff.mp j);simp [DictEntry.refKey,k]
 have l:¬es.toList.any (·.refKey)=true:=by rw[a];exact W6
 rw[Xh l];exact Yd some e
theorem ObjM.look {x b:Addr}{c:Str->Option Value}(I:ObjM h x b C c):∃a,PySem.W.InstAt h x (PySem.W.instObj C b) C (some a)/\∀name,PySem.W.lookIn name a=some (c name):=let ⟨a,d,e⟩:=TF I.ns
 ⟨a,⟨I.obj,rfl,rfl,d⟩,e⟩
theorem RelO.some_of {v:V}{o:Option Value}(r:RelO (some v) o):∃u,o=some u/\RelV v u:=by cases o with|none=>exact(show False from r).elim|some u=>exact⟨u,rfl,r⟩
theorem RelO.none_of {o:Option Value}(r:RelO none o):o=none:=by cases o with|none=>rfl|some u=>exact(show False from r).elim
section
variable {c:Addr}{fs MF:List (Str×V)}
theorem Qt (hok:HOk P w H h)(e:H a=some (.ins C c fs)):∃b,ObjM h a c C b/\(∀f,RelO (fs.lookup f) (b f))/\PySem.Within b (fs.map (·.1))/\fs.length<=1000/\H c=some (.own a):=by obtain⟨d,z,ne,ob,b,n,r,q⟩:=(show ObjOk P w H h a (.ins C c fs) from hok a _ e);exact⟨b,⟨ob,n,ne⟩,r,q,z,d⟩
end
structure Cls (K:W.Frag)(C:Addr):Prop where
 pg:PySem.W.plainGet K C Str.empty=true
 hd:PySem.W.hasDictIn K C=true
 po:PySem.W.plainOver K C=true
 sa:PySem.W.findIn K (.ref C) "__setattr__"=some (some (.builtin "object.__setattr__"))
theorem Cls.get (c:Cls K C)(f:Str):PySem.W.plainGet K C f=true:=c.pg
section
variable {s:Shared}{A:Around}{E:Value->Shared->Prop}{c:Value}{b:Bool}
inductive cI (K:W.Frag)(H:Hp):V->Value->Prop where
 |non:cI K H .non (.type "NoneType")
 |bl (x:Bool):cI K H (.bl x) (.type "bool")
 |int (i:Int):cI K H (.int i) (.type "int")
 |str (x:Str):cI K H (.str x) (.type "str")
 |flt (x:UInt64):cI K H (.flt x) (.type "float")
 |lst {a:Addr} {xs:List V} (e:H a=some (.lst xs)):cI K H (.ref a) (.type "list")
 |frz {a:Addr} {o:Obj} {xs:List V} (e:H a=some (.frz o (.lst xs))):cI K H (.ref a) (.type "list")
 |tup {a:Addr} {xs:List V} (e:H a=some (.tup xs)):cI K H (.ref a) (.type "tuple")
 |dK {a:Addr} {kvs:List (aj×V)} (e:H a=some (.dK kvs)):cI K H (.ref a) (.type "dict")
 |dT {a:Addr} {kvs:List (List aj×V)} (e:H a=some (.dT kvs)):cI K H (.ref a) (.type "dict")
 |ins {a C dx:Addr} {fs:List (Str×V)} (e:H a=some (.ins C dx fs)) (cl:Cls K C) (ha:PySem.W.findIn K (.ref C) "__class__"=some (some (.builtin "object.__class__")))
   (hn:PySem.W.specialIn K (.builtin "object.__class__") "__get__"=some (some (.builtin "getset_descriptor.__get__"))) (j5:PySem.W.takesIn K (.builtin "object.__class__")=some true)
   (hm:PySem.W.mroIn K C (.type "object")=some true):cI K H (.ref a) (.ref C)
theorem TC {x:V}{t:Value}(I:Inv X S σ H s)(d:RelV x u)(ty:cI X.K H x t)(e:PySem.W.kitOne X.K t c=some b)(h:∀tk,Q (.bool b) { s with toks:=tk }):wpAny (model X.prog X.w) A (call (.builtin "isinstance") [u,c]) Q E s:=by cases ty with|non=>(cases (show u=Value.none from d);exact Ye PySem.W.kitx_none I.kIn True.intro e (fun z=>nomatch z) h)|bl y=>(cases (show u=Value.bool y from d);exact Ye PySem.W.kitx_bool I.kIn True.intro e (fun z=>nomatch z) h)|int i=>(obtain⟨t,q⟩:=(show ∃t,u=Value.int i t from d);cases q;exact Ye PySem.W.kitx_int I.kIn True.intro e (fun z=>nomatch z) h)|str y=>(obtain⟨t,q⟩:=(show ∃t,u=Value.str y t from d);cases q;exact Ye PySem.W.kitx_str I.kIn True.intro e (fun z=>nomatch z) h)|flt y=>(obtain⟨t,q⟩:=(show ∃t,u=Value.float y t from d);cases q;exact Ye PySem.W.kitx_float I.kIn True.intro e (fun z=>nomatch z) h)| @lst a xs f=>(cases (show u=Value.ref a from d);obtain⟨_,_,n,_,h1⟩:=(show ObjOk X.prog X.w H s.heap a (.lst xs) from I.hok a _ f);exact Ye PySem.W.kitx_list I.kIn ⟨_,h1,rfl⟩ e (fun z=>nomatch z) h)| @frz a ob xs f=>(cases (show u=Value.ref a from d);obtain⟨_,_,_,n,_,h1⟩:=(show ObjOk X.prog X.w H s.heap a (.frz ob (.lst xs)) from I.hok a _ f);exact Ye PySem.W.kitx_list I.kIn ⟨_,h1,rfl⟩ e (fun z=>nomatch z) h)| @tup a xs f=>(cases (show u=Value.ref a from d);obtain⟨_,_,_,p⟩:=(show ObjOk X.prog X.w H s.heap a (.tup xs) from I.hok a _ f);obtain⟨o,h1,g,_⟩:=p;exact Ye PySem.W.kitx_tuple I.kIn ⟨o,h1,g⟩ e (fun z=>nomatch z) h)| @dK a kvs f=>(cases (show u=Value.ref a from d);obtain⟨_,_,Z,_,p⟩:=(show ObjOk X.prog X.w H s.heap a (.dK kvs) from I.hok a _ f);obtain⟨o,es,ep,h1,g,_⟩:=p;exact Ye PySem.W.kitx_dict I.kIn ⟨o,h1,g.1⟩ e (fun z=>nomatch z) h)| @dT a kvs f=>(cases (show u=Value.ref a from d);obtain⟨_,_,xs,_,o,es,ep,h1,g,_⟩:=(show ObjOk X.prog X.w H s.heap a (.dT kvs) from I.hok a _ f);exact Ye PySem.W.kitx_dict I.kIn ⟨o,h1,g.1⟩ e (fun z=>nomatch z) h)| @ins a C r fs f cl j k l m=>cases (show u=Value.ref a from d);obtain⟨v,O,_⟩:=Qt I.hok f;obtain⟨B,J,_⟩:=O.look;exact Ye (PySem.W.kitx_own (cl.get _) cl.hd j k l m) I.kIn J e (fun z=>nomatch z) h
end
structure Room (k:Nat)(A:Around):Prop where
 hd:A.handled=none
 gd:A.guards=some []
 dp:A.depth+3*k+5<recursionLimit
 un:A.units+16*k+200<cLine
theorem Room.mono {k:Nat}{A:Around}(r:Room k A)(h:j<=k):Room j A:=⟨r.hd,r.gd,by have:=r.dp;lia,by have:=r.un;lia⟩
theorem Room.deeper {k:Nat}{A:Around}(r:Room (k+1) A)(env:Env):Room k (A.deeper env):=⟨r.hd,r.gd,by have:=r.dp;show A.depth+1+3*k+5<_;lia,by have:=r.un;show A.units+3+16*k+200<_;lia⟩
theorem Room.depth {k:Nat}{A:Around}(r:Room k A):A.depth<recursionLimit:=by have:=r.dp;lia
theorem Room.units {k:Nat}{A:Around}(r:Room k A):A.units+64<cLine:=by have:=r.un;lia
def gC:TA:=fun _ H Q=>Q [] H
def je (a:TE)(b:TA):TA:=fun σ H Q=>a σ H fun x c=>b σ c fun xs d=>Q (x::xs) d
section
variable {t:TA}{pos:Pos}
theorem pa_nil:PA X [] gC:=fun _ _ _ _ H Q I h=>YY ⟨[],H,I,.nil,h⟩
theorem fc (a:PE X e te)(b:PA X es t)(c:starEach (e::es) X.env=(false,eval e X.env)::starEach es X.env:=by rfl):PA X (e::es) (je te t):=by intro pos S s σ H Q I h;rw[c];show wpAny _ _ (spliced ((false,eval e X.env)::backTo pos (starEach es X.env))) _ _ s;refine X5 (aw (a S s σ H _ I h) fun u d z=>?_);obtain⟨x,f,g,i,j⟩:=z;exact aw (b pos S d σ f _ g j) fun B o y=>by obtain⟨xs,k,l,m,n⟩:=y;exact ⟨x::xs,k,l,.cons i m,n⟩
def V4 (t:TA):TE:=fun σ H Q=>t σ H fun xs a=>xs.length<=sizeLine/\∀p,a p=none->Q (.ref p) (ak a p (.tup xs))
def V3 (t:TA):TE:=fun σ H Q=>t σ H fun xs a=>xs.length<=sizeLine/\∀p,a p=none->Q (.ref p) (ak a p (.lst xs))
theorem vt {x1}(h:PA X es t):PE X (.Tuple es x1 pos) (V4 t):=by intro S s σ H Q I f;refine wpAny_Tuple_spliced (aw (h pos S s σ H _ I f) fun B a ⟨xs,c,d,r,z,q⟩=>⟨by rw[<- r.length];exact z,?_⟩);have g:c a.heap.objs.size=none:=d.hok.fresh (W9 _);refine⟨.ref a.heap.objs.size,ak c a.heap.objs.size (.tup xs),d.laid (t':=a.toks) (fun b u e=>W5 _ e) (W9 _) ?_,rfl,q _ g⟩;exact⟨z,B,r,⟨_,Xg _ rfl,rfl,_,rfl,rfl⟩⟩
theorem mY (h:PA X es t):PE X (.List es pos) (V3 t):=by intro S s σ H Q I f;refine wpAny_List_spliced (aw (h pos S s σ H _ I f) fun B a ⟨xs,c,d,r,z,q⟩=>⟨by rw[<- r.length];exact z,?_⟩);have g:c a.heap.objs.size=none:=d.hok.fresh (W9 _);refine⟨.ref a.heap.objs.size,ak c a.heap.objs.size (.lst xs),d.laid (t':=a.toks) (fun b u e=>W5 _ e) (W9 _) ?_,rfl,q _ g⟩;exact⟨z,B,0,r,Xg _ rfl⟩
end
abbrev Sp:=List V->Hp->VK->XK->Prop
abbrev lL:=List Env->Hp->Shared->XK->Value->Shared->Prop
structure lK (P:Program)(w:World)(K:W.Frag)(mg:Str->Option Value)(base:Heap)(A:Around)(outer:List Env)(s:Shared)(H:Hp):Prop where
 frames:A.frames=some outer
 mod:Mod K mg base
 bs:∀b o,base.get? b=some o->s.heap.get? b=some o/\H b=none
 bsz:base.objs.size<=s.heap.objs.size
 funs:s.heap.FunFrames base outer
 frf:∀b∈ig outer,H b=none
 hok:HOk P w H s.heap
 bare:AllBare s.gens
def CE (outer:List Env)(P:Program)(w:World)(H:Hp)(s:Shared)(Q:VK)(u:Value)(a:Shared):Prop:=∃v H',a.os=s.os/\AllBare a.gens/\Un (ig outer) [] H H' s.heap a.heap/\HOk P w H' a.heap/\RelV v u/\Q v H'
def CR (CX:lL)(outer:List Env)(P:Program)(w:World)(H:Hp)(s:Shared)(Q:VK)(E:XK)(r:Result)(a:Shared):Prop:=match r with
 | .ok (.ret u)=>CE outer P w H s Q u a
 | .ok _=>False
 | .error e=>CX outer H s E e a
structure FnOk (P:Program)(w:World)(K:W.Frag)(mg:Str->Option Value)(base:Heap)(CX:lL)(k:Nat)(f:Addr)(U:FuncData)(ps:List Str)(sp:Sp):Prop where
 len:∀Z H Q E,sp Z H Q E->Z.length=ps.length
 run:∀(A:Around)(outer:List Env)(s:Shared)(H:Hp)(args:Args)(B:List Value)(Z:List V)(Q:VK)(E:XK),Room k A->lK P w K mg base A outer s H->BindsTo s U args (ps.zip B)->Vals Z B->sp Z H Q E →codeAny (model P w) A (.call (.ref f) args) (CR CX outer P w H s Q E) s
variable {CX:lL}
theorem FnOk.mono {k:Nat}{f:Addr}{sp:Sp}(F:FnOk P w K mg base CX j f U ps sp)(h:j<=k):FnOk P w K mg base CX k f U ps sp:=⟨F.len,fun A outer s H args B Z Q E a=>F.run A outer s H args B Z Q E (a.mono h)⟩
section
variable {s c:Shared}
theorem Inv.env0 (I:Inv X S σ H s):lK X.prog X.w X.K X.mg X.base X.A X.stack s H:=⟨I.ok.frames,I.ok.mod,I.bs,XZ I.ok.bsz I.sz,I.stack,I.stkFree,I.hok,I.bare⟩
theorem Inv.after {Q:VK}(I:Inv X S σ H s)(h:CE X.stack X.prog X.w H s Q u c):EP X S σ Q u c:=by obtain⟨v,H',os,bare,un,hok,r,q⟩:=h;obtain⟨e,g,d,t,a⟩:=c;obtain rfl:a=s.os:=os;exact⟨v,H',I.call (h':=e) (g':=g) (d':=d) (t':=t) (ch:=[]) un hok bare (fun b z=>absurd z (by simp)),r,q⟩
end
def yM (sp:Sp)(dvs:List V)(E:XK)(t:TA):TE:=fun σ H Q=>t σ H fun Z a=>sp (Z++dvs) a Q E
def Binds (K:W.Frag)(U:FuncData)(ps:List Str)(a:List Value):Prop:=∀(s:Shared)(B:List Value),K.In s.heap->(B++a).length=ps.length->BindsTo s U ⟨B,[]⟩ (ps.zip (B++a))
theorem Binds.all (h:∀B:List Value,B.length=ps.length->bindArgs U ⟨B,[]⟩=pure (ps.zip B)):Binds K U ps []:=fun s B _ a=>by rw[Xm] at a ⊢;exact .of_eq (h B a)
def vq (CX:lL)(X:Cx)(E:XK):Prop:=∀(S:List (Addr×Obj))(σ:St)(H:Hp)(s:Shared)(e:Value)(a:Shared),Inv X S σ H s->CX X.stack H s E e a->X.xe e a
section
variable {k:Nat}{f:Addr}{sp:Sp}{dvs:List V}{c:List Value}{E:XK}{m:Str}{pos:Pos}{o:Expr}{ta:TE}{t:TA}
theorem DL {s:Shared}{Q:VK}(F:FnOk X.prog X.w X.K X.mg X.base CX k f U ps sp)(d:Room k X.A)(g:Binds X.K U ps c)(hd:Vals dvs c)(i:vq CX X E)
  (I:Inv X S σ H s) (r:Vals Z B) (h:sp (Z++dvs) H Q E):wpAny (model X.prog X.w) X.A (call (.ref f) B) (EP X S σ Q) X.xe s:=by
 have b:Vals (Z++dvs) (B++c):=r.append hd;have j:(B++c).length=ps.length:=by rw[<- b.length];exact F.len _ _ _ _ h
 refine wpAny_call (codeAny_mono (F.run X.A X.stack s H ⟨B,[]⟩ (B++c) (Z++dvs) Q E d I.env0 (g s B I.kIn j) b h) fun r l a=>?_)
 cases r with
 |error e=>exact i S σ H s e l I a
 |ok fl=>
  cases fl with
  |ret u=>exact I.after a
  |next=>exact False.elim a
  |brk=>exact False.elim a
  |cont=>exact False.elim a
theorem kr (F:FnOk X.prog X.w X.K X.mg X.base CX k f U ps sp)(d:Room k X.A)(g:Gl X x)(i:X.mg x=some (.ref f))(j:PySem.W.keepIn X.K (.ref f)=true)(l:Binds X.K U ps c)(hd:Vals dvs c)(m:vq CX X E)
  (n:PA X (e::es) t) (o:(x==("__debug__":Str))=false:=by decide) (he:starEach (e::es) X.env=(false,eval e X.env)::starEach es X.env:=by rfl) (a:(backTo pos (starEach es X.env)).any (·.1)=false:=by rfl):
  PE X (.Call (.Name x p) (e::es) [] pos) (yM sp dvs E t):=by
 intro S s σ H Q I h;refine Yy (Fg I g i ?_ o);refine PySem.W.callWith_K (h₀:=X.base) I.ok.mod.kin j (aw (n pos S s σ H _ I h) fun B u ⟨Z,v,b,r,q⟩=>⟨b.kIn,?_⟩) he a;exact DL F d l hd m b r q
end
structure aO (N P:List Str)(sc:Scope):Prop where
 kind:sc.kind=.function
 co:sc.isCoroutine=false
 gen:sc.isGenerator=false
 nd:N.Nodup
 pre:N.take P.length=P
 par:∀x∈P,sc.names.lookup x=some .local∨sc.names.lookup x=some .cell
 nofree:∀y∈sc.names,y.2 ≠ .free
theorem Hi {kindOf:Str->Option NameKind}:∀{binds:List (Str×Value)}{m:Str->Option Value},(∀v,(x,v)∉binds)->bindL kindOf binds m x=m x
 |[],_,_=>rfl
 | (n,v)::r,m,h=>by
  unfold bindL;rw[Hi fun w a=>h w (W7 _ a)];split;have:x≠n:=by rintro rfl;exact h v W8
  simp [this];rfl
theorem Hh {kindOf:Str->Option NameKind}:∀{binds:List (Str×Value)}{m:Str->Option Value},(∀v,(x,v)∉binds)->bindC kindOf binds m x=m x
 |[],_,_=>rfl
 | (n,v)::r,m,h=>by
  unfold bindC;rw[Hh fun w a=>h w (W7 _ a)];split;rfl;have:x≠n:=by rintro rfl;exact h v W8
  simp [this]
theorem Hg {kindOf:Str->Option NameKind}{x:Str}{v:Value}:∀{P:List Str}{Z:List Value}{i:Nat}{m:Str->Option Value},P.Nodup->P[i]?=some x->Z[i]?=some v->kindOf x=some .local →bindL kindOf (P.zip Z) m x=some v
 |[],_,_,_,_,h,_,_=>by simp at h
 |_::_,[],_,_,_,_,h,_=>by simp at h
 |p::P,w::Z,0,m,nd,h1,a,b=>by simp at h1 a;subst h1;subst a;show bindL kindOf ((p,w)::P.zip Z) m p=_;unfold bindL;rw[Hi fun v c=>(YH.mp nd).1 (of_mem_zip c).1,Xk b];simp
 |p::P,w::Z,i+1,m,nd,h1,a,b=>by show bindL kindOf ((p,w)::P.zip Z) m x=_;unfold bindL;exact Hg (i:=i) (YH.mp nd).2 (by simpa using h1) (by simpa using a) b
theorem Hf {kindOf:Str->Option NameKind}{x:Str}{v:Value}:∀{P:List Str}{Z:List Value}{i:Nat}{m:Str->Option Value},P.Nodup->P[i]?=some x->Z[i]?=some v->kindOf x≠some .local →bindC kindOf (P.zip Z) m x=some v
 |[],_,_,_,_,h,_,_=>by simp at h
 |_::_,[],_,_,_,_,h,_=>by simp at h
 |p::P,w::Z,0,m,nd,h1,a,b=>by simp at h1 a;subst h1;subst a;show bindC kindOf ((p,w)::P.zip Z) m p=_;unfold bindC;rw[Hh fun v c=>(YH.mp nd).1 (of_mem_zip c).1,Xh b];simp
 |p::P,w::Z,i+1,m,nd,h1,a,b=>by show bindC kindOf ((p,w)::P.zip Z) m x=_;unfold bindC;exact Hf (i:=i) (YH.mp nd).2 (by simpa using h1) (by simpa using a) b
noncomputable def f9 (N:List Str)(Z:List V):St:=Z.map some++List.replicate (N.length-Z.length) none
noncomputable def ox (CX:lL)(P:Program)(w:World)(K:W.Frag)(mg:Str->Option Value)(base:Heap)(N:List Str)(L:Str)(scope:Scope)(f:Addr)(cd:Value)(A:Around)(outer:List Env)(s:Shared)(H:Hp)(E:XK):Cx where
 prog:=P
 w:=w
 K:=K
 mg:=mg
 base:=base
 A:=A.deeper (envOfC L scope s.heap.objs.size f cd)
 N:=N
 s₀:=s
 H₀:=H
 env:=envOfC L scope s.heap.objs.size f cd
 outer:=outer
 stack:=envOfC L scope s.heap.objs.size f cd::outer
 ex:=[]
 calm:=true
 fn:=fun _=>true
 pn:=[]
 xe:=fun e s'=>wpAny (model P w) (A.deeper (envOfC L scope s.heap.objs.size f cd)) (leaving (envOfC L scope s.heap.objs.size f cd) e) (fun _ qE=>CX outer H s E e qE) (fun e' qE=>CX outer H s E e' qE) s'
theorem Gw {a:Scope}{n:Nat}(h:a.names.lookup x=some .cell):∃c,(cellsFrom n a.names []).lookup x=some c:=by have q:=PySem.W.cellsFrom_some a.names n [] (.inl h);exact Option.isSome_iff_exists.mp q
theorem TB {N:List Str}{f:Addr}{cd:Value}{A:Around}{outer:List Env}{s o:Shared}{E:XK}
  (S:aO N ps scope) (hd:A.handled=none) (g:lK P w K mg base A outer s H) (J:Z.length=ps.length) (r:Vals Z B)
  (x:InCallC s s.heap.objs.size (bindL (envOfC L scope s.heap.objs.size f cd).kindOf (ps.zip B) fun _=>none) (cellsFrom (s.heap.objs.size+1) scope.names []) (bindC (envOfC L scope s.heap.objs.size f cd).kindOf (ps.zip B) fun _=>none) o):
  Inv (ox CX P w K mg base N L scope f cd A outer s H E) [] (f9 N Z) H o:=by
 have F:ps.length<=N.length:=by have:=Yd List.length S.pre;rw[XJ] at this;lia
 obtain⟨h1,tk,rfl,t⟩:=x.done;have fg:∀b:Addr,b∉(ox CX P w K mg base N L scope f cd A outer s H E).ex:=fun b z=>absurd (show b∈([]:List Addr) from z) (by simp)
 refine⟨⟨g.mod,S.kind,rfl,rfl,W9 _,fun y z c h1 d=>?_,fun y j=>?_,fun y c _ h=>?_,fun _=>hd,Around.frames_deeper g.frames,.inr ⟨rfl,rfl⟩,fun b z=>absurd z (fg b),g.bs,g.bsz,fun b _ _=>fg b,fun b z=>absurd z (fg b),g.funs,g.frf⟩,rfl,g.bare,Un.kept t,⟨_,x.toInCall.ns,fun i y v h1 d M=>?_⟩,fun y c h=>⟨_,x.cell y c h⟩,g.hok.fresh (W9 _),fun y c h=>?_,fun p l=>absurd (show p∈([]:List (Addr×Obj)) from l) (by simp),g.hok.kept t,?_⟩
 .exact name_of_addr x.apart (Y5 h1) (Y5 d)
 .have j:scope.names.lookup y=some .cell∨scope.names.lookup y=some .free:=j
  rcases j with j|j
  .exact Gw j
  .exact absurd rfl (S.nofree _ (Y5 j))
 .exact Nat.le_of_lt (x.above y c (Y5 h))
 .have m:i<Z.length:=by
   unfold f9 at d
   by_cases m:i<Z.length
   .exact m
   .rw[Xr (by simpa using m)] at d
    rw[List.getElem?_replicate] at d
    split at d <;> cases d
  have G:Z[i]?=some v:=by unfold f9 at d;rw[XF (by simpa using m),XG] at d;cases e:Z[i]? with|none=>(rw[e] at d;cases d)|some a=>rw[e] at d;cases d;rfl
  obtain⟨u,C,I⟩:=r.get G;have l:ps[i]?=some y:=by rw[<- S.pre,List.getElem?_take_of_lt (by lia)];exact h1
  have D:ps.Nodup:=by rw[<- S.pre];exact S.nd.sublist (List.take_sublist _ _)
  refine⟨u,I,?_⟩;rcases S.par y (XT l) with k|k
  .exact .inl ⟨k,Hg D l C k⟩
  .obtain⟨c,e⟩:=Gw (n:=s.heap.objs.size+1) k;refine .inr ⟨.inl k,c,e,?_⟩;have q:=x.cell y c e;rw[Hf D l C (by show scope.names.lookup y≠_;rw[k];decide)] at q;exact q
 .exact g.hok.fresh (Nat.le_of_lt (x.above y c (Y5 h)))
 .unfold f9;show _=N.length;rw[Xd,Xa,List.length_replicate];lia
theorem MQ {k:Nat}{f:Addr}{name:Str}{a:Arguments}{z kV C D d ct R:Value}{F T:Option Addr}
  {U:Array (Option Value)} {N ps:List Str} {sp:Sp} (X:K.lookup f=some ⟨R,T,.func (PySem.W.fnOf name L a body scope z kV C D F d ct),U⟩) (Y:PySem.W.codeIn K d L=true) (S:aO N ps scope)
  (len:∀Z H Q E,sp Z H Q E->Z.length=ps.length)
  (jG:∀(A:Around)(outer:List Env)(s:Shared)(H:Hp)(Z:List V)(Q:VK)(E:XK),Room k (A.deeper (envOfC L scope s.heap.objs.size f d))->sp Z H Q E →∃t,PSs (ox CX P w K mg base N L scope f d A outer s H E) body t/\t { nx:=fun _ H'=>Q .non H',rt:=Q } (f9 N Z) H):
  FnOk P w K mg base CX (k+1) f (PySem.W.fnOf name L a body scope z kV C D F d ct) ps sp:=by
 refine⟨len,fun A outer s H args B Z Q E l i hb r j=>?_⟩;have hl:=len _ _ _ _ j;have G:K.In s.heap:=i.mod.kin.keeps fun b o e=>(i.bs b o e).1;have Lu:s.heap.NoLimit:=i.mod.nolimit.keeps fun b o e=>(i.bs b o e).1
 have g:∀y∈ps.zip B,scope.names.lookup y.1=some .local∨(scope.names.lookup y.1=some .cell/\((cellsFrom (s.heap.objs.size+1) scope.names []).lookup y.1).isSome=true):=fun⟨n,v⟩ hy=>by rcases S.par n (of_mem_zip hy).1 with q|q;exact .inl q;exact .inr ⟨q,PySem.W.cellsFrom_some _ _ _ (.inl q)⟩
 refine codeAny_call_function l.depth (G _ _ X) rfl S.co S.gen rfl (PySem.W.codeRec_of G Y) (hb _ _ _ _ ?_);refine wpAny_newFunctionEnv_cells S.kind g fun env he M x=>?_;subst he;refine⟨Lu.keeps x.toInCall.keep,codeAny_func ?_⟩;obtain⟨t,ht,hq⟩:=jG A outer s H Z Q E (l.deeper _) j;have I:Inv (ox CX P w K mg base N L scope f d A outer s H E) [] (f9 N Z) H M:=TB S l.hd i hl r x;refine XU (ht [] M (f9 N Z) H _ I hq) (fun fl m h=>?_) fun e m h=>h
 have O:∀{c:St}{H':Hp}{v:V}{u:Value},Inv (ox CX P w K mg base N L scope f d A outer s H E) [] c H' m->RelV v u->Q v H'->CE outer P w H s Q u m:=fun {c H' v u} J p q=>⟨v,H',J.os,J.bare,J.base,J.hok,p,q⟩
 cases fl with
 |ret u=>obtain⟨v,c,H',J,p,q⟩:=h;exact O J p q
 |next=>obtain⟨c,H',J,q⟩:=h;exact O (v:=V.non) (u:=Value.none) J rfl q
 |brk=>obtain⟨_,_,_,q⟩:=h;exact False.elim q
 |cont=>obtain⟨_,_,_,q⟩:=h;exact False.elim q
section
variable {pos:Pos}{t:TA}{id:String}{r:List V->Hp->VK->Prop}
def w6 (r:List V->Hp->VK->Prop)(t:TA):TE:=fun σ H Q=>t σ H fun Z a=>r Z a Q
theorem sY (b:gy X (.builtin id) r)(c:Gl X x)(d:X.mg x=none)(f:bootBuiltins x=some (.builtin id))(g:PA X (e::es) t)(i:x≠"__name__":=by decide)(j:(x==("__debug__":Str))=false:=by decide)
  (he:starEach (e::es) X.env=(false,eval e X.env)::starEach es X.env:=by rfl) (a:(backTo pos (starEach es X.env)).any (·.1)=false:=by rfl):PE X (.Call (.Name x p) (e::es) [] pos) (w6 r t):=by
 intro S s σ H Q I h;refine Yy (mZ I c d f ?_ i j);exact PyProof.Rows.callWith_builtin1 (aw (g pos S s σ H _ I h) fun B k ⟨Z,l,m,n,o⟩=>b S k σ l Z B Q m n o) he a
theorem lG (b:gy X (.type T) r)(c:Gl X x)(d:X.mg x=none)(f:bootBuiltins x=some (.type T))(g:PA X (e::es) t)(i:x≠"__name__":=by decide)(j:(x==("__debug__":Str))=false:=by decide)
  (he:starEach (e::es) X.env=(false,eval e X.env)::starEach es X.env:=by rfl) (a:(backTo pos (starEach es X.env)).any (·.1)=false:=by rfl):PE X (.Call (.Name x p) (e::es) [] pos) (w6 r t):=by
 intro S s σ H Q I h;refine Yy (mZ I c d f ?_ i j);exact Yh (aw (g pos S s σ H _ I h) fun B k ⟨Z,l,m,n,o⟩=>b S k σ l Z B Q m n o) he a
end
end
section
variable {b c:Addr}{w:World}{Q:Value->Shared->Prop}{lo j:Option Int}{prog:Program}{r:Value}{u:Array Value}
section
variable {A:Around}{E:Value->Shared->Prop}{s:Shared}
theorem cat_tup {t:Addr}{d ws:List Value}(r:IsTup s.heap t d.toArray)(u:IsTup s.heap b ws.toArray)(i:d ≠ [])
  (h1:ws=[]->Q (.ref t) s) (v:ws ≠ []->Q (.ref s.heap.objs.size) { s with heap:=s.heap.push { cls:=.type "tuple",data:=.seq (d++ws).toArray } })
  (hsz:d.length+ws.length<=sizeLine):wpAny (model prog w) A (binaryOp .Add (.ref t) (.ref b)) Q E s:=by
 obtain⟨⟨cls,j,data,c⟩,g,k,n,hd⟩:=id r;obtain⟨⟨l,m,data2,o⟩,a,p,q,f⟩:=id u;simp only at k hd p f;subst k hd p f;have e:d.toArray++ws.toArray=(d++ws).toArray:=by simp
 by_cases h:ws=[]
 .exact concat_meets ⟨_,g,rfl⟩ ⟨_,a,rfl⟩ noFill_tuple_add seq_tuple_add PySem.F.slot_tuple_add PySem.F.entry_tuple_add (PySem.F.args_tuple_add_2 _ _)
   (tuple_addW1 t b d.toArray ws.toArray n q j m c o (by simpa using i) (by simp [h])) ⟨g,a,h1 h⟩
 .refine concat_meets ⟨_,g,rfl⟩ ⟨_,a,rfl⟩ noFill_tuple_add seq_tuple_add PySem.F.slot_tuple_add PySem.F.entry_tuple_add (PySem.F.args_tuple_add_2 _ _)
   (tuple_addW2 t b d.toArray ws.toArray n q j m c o (by simpa using i) (by simpa using h) (by rw[Xf,Xf];exact hsz)) ⟨g,a,?_⟩
  rw[e];exact v h
noncomputable def sIx (n d:Nat):Option Int->Nat
 |none=>d
 |some v=>if v<0 then (v+(n:Int)).toNat else min v.toNat n
theorem sIx_nat (n d k:Nat):sIx n d (some (k:Int))=min k n:=by show(if (k:Int)<0 then ((k:Int)+(n:Int)).toNat else min (k:Int).toNat n)=min k n;rw[Xh (by lia),Yj]
theorem Oi (n d:Nat)(hd:d<=n)(o:Option Int):sIx n d o<=n:=by cases o with|none=>exact hd|some v=>show(if v<0 then (v+(n:Int)).toNat else min v.toNat n)<=n;by_cases a:v<0;rw[Xk a];lia;rw[Xh a];exact Nat.min_le_right _ _
theorem E9 (v:Int)(n d:Nat):(if v<0 then max (v+(n:Int)) 0 else min v (n:Int))=((sIx n d (some v):Nat):Int):=by show(if v<0 then max (v+(n:Int)) 0 else min v (n:Int))=(((if v<0 then (v+(n:Int)).toNat else min v.toNat n):Nat):Int);by_cases a:v<0;simp only [Xk a];lia;simp only [Xh a];lia
theorem Uz (lo j:Option Int)(n:Nat):Builtin.Slice.sliceAdjust lo j 1 (n:Int)=(((sIx n 0 lo:Nat):Int),((sIx n n j:Nat):Int)):=by
 have h1:¬ ((1:Int)<0):=by lia
 unfold Builtin.Slice.sliceAdjust;simp only [h1,Y9];refine Prod.ext ?_ ?_;cases lo with|none=>rfl|some v=>exact E9 v n 0
 cases j with|none=>rfl|some v=>exact E9 v n n
theorem Uy (i j:Nat):Builtin.Slice.slicePlaces (i:Int) (j:Int) 1=j-i:=by
 unfold Builtin.Slice.slicePlaces;have h1:(1:Int)>0:=by lia
 simp only [h1,Zf,Int.ediv_one];split <;> lia
theorem HY {v:Value}{o:Option Int}{Q:Option Int->Shared->Prop}(p:IsPart v o)(h:Q o s):wpAny (model prog w) A (Builtin.Slice.slicePartIndex v) Q E s:=by cases p with|none=>exact slicePart_none h|int i t=>exact slicePart_int h
theorem JM {d:Value}{n:Nat}{Q:Int×Int×Nat->Shared->Prop}(e:s.heap.IsSliceOf c r d .none)(pl:IsPart r lo)(f:IsPart d j)
  (h:Q (((sIx n 0 lo:Nat):Int),1,sIx n n j-sIx n 0 lo) s):wpAny (model prog w) A (Builtin.Slice.sliceApplied (.ref c) (pure (n:Int))) Q E s:=by
 obtain⟨os,a,g,b⟩:=id e;unfold Builtin.Slice.sliceApplied Builtin.Slice.sliceFields;refine W3 (W3 (XB a b (x:=r) rfl (W3 (XB a b (x:=d) rfl (W3 (XB a b (x:=.none) rfl (Xb ?_)))))));refine W3 (slicePart_none ?_);show wpAny _ _ (if ((1:Int)==0)=true then _ else _) _ _ s;rw[Xh (by decide)];refine W3 (HY pl (W3 (HY f (W3 (Xb ?_)))));show wpAny _ _ (match Builtin.Slice.sliceAdjust lo j 1 (n:Int) with | (lo,j)=>pure (lo,(1:Int),Builtin.Slice.slicePlaces lo j 1)) _ _ s;rw[Uz lo j n];show wpAny _ _ (pure (((sIx n 0 lo:Nat):Int),(1:Int),Builtin.Slice.slicePlaces ((sIx n 0 lo:Nat):Int) ((sIx n n j:Nat):Int) 1)) _ _ s;rw[Uy];exact Xb h
theorem R9 (xs:Array Value)(i k:Nat):((List.range k).filterMap fun(m:Nat)=>xs[((i:Int)+(m:Int)*1).toNat]?).toArray=((xs.toList.drop i).take k).toArray:=by
 have e:(fun(m:Nat)=>xs[((i:Int)+(m:Int)*1).toNat]?)=fun m=>xs[i+m]? := by
  funext m
  have:((i:Int)+(m:Int)*1).toNat=i+m:=by lia
  rw[this]
 rw[e];have:=pick_run xs i k;rw[List.filterMap_map] at this;have a:((fun x=>xs[x]?)∘fun x=>i+x)=fun m=>xs[i+m]? := rfl;rw[a] at this;rw[this]
theorem getItem_tuple_cut {t:Addr}{e:Value}(a:IsTup s.heap t u)(f:s.heap.IsSliceOf c r e .none)(pl:IsPart r lo)(g:IsPart e j)
  (i:¬ (sIx u.size 0 lo=0/\sIx u.size u.size j=u.size))
  (h:Q (.ref s.heap.objs.size) { s with heap:=s.heap.push { cls:=.type "tuple",data:=.seq ((u.toList.drop (sIx u.size 0 lo)).take (sIx u.size u.size j-sIx u.size 0 lo)).toArray } })
  (hsz:u.size<=sizeLine):wpAny (model prog w) A (getItem (.ref t) (.ref c)) Q E s:=by
 have b:sizeOk (.seq ((u.toList.drop (sIx u.size 0 lo)).take (sIx u.size u.size j-sIx u.size 0 lo)).toArray):=by show((u.toList.drop (sIx u.size 0 lo)).take (sIx u.size u.size j-sIx u.size 0 lo)).toArray.size<=sizeLine;rw[Xf,XJ,Yw,XS];omega
 have p:sIx u.size u.size j<=u.size:=Oi _ _ (W9 _) j;obtain⟨os,d,k,l⟩:=id f;have n:s.TypeIs (.ref c) "slice":=⟨os,d,k⟩;unfold getItem
 try with_reducible refine Yu ?_
 first|refine W3 (Xb ?_)|skip
 refine W3 (wpAny_sequenceKey a.typeIs (by decide) ?_)
 refine W3 (XC (name:=Str.ofString "__getitem__") a.typeIs X1
  (Xz X1 a.typeIs entry_tuple_getitem ?_ (args_tuple_getitem _ _)))
 show wpAny _ _ (Builtin.Tuple.tupleItemsOf (.ref t) >>= _) _ _ s;refine W3 (tupleItemsOf_ a ?_);refine W3 (wpAny_typeOf n ?_);rw[Xk (by decide)];refine W3 (JM f pl g ?_);have o:¬ ((((sIx u.size 0 lo:Nat):Int)==0&&(1:Int)==1&&(sIx u.size u.size j-sIx u.size 0 lo)==u.size)=true):=by intro q;rw[W4,W4] at q;have v:((sIx u.size 0 lo:Nat):Int)=0:=eq_of_beq q.1.1;have x:sIx u.size u.size j-sIx u.size 0 lo=u.size:=eq_of_beq q.2;exact i ⟨by omega,by omega⟩
 show wpAny _ _ (if (((sIx u.size 0 lo:Nat):Int)==0&&(1:Int)==1&&(sIx u.size u.size j-sIx u.size 0 lo)==u.size)=true then _ else _) _ _ s;rw[Xh o,R9]
 first
  |exact W3 (m:=Builtin.Tuple.tupleExact _) (Xo (Xb ⟨_,rfl,Xb h⟩) b)
  |exact W3 (m:=Builtin.Tuple.tupleExact _) (Xo (W3 (Xb (Xb ⟨_,rfl,Xb h⟩))) b)
  |exact W3 (W3 (m:=Builtin.Tuple.tupleExact _) (Xo (Xb (Xb ⟨_,rfl,Xb h⟩)) b))
  |exact W3 (W3 (m:=Builtin.Tuple.tupleExact _) (Xo (Xb ⟨_,rfl,Xb h⟩) b))
end
end
section
abbrev TO:=St->Hp->(Option Int->Hp->Prop)->Prop
def PO (X:Cx)(e:Option Expr)(t:TO):Prop:=∀(b:List (Addr×Obj))(s:Shared)(a:St)(H:Hp)(Q:Option Int->Hp->Prop),Inv X b a H s->t a H Q →wpAny (model X.prog X.w) X.A (evalPart e X.env) (fun u c=>∃o H',Inv X b a H' c/\IsPart u o/\Q o H') X.xe s
def kC:TO:=fun _ H Q=>Q none H
def MP (t:TE):TO:=fun a H Q=>t a H fun x b=>∃i,x=.int i/\Q (some i) b
variable {xs:List V}{c B:List Value}{u:Value}{H H':Hp}{a b l:Addr}{P prog:Program}{w:World}{h h':Heap}{q C:Type}{e:Expr}{X:Cx}{G:List (Addr×Obj)}{J:St}{t' j:Nat}{Q:Value->Shared->Prop}{y:V}{L M ty:TE}{es:List Expr}{O R S U:Pos}{r Y:R2}{T:String}{ns:List Int}{env:Env}
theorem Ux:∀{c:List Value},Vals (ns.map V.int) c->IntsAre c ns:=by induction ns with|nil=>(intro c r;rw[Y3] at r;cases r;exact .nil)|cons n ns a=>intro c r;rw[Xp] at r;cases r with|cons b d=>obtain⟨t,e⟩:=b;subst e;exact .cons n t (a d)
section
variable {lo Z:Option Expr}{tl th:TO}{pos:Pos}
theorem po_none:PO X none kC:=by intro G s J H Q I h;rw[evalPart_none];exact Xb ⟨none,H,I,.none,h⟩
theorem Qs (h:PE X e L):PO X (some e) (MP L):=by intro G s J H Q I a;rw[evalPart_some];refine aw (h G s J H _ I a) fun u g z=>?_;obtain⟨x,b,c,d,f⟩:=z;obtain⟨i,rfl,q⟩:=f;obtain⟨t,rfl⟩:=d;exact⟨some i,b,c,.int i t,q⟩
def SlR (X:Cx)(r:V->Option Int->Option Int->Hp->VK->Prop):Prop:=∀(G:List (Addr×Obj))(s:Shared)(J:St)(H:Hp)(x:V)(v a b:Value)(lo Z:Option Int)(c:Addr)(Q:VK),Inv X G J H s->RelV x v->s.heap.IsSliceOf c a b .none->IsPart a lo->IsPart b Z->r x lo Z H Q →∃T id,typeLookup (.type T) "__getitem__"=pure (some (.builtin id))/\s.TypeIs v T/\wpAny (model X.prog X.w) X.A (getItem v (.ref c)) (EP X G J Q) X.xe s
theorem SlR.or {r Y:V->Option Int->Option Int->Hp->VK->Prop}(h:SlR X r)(h':SlR X Y):SlR X (fun x lo Z H Q=>r x lo Z H Q∨Y x lo Z H Q):=by intro G s J H x v a b lo Z c Q I d e pl f q;rcases q with q|q;exact h G s J H x v a b lo Z c Q I d e pl f q;exact h' G s J H x v a b lo Z c Q I d e pl f q
def Bb (r:V->Option Int->Option Int->Hp->VK->Prop)(L:TE)(tl th:TO):TE:=fun J H Q=>L J H fun x a=>tl J a fun l b=>th J b fun u c=>r x l u c Q
theorem RZ {r:V->Option Int->Option Int->Hp->VK->Prop}(f:SlR X r)(he:PE X e L)(g:PO X lo tl)(i:PO X Z th):PE X (.Subscript e (.Slice lo Z none S) pos) (Bb r L tl th):=by intro G s J H Q I h;refine Subscript_ (aw (he G s J H _ I h) fun v j Y=>?_);obtain⟨x,k,m,n,o⟩:=Y;refine wpAny_Slice (aw (g G j J k _ m o) fun a p ⟨l,t,y,pl,z⟩=>aw (i G p J t _ y z) fun c s3 W=>?_);obtain⟨u,d,B,C,D⟩:=W;rw[evalPart_none];refine Xb ?_;have E:Inv X G J d { s3 with heap:=s3.heap.push { cls:=.type "slice",data:=.fields #[a,c,.none] } }:=B.kept (t':=s3.toks) fun b ob q=>W5 _ q;obtain⟨T,id,F,K,M⟩:=f G { s3 with heap:=s3.heap.push { cls:=.type "slice",data:=.fields #[a,c,.none] } } J d x v a c l u s3.heap.objs.size Q E n (Heap.IsSliceOf.new ..) pl C D;show wpAny (model X.prog X.w) X.A (subscriptTail e (.Slice lo Z none S) v (.ref s3.heap.objs.size)) (EP X G J Q) X.xe { s3 with heap:=s3.heap.push { cls:=.type "slice",data:=.fields #[a,c,.none] } };exact tail_any (ops:=[.ref s3.heap.objs.size,v]) K F M (by with_unfolding_all rfl)
def jQ (xs:List V)(lo Z:Option Int):List V:=(xs.drop (sIx xs.length 0 lo)).take (sIx xs.length xs.length Z-sIx xs.length 0 lo)
theorem II (xs:List V)(lo Z:Option Int):(jQ xs lo Z).length<=xs.length:=by unfold jQ;rw[XJ,Yw];lia
def V2 (K:W.Frag):V->Option Int->Option Int->Hp->VK->Prop:=fun x lo Z H Q=>∃a xs,x=.ref a/\SqT K H a xs ∧¬ (sIx xs.length 0 lo=0/\sIx xs.length xs.length Z=xs.length)/\∀p,H p=none->Q (.ref p) (ak H p (.tup (jQ xs lo Z)))
theorem Oh:SlR X (V2 X.K):=by
 intro G s J H x v k l lo Z m Q I e f pl g h;obtain⟨a,xs,rfl,i,j,q⟩:=h;cases e;obtain⟨B,r,d,hz⟩:=I.tuple i;have c:B.toArray.size=xs.length:=by rw[Xf];exact r.length.symm
 refine⟨"tuple",_,PyProof.Rows.slot_tuple_getitem.lookup,d.typeIs,?_⟩;refine getItem_tuple_cut d f pl g (by rw[c];exact j) ?_ (by rw[c];exact hz);rw[c];refine⟨.ref s.heap.objs.size,_,I.laid (t':=s.toks) (o:=.tup (jQ xs lo Z)) (fun b ob q=>W5 _ q) (W9 _) ?_,rfl,q _ (I.hok.fresh (W9 _))⟩;exact⟨XZ (II xs lo Z) hz,_,(r.drop (sIx xs.length 0 lo)).take (sIx xs.length xs.length Z-sIx xs.length 0 lo),IsTupN.new _ _⟩
def Wt (K:W.Frag):R2:=fun x y H Q=>∃a b xs c,x=.ref a/\y=.ref b/\SqT K H a xs/\SqT K H b c/\xs ≠ []/\xs.length+c.length<=sizeLine ∧(c=[]->Q (.ref a) H)/\(c ≠ []->∀p,H p=none->Q (.ref p) (ak H p (.tup (xs++c))))
theorem Vals.nil_iff (r:Vals xs c):c=[]↔xs=[]:=by cases r with|nil=>simp|cons _ _=>simp
theorem Qr:OpR X (binaryOp .Add) (Wt X.K):=by intro G s J H x y v u Q I f g h;obtain⟨a,b,xs,i,rfl,rfl,j,k,l,hz,m,n⟩:=h;cases f;cases g;obtain⟨B,d,p,_⟩:=I.tuple j;obtain⟨e,c,S,_⟩:=I.tuple k;refine cat_tup p S (fun z=>l (d.nil_iff.mp z)) (fun z=>⟨.ref a,H,I,rfl,m (c.nil_iff.mp z)⟩) (fun z=>?_) (by rw[<- d.length,<- c.length];exact hz);refine⟨.ref s.heap.objs.size,_,I.laid (t':=s.toks) (o:=.tup (xs++i)) (fun b ob q=>W5 _ q) (W9 _) ?_,rfl,n (fun w=>z (c.nil_iff.mpr w)) _ (I.hok.fresh (W9 _))⟩;exact⟨by rw[Xd];exact hz,_,d.append c,IsTupN.new _ _⟩
end
noncomputable def hZ (n:Nat)(i:Int):Option Nat:=if 0<=i then (if i<n then some i.toNat else none) else if -(n:Int)<=i then some (i+n).toNat else none
def atI {q : Type}(xs:List q)(i:Int):Option q := (hZ xs.length i).bind fun j=>xs[j]?
theorem E8 {n:Nat}{i:Int}(h:hZ n i=some j):seqIndex? i n=some j/\j<n /\ -(n:Int)<=i/\i<n:=by unfold hZ at h;by_cases a:0<=i;rw[Xk a] at h;by_cases h1:i<n;rw[Xk h1] at h;have e:i.toNat=j:=Xt h;exact⟨by rw[seqIndex_of a h1,e],by lia,by lia,h1⟩;rw[Xh h1] at h;cases h;rw[Xh a] at h;by_cases h1 : -(n:Int)<=i;rw[Xk h1] at h;have e:(i+n).toNat=j:=Xt h;exact⟨by rw[seqIndex_neg (by lia) h1,e],by lia,h1,by lia⟩;rw[Xh h1] at h;cases h
theorem zF {xs:List q}{i:Int}{v:q}(h:atI xs i=some v):∃j,seqIndex? i xs.length=some j/\xs[j]?=some v/\j<xs.length /\ -(xs.length:Int)<=i/\i<xs.length:=by unfold atI at h;cases e:hZ xs.length i with|none=>(rw[e] at h;cases h)|some j=>rw[e] at h;obtain⟨h1,a,b,c⟩:=E8 e;exact⟨j,h1,h,a,b,c⟩
theorem E7 {xs:List q}{v:q}(h:xs[j]?=some v):atI xs (j:Int)=some v:=by
 have a:j<xs.length:=(Xe.mp h).1;have e:hZ xs.length (j:Int)=some j:=by unfold hZ;rw[Xk (by lia),Xk (by lia)];simp
 unfold atI;rw[e];exact h
theorem RY (xs:List q)(v : q):atI (xs++[v]) (-1)=some v:=by
 have a:(xs++[v]).length=xs.length+1:=by simp
 have e:hZ (xs++[v]).length (-1)=some xs.length:=by unfold hZ;rw[a,Xh (by decide),Xk (by lia)];congr 1;lia
 unfold atI;rw[e];show(xs++[v])[xs.length]?=some v;simp
def Qq (b:Expr):Prop:=∀o i,subscripted b false o i=operate [o,i] (getItem o i)
def IxR (X:Cx)(r:R2):Prop:=∀(b a:Expr)(G:List (Addr×Obj))(s:Shared)(J:St)(H:Hp)(x y:V)(v u:Value)(Q:VK),Inv X G J H s->RelV x v->RelV y u->r x y H Q →subscripted a false v u=operate [v,u] (getItem v u)->wpAny (model X.prog X.w) X.A (subscriptTail b a v u) (EP X G J Q) X.xe s
def A4 (X:Cx)(id:String)(r:V->List V->Hp->VK->Prop):Prop:=∀(G:List (Addr×Obj))(s:Shared)(J:St)(H:Hp)(x:V)(xs:List V)(v:Value)(c:List Value)(Q:VK),Inv X G J H s->RelV x v->Vals xs c->r x xs H Q →wpAny (model X.prog X.w) X.A (call (.builtin id) (v::c)) (EP X G J Q) X.xe s
section
variable {a b:Expr}{Z tb:TE}{pos:Pos}
theorem IxR.or (h:IxR X r)(h':IxR X Y):IxR X (fun x y H Q=>r x y H Q∨Y x y H Q):=by intro a b G s J H x y v u Q I c d q e;rcases q with q|q;exact h a b G s J H x y v u Q I c d q e;exact h' a b G s J H x y v u Q I c d q e
theorem oG (c:IxR X r)(d:PE X a Z)(e:PE X b tb)(f:Qq b):PE X (.Subscript a b pos) (qy r Z tb):=by intro G s J H Q I h;exact Subscript_ (yu d e I h fun v u g x y i j k l q=>c a b G g J i x y v u Q j k l q (f _ _))
def KC (K:W.Frag):R2:=fun x y H Q=>∃p xs i v,x=.ref p/\y=.int i/\SqL K H p xs/\atI xs i=some v/\Q v H
def KA (K:W.Frag):R2:=fun x y H Q=>∃p xs i v,x=.ref p/\y=.int i/\SqT K H p xs/\atI xs i=some v/\Q v H
def qK:R2:=fun x y H Q=>∃z i c,x=.str z/\y=.int i/\z.length<=sizeLine/\atI z.cps.toList i=some c/\Q (.str ⟨#[c]⟩) H
theorem ix_list:IxR X (KC X.K):=by
 intro a b G s J H x y v u Q I k l h d;obtain⟨p,xs,i,z,rfl,rfl,m,he,q⟩:=h;cases k;obtain⟨t,rfl⟩:=l;obtain⟨B,r,pl,hz⟩:=I.list m;obtain⟨j,h1,n,F,o,A⟩:=zF he;obtain⟨w,e,C⟩:=r.get n;have D:=r.length;have L:=oM;have f:EP X G J Q w s:=⟨z,H,I,C,q⟩;by_cases g:0<=i;have c:i.toNat=j:=by rw[seqIndex_of g A] at h1;exact Xt h1
 exact item_listR pl.isList g (by lia) (by rw[c];simpa using e) f d;have c:(i+(B.toArray.size:Int)).toNat=j:=by rw[seqIndex_neg (by lia) o] at h1;rw[Xf,<- D];exact Xt h1
 exact subscriptTail_builtinR (x:=w) pl.isList.typeIs slot_list_getitem.lookup
  (wpAny_getItem_list_neg (Q:=fun r E=>r=w/\EP X G J Q r E) pl.isList (by lia) (by rw[Xf] <;> lia) (by lia) (by rw[c];simpa using e) ⟨rfl,f⟩) d
theorem ix_tup:IxR X (KA X.K):=by
 intro a b G s J H x y v u Q I c d h e;obtain⟨p,xs,i,z,rfl,rfl,f,he,q⟩:=h;cases c;obtain⟨t,rfl⟩:=d;obtain⟨B,r,pl,hz⟩:=I.tuple f;obtain⟨j,h1,g,A,C,D⟩:=zF he;obtain⟨w,k,l⟩:=r.get g;have m:=r.length;have E:=oM;have n:EP X G J Q w s:=⟨z,H,I,l,q⟩;exact subscriptTail_builtinR (x:=w) pl.typeIs slot_tuple_getitem.lookup
  (getItem_tuple (j:=j) (Q:=fun r o=>r=w/\EP X G J Q r o) pl (by lia) (by lia) (by rw[Xf,<- m];exact h1) (by simpa using k) ⟨rfl,n⟩) e
theorem Og:IxR X qK:=by
 intro a b G s J H x y v u Q I d e h f;obtain⟨z,i,c,rfl,rfl,hz,he,q⟩:=h;obtain⟨t,rfl⟩:=d;obtain⟨t',rfl⟩:=e;obtain⟨j,h1,g,p,k,l⟩:=zF he;have m:z.cps.toList.length=z.length:=by simp [Str.length]
 rw[m] at h1 k l;have r:=oM;exact tail_any (typeIs_str s z t) slot_str_getitem.lookup (getItem_str (c:=c) (by
  have n:decide (i < -(2 ^ 63:Int))=false:=XW (by lia);have o:decide (i ≥ 2 ^ 63)=false:=XW (by lia)
  rw[n,o,Bool.or_false]) (by rw[h1];simpa using g) ⟨.str ⟨#[c]⟩,H,I.tok _,⟨_,rfl⟩,q⟩) f
def Bg (K:W.Frag):R2:=fun x y H Q=>KC K x y H Q∨KA K x y H Q∨qK x y H Q
theorem Of:IxR X (Bg X.K):=ix_list.or (ix_tup.or Og)
theorem Uw (B:List Value)(n j:Nat)(u:Value):Obj.mapSeq (·.setIfInBounds j u) { cls:=.type "list",data:=.seq B.toArray n }={ cls:=.type "list",data:=.seq (B.set j u).toArray n }:=by simp [Obj.mapSeq]
theorem Inv.lst {G:List (Addr×Obj)}{J:St}{H:Hp}{s:Shared}{p:Addr}{xs:List V}(I:Inv X G J H s)(h:H p=some (.lst xs)):∃(B:List Value)(n:Nat),Vals xs B/\s.heap.get? p=some { cls:=.type "list",data:=.seq B.toArray n }/\xs.length<=sizeLine:=by obtain⟨z,B,n,r,e⟩:=I.hok p _ h;exact⟨B,n,r,e,z⟩
theorem Inv.lstUpd {s:Shared}{p:Addr}{a:List V}{its':List Value}{n c:Nat}{f:Obj->Obj}(I:Inv X G J H s)(h:H p=some (.lst xs))
  (g:s.heap.get? p=some { cls:=.type "list",data:=.seq B.toArray n }) (d:f { cls:=.type "list",data:=.seq B.toArray n }={ cls:=.type "list",data:=.seq its'.toArray c }) (r:Vals a its') (hz:a.length<=sizeLine) (t:Nat):
  Inv X G J (ak H p (.lst a)) { s with heap:=s.heap.update p f,toks:=t }:=by
 have e:(s.heap.update p f).get? p=some { cls:=.type "list",data:=.seq its'.toArray c }:=by rw[Ym f g (by rw[d] <;> rfl),d]
 refine I.write (x:=p) (e:=p) (by rw[h];trivial) (.inl rfl) (fun b u i q=>(Heap.get?_update_other _ _ (Ne.symm i)).trans q) ⟨_,e⟩ ?_;exact⟨hz,its',c,r,e⟩
def lY:V->V->V->Hp->(Hp->Prop)->Prop:=fun o i v H Q=>∃p xs k j,o=.ref p/\i=.int k/\H p=some (.lst xs)/\hZ xs.length k=some j/\Q (ak H p (.lst (xs.set j v)))
theorem RX:KL X lY:=by
 intro G s J H o i v z A u Q I m w x h;obtain⟨p,xs,k,j,rfl,rfl,d,y,q⟩:=h;cases m;obtain⟨t,rfl⟩:=w;obtain⟨B,n,r,a,hz⟩:=I.lst d;obtain⟨h1,C,e,f⟩:=E8 y;have b:=r.length;have D:=oM;have g:Inv X G J (ak H p (.lst (xs.set j v))) { s with heap:=s.heap.update p (Obj.mapSeq (·.setIfInBounds j u)) }:=I.lstUpd d a (Uw B n j u) (r.set x j) (by rw[length_set];exact hz) s.toks;by_cases l:0<=k;have c:k.toNat=j:=by rw[seqIndex_of l f] at h1;exact Xt h1
 exact PySem.W.ki_setAt a l (by lia) (by rw[Xf,<- b];exact f) (by rw[c];exact⟨_,g,q⟩);have c:(k+(B.toArray.size:Int)).toNat=j:=by rw[seqIndex_neg (by lia) e] at h1;rw[Xf,<- b];exact Xt h1
 exact PySem.W.ki_setBack a (by lia) (by rw[Xf,<- b];exact e) (by lia) (by rw[c];exact⟨_,g,q⟩)
theorem Vn (lo a:Option Int)(n:Nat):(sliceBounds lo a none n).1=((sIx n 0 lo:Nat):Int)/\(sliceBounds lo a none n).2.1=((sIx n n a:Nat):Int)/\(sliceBounds lo a none n).2.2=1:=by
 refine⟨?_,?_,rfl⟩;cases lo with
 |none=>simp [sliceBounds,sIx]
 |some i=>
  simp only [sliceBounds,sIx,Option.getD_none,show(1:Int)>0 by decide,Zf];by_cases h:i<0;simp only [h,Zf] <;> lia
  simp only [h,Y9] <;> lia
 cases a with
 |none=>simp [sliceBounds,sIx]
 |some i=>
  simp only [sliceBounds,sIx,Option.getD_none,show(1:Int)>0 by decide,Zf];by_cases h:i<0;simp only [h,Zf] <;> lia
  simp only [h,Y9] <;> lia
theorem VC (B:List Value)(lo a:Option Int):slicePick B.toArray lo a none=((B.drop (sIx B.length 0 lo)).take (sIx B.length B.length a-sIx B.length 0 lo)).toArray:=by obtain⟨h1,b,c⟩:=Vn lo a B.toArray.size;unfold slicePick;rw[h1,b,c];simp only [sliceRange_one,pick_run,Xf] <;> rfl
def Kz (K:W.Frag):V->Option Int->Option Int->Hp->VK->Prop:=fun x lo b H Q=>∃a xs,x=.ref a/\SqL K H a xs/\∀p,H p=none->Q (.ref p) (ak H p (.lst (jQ xs lo b)))
theorem sl_list:SlR X (Kz X.K):=by intro G s J H x v k l lo d m Q I f g pl i h;obtain⟨a,xs,rfl,j,q⟩:=h;cases f;obtain⟨B,r,e,hz⟩:=I.list j;have c:=r.length;refine⟨"list",_,slot_list_getitem.lookup,e.isList.typeIs,?_⟩;refine wpAny_getItem_list_slice e.isList g pl i .none (by simp) ?_ (by rw[Xf] <;> lia);rw[VC,<- c];refine⟨.ref s.heap.objs.size,_,I.laid (t':=s.toks) (o:=.lst (jQ xs lo d)) (fun b ob q=>W5 _ q) (W9 _) ?_,rfl,q _ (I.hok.fresh (W9 _))⟩;exact⟨XZ (II xs lo d) hz,_,0,(r.drop (sIx xs.length 0 lo)).take (sIx xs.length xs.length d-sIx xs.length 0 lo),Xg _ rfl⟩
noncomputable def fE:V->Bool
 | .non=>true
 | .bl _=>true
 | .int _=>true
 | .str _=>true
 |_=>false
noncomputable def jM:V->V->Bool
 | .non,.non=>true
 | .bl a,.bl b=>a==b
 | .bl a,.int b=>(if a then 1 else 0)==b
 | .int a,.bl b=>a==(if b then 1 else 0)
 | .int a,.int b=>a==b
 | .str a,.str b=>a==b
 |_,_=>false
theorem vo {A:Around}{s:Shared}{x:V}{v:Value}(d:RelV y u)(c:RelV x v)(f:fE y=true)(e:fE x=true):SeqAt.EqAt A s u v (jM y x):=by cases y with|non=>(cases d;cases x with|non=>(cases c;exact SeqAt.EqAt.same _)|bl b=>(cases c;exact SeqAt.EqAt.none_bool b)|int b=>(obtain⟨t,rfl⟩:=c;exact SeqAt.EqAt.none_int b t)|str b=>(obtain⟨t,rfl⟩:=c;exact SeqAt.EqAt.none_str b t)|_=>exact absurd (show false=true from e) W6)|bl a=>(cases d;cases x with|non=>(cases c;exact SeqAt.EqAt.bool_none a)|bl b=>(cases c;exact SeqAt.EqAt.bool_bool a b)|int b=>(obtain⟨t,rfl⟩:=c;exact SeqAt.EqAt.bool_int a b t)|str b=>(obtain⟨t,rfl⟩:=c;exact SeqAt.EqAt.bool_str a b t)|_=>exact absurd (show false=true from e) W6)|int a=>(obtain⟨t',rfl⟩:=d;cases x with|non=>(cases c;exact SeqAt.EqAt.int_none a t')|bl b=>(cases c;exact SeqAt.EqAt.int_bool a t' b)|int b=>(obtain⟨t,rfl⟩:=c;exact SeqAt.EqAt.int_int a t' b t)|str b=>(obtain⟨t,rfl⟩:=c;exact SeqAt.EqAt.int_str a t' b t)|_=>exact absurd (show false=true from e) W6)|str a=>(obtain⟨t',rfl⟩:=d;cases x with|non=>(cases c;exact SeqAt.EqAt.str_none a t')|bl b=>(cases c;exact SeqAt.EqAt.str_bool a t' b)|int b=>(obtain⟨t,rfl⟩:=c;exact SeqAt.EqAt.str_int a t' b t)|str b=>(obtain⟨t,rfl⟩:=c;exact SeqAt.EqAt.str_str a t' b t)|_=>exact absurd (show false=true from e) W6)|_=>exact absurd (show false=true from f) W6
def gI (x:V)(u:Value):Bool:=match u with
 | .none=>jM .non x
 | .bool b=>jM (.bl b) x
 | .int i _=>jM (.int i) x
 | .str z _=>jM (.str z) x
 |_=>false
theorem DK {x:V}(r:RelV y u)(f:fE y=true):gI x u=jM y x:=by cases y with|non=>(cases r;rfl)|bl b=>(cases r;rfl)|int i=>(obtain⟨t,rfl⟩:=r;rfl)|str z=>(obtain⟨t,rfl⟩:=r;rfl)|_=>exact absurd (show false=true from f) W6
theorem sQ {x:V}:∀{xs:List V}{c:List Value},Vals xs c->xs.all fE=true->c.any (gI x)=xs.any fun y=>jM y x
 |_,_,.nil,_=>rfl
 |y::xs,u::c,.cons r t,f=>by rw[all_cons,W4] at f;rw[any_cons,any_cons,DK r f.1,sQ t f.2]
theorem sW {A:Around}{s:Shared}{x:V}{v:Value}(b:RelV x v)(d:fE x=true):∀{xs:List V}{c:List Value},Vals xs c->xs.all fE=true->∀u∈c,SeqAt.EqAt A s u v (gI x u)
 |_,_,.nil,_=>fun u a=>by cases a
 |y::xs,u::c,.cons r t,f=>fun e a=>by rw[all_cons,W4] at f;rcases Xj.mp a with rfl|a;rw[DK r f.1];exact vo r b f.1 d;exact sW b d t f.2 e a
def ia (x:V)(xs:List V):Bool:=xs.any fun y=>jM y x
def xg (K:W.Frag)(neg:Bool):R2:=fun x y H Q=>∃p xs,y=.ref p/\(SqL K H p xs∨SqT K H p xs)/\fE x=true/\xs.all fE=true/\Q (.bl (if neg then !ia x xs else ia x xs)) H
theorem Tz:OpR X (compareOp .In) (xg X.K false):=by intro G s J H x y v u Q I c e h;obtain⟨p,xs,rfl,a,d,fs,q⟩:=h;cases e;rcases a with a|a;obtain⟨B,r,pl,hz⟩:=I.list a;refine SeqAt.in_listAt (gI x) pl.isList (fun w b=>sW c d r fs w (by simpa using b)) ⟨.bl _,H,I,rfl,?_⟩;rw[show B.toArray.any (gI x)=B.any (gI x) by simp,sQ r fs];exact q;obtain⟨B,r,pl,hz⟩:=I.tuple a;refine SeqAt.in_tupleAt (gI x) pl (fun w b=>sW c d r fs w (by simpa using b)) ⟨.bl _,H,I,rfl,?_⟩;rw[show B.toArray.any (gI x)=B.any (gI x) by simp,sQ r fs];exact q
theorem Vm:OpR X (compareOp .NotIn) (xg X.K true):=by intro G s J H x y v u Q I c e h;obtain⟨p,xs,rfl,a,d,fs,q⟩:=h;cases e;rcases a with a|a;obtain⟨B,r,pl,hz⟩:=I.list a;refine SeqAt.notIn_listAt (gI x) pl.isList (fun w b=>sW c d r fs w (by simpa using b)) ⟨.bl _,H,I,rfl,?_⟩;rw[show B.toArray.any (gI x)=B.any (gI x) by simp,sQ r fs];exact q;obtain⟨B,r,pl,hz⟩:=I.tuple a;refine SeqAt.notIn_tupleAt (gI x) pl (fun w b=>sW c d r fs w (by simpa using b)) ⟨.bl _,H,I,rfl,?_⟩;rw[show B.toArray.any (gI x)=B.any (gI x) by simp,sQ r fs];exact q
theorem Vl:gy X (.builtin "len") (fun xs H Q=>∃p b,xs=[.ref p]/\(SqL X.K H p b∨SqT X.K H p b)/\Q (.int b.length) H):=by intro G s J H xs c Q I r h;obtain⟨p,b,rfl,d,q⟩:=h;obtain⟨u,rfl,e⟩:=jf r;cases e;have f:=oM;rcases d with d|d;obtain⟨B,Y,pl,hz⟩:=I.list d;have a:=Y.length;exact Calls.call_len_list pl.isList (by simp only [Xf] <;> lia) ⟨.int b.length,H,I.tok _,⟨s.toks+1,by rw[Xf,a]⟩,q⟩;obtain⟨B,Y,pl,hz⟩:=I.tuple d;have a:=Y.length;exact len_tuple pl (by simp only [Xf] <;> lia) ⟨.int b.length,H,I.tok _,⟨s.toks+1,by rw[Xf,a]⟩,q⟩
theorem Vk:gy X (.builtin "len") (fun xs H Q=>∃z,xs=[.str z]/\z.length<=sizeLine/\Q (.int z.length) H):=by intro G s J H xs c Q I r h;obtain⟨z,rfl,hz,q⟩:=h;obtain⟨u,rfl,t,rfl⟩:=jf r;have a:=oM;exact len_str (by lia) ⟨.int z.length,H,I.tok _,⟨_,rfl⟩,q⟩
theorem Vj:gy X (.type "list") (fun xs H Q=>∃p a,xs=[.ref p]/\(SqL X.K H p a∨SqT X.K H p a)/\∀l,H l=none->Q (.ref l) (ak H l (.lst a))):=by
 intro G s J H xs c Q I r h;obtain⟨p,a,rfl,f,q⟩:=h;obtain⟨u,rfl,m⟩:=jf r;cases m;have k:∀(B:List Value),Vals a B->a.length<=sizeLine->∀(h':Heap)(d:Nat),(∀b o',s.heap.get? b=some o'->h'.get? b=some o') →h'.get? s.heap.objs.size=some { cls:=.type "list",dict:=none,data:=.seq B.toArray d,slots:=#[] }->EP X G J Q (.ref s.heap.objs.size) { s with heap:=h' }:=fun B Y hz h' d kp e=>
  ⟨.ref s.heap.objs.size,_,I.laid (t':=s.toks) kp (W9 _) (show ObjOk X.prog X.w _ h' _ (.lst a) from⟨hz,B,d,Y,e⟩),rfl,q _ (I.hok.fresh (W9 _))⟩
 rcases f with f|f;obtain⟨B,Y,pl,hz⟩:=I.list f;have g:=Y.length;obtain⟨o,i,j,n,hd⟩:=pl.isList;exact call_list_seq p (.inl rfl) i j hd (fun h' d kp e=>k B Y hz h' d kp e) (by simp only [Xf] <;> lia);obtain⟨B,Y,pl,hz⟩:=I.tuple f;have g:=Y.length;obtain⟨o,i,j,n,hd⟩:=pl;exact call_list_seq p (.inr rfl) i j hd (fun h' d kp e=>k B Y hz h' d kp e) (by simp only [Xf] <;> lia)
theorem wL:gy X (.type "tuple") (fun xs H Q=>∃p a,xs=[.ref p]/\((SqL X.K H p a/\∀l,H l=none->Q (.ref l) (ak H l (.tup a)))∨(SqT X.K H p a/\Q (.ref p) H))):=by intro G s J H xs c Q I r h;obtain⟨p,a,rfl,h⟩:=h;obtain⟨u,rfl,i⟩:=jf r;cases i;rcases h with ⟨d,q⟩|⟨d,q⟩;obtain⟨B,Y,pl,hz⟩:=I.list d;have f:=Y.length;refine call_tuple_list pl.isList (fun h' kp=>?_) (by simp only [Xf] <;> lia);have g:Inv X G J H { s with heap:=h' }:=I.kept (t':=s.toks) kp;have j:Inv X G J (ak H h'.objs.size (.tup a)) { s with heap:=h'.push { cls:=.type "tuple",data:=.seq B.toArray } }:=g.laid (t':=s.toks) (fun b o e=>W5 _ e) (W9 _) (show ObjOk X.prog X.w _ _ _ (.tup a) from⟨hz,B,Y,IsTupN.new _ _⟩);exact⟨.ref h'.objs.size,_,j,rfl,q _ (g.hok.fresh (W9 _))⟩;obtain⟨B,Y,pl,hz⟩:=I.tuple d;exact call_tuple_same pl ⟨.ref p,H,I,rfl,q⟩
def wX (K:W.Frag)(T:String)(x:V)(H:Hp):Prop:=match x with
 | .str _=>T="str"
 | .int _=>T="int"
 | .ref p=>(T="list"/\∃xs,SqL K H p xs)∨(T="tuple"/\∃o,K.lookup p=some o/\o.cls=.type "tuple"/\o.dict=none) ∨
   (T="dict"/\((∃kvs,H p=some (.dK kvs))∨∃kvs,H p=some (.dT kvs)))∨(T="set"/\∃S n,H p=some (.set S n))
 |_=>False
theorem DJ {s:Shared}{x:V}{v:Value}(I:Inv X G J H s)(r:RelV x v)(ty:wX X.K T x H):s.TypeIs v T/\∀a,v=.ref a->∃ob,s.heap.get? a=some ob/\ob.dict=none:=by
 cases x with
 |str z=>(obtain⟨t,rfl⟩:=r;cases (show T="str" from ty);exact⟨typeIs_str s z t,fun _ e=>nomatch e⟩)|int i=>(obtain⟨t,rfl⟩:=r;cases (show T="int" from ty);exact⟨typeIs_int s i t,fun _ e=>nomatch e⟩)
 |ref p=>
  cases r;rcases ty with ⟨rfl,xs,f⟩|⟨rfl,o,b,g,hd⟩|⟨rfl,b⟩|⟨rfl,S,n,b⟩;obtain⟨B,_,pl,_⟩:=I.list f;refine⟨pl.isList.typeIs,fun a e=>?_⟩;cases e;obtain⟨o,n,e,c,hd,_⟩:=pl;exact⟨o,e,hd⟩;refine⟨⟨o,I.kIn p o b,g⟩,fun a e=>?_⟩;cases e;exact⟨o,I.kIn _ o b,hd⟩;have z:∃o,s.heap.get? p=some o/\o.ExactDict:=by rcases b with ⟨kvs,b⟩|⟨kvs,b⟩;obtain⟨_,_,_,_,o,_,_,e,ex,_⟩:=I.hok p _ b;exact⟨o,e,ex⟩;obtain⟨_,_,_,_,o,_,_,e,ex,_⟩:=I.hok p _ b;exact⟨o,e,ex⟩
  obtain⟨o,e,ex⟩:=z;refine⟨⟨o,e,ex.1⟩,fun a d=>?_⟩;cases d;exact⟨o,e,ex.2.1⟩;obtain⟨o,_,_,_,e,ex,_⟩:=I.hok p _ b;refine⟨⟨o,e,ex.1⟩,fun a d=>?_⟩;cases d;exact⟨o,e,ex.2.1⟩
 |_=>exact False.elim ty
def V1 (K:W.Frag)(T:String)(r:V->List V->Hp->VK->Prop)(to:TE):TE:=fun J H Q=>to J H fun x a=>wX K T x a/\r x [] a Q
def w8 (K:W.Frag)(T:String)(r:V->List V->Hp->VK->Prop)(to:TE)(t:TA):TE:=fun J H Q=>to J H fun x a=>wX K T x a/\t J a fun xs b=>r x xs b Q
variable {o:Expr}{to:TE}{t:TA}{name:Str}{id:String}{r:V->List V->Hp->VK->Prop}
theorem DI (c:PlainAttrs T)(slot:Slot T name id)(d:typeOf (.builtin id)=pure (.type "method_descriptor"))(e:A4 X id r)(f:PE X o to)
  (g:attributeBase o name X.env (eval o X.env)=eval o X.env:=by rfl) (i:(R.endLine==U.line)=true:=by rfl):PE X (.Call (.Attribute o name R) [] [] U) (V1 X.K T r to):=by
 intro G s J H Q I h;refine wpAny_Call_method0_late g i (aw (f G s J H _ I h) fun v j z=>?_);obtain⟨x,k,a,b,ty,l⟩:=z;obtain⟨h1,m⟩:=DJ a b ty;exact⟨T,id,c,slot,d,h1,m,Yk rfl (PySem.evalArgs_none (e G j J k x [] v [] Q a b .nil l))⟩
theorem pX (f:PlainAttrs T)(slot:Slot T name id)(g:typeOf (.builtin id)=pure (.type "method_descriptor"))(i:A4 X id r)(j:PE X o to)(k:PA X (e::es) t)
  (l:attributeBase o name X.env (eval o X.env)=eval o X.env:=by rfl)
  (m:((backTo U (starEach (e::es) X.env)).all (fun x => !x.1)&&(backToKw U (keywordEach [] X.env)).all (fun x=>x.1.isSome)
   && decide ((e::es).length+([]:List Keyword).length+(if ([]:List Keyword).isEmpty then 0 else 1)<30))=true:=by rfl)
  (n:(R.endLine==U.line)=true:=by rfl) (p:starEach (e::es) X.env=(false,eval e X.env)::starEach es X.env:=by rfl) (q:(backTo U (starEach es X.env)).any (·.1)=false:=by rfl):
  PE X (.Call (.Attribute o name R) (e::es) [] U) (w8 X.K T r to t):=by
 intro G s J H Q I h;refine wpAny_Call_method_late l m n rfl (aw (j G s J H _ I h) fun v u Z=>?_);obtain⟨x,w,a,b,ty,y⟩:=Z;obtain⟨h1,z⟩:=DJ a b ty;refine⟨T,id,f,slot,g,h1,z,?_⟩;have d:=k U G u J w _ a y;rw[p] at d ⊢;refine Yk (by show(false||(backTo U (starEach es X.env)).any (·.1))=false;rw[q] <;> rfl) (YF ?_);exact aw d fun c A Y=>by obtain⟨B,C,D,E,F⟩:=Y;exact i G A J C x B v c Q D b E F
end
def tG (X:Cx)(id:String)(r:V->List V->Hp->VK->Prop):Prop:=∀(G:List (Addr×Obj))(s:Shared)(J:St)(H:Hp)(x:V)(xs:List V)(v:Value)(c:List Value)(Q:VK),Inv X G J H s->RelV x v->Vals xs c->r x xs H Q →wpAny (model X.prog X.w) X.A (call (.builtin id) (v::c)) (EP X G J Q) X.xe s
theorem Vals.one {x:V}{c:List Value}(h:Vals [x] c):∃u,c=[u]/\RelV x u:=by cases h with|cons r h=>cases h;exact⟨_,rfl,r⟩
theorem Vals.zero:∀{c:List Value},Vals [] c->c=[]
 |_,.nil=>rfl
theorem Vals.dropLast (h:Vals xs c):Vals xs.dropLast c.dropLast:=by induction h with|nil=>exact .nil|cons r t a=>cases t with|nil=>exact .nil|cons q t'=>exact .cons r a
theorem Vals.reverse (h:Vals xs c):Vals xs.reverse c.reverse:=by induction h with|nil=>exact .nil|cons r t a=>rw[Yr,Yr];exact Vals.append a (.cons r .nil)
theorem Vals.rep (h:Vals xs c):∀k:Nat,Vals (List.replicate k xs).flatten (List.replicate k c).flatten
 | 0=>.nil
 |k+1=>by rw[YJ,YJ,Ys,Ys];exact Vals.append h (Vals.rep h k)
theorem Uv (l:List q):l.eraseIdx (l.length-1)=l.dropLast:=by
 induction l with
 |nil=>rfl
 |cons a r c=>
  cases r with
  |nil=>rfl
  |cons b r=>
   have e:(a::b::r).length-1=((b::r).length-1)+1:=by have h1:(a::b::r).length=r.length+2:=rfl;have d:(b::r).length=r.length+1:=rfl;lia
   rw[e,List.eraseIdx_cons_succ,c];all_goals rfl
theorem Ag (B:List Value):∀(k:Nat)(a:List Value),List.foldl (fun b c=>b++c) a.toArray (List.replicate k B.toArray)=(a++(List.replicate k B).flatten).toArray
 | 0,a=>by simp
 |k+1,a=>by
  have e:a.toArray++B.toArray=(a++B).toArray:=by simp
  have d:(a++B)++(List.replicate k B).flatten=a++(List.replicate (k+1) B).flatten:=by rw[YJ,Ys,Xy]
  rw[<- d,<- Ag B k (a++B),<- e,YJ,foldl_cons]
section
variable {s:Shared}{Z x:List V}
theorem Inv.lset {its':List Value}{n:Nat}{f:Array Value->Array Value}(I:Inv X G J H s)(a:H l=some (.lst xs))
  (e:s.heap.get? l=some { cls:=.type "list",data:=.seq B.toArray n }) (b:f B.toArray=its'.toArray) (c:Vals Z its') (hz:Z.length<=sizeLine):
  Inv X G J (ak H l (.lst Z)) { s with heap:=s.heap.update l (Obj.mapSeq f),toks:=t' }:=by
 have q:=PySem.IsL.update e f;rw[b] at q;refine I.write (x:=l) (e:=l) (by rw[a];exact trivial) (.inl rfl) (fun h u d g=>(Heap.get?_update_other s.heap (Obj.mapSeq f) (Ne.symm d)).trans g) ⟨_,q⟩ ?_;exact⟨hz,its',_,c,q⟩
theorem Inv.lnew (I:Inv X G J H s)(a:Vals Z B)(hz:Z.length<=sizeLine):Inv X G J (ak H s.heap.objs.size (.lst Z)) { s with heap:=s.heap.push { cls:=.type "list",data:=.seq B.toArray },toks:=t' }:=I.laid (fun _ _ q=>W5 _ q) (W9 _) ⟨hz,B,0,a,Xg _ rfl⟩
theorem Inv.fresh (I:Inv X G J H s):H s.heap.objs.size=none:=I.hok.fresh (W9 _)
theorem Inv.lstM (I:Inv X G J H s)(a:H l=some (.lst xs)):xs.length<=sizeLine/\∃(B:List Value)(n:Nat),Vals xs B/\xs.length=B.length/\s.heap.get? l=some { cls:=.type "list",data:=.seq B.toArray n }:=by obtain⟨z,B,n,r,e⟩:=I.hok l _ a;exact⟨z,B,n,r,r.length,e⟩
theorem zY {n:Nat}(h:n<=sizeLine):Builtin.List.listTooLong n=false:=by unfold Builtin.List.listTooLong;exact XW (by lia)
end
section
def g8:V->List V->Hp->VK->Prop:=fun x a H Q=>∃l xs y,x=.ref l/\a=[y]/\H l=some (.lst xs)/\xs.length<sizeLine/\Q .non (ak H l (.lst (xs++[y])))
theorem wB:tG X "list.append" g8:=by intro G s J H x g v c Q I b d h;obtain⟨l,xs,y,rfl,rfl,a,hz,q⟩:=h;cases b;obtain⟨u,rfl,f⟩:=d.one;obtain⟨z,B,n,r,i,e⟩:=I.lstM a;refine call_meets F.slot_list_append ⟨_,e,rfl⟩ F.entry_list_append (F.args_list_append_2 _ _) (PySem.list_append l B.toArray n u (by rw[Xf];lia)) ⟨e,?_⟩;refine⟨.non,_,I.lset (its':=B++[u]) a e (by simp) (r.append (.cons f .nil)) ?_,rfl,q⟩;rw[Xd,length_singleton];lia
def g7:V->List V->Hp->VK->Prop:=fun x c H Q=>∃l b xs a,x=.ref l/\c=[.ref b]/\H l=some (.lst xs)/\H b=some (.lst a)/\xs.length+a.length<=sizeLine/\Q .non (ak H l (.lst (xs++a)))
theorem Tw:tG X "list.extend" g7:=by
 intro G s J H x t v c Q I f g h;obtain⟨l,b,xs,w,rfl,rfl,d,hB,hz,q⟩:=h;cases f;obtain⟨u,rfl,i⟩:=g.one;cases i;obtain⟨z,B,n,r,y,e⟩:=I.lstM d;obtain⟨A,a,j,k,m,o⟩:=I.lstM hB;have hsz:B.toArray.size+a.toArray.size<=sizeLine:=by rw[Xf,Xf];lia
 have p:¬ (!B.toArray.isEmpty&&Builtin.List.listTooLong (B.toArray.size+a.toArray.size))=true:=by rw[zY hsz,Bool.and_false];exact W6
 refine call_meets F.slot_list_extend ⟨_,e,rfl⟩ F.entry_list_extend (F.args_list_extend_2 _ _)
  (AutoSeq1.list_extend_list_list_0 l B.toArray n b a.toArray j p (by rw[Xf];lia) (by lia)) ⟨e,o,?_⟩
 refine⟨.non,_,I.lset (its':=B++a) d e (by simp) (r.append k) ?_,rfl,q⟩;rw[Xd];lia
def qJ:V->List V->Hp->VK->Prop:=fun x a H Q=>∃l xs y,x=.ref l/\a=[]/\H l=some (.lst xs)/\xs[xs.length-1]?=some y/\Q y (ak H l (.lst xs.dropLast))
theorem DH:tG X "list.pop" qJ:=by
 intro G s J H x o v c Q I d f h;obtain⟨l,xs,y,rfl,rfl,b,g,q⟩:=h;cases d;have a:=f.zero;subst a;obtain⟨z,B,n,r,i,e⟩:=I.lstM b;obtain⟨u,j,k⟩:=r.get g;have m:B.toArray[B.toArray.size-1]?=some u:=by show B.toArray[B.length-1]?=some u;rw[<- Array.getElem?_toList,<- i];exact j
 refine call_meets F.slot_list_pop ⟨_,e,rfl⟩ F.entry_list_pop (F.args_list_pop_1 _) (MeetsSeq.list_pop_last l B.toArray n u m (by rw[Xf];lia)) ⟨e,?_⟩;refine⟨y,_,I.lset (its':=B.dropLast) b e ?_ r.dropLast ?_,k,q⟩;show B.toArray.eraseIdxIfInBounds (B.toArray.size-1)=B.dropLast.toArray;rw[Xf,List.eraseIdxIfInBounds_toArray,Uv];rw[List.length_dropLast];lia
def qM:R2:=fun x y H Q=>∃l b xs a,x=.ref l/\y=.ref b/\H l=some (.lst xs)/\H b=some (.lst a)/\xs.length+a.length<=sizeLine/\∀p,H p=none->Q (.ref p) (ak H p (.lst (xs++a)))
theorem op_cat:OpR X (binaryOp .Add) qM:=by
 intro G s J H x y v u Q I c d h;obtain⟨l,b,xs,m,rfl,rfl,f,hB,hz,q⟩:=h;cases c;cases d;obtain⟨z,B,n,r,o,e⟩:=I.lstM f;obtain⟨p,a,t,g,i,j⟩:=I.lstM hB;refine PySem.P.add_list e j ?_ (by rw[Xf,Xf];lia);have k:B.toArray++a.toArray=(B++a).toArray:=by simp
 rw[k];exact⟨.ref _,_,I.lnew (t':=s.toks) (r.append g) (by rw[Xd];lia),rfl,q _ I.fresh⟩
def qI:R2:=fun x y H Q=>∃l k xs,x=.ref l/\y=.int k/\H l=some (.lst xs) /\ -(2 ^ 63)<=k/\k<2 ^ 63/\xs.length*k.toNat<=sizeLine ∧∀p,H p=none->Q (.ref p) (ak H p (.lst (List.replicate k.toNat xs).flatten))
theorem vR (xs:List q)(k:Nat):(List.replicate k xs).flatten.length=k*xs.length:=by induction k with|zero=>simp|succ k a=>rw[YJ,Ys,Xd,a,Nat.succ_mul,Nat.add_comm]
theorem op_rep:OpR X (binaryOp .Mult) qI:=by
 intro G s J H x y v u Q I f g h;obtain⟨l,k,xs,rfl,rfl,i,h1,j,hz,q⟩:=h;cases f;obtain⟨t,rfl⟩:=g;obtain⟨z,B,n,r,o,e⟩:=I.lstM i;have b:B.toArray.size*k.toNat<=sizeLine:=by rw[Xf,<- o];exact hz
 have p:¬B.toArray.size*k.toNat>(2 ^ 63-1) / 8:=by
  have:(sizeLine:Nat)<=(2 ^ 63-1) / 8:=by decide
  lia
 have w:¬ (!Builtin.List.listFitsIndex k)=true:=by rw[fitsIndex_both h1 j];exact W6
 have A:¬Builtin.List.listTooLong (B.toArray.size*k.toNat)=true:=by rw[zY b];exact W6
 have C:List.foldl (fun c d=>c++d) #[] (List.replicate (if B.toArray.isEmpty=true then 0 else k.toNat) B.toArray)=(List.replicate k.toNat B).flatten.toArray:=by
  have D:∀m:Nat,List.foldl (fun c d=>c++d) #[] (List.replicate m B.toArray)=(List.replicate m B).flatten.toArray:=fun m=>by have:=Ag B m [];rw[XM] at this;exact this
  rw[D];cases B with|nil=>simp|cons a Y=>rw[Xh (by simp)]
 refine wpAny_binaryOp_repeat_ref (T:="list") (U:="int") (by decide) ⟨_,e,rfl⟩ (fun E=>typeIs_int E k t) noFill_list_mul F.fills_int_mul F.slot_int_rmul repeat_list F.slot_int_index.lookup
  (call_meets F.slot_int_rmul (typeIs_int s k t) F.entry_int_rmul (F.args_int_rmul_2 _ _) (int___rmul___int_list k t l B.toArray n)
   ⟨e,rfl,⟨_,e,rfl⟩,call_meets F.slot_list_mul ⟨_,e,rfl⟩ F.entry_list_mul (F.args_list_mul_2 _ _) (AutoListH.list___mul___list_int_3 l B.toArray n k t w p A) ⟨e,?_⟩⟩)
 rw[C];exact⟨.ref _,_,I.lnew (t':=s.toks) (r.rep k.toNat) (by rw[vR,Nat.mul_comm];exact hz),rfl,q _ I.fresh⟩
end
section
variable [DecidableEq C]
noncomputable def bw (kvs:List (C × V))(k : C):Option V:=(kvs.find? fun a=>decide (a.1=k)).map (·.2)
noncomputable def cf (kvs:List (C × V))(k : C)(v:V):List (C × V):=if (kvs.any fun a=>decide (a.1=k))=true then kvs.map (fun a=>if a.1=k then (a.1,v) else a) else kvs++[(k,v)]
theorem jZ {p:C × V}{r:List (C × V)}{k:C}(e:p.1=k):bw (p::r) k=some p.2:=by simp [bw,X8,e]
theorem jY {p:C × V}{r:List (C × V)}{k:C}(e:¬p.1=k):bw (p::r) k=bw r k:=by simp [bw,X8,e]
theorem wg (k : C):∀kvs:List (C × V),(kvs.any fun a=>decide (a.1=k))=(bw kvs k).isSome
 |[]=>rfl
 |p::r=>by rw[any_cons];by_cases e:p.1=k;simp only [jZ e,Xs e,Bool.true_or,Option.isSome_some];rw[jY e,XW e,Bool.false_or];exact wg k r
theorem Gv (k j : C)(y:V):∀kvs:List (C × V),bw (kvs.map fun a=>if a.1=k then (a.1,y) else a) j=(bw kvs j).map fun x=>if j=k then y else x
 |[]=>rfl
 |p::r=>by have b:=Gv k j y r;rw[Xp];by_cases h:p.1=k;rw[Xk h];by_cases e:p.1=j;rw[jZ (p:=(p.1,y)) e,jZ e,YV,Xk (e.symm.trans h)];rw[jY (p:=(p.1,y)) e,jY e,b];rw[Xh h];by_cases e:p.1=j;rw[jZ (p:=p) e,jZ e,YV,Xh (fun z=>h (e.trans z))];rw[jY (p:=p) e,jY e,b]
theorem He (k j : C)(y:V):∀kvs:List (C × V),bw kvs k=none->bw (kvs++[(k,y)]) j=if j=k then some y else bw kvs j
 |[],_=>by by_cases e:k=j;rw[Xk e.symm];exact jZ (p:=(k,y)) e;rw[Xh (fun z=>e z.symm)];exact jY (p:=(k,y)) e
 |p::r,a=>by
  rw[XR];have b:¬p.1=k:=fun z=>by rw[jZ z] at a;cases a
  rw[jY b] at a;have c:=He k j y r a;by_cases e:p.1=j;rw[jZ e,jZ e,Xh (fun z=>b (e.trans z))];rw[jY e,jY e,c]
theorem qh (kvs:List (C × V))(k j : C)(y:V):bw (cf kvs k y) j=if j=k then some y else bw kvs j:=by
 unfold cf;by_cases a:(kvs.any fun b=>decide (b.1=k))=true;rw[Xk a,Gv];rw[wg] at a;by_cases e:j=k;obtain⟨x,c⟩:=Option.isSome_iff_exists.mp a;rw[Xk e,e,c,YV,Xk rfl];rw[Xh e];cases bw kvs j with|none=>rfl|some x=>rw[YV,Xh e]
 rw[Xh a];refine He k j y kvs ?_;rw[wg] at a;cases q:bw kvs k with|none=>rfl|some x=>rw[q] at a;exact(a rfl).elim
theorem qp (kvs:List (C × V))(k : C)(v:V):(cf kvs k v).length<=kvs.length+1:=by unfold cf;split;rw[Xa];lia;rw[Xd,Xl,length_nil];lia
theorem RelO.isSome_eq {o:Option V}{u:Option Value}(r:RelO o u):o.isSome=u.isSome:=by
 cases o with
 |none=>cases u with
  |none=>rfl
  |some _=>exact(show False from r).elim
 |some _=>cases u with
  |none=>exact(show False from r).elim
  |some _=>rfl
theorem RelO.getD {o:Option V}{u:Option Value}{d:V}{d':Value}(r:RelO o u)(rd:RelV d d'):RelV (o.getD d) (u.getD d'):=by
 cases o with
 |none=>cases u with
  |none=>exact rd
  |some _=>exact(show False from r).elim
 |some _=>cases u with
  |none=>exact(show False from r).elim
  |some _=>exact r
theorem KV.val {kvs:List (C × V)}{d:List (C × Value)}(r:KV kvs d)(k : C):RelO (bw kvs k) (valueAt d k):=by
 unfold KV at r;induction r with
 |nil=>exact True.intro
 | @cons p q ps a h t f=>
  obtain⟨h1,g⟩:=h;by_cases e:p.1=k;have c:q.1=k:=h1.symm.trans e;have b:valueAt (q::a) k=some q.2:=by simp [valueAt,X8,c]
  rw[jZ e,b];exact g;have c:¬q.1=k:=fun z=>e (h1.trans z);have b:valueAt (q::a) k=valueAt a k:=by simp [valueAt,X8,c]
  rw[jY e,b];exact f
theorem KV.any {kvs:List (C × V)}{b:List (C × Value)}(r:KV kvs b)(k : C):(kvs.any fun a=>decide (a.1=k))=b.any fun a=>decide (a.1=k):=by unfold KV at r;induction r with|nil=>rfl|cons h t c=>rw[any_cons,any_cons,c,h.1]
theorem KV.repl {kvs:List (C × V)}{b:List (C × Value)}(r:KV kvs b)(k : C){y:V}{u:Value}(c:RelV y u):KV (kvs.map fun a=>if a.1=k then (a.1,y) else a) (b.map fun a=>if a.1=k then (a.1,u) else a):=by unfold KV at r ⊢;induction r with|nil=>exact .nil| @cons p q ps g h t d=>rw[Xp,Xp];refine .cons ?_ d;obtain⟨h1,f⟩:=h;by_cases e:p.1=k;rw[Xk e,Xk (h1.symm.trans e)];exact⟨h1,c⟩;rw[Xh e,Xh (fun z=>e (h1.trans z))];exact⟨h1,f⟩
theorem KV.put {kvs:List (C × V)}{a:List (C × Value)}(r:KV kvs a)(k : C){y:V}{u:Value}(b:RelV y u):KV (cf kvs k y) (stored a k u):=by unfold cf stored;rw[r.any k];by_cases e:(a.any fun c=>decide (c.1=k))=true;rw[Xk e,Xk e];exact r.repl k b;rw[Xh e,Xh e];exact Paired.snoc r ⟨rfl,b⟩
theorem KV.keys {kvs:List (C × V)}{a:List (C × Value)}(r:KV kvs a):kvs.map (·.1)=a.map (·.1):=by unfold KV at r;induction r with|nil=>rfl|cons h t b=>rw[Xp,Xp,b,h.1]
theorem KV.length {kvs:List (C × V)}{a:List (C × Value)}(r:KV kvs a):kvs.length=a.length:=Paired.length r
end
theorem ki {k:aj}(r:RelV (kV k) u):(bg P w).is k u=true:=by cases k with|inl i=>(obtain⟨t,e⟩:=(show ∃t,u=Value.int i t from r);subst e;exact U0 P w i t)|inr x=>obtain⟨t,e⟩:=(show ∃t,u=Value.str x t from r);subst e;exact UZ P w x t
theorem Hd:∀{a:List aj}{c:List Value},Vals (a.map kV) c->ItemsAre (bg P w) a c
 |[],_,r=>by rw[Y3] at r;cases r;exact .nil
 |k::a,_,r=>by rw[Xp] at r;cases r with|cons h t=>exact .cons (ki h) (Hd t)
abbrev KT (H:Hp):List (List aj×V)->List (List aj×Addr×Value)->Prop:=Paired fun p q=>p.1=q.1/\H q.2.1=some (.tup (p.1.map kV))/\RelV p.2 q.2.2
theorem KT.val {kvs:List (List aj×V)}{xs:List (List aj×Addr×Value)}(r:KT H kvs xs)(k:List aj):RelO (bw kvs k) ((atKey xs k).map (·.2)):=by
 induction r with
 |nil=>exact True.intro
 | @cons p q ps a h t d=>
  obtain⟨h1,_,f⟩:=h;by_cases e:p.1=k;have c:q.1=k:=h1.symm.trans e;have b:atKey (q::a) k=some q.2:=by simp [atKey,X8,c]
  rw[jZ e,b];exact f;have c:¬q.1=k:=fun z=>e (h1.trans z);have b:atKey (q::a) k=atKey a k:=by simp [atKey,X8,c]
  rw[jY e,b];exact d
theorem KT.repl {kvs:List (List aj×V)}{xs:List (List aj×Addr×Value)}(r:KT H kvs xs)(k:List aj){y:V}{u:Value}(c:RelV y u):KT H (kvs.map fun a=>if a.1=k then (a.1,y) else a) (xs.map (putAt k u)):=by induction r with|nil=>exact .nil| @cons p q ps g h t d=>rw[Xp,Xp];refine .cons ?_ d;obtain⟨h1,b,f⟩:=h;unfold putAt;by_cases e:p.1=k;rw[Xk e,Xk (h1.symm.trans e)];exact⟨h1,b,c⟩;rw[Xh e,Xh (fun z=>e (h1.trans z))];exact⟨h1,b,f⟩
theorem KT.put {kvs:List (List aj×V)}{xs:List (List aj×Addr×Value)}(r:KT H kvs xs)(k:List aj){b:Addr}{y:V}{u:Value}(c:H b=some (.tup (k.map kV)))(a:RelV y u):KT H (cf kvs k y) (storedH xs k b u):=by
 have e:(kvs.any fun d=>decide (d.1=k))=(atKey xs k).isSome:=by rw[wg,(r.val k).isSome_eq,Option.isSome_map]
 unfold cf storedH;rw[e];by_cases q:(atKey xs k).isSome=true;rw[Xk q,Xk q];exact r.repl k a;rw[Xh q,Xh q];exact Paired.snoc r ⟨rfl,c,a⟩
theorem KT.keeps {kvs:List (List aj×V)}{xs:List (List aj×Addr×Value)}(r:KT H kvs xs)(c:∀b a,H b=some (.tup a)->H' b=some (.tup a)):KT H' kvs xs:=Paired.mapP r fun _ _ z=>⟨z.1,c _ _ z.2.1,z.2.2⟩
section
theorem CF {u:HO}(ok:HOk P w H h)(e:Rd H a u):ObjOk P w H h a u:=e.ok ok
theorem mN {kvs:List (aj×V)}(ok:HOk P w H h)(e:Rd H a (.dK kvs)):kvs.length<=sizeLine/\(a==sysModules)=false/\∃b,KV kvs b/\h.DictOf (bg P w) a b:=show ObjOk P w H h a (.dK kvs) from CF ok e
theorem u3 {kvs:List (aj×V)}(ok:HOk P w H h)(e:H a=some (.dK kvs)):kvs.length<=sizeLine/\(a==sysModules)=false/\∃b,KV kvs b/\h.DictOf (bg P w) a b:=mN ok (.inl e)
theorem sJ {b:List aj}(ok:HOk P w H h)(e:H a=some (.tup (b.map kV))):(tupleKind (bg P w)).is h b a:=by obtain⟨_,B,r,o,h1,c,n,d,_⟩:=(show ObjOk P w H h a (.tup (b.map kV)) from ok a _ e);exact⟨o,B.toArray,n,h1,c,d,by simpa using Hd r⟩
theorem pW {kvs:List (List aj×V)}(ok:HOk P w H h)(e:Rd H a (.dT kvs)):kvs.length<=sizeLine/\(a==sysModules)=false ∧∃xs,KT H kvs xs/\h.DictOfH (tupleKind (bg P w)) a xs:=by
 obtain⟨z,y,xs,r,o,es,ep,h1,d,f,g,i⟩:=(show ObjOk P w H h a (.dT kvs) from CF ok e);refine⟨z,y,xs,r,o,es,ep,h1,d,f,g,fun x b=>?_,i⟩;have all:∀{l:List (List aj×V)}{m:List (List aj×Addr×Value)},KT H l m->∀x∈m,(tupleKind (bg P w)).is h x.1 x.2.1:=by intro l m q;induction q with|nil=>(intro x b;exact nomatch b)| @cons p q ps k c t j=>intro x b;rcases Xj.mp b with e|b;subst e;exact sJ ok (by rw[<- c.1];exact c.2.1);exact j x b
 exact all r x b
theorem Ws {kvs:List (List aj×V)}(ok:HOk P w H h)(e:H a=some (.dT kvs)):kvs.length<=sizeLine/\(a==sysModules)=false ∧∃xs,KT H kvs xs/\h.DictOfH (tupleKind (bg P w)) a xs:=pW ok (.inl e)
end
def DGet (H:Hp)(a:Addr)(y:V)(r:Option V):Prop:=(∃kvs k,Rd H a (.dK kvs)/\y=kV k/\r=bw kvs k)∨∃kvs k b,Rd H a (.dT kvs)/\y=.ref b/\H b=some (.tup (k.map kV))/\r=bw kvs k
def DPut (H:Hp)(a:Addr)(y v:V)(H':Hp):Prop:=(∃kvs k,H a=some (.dK kvs)/\y=kV k/\kvs.length<sizeLine/\H'=ak H a (.dK (cf kvs k v))) ∨
 ∃kvs k b,H a=some (.dT kvs)/\y=.ref b/\H b=some (.tup (k.map kV))/\kvs.length<sizeLine/\H'=ak H a (.dT (cf kvs k v))
theorem DGet.k {kvs:List (aj×V)}{k:aj}(e:H a=some (.dK kvs)):DGet H a (kV k) (bw kvs k):=.inl ⟨kvs,k,.inl e,rfl,rfl⟩
theorem DPut.k {kvs:List (aj×V)}{k:aj}{v:V}(e:H a=some (.dK kvs))(b:kvs.length<sizeLine):DPut H a (kV k) v (ak H a (.dK (cf kvs k v))):=.inl ⟨kvs,k,e,rfl,b,rfl⟩
section
variable {s:Shared}{v:V}{r:Value}{o:Option V}{A:Around}{E:Value->Shared->Prop}
theorem Inv.big (I:Inv X G J H s):sysModules<s.heap.objs.size:=by have h:mainGlobals<s.heap.objs.size:=(I.mod.glob.keeps I.bk).lt;exact Nat.lt_trans (by decide) h
theorem Tu (t:A.units+1<cLine)(I:Inv X G J H s)(g:DGet H a y (some v))(q:RelV y u)(h:∀c r,Inv X G J H r->RelV v c->Q c r):wpAny (model X.prog X.w) A (getItem (.ref a) u) Q E s:=by rcases g with ⟨kvs,k,e,d,l⟩|⟨kvs,k,b,e,d,x,l⟩;subst d;obtain⟨z,hd,B,f,i⟩:=mN I.hok e;obtain⟨c,j,m⟩:=RelO.some_of (v:=v) (o:=valueAt B k) (by rw[l];exact f.val k);exact wpAny_getItem_of (ki q) i.mapOf j (h c _ (I.tok _) m);subst d;cases (show u=Value.ref b from q);obtain⟨z,hd,xs,f,i⟩:=pW I.hok e;obtain⟨c,j,m⟩:=RelO.some_of (v:=v) (o:=(atKey xs k).map (·.2)) (by rw[l];exact f.val k);obtain⟨p,C,n⟩:=Option.map_eq_some_iff.mp j;refine wpAny_getItem_heap (tupleKind_room_in1 t) (sJ I.hok x) i C ?_;rw[n];exact h c _ (I.tok _) m
theorem vQ {ob:HO}(I:Inv X G J H s)(c:tF (H a))(d:Heap.SameBut a s.heap h')(he:∃q,h'.get? a=some q)(new:ObjOk X.prog X.w (ak H a ob) h' a ob):Inv X G J (ak H a ob) { s with heap:=h',toks:=t' }:=I.write (x:=a) (e:=a) c (.inl rfl) (fun b q f z=>(d.2 b f).trans z) he new
theorem sI {kvs:List (aj×V)}{b:List (aj×Value)}(z:kvs.length<=sizeLine)(hd:(a==sysModules)=false)(c:KV kvs b)(d:h'.DictOf (bg P w) a b):ObjOk P w H' h' a (.dK kvs):=⟨z,hd,b,c,d⟩
theorem Tt {Q:Unit->Shared->Prop}(F:A.units+1<cLine)(I:Inv X G J H s)(g:DPut H a y v H')(t:RelV y u)(x:RelV v r)(h:∀B,Inv X G J H' B->Q () B):wpAny (model X.prog X.w) A (setItem (.ref a) u r) Q E s:=by
 rcases g with ⟨kvs,k,e,j,l,m⟩|⟨kvs,k,b,e,j,C,l,m⟩;subst j m;obtain⟨z,hd,K,d,n⟩:=u3 I.hok e;have hz:K.length<=sizeLine:=by rw[<- d.length];exact z
 have o:(cf kvs k v).length<=sizeLine:=by have:=qp kvs k v;lia
 refine wpAny_setItem_pairs (hsz:=hz) (ki t) n fun h' f p=>h _ ?_;have he:∃q,h'.get? a=some q:=let ⟨q,_,_,i,_⟩:=f;⟨q,i⟩
 exact vQ I (by rw[e];exact True.intro) p he (sI o hd (d.put k x) f);subst j m;cases (show u=Value.ref b from t);obtain⟨z,hd,xs,d,n⟩:=Ws I.hok e;have hz:xs.length<=sizeLine:=by rw[<- Paired.length d];exact z
 have o:(cf kvs k v).length<=sizeLine:=by have:=qp kvs k v;lia
 refine wpAny_setItem_heap (hsz:=hz) (tupleKind_room_in1 F) (sJ I.hok C) n fun h' f p=>h _ ?_;obtain⟨q,es,ep,i,L,M,N,_,O⟩:=f;refine vQ I (by rw[e];exact True.intro) p ⟨q,i⟩ ⟨o,hd,_,(d.put k C x).keeps fun c P D=>?_,q,es,ep,i,L,M,N,O⟩;rw[ay (so D e (fun z=>nomatch z))];exact D
end
section
variable {s:Shared}{kvs:List (aj×V)}{k:aj}{A:Around}{E:Value->Shared->Prop}
theorem Wq (I:Inv X G J H s)(e:Rd H a (.dK kvs))(h:∀t b,Inv X G J H b->Q (.int kvs.length t) b):wpAny (model X.prog X.w) A (call (.builtin "len") [.ref a]) Q E s:=by obtain⟨z,hd,f,c,d⟩:=mN I.hok e;refine call_len_dict hd d (by rw[<- c.length];rw[XD] at z;lia) ?_;rw[<- c.length];exact h _ _ (I.tok _)
end
def uM (i:Expr):Prop:=∀a b,subscripted i false a b=operate [a,b] (getItem a b)
theorem E6 {A:Around}{E:Value->Shared->Prop}{s:Shared}{b a:Expr}{pos:Pos}{id:String}
  (e:typeLookup (.type T) "__getitem__"=pure (some (.builtin id))) (f:uM a)
  (h:wpAny (model prog w) A (eval b env) (fun o s₁=>wpAny (model prog w) A (eval a env) (fun i s₂=>s₂.TypeIs o T/\wpAny (model prog w) A (getItem o i) Q E s₂) E s₁) E s):
  wpAny (model prog w) A (eval (.Subscript b a pos) env) Q E s:=by
 refine Subscript_ (XU h (fun o s₁ h₁=>XU h₁ (fun i s₂ h₂=>?_) fun _ _ x=>x) fun _ _ x=>x);obtain⟨d,h₂⟩:=h₂;unfold subscriptTail;refine W3 ?_;rw[getitemInPython_of_ne d.not_modules];refine W3 (Zd d e ?_);have c:wpAny (model prog w) A (subscripted a false o i) (fun r s₃=>wpAny (model prog w) A (letTemporaryGo b o r >>= fun _=>pure r) Q E s₃) E s₂:=by rw[f o i];exact wpAny_operating (XU h₂ (fun r s₃ h₃=>W3 (wpAny_letTemporaryGo (Xb h₃))) fun _ _ x=>x)
 first
  |exact Xb (W3 c)
  |exact W3 (Xb (W3 c))
  |exact W3 c
theorem UY {s:Shared}{o:Option V}(I:Inv X G J H s)(g:DGet H a y o):s.TypeIs (.ref a) "dict":=by rcases g with ⟨kvs,k,e,_,_⟩|⟨kvs,k,b,e,_,_,_⟩;obtain⟨_,_,d,_,c⟩:=mN I.hok e;exact c.typeIs;obtain⟨_,_,xs,_,c⟩:=pW I.hok e;exact c.typeIs
def Wn (M ty:TE):TE:=fun J H Q=>M J H fun x c=>ty J c fun y b=>∃a v,x=.ref a/\DGet b a y (some v)/\Q v b
def CD (M ty tv:TE):TS:=fun D J H=>tv J H fun v c=>M J c fun x d=>ty J d fun y e=>∃a b,x=.ref a/\DPut e a y v b/\D.nx J b
section
variable {o i Z:Expr}{pos x:Pos}{tv:TE}
theorem zE (c:X.A.units+1<cLine)(d:PE X o M)(e:PE X i ty)(f:uM i):PE X (.Subscript o i pos) (Wn M ty):=by intro G s J H Q I h;refine E6 PySem.F.slot_dict_getitem.lookup f (aw (d G s J H _ I h) fun u j ⟨x,k,l,m,n⟩=>aw (e G j J k _ l n) fun z B Z=>?_);obtain⟨y,p,b,q,a,v,ex,g,r⟩:=Z;subst ex;obtain rfl:u=Value.ref a:=m;exact⟨UY b g,Tu c b g q fun C s3 t w=>⟨v,p,t,w,r⟩⟩
theorem Qp (b:X.A.units+1<cLine)(c:PE X o M)(d:PE X i ty)(e:PE X Z tv)(f:swapsWith Z (some (.Subscript o i O)) pos.line X.env=pure false):PS X (.Assign [.Subscript o i O] Z pos) (CD M ty tv):=by intro G s J H D I h;refine wpAny_Assign_Subscript (aw (e G s J H _ I h) fun r j ⟨v,k,l,m,n⟩=>aw (c G j J k _ l n) fun u p ⟨x,q,t,w,z⟩=>aw (d G p J q _ t z) fun L s3 Y=>?_) f;obtain⟨y,N,B,C,a,E,ex,g,F⟩:=Y;subst ex;obtain rfl:u=Value.ref a:=w;exact Tt b B g C m fun P K=>⟨J,E,K,F⟩
end
theorem Gu (h:Heap)(a:sysModules<h.objs.size):ObjOk P w H (h.push { cls:=.type "dict",data:=.dict #[] }) h.objs.size (.dK []):=⟨Xw _,XX.mpr (Ne.symm (Xu a)),[],.nil,Heap.DictOf.new h⟩
def nj:TE:=fun _ H Q=>∀p,H p=none->Q (.ref p) (ak H p (.dK []))
section
variable {pos:Pos}
theorem pe_dnewK:PE X (.Dict [] [] pos) nj:=fun G s J H Q I h=>
 wpAny_Dict_empty ⟨.ref s.heap.objs.size,_,I.laid (a:=s.heap.objs.size) (o:=.dK []) (t':=s.toks) (fun _ _ q=>W5 _ q) (W9 _) (Gu s.heap I.big),rfl,h _ (I.hok.fresh (W9 _))⟩
end
def mX:List (TE×TE)->St->Hp->(List (V×V)->Hp->Prop)->Prop
 |[],_,H,Q=>Q [] H
 | (tk,tv)::r,J,H,Q=>tk J H fun x a=>tv J a fun y b=>mX r J b fun ps c=>Q ((x,y)::ps) c
abbrev VV:List (V×V)->List (Value×Value)->Prop:=Paired fun p q=>RelV p.1 q.1/\RelV p.2 q.2
def tE (X:Cx)(pos:Pos)(keys:List (Option Expr))(a:List Expr)(b:List (TE×TE)):Prop:=∀(G:List (Addr×Obj))(s:Shared)(J:St)(H:Hp)(Q:List (V×V)->Hp->Prop),Inv X G J H s->mX b J H Q →wpAny (model X.prog X.w) X.A (evalPairs (pairTrees keys a X.env pos)) (fun c d=>∃ps H',Inv X G J H' d/\VV ps c/\Q ps H') X.xe s
theorem Qo {pos:Pos}:tE X pos [] [] []:=fun G s J H Q I h=>pairTrees_nil_walk ⟨[],H,I,.nil,h⟩
theorem RW {pos:Pos}{k v:Expr}{a:List (Option Expr)}{b:List Expr}{tk tv:TE}{c:List (TE×TE)}(d:PE X k tk)(e:PE X v tv)(f:tE X pos a b c):tE X pos (some k::a) (v::b) ((tk,tv)::c):=fun G s J H Q I h=>
 pairTrees_cons_walk (aw (d G s J H _ I h) fun u g ⟨x,i,j,l,m⟩=>aw (e G g J i _ j m) fun B n ⟨y,o,p,q,r⟩=>
  aw (f G n J o _ p r) fun ws s3 Z=>by obtain⟨ps,t,w,z,A⟩:=Z;exact ⟨(x,y)::ps,t,w,.cons ⟨l,q⟩ z,A⟩)
def mW (kvs more:List (aj×V)):List (aj×V):=more.foldl (fun b a=>cf b a.1 a.2) kvs
theorem KV.merge:∀{more:List (aj×V)}{b:List (aj×Value)}{kvs:List (aj×V)}{a:List (aj×Value)},KV more b->KV kvs a->KV (mW kvs more) (merged a b):=by
 intro more b kvs a r;unfold KV at r;induction r generalizing kvs a with
 |nil=>(intro q;exact q)
 | @cons p q ps f h t c=>
  intro d;have e:KV (cf kvs p.1 p.2) (stored a q.1 q.2):=by have:=d.put p.1 h.2;rw[<- h.1];exact this
  exact c e
theorem Jp:∀(more kvs:List (aj×V)),(mW kvs more).length<=kvs.length+more.length
 |[],kvs=>by show kvs.length<=kvs.length+0;lia
 |p::r,kvs=>by have h1:=Jp r (cf kvs p.1 p.2);have a:=qp kvs p.1 p.2;show(mW (cf kvs p.1 p.2) r).length<=_;rw[Xl];lia
theorem HX {P:Program}{w:World}:∀{kvs:List (aj×V)}{ws:List (Value×Value)},VV (kvs.map fun e=>(kV e.1,e.2)) ws->∃d,Carries (bg P w) ws d/\KV kvs d
 |[],_,r=>by rw[Y3] at r;cases r;exact⟨[],True.intro,.nil⟩
 |p::kvs,_,r=>by rw[Xp] at r;cases r with| @cons a b g bs h t=>obtain⟨d,c,q⟩:=HX (P:=P) (w:=w) t;obtain⟨b1,f⟩:=b;exact⟨(p.1,f)::d,⟨ki h.1,rfl,c⟩,.cons ⟨rfl,h.2⟩ q⟩
def CC (c:List (TE×TE)):TE:=fun J H Q=>∀p,H p=none->mX c J (ak H p (.dK [])) fun ps a=>a p=some (.dK [])/\∃kvs:List (aj×V),ps=kvs.map (fun b=>(kV b.1,b.2))/\kvs.length<=15/\Q (.ref p) (ak a p (.dK (mW [] kvs)))
theorem Qn {pos:Pos}{keys:List (Option Expr)}{d:List Expr}{f:List (TE×TE)}(h:tE X pos keys d f)(b:keys.all (·.isSome)=true)(j:keys.length=d.length)(k:keys ≠ [])
  (l:keys.length<=15):PE X (.Dict keys d pos) (CC f):=by
 intro G s J H Q I q;have m:=I.hok.fresh (W9 s.heap.objs.size);have n:=I.laid (a:=s.heap.objs.size) (o:=.dK []) (h':=s.heap.push { cls:=.type "dict",data:=.dict #[] }) (t':=s.toks) (fun _ _ q=>W5 _ q) (W9 _) (Gu s.heap I.big);refine wpAny_Dict_walk (knd:=bg X.prog X.w) b j k l (aw (h G _ J _ _ n (q _ m)) fun ws B Z=>?_);obtain⟨ps,C,g,p,e,kvs,ep,D,r⟩:=Z;subst ep;obtain⟨t,c,u⟩:=HX (P:=X.prog) (w:=X.w) p;obtain⟨z,hd,E,v,x⟩:=u3 g.hok e;cases v;refine⟨t,c,x,fun h' i y=>⟨.ref s.heap.objs.size,_,?_,rfl,r⟩⟩;have hz:(mW [] kvs).length<=sizeLine:=by have h1:=Jp kvs [];rw[length_nil] at h1;rw[XD];lia
 have he:∃q,h'.get? s.heap.objs.size=some q:=let ⟨q,_,_,A,_⟩:=i;⟨q,A⟩
 exact vQ g (by rw[e];exact True.intro) y he (sI hz hd (u.merge .nil) i)
structure M1 (X:Cx)(o:Expr)(m:Str)(R:Pos)(e:Expr)(U:Pos):Prop where
 base:attributeBase o m X.env (eval o X.env)=eval o X.env
 few:((backTo U (starEach [e] X.env)).all (fun x => !x.1)&&(backToKw U (keywordEach [] X.env)).all (fun x=>x.1.isSome)
  && decide (([e]:List Expr).length+([]:List Keyword).length+(if ([]:List Keyword).isEmpty then 0 else 1)<30))=true
 line:(R.endLine==U.line)=true
 trees:backTo U (starEach [e] X.env)=[(false,eval e X.env)]
structure M2 (X:Cx)(o:Expr)(m:Str)(R:Pos)(e f:Expr)(U:Pos):Prop where
 base:attributeBase o m X.env (eval o X.env)=eval o X.env
 few:((backTo U (starEach [e,f] X.env)).all (fun x => !x.1)&&(backToKw U (keywordEach [] X.env)).all (fun x=>x.1.isSome)
  && decide (([e,f]:List Expr).length+([]:List Keyword).length+(if ([]:List Keyword).isEmpty then 0 else 1)<30))=true
 line:(R.endLine==U.line)=true
 trees:backTo U (starEach [e,f] X.env)=[(false,eval e X.env),(false,eval f X.env)]
def wR (H:Hp)(a:Addr):Prop:=(∃kvs,Rd H a (.dK kvs))∨∃kvs,Rd H a (.dT kvs)
theorem zb {s:Shared}(I:Inv X G J H s)(d:wR H a):s.TypeIs (.ref a) "dict"/\(∀b,Value.ref a=.ref b->∃ob,s.heap.get? b=some ob/\ob.dict=none)/\(a==sysModules)=false:=by rcases d with ⟨kvs,e⟩|⟨kvs,e⟩;obtain⟨_,hd,g,_,c⟩:=mN I.hok e;refine⟨c.typeIs,fun b q=>?_,hd⟩;cases q;obtain⟨ob,_,_,h1,f,_⟩:=c;exact⟨ob,h1,f.2.1⟩;obtain⟨_,hd,xs,_,c⟩:=pW I.hok e;refine⟨c.typeIs,fun b q=>?_,hd⟩;cases q;obtain⟨ob,_,_,h1,f,_⟩:=c;exact⟨ob,h1,f.2.1⟩
section
variable {s:Shared}{d:V}{r:Value}{o:Option V}{A:Around}{E:Value->Shared->Prop}
theorem Oe (n:A.units+1<cLine)(I:Inv X G J H s)(g:DGet H a y o)(i:RelV y u)(h:∀j m,Inv X G J H m->RelV (o.getD .non) j->Q j m):wpAny (model X.prog X.w) A (call (.builtin "dict.get") [.ref a,u]) Q E s:=by rcases g with ⟨kvs,k,e,d,l⟩|⟨kvs,k,b,e,d,p,l⟩;subst d;obtain⟨z,hd,q,f,c⟩:=mN I.hok e;refine call_meetsIn Yc c.typeIs YR (PySem.F.args_dict_get_2 _ _) (meets_dict_get (bg X.prog X.w) a (ki i) hd) ⟨_,c.mapOf,h _ _ (I.tok _) ?_⟩;rw[l];exact(f.val k).getD rfl;subst d;cases (show u=Value.ref b from i);obtain⟨z,hd,xs,f,c⟩:=pW I.hok e;refine call_meetsIn Yc c.typeIs YR (PySem.F.args_dict_get_2 _ _) (meetsH_dict_get (tupleKind (bg X.prog X.w)) a b hd) ⟨tupleKind_room_in1 n,k,xs,sJ I.hok p,c,h _ _ (I.tok _) ?_⟩;rw[l];exact(f.val k).getD rfl
theorem Od (p:A.units+1<cLine)(I:Inv X G J H s)(g:DGet H a y o)(j:RelV y u)(rd:RelV d r)(h:∀m n,Inv X G J H n->RelV (o.getD d) m->Q m n):wpAny (model X.prog X.w) A (call (.builtin "dict.get") [.ref a,u,r]) Q E s:=by rcases g with ⟨kvs,k,e,f,l⟩|⟨kvs,k,b,e,f,q,l⟩;subst f;obtain⟨z,hd,t,i,c⟩:=mN I.hok e;refine call_meetsIn Yc c.typeIs YR (PySem.F.args_dict_get_3 _ _ _) (meets_dict_get_default (bg X.prog X.w) a (ki j) hd r) ⟨_,c.mapOf,h _ _ (I.tok _) ?_⟩;rw[l];exact(i.val k).getD rd;subst f;cases (show u=Value.ref b from j);obtain⟨z,hd,xs,i,c⟩:=pW I.hok e;refine call_meetsIn Yc c.typeIs YR (PySem.F.args_dict_get_3 _ _ _) (meetsH_dict_get_default (tupleKind (bg X.prog X.w)) a b hd r) ⟨tupleKind_room_in1 p,k,xs,sJ I.hok q,c,h _ _ (I.tok _) ?_⟩;rw[l];exact(i.val k).getD rd
end
def Oc (M ty:TE):TE:=fun J H Q=>M J H fun x b=>∃a,x=.ref a/\wR b a/\ty J b fun y c=>∃o,DGet c a y o/\Q (o.getD .non) c
def DG (M ty d:TE):TE:=fun J H Q=>M J H fun x b=>∃a,x=.ref a/\wR b a/\ty J b fun y e=>d J e fun z c=>∃o,DGet c a y o/\Q (o.getD z) c
section
variable {o f:Expr}{Z:TE}
theorem RV (c:X.A.units+1<cLine)(f:PE X o M)(he:PE X e ty)(m:M1 X o "get" R e U):PE X (.Call (.Attribute o "get" R) [e] [] U) (Oc M ty):=by intro G s J H Q I h;refine wpAny_Call_method m.base m.few m.line YM Yc PySem.F.type_dict_get (aw (f G s J H _ I h) fun u i Z=>?_);obtain⟨x,j,b,k,a,ex,d,l⟩:=Z;subst ex;obtain rfl:u=Value.ref a:=k;obtain⟨n,p,_⟩:=zb b d;refine⟨n,p,?_⟩;rw[m.trees];refine Yk rfl (YF (X5 (aw (he G i J j _ b l) fun B C Y=>YY ?_)));obtain⟨y,q,r,t,D,g,v⟩:=Y;exact Oe c r g t fun E s3 w z=>⟨_,q,w,z,v⟩
theorem RU (c:X.A.units+1<cLine)(i:PE X o M)(he:PE X e ty)(j:PE X f Z)(m:M2 X o "get" R e f U):PE X (.Call (.Attribute o "get" R) [e,f] [] U) (DG M ty Z):=by
 intro G s J H Q I h;refine wpAny_Call_method m.base m.few m.line YM Yc PySem.F.type_dict_get (aw (i G s J H _ I h) fun u k Y=>?_);obtain⟨x,l,b,n,a,ex,d,p⟩:=Y;subst ex;obtain rfl:u=Value.ref a:=n;obtain⟨q,r,_⟩:=zb b d;refine⟨q,r,?_⟩;rw[m.trees];refine Yk rfl (YF (X5 (aw (he G k J l _ b p) fun P t ⟨y,v,w,B,C⟩=>
  X5 (aw (j G t J v _ w C) fun fv s3 ⟨z,D,E,K,S,g,L⟩=>YY ?_))))
 exact Od c E g B K fun T V N O=>⟨_,D,N,O,L⟩
end
section
variable {s:Shared}{kvs:List (aj×V)}{A:Around}{E:Value->Shared->Prop}
theorem RT (I:Inv X G J H s)(e:Rd H a (.dK kvs))(h:∀p c,H p=none->Inv X G J (ak H p (.dK kvs)) c->Q (.ref p) c):wpAny (model X.prog X.w) A (call (.type "dict") [.ref a]) Q E s:=by obtain⟨z,hd,k,d,g⟩:=mN I.hok e;refine kt_call_dict hd g (by rw[<- d.length];exact z) fun h' i j=>?_;refine h _ _ (I.hok.fresh (W9 _)) (I.laid (a:=s.heap.objs.size) (o:=.dK kvs) (t':=s.toks) (fun b q f=>?_) (W9 _) (sI z (XX.mpr (Ne.symm (Xu I.big))) d i));exact(j.2 b (Xu (Xi f))).trans (W5 _ f)
end
end
namespace Att
open PySem.W PySem.Calls
variable {h:Heap}
theorem VL {P:Params}:∀(ns:List Int)(c:List Value),WellAll P h c (ns.map WData.int)->IntsAre c ns:=by intro ns;induction ns with|nil=>(intro c w;rw[Y3] at w;cases w;exact .nil)|cons n ns d=>intro c w;rw[Xp] at w;cases w with|cons a b=>cases a;exact .cons _ _ (d _ b)
theorem Ts {l:OpenLaw}{n:Nat}(m:l.most=some n){P:Params}{h:Heap}{args:List WData}{vals:List Value}
  (i:l.row.toRowW.claim.pre args=true) (g:WellAll P h vals args):
  ∃a j ns,vals=[Value.ref a]/\args=[WData.list (ns.map WData.int)]/\h.get? a=some { cls:=.type "list",data:=.seq j.toArray }/\IntsAre j ns/\ns.length<=n:=by
 have o:WShape.hasAll [] args [.list .int]=true:=(pre_splitW i).1;have k:l.pre.holds [] { args:=args }=true:=(pre_splitW i).2;obtain⟨d,r,rfl,h1,p⟩:=hasAllW_cons o;obtain rfl:=hasAllW_nil p;obtain⟨xs,rfl,s⟩:=hasW_list h1;obtain⟨ns,rfl⟩:=items_int s
 have b:ns.length<=n:=by
  unfold OpenLaw.pre at k;have e:(WTm.not (.lt (.lit (.int (n:Int))) (.len (.arg 0)))).holds [] { args:=[.list (ns.map .int)] }=true:=by have e:=(holds_andW k).1;rw[m] at e;exact e
  have f:=condW_of e (w_not (w_lt w_lit (w_len_list (w_arg rfl))));rw[Xa] at f;refine Nat.le_of_not_lt fun q=>?_;have t:(n:Int)<((ns.length:Nat):Int):=by lia
  first| (rw[Xs t] at f;exact absurd f (by decide))| (simp at f;lia)
 cases g with
 |cons u v=>
  cases v
  cases u with
  |list w c=>exact⟨_,_,ns,rfl,rfl,w,VL ns _ c,b⟩
theorem Tr (l:OpenLaw)(args:List WData):l.row.toRowW.claim.post args (.bool true) args=true:=postW_of (r:=l.row.toRowW) (X:=(true==true))
  (show WShape.has [] (.bool true) .bool=true by first|rfl|decide|simp [WShape.has,WShape.arms,WShape.armsAll])
  (show(WTm.eq .res (.lit (.bool true))).value [] { args:=args,res:=some (.bool true),after:=args }=some (.bool (true==true)) from w_eq_bool (w_res rfl) w_lit) rfl
theorem attach_call {l:OpenLaw}{n:Nat}{q:Program}{loose:List Str}{XP:(Str->Option Value)->Heap->Prop}{YP:World->Heap->Prop}{d:DefRec}
  (x:l.most=some n) (y:d.params.defaults=[])
  (call:∀(w:World)(s₀ s₁:Shared)(mg j:Str->Option Value)(e:Addr)(o:Obj)(k cd m:Value)(a:Addr)(c:List Value)(ns:List Int),Ground q loose [] XP w s₀ mg j s₁.heap->YP w s₁.heap →s₁.heap.get? e=some o->o.data=.func (docDef d.name d.params d.body d.scope k cd m)->s₁.heap.CodeRec cd d.name->mg d.name=some (.ref e) →s₁.heap.get? a=some { cls:=.type "list",data:=.seq c.toArray }->IntsAre c ns->ns.length<=n->s₁.gens = #[] →codeAny (model l.prog w) callerA (.call (.ref e) ⟨[.ref a],[]⟩) (fun r i=>r=.ok (.ret (.bool true))/\OldK s₁.heap i.heap/\i.os=s₁.os/\AllBare i.gens) s₁):
  WalkO q loose XP YP l.row.toRowW d [] (fun f c=>PySem.call f c):=by
 intro w s₀ s₁ mg j G Y e o k cd m z kV A hd B u p C args vals M D v E t F;obtain rfl:z=.none:=Dflts.none u y;obtain rfl:kV=.none:=Dflts.noKw u;obtain⟨a,c,ns,rfl,rfl,g,b,h⟩:=Ts x D t;refine enter_call (codeAny_mono (call w s₀ s₁ mg j e o k cd m a c ns G Y A (fd_plain hd) B p g b h C) fun r i H=>?_);obtain⟨rfl,I,J,K⟩:=H;exact⟨.inl ⟨.bool true,.bool true,[],rfl,fun _=>rfl,.bool true,Tr l _,fun _=>⟨List.Pairwise.nil,fun _ L=>(nomatch L)⟩⟩,I,J,K⟩
end Att
section
variable {xs:List V}{B:List Value}{x r:Str}{H H':Hp}{a it C:Addr}{P prog:Program}{w:World}{h' base:Heap}{e G iter elt:Expr}{X:Cx}{L:List (Addr×Obj)}{M:St}{N i j:Nat}{K:W.Frag}{st:Stmt}{O:TE}{es ifs:List Expr}{c p u:Pos}{fp:List Addr}{U:TI}{y:Type}{mg:Str->Option Value}{CX:lL}{I:FuncData}{ps N':List Str}{scope:Scope}{ns:List Int}{env:Env}{src:List (Option Nat)}{cl:List (Str×Addr)}{S:Shared}
theorem Hc:∀{a:List Value}{ns:List Int},IntsAre a ns->Vals (ns.map V.int) a
 |_,_,.nil=>.nil
 |_,_,.cons n t h=>.cons ⟨t,rfl⟩ (Hc h)
def AX (H:Hp):Prop:=∀b,H b=none∨∃o xs,H b=some (.frz o (.lst xs))
theorem RS {y:Str->Option Value}{k:Nat}{A:Addr}{sp:Sp}{s₁:Shared}{g:List Value}
  (E:K.In s₁.heap) (G:s₁.heap.Ns mainGlobals mg) (c:s₁.heap.Ns builtinsNs y) (U:∀x:Str,x≠"__name__"->y x=bootBuiltins x) (W:s₁.heap.NoLimit) (X:s₁.gens = #[])
  (p:s₁.heap.get? a=some { cls:=.type "list",data:=.seq g.toArray }) (J:IntsAre g ns) (L:ns.length<=sizeLine) (Y:Room k callerA)
  (F:∀base:Heap,K.In base->base.Ns mainGlobals mg->FnOk P w K mg base CX k A I [x] sp) (Z:∀(s:Shared)(u:Value),BindsTo s I ⟨[u],[]⟩ [(x,u)])
  (B:∀H:Hp,AX H->SqL K H a (ns.map V.int)->sp [.ref a] H (fun v _=>v=.bl true) fun _ _ _=>False)
  (yb:∀H e f,CX [] H s₁ (fun _ _ _=>False) e f->False):
  codeAny (model P w) callerA (.call (.ref A) ⟨[.ref a],[]⟩) (fun r f=>r=.ok (.ret (.bool true))/\OldK s₁.heap f.heap/\f.os=s₁.os/\AllBare f.gens) s₁:=by
 have M:=Hc J;have i:=J.length
 have N:∀H:Hp,AX H->SqL K H a (ns.map V.int)->HOk P w H s₁.heap->(∀b,H b≠none->b=a)->(H a≠none->K.lookup a=none) →codeAny (model P w) callerA (.call (.ref A) ⟨[.ref a],[]⟩) (fun r f=>r=.ok (.ret (.bool true))/\OldK s₁.heap f.heap/\f.os=s₁.os/\AllBare f.gens) s₁:=by
  intro H O hS hok Q hK;have R:∀{b:Addr}{o:Obj},s₁.heap.get? b=some o->H b=none->(lx s₁.heap H).get? b=some o:=fun e n=>Sf e n;have fg:∀{b:Addr}{o:Obj}{es:Array DictEntry}{ep:Nat},s₁.heap.get? b=some o->o.data=.dict es ep->H b=none:=fun {b o es ep} e d=>by cases q:H b with|none=>rfl|some u=>have C:b=a:=Q b (by rw[q];simp);subst C;rw[p] at e;cases e;have d':Data.seq g.toArray _=Data.dict es ep:=d;cases d'
  have t:∀{b:Addr}{m:Str->Option Value},s₁.heap.Ns b m->(lx s₁.heap H).Ns b m:=fun {b m} z0=>(by obtain⟨o,es,ep,e,d,r⟩:=z0;exact ⟨o,es,ep,R e (fg e d),d,r⟩);have S:K.In (lx s₁.heap H):=fun b o e=>R (E b o e) (by
   cases q:H b with
   |none=>rfl
   |some u=>
    have C:b=a:=Q b (by rw[q];simp);subst C
    rw[hK (by rw[q];simp)] at e;cases e)
  have hM:Mod K mg (lx s₁.heap H):=⟨S,t G,⟨y,t c,U⟩,let ⟨mc,h1,h2⟩:=W;⟨mc,t h1,h2⟩⟩;have e0:lK P w K mg (lx s₁.heap H) callerA [] s₁ H:=⟨rfl,hM,fun b o e=>Qy e,Nat.le_of_eq (TL _ _),trivial,fun b c=>absurd (show b∈([]:List Addr) from c) (by simp),hok,.of_eq X⟩;refine codeAny_mono ((F _ S (t G)).run callerA [] s₁ H ⟨[.ref a],[]⟩ [.ref a] [.ref a] _ _ Y e0 (Z s₁ (.ref a)) (.cons rfl .nil) (B H O hS)) fun r f h=>?_;cases r with|error e=>exact(yb H e f h).elim|ok fl=>cases fl with|next=>exact False.elim h|brk=>exact False.elim h|cont=>exact False.elim h|ret u=>obtain⟨v,H',os,bare,un,j,r',q⟩:=h;have q':v=.bl true:=q;subst q';obtain rfl:u=Value.bool true:=r';refine⟨rfl,OldK.of_keep fun b o e=>?_,os,bare⟩;cases q:H b with|none=>exact un.keep b o e q (by intro z;exact absurd (show b∈([]:List Addr) from z) (by simp)) (by simp)|some u=>rcases O b with z|⟨ob,xs,z⟩;rw[q] at z;cases z;have z2:=un.frzs b ob _ z;obtain⟨T,_⟩:=hok b _ z;obtain⟨e2,_⟩:=j b _ z2;rw[e] at T;cases T;exact e2
 cases D:K.lookup a with
 |some o=>have e:=E a o D;rw[p] at e;cases e;refine N (fun _=>none) (fun _=>.inl rfl) (.inr ⟨_,g.toArray,_,D,rfl,rfl,rfl,by rw[Xf,i];exact L,by simpa using M⟩) (fun b u z=>by have l:(none:Option HO)=some u:=z;cases l) (fun b z=>absurd rfl z) fun z=>absurd rfl z
 |none=>
  refine N (fun b=>if b=a then some (.frz { cls:=.type "list",data:=.seq g.toArray } (.lst (ns.map V.int))) else none) (fun b=>?_) (.inl (.inr ⟨{ cls:=.type "list",data:=.seq g.toArray },Xk rfl⟩)) (fun b u z=>?_) (fun b z=>?_) fun _=>D
  .by_cases c:b=a
   .exact .inr ⟨_,_,Xk c⟩
   .exact .inl (Xh c)
  .by_cases c:b=a
   .have l:=(Xk c).symm.trans z;cases l;subst c;exact⟨p,by rw[Xa];exact L,g,_,M,p⟩
   .have l:=(Xh c).symm.trans z;cases l
  .by_cases c:b=a
   .exact c
   .exact absurd (Xh c) z
theorem walk_of {l:PySem.W.OpenLaw}{n k:Nat}{q:Program}{loose:List Str}{XP:(Str->Option Value)->Heap->Prop}{YP:World->Heap->Prop}{d:DefRec}{K:Params->W.Frag}{CX:World->lL}{sp:World->Sp}
  (A:l.most=some n) (B:n<=sizeLine) (C:d.params.defaults=[]) (D:Room k callerA)
  (E:∀(w:World)(h:Heap),YP w h->(K w.params).In h)
  (F:∀(w:World)(mg:Str->Option Value)(m:Addr)(h:Heap),(K w.params).In h->h.Ns mainGlobals mg->mg d.name=some (.ref m) →∃I:FuncData,(∀(s:Shared)(u:Value),BindsTo s I ⟨[u],[]⟩ [(x,u)]) ∧∀base:Heap,(K w.params).In base->base.Ns mainGlobals mg->FnOk l.prog w (K w.params) mg base (CX w) k m I [x] (sp w))
  (p:∀(w:World)(H:Hp)(a:Addr)(ns:List Int),ns.length<=n->AX H->SqL (K w.params) H a (ns.map V.int)->sp w [.ref a] H (fun v _=>v=.bl true) fun _ _ _=>False)
  (J:∀(w:World)(H:Hp)(s:Shared)(e:Value)(r:Shared),CX w [] H s (fun _ _ _=>False) e r->False):
  PySem.W.WalkO q loose XP YP l.row.toRowW d [] (fun f y=>PySem.call f y):=by
 refine Att.attach_call A C fun w s₀ s₁ mg Q m o R cd S a y ns G Y U hd X t j i c L=>?_;have z:=E w _ Y;obtain⟨I,M,N⟩:=F w mg m _ z G.T.g t;exact RS z G.T.g G.T.b G.T.builtins G.T.nolimit L j i (XZ c B) D N M (fun H O P=>p w H a ns c O P) fun H e r=>J w H s₁ e r
abbrev dr:lL:=fun _ _ _ _ _ _=>False
abbrev E0:XK:=fun _ _ _=>False
theorem jT:vq dr X E0:=fun _ _ _ _ _ _ _ h=>h.elim
structure Fun (K:W.Frag)(x r:Str)(st:Stmt)(f:Addr)(I:FuncData):Prop where
 ex:∃(oc:Value)(od:Option Addr)(kV fm pm:Value)(an:Option Addr)(bZ ct:Value)(mh:Array (Option Value)),I=PySem.W.fnOf x r (ku st) (iT st) (cO st) .none kV fm pm an bZ ct/\K.lookup f=some ⟨oc,od,.func I,mh⟩/\PySem.W.codeIn K bZ r=true
 kp:PySem.W.keepIn K (.ref f)=true
section
theorem Fun.ok {f:Addr}{N:List Str}{k:Nat}{sp:Sp}(F:Fun K x r st f I)(S:aO N ps (cO st))(len:∀a H Q E,sp a H Q E->a.length=ps.length)
  (d:∀(b:Value)(A:Around)(outer:List Env)(s:Shared)(H:Hp)(a:List V)(Q:VK)(E:XK),Room k (A.deeper (envOfC r (cO st) s.heap.objs.size f b))->sp a H Q E →∃t,PSs (ox dr P w K mg base N r (cO st) f b A outer s H E).nox (iT st) t/\t { nx:=fun _ H'=>Q .non H',rt:=Q } (f9 N a) H):FnOk P w K mg base dr (k+1) f I ps sp:=by
 obtain⟨j,l,kV,m,n,o,b,ct,p,rfl,e,g⟩:=F.ex;refine MQ e g S len fun A outer s H a Q E i c=>?_;obtain⟨t,h,q⟩:=d b A outer s H a Q E i c;exact⟨t,h.nox,q⟩
theorem Fun.binds {f:Addr}(F:Fun K x r st f I)
  (h:∀(kV a b:Value)(c:Option Addr)(d ct:Value)(B:List Value),B.length=ps.length->bindArgs (PySem.W.fnOf x r (ku st) (iT st) (cO st) .none kV a b c d ct) ⟨B,[]⟩=pure (ps.zip B)):Binds K I ps []:=by
 obtain⟨e,g,kV,a,b,c,d,ct,i,rfl,j,k⟩:=F.ex;exact .all (h kV a b c d ct)
theorem Oa {f:Addr}{g:Value}{h b:Option Addr}{i:Array (Option Value)}{kV d e a ct:Value}(l:K.lookup f=some ⟨g,h,.func (PySem.W.fnOf x r (ku st) (iT st) (cO st) .none kV d e b a ct),i⟩)
  (c:PySem.W.codeIn K a r=true) (k:PySem.W.keepIn K (.ref f)=true):Fun K x r st f (PySem.W.fnOf x r (ku st) (iT st) (cO st) .none kV d e b a ct):=⟨⟨g,h,kV,d,e,b,a,ct,i,rfl,l,c⟩,k⟩
end
section
theorem pv (i:Nat){x:Str}{pos:Pos}(a:X.N[i]?=some x:=by rfl)(b:tq X.env.scope x:=by first|exact Or.inl rfl|exact Or.inr (Or.inl rfl)|exact Or.inr (Or.inr rfl))(hd:(x==("__debug__":Str))=false:=by decide)
  (c:(x==("__classdict__":Str))=false:=by decide):PE X (.Name x pos) (se i):=DW a b hd c
end
theorem V0 {A B:Prop}(h:B):if false=true then A else B:=by rw[Xh W6];exact h
theorem AW {A B:Prop}(h:A):if true=true then A else B:=by rw[Xk rfl];exact h
theorem aF {c A B:Prop}[Decidable c](h1:c->A)(a:¬c->B):if c then A else B:=by by_cases h:c;rw[Xk h];exact h1 h;rw[Xh h];exact a h
def Same (H H':Hp):Prop:=∀b o,H b=some o->H' b=some o
theorem Same.refl (H:Hp):Same H H:=fun _ _ h=>h
theorem Same.trans {d e:Hp}(a:Same H d)(b:Same d e):Same H e:=fun c o h=>b c o (a c o h)
theorem Same.free (e:Same H H'){l:Addr}(h:H' l=Option.none):H l=Option.none:=by cases q:H l with|none=>rfl|some o=>rw[e l o q] at h;cases h
theorem Same.seq (e:Same H H')(h:SqL K H a xs):SqL K H' a xs:=by rcases h with (h|⟨o,h⟩)|h;exact .inl (.inl (e _ _ h));exact .inl (.inr ⟨o,e _ _ h⟩);exact .inr h
section
theorem Tq:gy X (.builtin "len") (fun xs H Q=>∃a kvs,xs=[V.ref a]/\H a=some (.dK kvs)/\Q (.int kvs.length) H):=by intro L s M H xs B Q I r h;obtain⟨a,kvs,rfl,b,q⟩:=h;obtain⟨u,rfl,c⟩:=jf r;cases c;exact Wq I (.inl b) fun t e d=>⟨.int kvs.length,H,d,⟨t,rfl⟩,q⟩
end
section
variable {A:Around}{E:Value->Shared->Prop}{R:Result->Shared->Prop}{s:Shared}
theorem Vi {a:Expr}{pos:Pos}{it b:Value}(I:Nat->Shared->Prop)
  (f:∀n s,I n s->wpAny (model prog w) A (pyNext it) (fun r d=>match r with
   |none=>R (.ok .next) d
   |some v=>wpAny (model prog w) A (letOwnedTupleGo a it v) (fun _ e=>wpAny (model prog w) A (assign a env v) (fun _ g=>
     wpAny (model prog w) A (forIn ifs true fun c r=>if r=true then do let ok ← isTrue c env (eval c env);pure (ForInStep.yield ok) else pure (ForInStep.yield r)) (fun ok s3=>
      if ok=true then wpAny (model prog w) A (eval elt env) (fun x S=>
       wpAny (model prog w) A (call (.builtin "list.append") [b,x]) (fun _ i=>∃m,m<n/\I m i) (fun _ _=>False) S) (fun _ _=>False) s3
      else ∃m,m<n/\I m s3) (fun _ _=>False) g) (fun _ _=>False) e) (fun _ _=>False) d) (fun _ _=>False) s)
  (n:Nat) (h:I n s):
  codeAny (model prog w) A (.compLoop (.ListComp elt [⟨a,iter,ifs,0⟩] scope pos) 0 it b env) R s:=by
 refine codeAny_loop rfl I (fun n s j=>?_) n h;show wpAny _ A ((compTurn (.ListComp elt [⟨a,iter,ifs,0⟩] scope pos) 0 it b env).onRaise (fun x=>do noteFrame x env;theTreesLotGoes x)) _ _ s;refine wpAny_noted ?_;rw[compTurn_list];refine W3 (wpAny_standAt (W3 (XU (f n s j) (fun r s₁ h₁=>?_) fun _ _ h'=>h'.elim)))
 cases r with
 |none=>exact Xb h₁
 |some v=>
  refine W3 (XU h₁ (fun _ e k=>?_) fun _ _ h'=>h'.elim);refine W3 (XU k (fun _ s₂ h₂=>W3 (XU h₂ (fun ok s₃ h₃=>?_) fun _ _ h'=>h'.elim)) fun _ _ h'=>h'.elim)
  cases ok with
  |false=>exact Xb ⟨rfl,h₃⟩
  |true=>exact W3 (W3 (XU h₃ (fun x s₄ h₄=>W3 (XU h₄ (fun _ s₅ h₅=>Xb (Xb ⟨rfl,h₅⟩)) fun _ _ h'=>h'.elim)) fun _ _ h'=>h'.elim))
end
theorem Ao:∀(names:List (Str×NameKind))(a:List (Str×Addr)),(∀n,(n,NameKind.free)∈names->∃c,env.cells.lookup n=some c) →∃cl,(forIn names a fun(x:Str×NameKind) (r:List (Str×Addr))=>match x with
   | (name,kind)=>if (kind==NameKind.free)=true then do let c ← cellOf env name;pure (ForInStep.yield ((name,c)::r)) else pure (ForInStep.yield r):Sem (List (Str×Addr)))=pure cl ∧
   (∀p∈cl,p∈a∨env.cells.lookup p.1=some p.2)/\(∀p∈a,p∈cl)/\(∀n,(n,NameKind.free)∈names->∃c,(n,c)∈cl)
 |[],a,_=>⟨a,by simp,fun p b=>.inl b,fun p b=>b,fun n o=>by cases o⟩
 | (n,k)::r,a,h=>by by_cases f:(k==NameKind.free)=true;have i:k=NameKind.free:=eq_of_beq f;subst i;obtain⟨c,l⟩:=h n (W8);obtain⟨cl,e,h1,g,j⟩:=Ao r ((n,c)::a) fun m d=>h m (W7 _ d);refine⟨cl,?_,fun p b=>?_,fun p b=>g p (W7 _ b),fun m d=>?_⟩;rw[forIn_cons];simp only [f,Zf];unfold cellOf;rw[l];exact e;rcases h1 p b with q|q;rcases Xj.mp q with q|q;subst q;exact .inr l;exact .inl q;exact .inr q;rcases Xj.mp d with q|q;cases q;exact⟨c,g _ W8⟩;exact j m q;obtain⟨cl,e,h1,g,j⟩:=Ao r a fun m d=>h m (W7 _ d);refine⟨cl,?_,h1,g,fun m d=>?_⟩;rw[forIn_cons];simp only [f];exact e;rcases Xj.mp d with q|q;cases q;exact absurd rfl f;exact j m q
theorem HW [BEq y][LawfulBEq y]{b : Type}:∀{l:List (y × b)}{x : y}{c : b},l.lookup x=some c->(x,c)∈l
 |[],_,_,h=>by simp at h
 | (n,k)::r,x,c,h=>by cases a:x==n with|true=>(simp only [Yv,a] at h;cases h;have e:=eq_of_beq a;subst e;exact W8)|false=>simp only [Yv,a] at h;exact W7 _ (HW h)
theorem HV [BEq y][LawfulBEq y]{d : Type}:∀{l:List (y × d)}{x : y}{c : d},(x,c)∈l->∃a,l.lookup x=some a
 | (n,k)::r,x,c,h=>by cases b:x==n with|true=>exact⟨k,by simp only [Yv,b]⟩|false=>rcases Xj.mp h with q|q;cases q;simp at b;obtain⟨a,e⟩:=HV q;exact⟨a,by simp only [Yv,b];exact e⟩
theorem wH (h:∀n,(n,NameKind.free)∈scope.names->∃c,env.cells.lookup n=some c):∃cl,closureFor scope env=pure cl/\(∀x c,cl.lookup x=some c->env.cells.lookup x=some c)/\∀n,(n,NameKind.free)∈scope.names->∃c,cl.lookup n=some c:=by
 obtain⟨cl,e,h1,_,a⟩:=Ao scope.names [] h;refine⟨cl,?_,fun x c b=>?_,fun n d=>?_⟩;have f:closureFor scope env=((forIn scope.names ([]:List (Str×Addr)) fun(x:Str×NameKind) (r:List (Str×Addr))=>match x with| (name,kind)=>if (kind==NameKind.free)=true then do let c ← cellOf env name;pure (ForInStep.yield ((name,c)::r)) else pure (ForInStep.yield r):Sem (List (Str×Addr))) >>= fun r=>pure r):=rfl
 rw[f,e];rfl;rcases h1 _ (HW b) with q|q;cases q;exact q;obtain⟨c,g⟩:=a n d;exact HV g
noncomputable def bJ (X:Cx)(N':List Str)(scope:Scope)(cl:List (Str×Addr))(C:Addr)(ex:List Addr)(s0:Shared)(H0:Hp):Cx:={ X with N:=N',s₀:=s0,H₀:=H0,env:=compEnvC scope cl C X.env,outer:=X.stack,stack:=X.stack,ex:=ex,fn:=fun _=>false,pn:=[],xe:=fun _ _=>False }
section
variable {s:Shared}
theorem Inv.track {o:HO}(I:Inv X L M H s)(f:bW X L H a)(new:ObjOk X.prog X.w (ak H a o) s.heap a o):Inv X L M (ak H a o) s:=by
 obtain⟨k,f1,y,l,m,r⟩:=f;have ne:∀b u,H b=some u->b≠a:=fun b u e=>bL e k;refine⟨I.ok,I.os,I.bare,⟨I.base.keep,I.base.slot,fun b ob e n i=>?_,I.base.there,fun b xs e=>?_,fun b ob u e=>?_,fun b ps e=>?_⟩,I.loc,I.cell,?_,fun x c e=>?_,fun p j=>?_,fun b u e=>?_,I.len⟩;have g:b≠a:=by rintro rfl;rcases l with z|z;exact i z;exact absurd (Xx (Xi e) z) (X7 _)
 rw[ay g];exact I.base.free b ob e n i;have q:=I.base.tups b xs e;rw[ay (ne _ _ q)];exact q;have q:=I.base.frzs b ob u e;rw[ay (ne _ _ q)];exact q;obtain⟨more,q⟩:=I.base.tbls b ps e;exact⟨more,by rw[ay (ne _ _ q)];exact q⟩;rw[ay (Ne.symm f1)];exact I.free;rw[ay (m x c e)];exact I.freeC x c e;obtain⟨e,n,h,t,d⟩:=I.pin p j;exact⟨e,by rw[ay (r p j)];exact n,h,t,d⟩;by_cases g:b=a;subst g;rw[aJ] at e;cases e;exact new;rw[ay g] at e;exact(I.hok b u e).stay (fun c v _ q=>q) (fun c q=>by rw[ay (ne _ _ q)];exact q) fun c xs q=>by rw[ay (ne _ _ q)];exact q
end
def PTs (X:Cx)(ifs:List Expr)(t:TT):Prop:=∀(L:List (Addr×Obj))(s:Shared)(M:St)(H:Hp)(Q:Bool->Hp->Prop),Inv X L M H s->t M H Q →wpAny (model X.prog X.w) X.A (forIn ifs true fun c r=>if r=true then do let ok ← isTrue c X.env (eval c X.env);pure (ForInStep.yield ok) else pure (ForInStep.yield r)) (TP X L M Q) X.xe s
def kz:TT:=fun _ H Q=>Q true H
theorem zD:PTs X [] kz:=fun _ _ _ H _ I h=>wpAny_tests_nil ⟨H,I,h⟩
theorem zC {c:Expr}{t:TT}(h:PT X c t):PTs X [c] t:=fun L s M H Q I q=>wpAny_tests_one (h L s M H Q I q)
noncomputable def mV (src:List (Option Nat))(M:St):St:=src.map fun o=>match o with|some j=>(M[j]?).getD none|none=>none
def uZ (src:List (Option Nat))(U:TI)(g:TG)(tt:TT)(O:TE):TE:=fun M H Q=>U M H fun J h=>∃W:Nat->Nat->List V->St->Hp->Prop,(∃m,W 0 m [] (mV src M) h)/\∀i m c d H,W i m c d H →(J.stop i H/\∀l,H l=none->Q (.ref l) (ak H l (.lst c))) ∨
 (J.go i H/\c.length<sizeLine/\∀x H',J.yld i H x H'->g x d H' fun a j=>tt a j fun b f=>
  if b=true then O a f fun v k=>∃e,e<m/\W (i+1) e (c++[v]) a k else ∃e,e<m/\W (i+1) e c a f)
section
variable {pos:Pos}{g:TG}{tt:TT}
theorem Ax {env:Env}:∀{names:List (Str×NameKind)}{x:Str}{k:NameKind},(names.map fun(n,k)=>if (k==NameKind.free&&env.scope.kind == .function&&env.kindOf n==some .cell) then (n,NameKind.cell) else (n,k)).lookup x=some k →(k=.cell∨k=.free)->(∀y∈names,y.2 ≠ .cell)->(x,NameKind.free)∈names
 |[],_,_,h,_,_=>by simp at h
 | (n,a)::r,x,k,h,c,d=>by
  have j:=@Ax env r x k;have h':List.lookup x ((if (a==NameKind.free&&env.scope.kind == .function&&env.kindOf n==some .cell)=true then (n,NameKind.cell) else (n,a))::(r.map fun(n,k)=>if (k==NameKind.free&&env.scope.kind == .function&&env.kindOf n==some .cell) then (n,NameKind.cell) else (n,k)))=some k:=h;by_cases f:x=n;subst f;by_cases b:a=.free;subst b;exact W8;have e:(a==NameKind.free)=false:=by simpa using b
  rw[e] at h';simp only [Bool.false_and,Bool.false_eq_true,Y9,Yv,beq_self_eq_true] at h';have g:a=k:=Xt h';rcases c with q|q;exact absurd (g.trans q) (d (x,a) W8);exact absurd (g.trans q) b;have e:(x==n)=false:=by simpa using f
  have l:(r.map fun(n,k)=>if (k==NameKind.free&&env.scope.kind == .function&&env.kindOf n==some .cell) then (n,NameKind.cell) else (n,k)).lookup x=some k:=by by_cases i:(a==NameKind.free&&env.scope.kind == .function&&env.kindOf n==some .cell)=true;rw[Xk i] at h';simp only [Yv,e] at h';exact h';rw[Xh i] at h';simp only [Yv,e] at h';exact h'
  exact W7 _ (j l c fun y m=>d y (W7 _ m))
structure aL (X:Cx)(scope:Scope)(N':List Str)(src:List (Option Nat)):Prop where
 kind:scope.kind=.function
 cell:∀y∈scope.names,y.2 ≠ .cell
 names:∀x∈scope.names,x.2=.local->scope.names.lookup x.1=some .local
 fr:∀n,(n,NameKind.free)∈scope.names->X.env.kindOf n=some .cell∨X.env.kindOf n=some .free
 excl:∀n,(n,NameKind.free)∈scope.names->¬scope.names.lookup n=some .local
 len:N'.length=src.length
 src:∀(i j:Nat),src[i]?=some (some j)->∃x:Str,N'[i]?=some x/\X.N[j]?=some x/\(x,NameKind.free)∈scope.names
theorem wG {D:Addr}{s3:Shared}{h1:Heap}{tk:Nat}(S:aL X scope N' src)(a:Inv X L M H s3)
  (B:∀x c,cl.lookup x=some c->X.env.cells.lookup x=some c) (N:∀n,(n,NameKind.free)∈scope.names->∃c,cl.lookup n=some c) (G:C=s3.heap.objs.size)
  (I:∀b∈D::fp,bW X L H b) (O:∀b∈D::fp,b<s3.heap.objs.size) (dZ:h1.Ns C (fun _=>none)) (J:∀b o,s3.heap.get? b=some o->h1.get? b=some o):
  Inv (bJ X N' scope cl C (D::fp) s3 H) [] (mV src M) H { s3 with heap:=h1,toks:=tk }:=by
 have qQ:∀b o,s3.heap.get? b=some o->b≠C:=fun b o e=>by rw[G];exact Xu (Xi e)
 have HC:H C=none:=a.hok.fresh (Nat.le_of_eq G.symm)
 have ok:(bJ X N' scope cl C (D::fp) s3 H).Ok:=by refine⟨a.ok.mod,S.kind,a.ok.glob,a.ok.blt,Nat.le_of_eq G.symm,fun x y c P K=>a.ok.inj x y c (B x c P) (B y c K),fun x E=>?_,fun x c z=>absurd z W6,a.ok.hd,a.ok.frames,.inl rfl,fun b A=>⟨?_,fun x c e=>?_⟩,a.bs,XZ a.ok.bsz a.sz,fun b o e A=>?_,fun b A=>?_,a.stack,a.stkFree⟩;refine N x ?_;rcases E with z|z;exact Ax (env:=X.env) (show((scope.names.map _).lookup x)=some .cell from z) (.inl rfl) S.cell;exact Ax (env:=X.env) (show((scope.names.map _).lookup x)=some .free from z) (.inr rfl) S.cell;show b≠C;rw[G];exact Xu (O b A);exact(I b A).2.2.2.2.1 x c (B x c e);rcases(I b A).2.2.2.1 with z|z;exact a.ok.noex b o e z;exact absurd (Xx (Xx (Xi e) a.ok.bsz) z) (X7 _);intro z;have Q:b∈ig X.stack:=z;rcases Xj.mp (a.stkSub b Q) with q|q;exact(I b A).2.1 q;exact(I b A).2.2.1 q
 refine⟨ok,rfl,a.bare,Un.kept J,⟨_,dZ,fun i x v P K e3=>?_⟩,fun x c e=>?_,HC,fun x c e=>a.freeC x c (B x c e),fun p hp=>absurd (show p∈([]:List (Addr×Obj)) from hp) (by simp),a.hok.kept J,?_⟩
 .have t:(src.map fun o=>match o with|some j=>(M[j]?).getD none|none=>none)[i]?=some (some v):=K
  rw[XG] at t
  cases q:src[i]? with
  |none=>rw[q] at t;cases t
  |some o=>
   rw[q] at t
   cases o with
   |none=>cases t
   |some j=>
    obtain⟨f,R,T,g⟩:=S.src i j q;have ex:f=x:=Xt (R.symm.trans P);subst ex
    have ev:M[j]?=some (some v):=by cases W:M[j]? with|none=>simp [W] at t|some o=>simp [W] at t;rw[t]
    obtain⟨m,hn,hl⟩:=a.loc;have d:=S.fr f g
    obtain⟨u,r,l⟩:=hl j f v T ev (by
     rcases d with z|z
     .exact .inr (.inl z)
     .exact .inr (.inr z))
    refine⟨u,r,.inr ⟨?_,?_⟩⟩
    .rcases e3 with z|z|z
     .exfalso
      have Q:(scope.names.map fun(n,k)=>if (k==NameKind.free&&X.env.scope.kind == .function&&X.env.kindOf n==some .cell) then (n,NameKind.cell) else (n,k)).lookup f=some .local:=z;rcases l with ⟨k,_⟩|⟨_,c,Y,s⟩
      .rcases d with y|y <;> (rw[y] at k;cases k)
      .exact(show False by
        have:=S.names;have hm:=g;clear K t
        have U:∀(names:List (Str×NameKind)),(names.map fun(n,k)=>if (k==NameKind.free&&X.env.scope.kind == .function&&X.env.kindOf n==some .cell) then (n,NameKind.cell) else (n,k)).lookup f=some .local →names.lookup f=some .local:=by
         intro names;induction names with
         |nil=>(intro h;simp at h)
         |cons y r Z=>
          obtain⟨n,k⟩:=y;intro h;have h':List.lookup f ((if (k==NameKind.free&&X.env.scope.kind == .function&&X.env.kindOf n==some .cell)=true then (n,NameKind.cell) else (n,k))::(r.map fun(n,k)=>if (k==NameKind.free&&X.env.scope.kind == .function&&X.env.kindOf n==some .cell) then (n,NameKind.cell) else (n,k)))=some .local:=h;by_cases E:(f==n)=true;by_cases w:(k==NameKind.free&&X.env.scope.kind == .function&&X.env.kindOf n==some .cell)=true;rw[Xk w] at h';simp only [Yv,E] at h';cases h';rw[Xh w] at h';simp only [Yv,E] at h' ⊢;exact h';have et:(f==n)=false:=by simpa using E
          by_cases w:(k==NameKind.free&&X.env.scope.kind == .function&&X.env.kindOf n==some .cell)=true;rw[Xk w] at h';simp only [Yv,et] at h' ⊢;exact Z h';rw[Xh w] at h';simp only [Yv,et] at h' ⊢;exact Z h'
        have z2:=U _ Q;obtain⟨c2,w⟩:=N f g
        exact S.excl f g z2)
     .exact .inl z
     .exact .inr z
    .rcases l with ⟨k,_⟩|⟨_,c,Y,s⟩
     .rcases d with y|y <;> (rw[y] at k;cases k)
     .obtain⟨c2,w⟩:=N f g;have e:=B f c2 w;rw[Y] at e;cases e;obtain⟨F,V,hd⟩:=s;exact⟨c,w,F,J c F V,hd⟩
 .obtain⟨v,F,V,hd⟩:=a.cell x c (B x c e);exact⟨v,F,J c F V,hd⟩
 .show(src.map _).length=N'.length;rw[Xa,S.len]
theorem HU {D:Addr}{m:List (Addr×Obj)}{g:St}{s3:Shared}{h:List V}(j:Inv X L M H s3)(k:C=s3.heap.objs.size)
  (c:∀b∈D::fp,bW X L H b) (i:∀b∈D::fp,b<s3.heap.objs.size) (d:Inv (bJ X N' scope cl C (D::fp) s3 H) m g H' S) (p:H' D=none) (pl:S.heap.PlainList D B.toArray) (q:Vals h B) (hz:h.length<=sizeLine)
  (l:Heap.SameBut C S.heap h'):Inv X L M (ak H' D (.lst h)) { S with heap:=h' }:=by
 have J:Inv X L M H' S:=j.call' d.os d.base d.hok d.bare (ch:=D::fp) fun b a=>⟨(c b a).2.2.2.1,(c b a).2.1,(c b a).2.2.2.2.1,(c b a).2.2.2.2.2⟩;have f:bW X L H' C:=j.fpOk (Nat.le_of_eq k.symm) d.free;have r:Inv X L M H' { S with heap:=h' }:=J.turned (t':=S.toks) (fun b o a e=>(l.2 b a).trans e) f.1 f.2.1 f.2.2.2.1 f.2.2.2.2.1 f.2.2.2.2.2;have s:D≠C:=by rw[k];exact Xu (i D W8)
 obtain⟨n,e⟩:=pl;have t:=c D W8;exact r.track ⟨p,t.2⟩ ⟨hz,B,n,q,(l.2 D s).trans e⟩
theorem Gs {D:Addr}{tn:Nat->Heap->Prop}{J:It}{I:St}{s3:Shared}{R:Result->Shared->Prop}{W:Nat->Nat->List V->St->Hp->Prop}{m0:Nat}{Q:List V->Hp->Prop}
  (hc:X.calm=true) (T:cA X.prog X.w X.K G J fp it tn) (I3:Inv X L M H s3) (hC:C=s3.heap.objs.size)
  (hf:∀b∈D::fp,bW X L H b) (N:∀b∈D::fp,b<s3.heap.objs.size) (iN:D∉fp) (IY:Inv (bJ X N' scope cl C (D::fp) s3 H) [] I H S) (st:tn 0 S.heap) (pl:S.heap.PlainList D #[])
  (hg:PG (bJ X N' scope cl C (D::fp) s3 H) G g) (ht:PTs (bJ X N' scope cl C (D::fp) s3 H) ifs tt) (he:PE (bJ X N' scope cl C (D::fp) s3 H) elt O) (w0:W 0 m0 [] I H)
  (br:∀i m h a H,W i m h a H->(J.stop i H/\Q h H)∨(J.go i H/\h.length<sizeLine/\∀x H',J.yld i H x H'->g x a H' fun l H2=>tt l H2 fun b H3=>
   if b=true then O l H3 fun v H4=>∃s,s<m/\W (i+1) s (h++[v]) l H4 else ∃s,s<m/\W (i+1) s h l H3))
  (a7:∀P a H' h B t,Inv (bJ X N' scope cl C (D::fp) s3 H) t a H' P->H' D=none->P.heap.PlainList D B.toArray->Vals h B->h.length<=sizeLine->Q h H'->R (.ok .next) P):
  codeAny (model X.prog X.w) X.A (.compLoop (.ListComp elt [⟨G,iter,ifs,0⟩] scope pos) 0 (.ref it) (.ref D) (compEnvC scope cl C X.env)) R S:=by
 have eY:(bJ X N' scope cl C (D::fp) s3 H).env=compEnvC scope cl C X.env:=rfl;generalize y:bJ X N' scope cl C (D::fp) s3 H=Y at *;have e1:Y.prog=X.prog:=by rw[<- y];rfl
 have e2:Y.w=X.w:=by rw[<- y];rfl
 have e3:Y.K=X.K:=by rw[<- y];rfl
 have e4:Y.A=X.A:=by rw[<- y];rfl
 have e5:Y.calm=true:=by rw[<- y];exact hc
 have e6:Y.xe=fun _ _=>False:=by rw[<- y];rfl
 have e7:Y.env.locals=C:=by rw[eY];rfl
 have e8:Y.ex=D::fp:=by rw[<- y];rfl
 have e9:Y.pn=[]:=by rw[<- y];rfl
 have MM:Y.fs=ig X.stack:=by rw[<- y];rfl
 have rV:∀x c,Y.env.cells.lookup x=some c->∀b∈D::fp,c≠b:=fun x c e b f=>(IY.ok.exf b (by rw[e8];exact f)).2 x c e;have nB:∀b∈D::fp,b∉Y.fs:=fun b f=>IY.ok.exfs b (by rw[e8];exact f)
 have rO:∀(t:List (Addr×Obj))(H':Hp),(∀p∈t,p.1=D)->∀b∈fp,H' b=none->bW Y t H' b:=fun t H' j b f hn=>
  ⟨hn,by rw[e7,hC];exact Xu (N b (W7 _ f)),nB b (W7 _ f),.inl (by rw[e8];exact W7 _ f),fun x c e=>rV x c e b (W7 _ f),fun p jE z=>by
   rw[e9,XM] at jE;have q:=j p jE;rw[z] at q;rw[q] at f
   exact iN f⟩
 have yk:∀(t:List (Addr×Obj))(H':Hp),(∀p∈t,p.1≠D)->H' D=none->bW Y t H' D:=fun t H' j hn=>
  ⟨hn,by rw[e7,hC];exact Xu (N D W8),nB D W8,.inl (by rw[e8];exact W8),fun x c e=>rV x c e D W8,fun p jE=>by
   rw[e9,XM] at jE
   exact j p jE⟩
 have T':cA Y.prog Y.w Y.K G J fp it tn:=by rw[e1,e2,e3];exact T
 rw[<- eY,<- e1,<- e2,<- e4]
 refine Vi (fun n s'=>∃i h B a H',Inv Y [] a H' s'/\tn i s'.heap/\(∀b∈fp,H' b=none)/\H' D=none/\s'.heap.PlainList D (B:List Value).toArray/\Vals h B/\h.length<=sizeLine/\W i n h a H') ?_ m0
  ⟨0,[],[],I,H,IY,st,fun b f=>(hf b (W7 _ f)).1,(hf D W8).1,pl,.nil,Xw _,w0⟩
 rintro n P ⟨i,h,B,a,H5,I5,st5,fr5,hD5,pl5,E,hz5,w5⟩;obtain⟨F,hob⟩:=id pl5
 have I5':Inv Y [(D,{ cls:=.type "list",data:=.seq B.toArray F })] a H5 P:=I5.pins_of fun p j=>by
  rw[XH] at j;subst j;exact⟨hob,hD5,by rw[e7,hC];exact Xu (N D W8),nB D W8,fun v z=>by
   have z':Data.seq B.toArray F=Data.cell v:=z
   cases z'⟩
 have f5:∀b∈fp,bW Y [(D,{ cls:=.type "list",data:=.seq B.toArray F })] H5 b:=fun b f=>rO _ _ (fun p j=>by rw[XH] at j;rw[j]) b f (fr5 b f);rcases br i n h a H5 w5 with ⟨stop,q⟩|⟨go,hz,step⟩
 .refine aw (T'.done Y rfl rfl rfl e5 i _ P a H5 (fun _ _=>False) I5' f5 st5 stop) fun r s6 z0=>?_;obtain⟨hr,I6⟩:=z0;subst hr;exact a7 s6 a H5 h B _ I6 hD5 ⟨F,(I6.pin (D,_) (XE _ W8)).1⟩ E hz5 q
 .refine aw (T'.item Y rfl rfl rfl e5 i _ P a H5 (fun _ _=>False) I5' f5 st5 go) fun r s6 z1=>?_;obtain⟨u,hr,h6⟩:=z1
  subst hr;refine aw h6 fun _ s7 z2=>?_;obtain⟨x,H7,I7,r7,y7,U,fr7⟩:=z2;have f7:∀b∈fp,bW Y [(D,{ cls:=.type "list",data:=.seq B.toArray F })] H7 b:=fun b f=>rO _ _ (fun p j=>by rw[XH] at j;rw[j]) b f (fr7 b f);have I7':=I7.pinned f7 (T.obj _ _ U);have hx:=hg _ s7 a H7 x u _ I7' r7 (step x H7 y7);rw[e6] at hx;refine aw hx fun _ s8 z3=>?_;obtain⟨k,H8,I8,q8⟩:=z3;have hx2:=ht _ s8 k H8 _ I8 q8;rw[e6] at hx2;have fV:∀{σ9:St}{Z:Hp}{s9:Shared},Inv Y ([(D,{ cls:=.type "list",data:=.seq B.toArray F })]++qb fp s7.heap) σ9 Z s9->tn (i+1) s9.heap/\(∀b∈fp,Z b=none)/\Z D=none/\s9.heap.get? D=some { cls:=.type "list",data:=.seq B.toArray F }:=fun {σ9 Z s9} I9=>by have pD:=I9.pin (D,_) (XE _ (X6 _ W8));refine⟨T.keep _ _ _ U fun b f o e=>(I9.pin (b,o) (XE _ (XE _ (qo f e)))).1,fun b f=>?_,pD.2.1,pD.1⟩;obtain⟨o,e,d⟩:=T.obj _ _ U b f;exact(I9.pin (b,o) (XE _ (XE _ (qo f e)))).2.1
  refine aw hx2 fun ok s9 z4=>?_;obtain⟨Z,I9,q9⟩:=z4
  cases ok with
  |false=>rw[Xh W6] at q9;rw[Xh W6];obtain⟨s,hm,w9⟩:=q9;obtain⟨k1,k2,k3,k4⟩:=fV I9;exact⟨s,hm,i+1,h,B,k,Z,I9.pins_of (fun p j=>nomatch j),k1,k2,k3,⟨F,k4⟩,E,hz5,w9⟩
  |true=>
   rw[Xk rfl] at q9;rw[Xk rfl];have hx3:=he _ s9 k Z _ I9 q9;rw[e6] at hx3;refine aw hx3 fun xv s10 z5=>?_;obtain⟨v,H10,I10,r10,s,hm,w10⟩:=z5;obtain⟨k1,k2,k3,k4⟩:=fV I10;have hl:=E.length;refine wpAny_list_append_plain ⟨F,k4⟩ (fun h' Ln sb=>?_) (by rw[Xf];lia);have fD:=yk [] H10 (fun p j=>nomatch j) k3;have wU:Inv Y [] k H10 { s10 with heap:=h' }:=(I10.pins_of (pins':=[]) fun p j=>nomatch j).turned (t':=s10.toks) (fun b o f e=>(sb.2 b f).trans e) fD.1 fD.2.1 fD.2.2.2.1 fD.2.2.2.2.1 fD.2.2.2.2.2;refine⟨s,hm,i+1,h++[v],B++[xv],k,H10,wU,T.keep _ _ _ k1 (fun b f o e=>(sb.2 b ?_).trans e),k2,k3,?_,E.append (.cons r10 .nil),?_,w10⟩
   .intro z;rw[z] at f;exact iN f
   .rw[show(B++[xv]).toArray=B.toArray.push xv by simp];exact Ln
   .rw[Xd,length_singleton];exact hz
theorem vP (hc:X.calm=true)(S:aL X scope N' src)(hi:PI X G iter U)
  (r:∀cl C ex s0 H0,PG (bJ X N' scope cl C ex s0 H0) G g/\PTs (bJ X N' scope cl C ex s0 H0) ifs tt/\PE (bJ X N' scope cl C ex s0 H0) elt O)
  (hs:∀x,foldedSetIterable iter X.env x=pure x:=by intro _;rfl):PE X (.ListComp elt [⟨G,iter,ifs,0⟩] scope pos) (uZ src U g tt O):=by
 intro L s M H Q I h;obtain⟨cl,i,cF,dM⟩:=wH (scope:=scope) (env:=X.env) fun n E=>I.ok.has n (S.fr n E);rw[eval_ListComp];refine Y8 (use:=none) rfl hs i S.kind S.names ?_;refine aw (hi L s M H _ I h) fun v s1 h1=>aw h1 fun pf a h2=>?_;obtain⟨it,fp,tn,J,u,e,F,T,j,f2,W,⟨m0,w0⟩,br⟩:=h2;subst e;refine Xo (wpAny_newFunctionEnv S.cell (by intro y hy;simp at hy) (fun h₁ K₁ k₁=>?_) S.kind);dsimp only at K₁ k₁ ⊢;generalize c:a.heap.push { cls:=.type "list",dict:=none,data:=.seq ([]:List Value).toArray }=d at K₁ k₁ ⊢;have hsz:d.objs.size=a.heap.objs.size+1:=by rw[<- c,YB]
 have N:Inv X L M u { a with heap:=d }:=F.kept (t':=a.toks) fun b o e=>by rw[<- c];exact W5 _ e
 have fD:bW X L u a.heap.objs.size:=F.fpOk (W9 _) (F.hok.fresh (W9 _));have iN:a.heap.objs.size∉fp:=fun hm=>by obtain⟨o,e,_⟩:=T.obj 0 _ j _ hm;exact X7 _ (Xi e)
 have P:∀b∈a.heap.objs.size::fp,bW X L u b:=fun b r=>by rcases Xj.mp r with z|z;rw[z];exact fD;exact f2 b z
 have p:∀b∈a.heap.objs.size::fp,b<d.objs.size:=fun b r=>by rcases Xj.mp r with z|z;rw[z,hsz];exact Yx _;obtain⟨o,e,_⟩:=T.obj 0 _ j b z;rw[hsz];exact Nat.lt_succ_of_lt (Xi e)
 have kp:∀b o,d.get? b=some o->h₁.get? b=some o:=fun b o e=>k₁.extBut b o (Xu (Xi e)) (W5 _ e);have nF:∀b o,a.heap.get? b=some o->h₁.get? b=some o:=fun b o e=>kp b o (by rw[<- c];exact W5 _ e);have dN:h₁.PlainList a.heap.objs.size #[]:=⟨_,kp _ _ (by rw[<- c];exact Xg _ rfl)⟩;have Z:tn 0 h₁:=T.keep _ _ _ j fun b _ o e=>nF b o e;have IY:=wG (N':=N') (src:=src) (scope:=scope) (cl:=cl) (C:=d.objs.size) (D:=a.heap.objs.size) (fp:=fp) (s3:={ a with heap:=d }) (h1:=h₁) (tk:=a.toks) S N cF dM rfl P p K₁ kp;obtain⟨hg,ht,he⟩:=r cl d.objs.size (a.heap.objs.size::fp) { a with heap:=d } u
 have f:=Gs (R:=compPost (model X.prog X.w) X.A X.xe none (EP X L M Q) (.ref a.heap.objs.size) d.objs.size) (elt:=elt) (iter:=iter) (ifs:=ifs) (pos:=pos) (Q:=fun V H=>∀l,H l=none->Q (.ref l) (ak H l (.lst V)))
  hc T N rfl P p iN IY Z dN hg ht he w0 br (fun s5 σc H' V B aA t hD pl rv hz q=>by
   obtain⟨m,E,_⟩:=t.loc;refine⟨m,E,fun h' Y=>⟨.ref a.heap.objs.size,ak H' a.heap.objs.size (.lst V),?_,rfl,q _ hD⟩⟩
   exact HU N rfl P p t hD pl rv hz Y)
 exact codeAny_compStart_list f (T.self _ 0 _ _ _ Z f)
end
section
theorem Tp:OpR X (compareOp .LtE) (fun x y H Q=>∃i j,x=.str i/\y=.str j/\Q (.bl (!decide (j.cps.toList<i.cps.toList))) H):=by intro L s M H x y v u Q I a b h;obtain⟨i,j,rfl,rfl,q⟩:=h;obtain⟨t,rfl⟩:=a;obtain⟨t',rfl⟩:=b;exact PySem.P.le_str ⟨.bl _,H,I,rfl,q⟩
theorem To:OpR X (compareOp .Gt) (fun x y H Q=>∃i j,x=.str i/\y=.str j/\Q (.bl (decide (j.cps.toList<i.cps.toList))) H):=by intro L s M H x y v u Q I a b h;obtain⟨i,j,rfl,rfl,q⟩:=h;obtain⟨t,rfl⟩:=a;obtain⟨t',rfl⟩:=b;exact PySem.P.gt_str ⟨.bl _,H,I,rfl,q⟩
def qG:V->Option Int->Option Int->Hp->VK->Prop:=fun x lo a H Q=>∃z,x=.str z/\z.length<=sizeLine/\Q (.str (Txt.slice z lo a)) H
theorem N9:SlR X qG:=by intro L s M H x v p r lo m w Q I n o pl f h;obtain⟨z,rfl,hz,q⟩:=h;obtain⟨t,rfl⟩:=n;refine⟨"str",_,F.slot_str_getitem.lookup,typeIs_str _ _ _,?_⟩;obtain⟨os,a,c,b⟩:=id o;have d:∀t' k,EP X L M Q (.str (Txt.slice z lo m) t') { s with toks:=k }:=fun t' k=>⟨.str _,H,I.tok _,⟨_,rfl⟩,q⟩;cases pl with|none=>(cases f with|none=>exact Zm (l:=none) (u:=none) (st:=none) ⟨os,a,c,b⟩ rfl (post_val_or_str ⟨XZ (Txt.slice_le z _ _) hz,d⟩)|int j e=>exact Zm (l:=none) (u:=some (j,e)) (st:=none) ⟨os,a,c,b⟩ rfl (post_val_or_str ⟨XZ (Txt.slice_le z _ _) hz,d⟩))|int i g=>cases f with|none=>exact Zm (l:=some (i,g)) (u:=none) (st:=none) ⟨os,a,c,b⟩ rfl (post_val_or_str ⟨XZ (Txt.slice_le z _ _) hz,d⟩)|int j e=>exact Zm (l:=some (i,g)) (u:=some (j,e)) (st:=none) ⟨os,a,c,b⟩ rfl (post_val_or_str ⟨XZ (Txt.slice_le z _ _) hz,d⟩)
theorem UX:gy X (.builtin "isinstance") (fun xs H Q=>∃x T ty b,xs=[x,.ty T]/\cI X.K H x ty/\PySem.W.kitOne X.K ty (.type T)=some b/\Q (.bl b) H):=by intro L s M H xs B Q I r h;obtain⟨x,T,ty,b,rfl,h1,a,q⟩:=h;obtain⟨u,c,rfl,d,e⟩:=MR r;cases (show c=Value.type T from e);exact TC I d h1 a fun tk=>⟨.bl b,H,I.tok _,rfl,q⟩
theorem Gr:∀{bs:List Bool}{B:List Value},Vals (bs.map V.bl) B->B=bs.map Value.bool
 |[],B,r=>by cases r;rfl
 |b::bs,B,r=>by cases r with|cons a c=>cases a;rw[Gr c];rfl
theorem Uu (bs:List Bool):((List.range bs.length).all fun i=>(bs[i]?).getD true)=bs.all id:=by rw[Zg,Yp,Yp];constructor;intro h b d;obtain⟨i,c,rfl⟩:=List.getElem_of_mem d;have:=h i (mem_range.mpr c);simpa [Xc c] using this;intro h i c;have a:=mem_range.mp c;rw[Xc a];exact h _ (YC a)
theorem UW (g:X.calm=true):gy X (.builtin "all") (fun xs H Q=>∃(p:Addr)(bs:List Bool),xs=[.ref p]/\SqL X.K H p (bs.map V.bl)/\Q (.bl (bs.all id)) H):=by
 intro L s M H xs B Q I r h;obtain⟨p,bs,rfl,j,q⟩:=h;obtain⟨u,rfl,k⟩:=jf r;cases k;obtain⟨t,l,pl,hz⟩:=I.list j;have e:=Gr l;subst e;have c:p<s.heap.objs.size:=by obtain⟨_,e,_⟩:=pl.isList;exact Xi e
 refine call_all_walk (wpAny_pyIter_list pl.isList ?_);refine⟨s.heap.objs.size,[s.heap.objs.size,p],[s.heap.objs.size],(bs.map Value.bool).toArray.size,_,_,fun i=>(bs[i]?).getD true,rfl,Walks.list (A:=X.A.in1) (I.ok.hd g) _ p (Xu c) (bs.map Value.bool).toArray,⟨⟨_,Xg _ rfl,rfl,rfl⟩,pl.isList.push _⟩,fun i v w x y m f=>?_,fun h' tk n=>?_⟩;have a:(bs.map Value.bool)[i]?=some v:=by simpa using m
 rw[XG] at a;cases e:bs[i]? with|none=>(rw[e] at a;cases a)|some b=>rw[e] at a;cases a;simp only [e,Option.getD_some] at f;exact Yi f
 have e:((List.range (bs.map Value.bool).toArray.size).all fun i=>(bs[i]?).getD true)=bs.all id:=by rw[Xf,Xa];exact Uu bs
 rw[e];refine⟨.bl _,H,I.kept fun b o d=>n b o ?_ (W5 _ d),rfl,q⟩;intro z;rw[XH.mp z] at d;exact X7 _ (Xi d)
def mK (xs a:List V):Bool:=xs.length==a.length&&(List.range xs.length).all fun j=>jM (xs.getD j .non) (a.getD j .non)
theorem Ut (l:X.A.units<cLine):OpR X (compareOp .Eq) (fun x y H Q=>∃a b xs d,x=.ref a/\y=.ref b/\SqL X.K H a xs/\SqL X.K H b d/\xs.all fE=true/\d.all fE=true/\Q (.bl (mK xs d)) H):=by
 intro L s M H x y v u Q I p t h;obtain⟨a,b,xs,d,rfl,rfl,w,z,B,C,q⟩:=h;cases p;cases t;obtain⟨g,r,pl,hz⟩:=I.list w;obtain⟨c,m,f,D⟩:=I.list z;have E:=r.length;have F:=m.length;by_cases n:xs.length=d.length;refine SeqAt.eq_listAt (e:=fun j=>jM (xs.getD j .non) (d.getD j .non)) pl.isList f.isList (by simp only [Xf];lia) l (fun j h1 o=>?_) ?_;simp only [Xf] at h1 o;have g1:xs[j]?=some xs[j]:=Xc (by lia);have g2:d[j]?=some d[j]:=Xc (by lia);obtain⟨G,J,i⟩:=r.get g1;obtain⟨N,O,k⟩:=m.get g2;have P:g.toArray[j]=G:=by have:g[j]?=some g[j]:=Xc h1;rw[J] at this;simpa using (Xt this).symm
 have R:c.toArray[j]=N:=by have:c[j]?=some c[j]:=Xc o;rw[O] at this;simpa using (Xt this).symm
 rw[P,R,show xs.getD j .non=xs[j] by simp [List.getD,g1],show d.getD j .non=d[j] by simp [List.getD,g2]];exact vo i k (Yp.mp B _ (YC _)) (Yp.mp C _ (YC _));refine bT I q ?_;unfold mK;rw[Xf,<- E,n];simp;refine SeqAt.eq_list_lengthsAt pl.isList f.isList (by simp only [Xf,bne_iff_ne];lia) l ?_;refine bT I q ?_;unfold mK;rw[XX.mpr n];rfl
end
section
variable {pos:Pos}{g:TG}{tt:TT}
theorem HS {k:Pos}(hc:X.calm=true)(hN:X.N.Nodup)(iK:X.N[i]?=some x)(hx:lI X.env.scope x)(S:aL X scope N' src)(hi:PI X G iter U)
  (r:∀cl C ex s0 H0,PG (bJ X N' scope cl C ex s0 H0) G g/\PTs (bJ X N' scope cl C ex s0 H0) ifs tt/\PE (bJ X N' scope cl C ex s0 H0) elt O)
  (ib:swapsWith (.ListComp elt [⟨G,iter,ifs,0⟩] scope pos) (some (.Name x c)) k.line X.env=pure true:=by rfl)
  (hs:∀x,foldedSetIterable iter X.env x=pure x:=by intro _;rfl)
  (k8:lf X x:=by first|exact .inl rfl|exact .inr rfl|assumption):
  PS X (.Assign [.Name x c] (.ListComp elt [⟨G,iter,ifs,0⟩] scope pos) k) (oy (uZ src U g tt O) (pZ i)):=by
 intro L s M H D I h;obtain⟨cl,t,cF,dM⟩:=wH (scope:=scope) (env:=X.env) fun n hn=>I.ok.has n (S.fr n hn);rw[exec_Assign_Name_used _ _ _ _ ib];refine W3 (wpAny_standAt (W3 ?_));show wpAny _ _ (do let _ ← comprehension (.ListComp elt [⟨G,iter,ifs,0⟩] scope pos) scope X.env _ (newList []) false (eval iter X.env) (some (assign (.Name x c) X.env))) _ _ s;refine W3 (XU (Y8 (use:=some (assign (.Name x c) X.env)) (Q:=fun _ V=>SP X L D .next V) rfl hs t S.kind S.names ?_) (fun _ V hq=>Xb (Xb hq)) fun _ _ e=>e);refine aw (hi L s M H _ I h) fun v s1 h1=>aw h1 fun pf d h2=>?_;obtain⟨it,fp,tn,J,Y,e,I2,T,u,f2,W,⟨m0,w0⟩,br⟩:=h2;subst e;refine Xo (wpAny_newFunctionEnv S.cell (by intro y hy;simp at hy) (fun h₁ dZ₁ E₁=>?_) S.kind);dsimp only at dZ₁ E₁ ⊢;generalize j:d.heap.push { cls:=.type "list",dict:=none,data:=.seq ([]:List Value).toArray }=f at dZ₁ E₁ ⊢;have hsz:f.objs.size=d.heap.objs.size+1:=by rw[<- j,YB]
 have Z:Inv X L M Y { d with heap:=f }:=I2.kept (t':=d.toks) fun b o e=>by rw[<- j];exact W5 _ e
 have fD:bW X L Y d.heap.objs.size:=I2.fpOk (W9 _) (I2.hok.fresh (W9 _));have iN:d.heap.objs.size∉fp:=fun hm=>by obtain⟨o,e,_⟩:=T.obj 0 _ u _ hm;exact X7 _ (Xi e)
 have hf:∀b∈d.heap.objs.size::fp,bW X L Y b:=fun b r=>by rcases Xj.mp r with z|z;rw[z];exact fD;exact f2 b z
 have F:∀b∈d.heap.objs.size::fp,b<f.objs.size:=fun b r=>by rcases Xj.mp r with z|z;rw[z,hsz];exact Yx _;obtain⟨o,e,_⟩:=T.obj 0 _ u b z;rw[hsz];exact Nat.lt_succ_of_lt (Xi e)
 have kp:∀b o,f.get? b=some o->h₁.get? b=some o:=fun b o e=>E₁.extBut b o (Xu (Xi e)) (W5 _ e);have nF:∀b o,d.heap.get? b=some o->h₁.get? b=some o:=fun b o e=>kp b o (by rw[<- j];exact W5 _ e);have dN:h₁.PlainList d.heap.objs.size #[]:=⟨_,kp _ _ (by rw[<- j];exact Xg _ rfl)⟩;have jo:tn 0 h₁:=T.keep _ _ _ u fun b _ o e=>nF b o e;have IY:=wG (N':=N') (src:=src) (scope:=scope) (cl:=cl) (C:=f.objs.size) (D:=d.heap.objs.size) (fp:=fp) (s3:={ d with heap:=f }) (h1:=h₁) (tk:=d.toks) S Z cF dM rfl hf F dZ₁ kp;obtain⟨hg,ht,he⟩:=r cl f.objs.size (d.heap.objs.size::fp) { d with heap:=f } Y
 have p:=Gs (R:=compPost (model X.prog X.w) X.A X.xe (some (assign (.Name x c) X.env)) (fun _ V=>SP X L D .next V) (.ref d.heap.objs.size) f.objs.size) (elt:=elt) (iter:=iter) (ifs:=ifs) (pos:=pos) (Q:=fun ys H=>∀l,H l=none->D.nx (M.set i (some (.ref l))) (ak H l (.lst ys)))
  hc T Z rfl hf F iN IY jo dN hg ht he w0 br (fun s5 σc H' ys B aA K hD pl rv hz q=>by
   have IX:Inv X L M (ak H' d.heap.objs.size (.lst ys)) s5:=HU (h':=s5.heap) Z rfl hf F K hD pl rv hz (.refl ..);show wpAny _ _ (assign (.Name x c) X.env (.ref d.heap.objs.size)) _ _ s5;refine wpAny_assign_Name (Ah (v:=.ref d.heap.objs.size) IX hN iK hx rfl (fun s6 I6 ⟨a,sb,ha⟩=>?_) k8);obtain⟨m,hn,_⟩:=K.loc
   have P:bW X L (ak H' d.heap.objs.size (.lst ys)) f.objs.size:=Z.fpOk (W9 _) (by
    rw[ay (by rw[hsz];exact YE (Yx _))]
    exact K.free)
   have ya:f.objs.size≠a:=by rcases ha with z|z;rw[z];exact P.2.1;exact fun q=>P.2.2.2.2.1 x a z q.symm
   refine⟨m,hn.sameBut sb ya,fun h' hs'=>⟨_,_,I6.turned (t':=s6.toks) (fun b o r e=>(hs'.2 b r).trans e) P.1 P.2.1 P.2.2.2.1 P.2.2.2.2.1 P.2.2.2.2.2,q _ hD⟩⟩)
 exact codeAny_compStart_list p (T.self _ 0 _ _ _ jo p)
end
section
def yL (_ j:Int):Prop:=0<j/\j<18446744073709551616
theorem RR:OpR X (binaryOp .FloorDiv) (rI yL fun i j=>.int (i / j)):=tY fun i j _ _ _ _ _ a q=>by have h1:(0:Int)<j:=a.1;have b:j<18446744073709551616:=a.2;refine floordiv_int (by lia) (by rw[Int.fdiv_eq_ediv_of_nonneg i (by lia)];exact q) (.inl (PyProof.noPylong_of_log2 ?_));have c:j.natAbs.log2<64:=(Nat.log2_lt (by lia)).mpr (by lia);lia
theorem Us (l:X.A.units<cLine):OpR X (compareOp .NotEq) (fun x y H Q=>∃a b xs d,x=.ref a/\y=.ref b/\SqL X.K H a xs/\SqL X.K H b d/\xs.all fE=true/\d.all fE=true/\Q (.bl (!mK xs d)) H):=by
 intro L s M H x y v u Q I p t h;obtain⟨a,b,xs,d,rfl,rfl,z,B,C,D,q⟩:=h;cases p;cases t;obtain⟨g,r,pl,hz⟩:=I.list z;obtain⟨c,m,f,E⟩:=I.list B;have F:=r.length;have G:=m.length;by_cases n:xs.length=d.length;refine SeqAt.RcNeAt.lists (e:=fun j=>jM (xs.getD j .non) (d.getD j .non)) pl.isList f.isList (by simp only [Xf];lia) l (fun j h1 o=>?_) X.prog X.w _ _ ?_;simp only [Xf] at h1 o;have g1:xs[j]?=some xs[j]:=Xc (by lia);have g2:d[j]?=some d[j]:=Xc (by lia);obtain⟨J,N,i⟩:=r.get g1;obtain⟨O,P,k⟩:=m.get g2;have R:g.toArray[j]=J:=by have:g[j]?=some g[j]:=Xc h1;rw[N] at this;simpa using (Xt this).symm
 have S:c.toArray[j]=O:=by have:c[j]?=some c[j]:=Xc o;rw[P] at this;simpa using (Xt this).symm
 rw[R,S,show xs.getD j .non=xs[j] by simp [List.getD,g1],show d.getD j .non=d[j] by simp [List.getD,g2]];exact vo i k (Yp.mp C _ (YC _)) (Yp.mp D _ (YC _));refine bT I q ?_;unfold mK;rw[Xf,<- F,n];simp;refine SeqAt.RcNeAt.lists_lengths pl.isList f.isList (by simp only [Xf,bne_iff_ne];lia) l X.prog X.w _ _ ?_;refine bT I q ?_;unfold mK;rw[XX.mpr n];rfl
end
noncomputable def jX (kindOf:Str->Option NameKind)(a:List Str)(scope:Scope)(N':List Str)(src:List (Option Nat)):Bool:=(scope.kind == .function)&&(scope.names.all fun y=>(y.2 != .cell)&&(y.2 != .local||scope.names.lookup y.1==some .local)&&(y.2 != .free||((kindOf y.1==some .cell||kindOf y.1==some .free)&&scope.names.lookup y.1 != some .local))) &&(N'.length==src.length)&&((List.range src.length).all fun i=>match src[i]? with
  |some (some j)=>(match N'[i]?,a[j]? with|some x,some y=>x==y&&scope.names.contains (x,NameKind.free)|_,_=>false)
  |_=>true)
theorem wK (f:Scope)(k:X.env.scope=f)(N:List Str)(l:X.N=N)(h:jX (fun x=>f.names.lookup x) N scope N' src=true):aL X scope N' src:=by subst k l;unfold jX at h;simp only [W4,Yp,Xv,bne_iff_ne,ne_eq,Bool.or_eq_true] at h;obtain⟨⟨⟨h1,a⟩,m⟩,o⟩:=h;refine⟨h1,fun y b=>(a y b).1.1,fun y b p=>?_,fun n c=>?_,fun n c=>?_,m,fun i j e=>?_⟩;rcases(a y b).1.2 with z|z;exact absurd p z;exact z;rcases(a _ c).2 with z|z;exact absurd rfl z;exact z.1;rcases(a _ c).2 with z|z;exact absurd rfl z;exact z.2;have r:i<src.length:=(Xe.mp e).1;have q:=o i (mem_range.mpr r);rw[e] at q;dsimp only at q;cases d:N'[i]? with|none=>(rw[d] at q;cases q)|some x=>cases g:X.N[j]? with|none=>(rw[d,g] at q;cases q)|some y=>rw[d,g] at q;simp only [W4,Xv] at q;obtain⟨rfl,q⟩:=q;exact⟨x,rfl,rfl,by simpa using q⟩
def Nx (N i:Nat)(P:Prop):Prop:=∃a,a<N-i/\a=N-(i+1)/\i+1<=N/\P
theorem nx {P:Prop}(h:i<N)(p:P):Nx N i P:=⟨_,by lia,rfl,h,p⟩
theorem c9 {o:HO}(h:H a=none):Same H (ak H a o):=fun b u e=>by rw[ay (bL e h)];exact e
section
variable {t:TA}
theorem eV (h:PE X (.Name x p) O)(a:PA X es t):PA X (.Name x p::es) (je O t):=fc h a rfl
theorem VZ {xs:List Expr}(h:PE X (.Tuple xs j p) O)(a:PA X es t):PA X (.Tuple xs j p::es) (je O t):=fc h a rfl
theorem uL {f:Expr}{xs:List Expr}{a:List Keyword}(h:PE X (.Call f xs a p) O)(b:PA X es t):PA X (.Call f xs a p::es) (je O t):=fc h b rfl
end
noncomputable def mR:Expr->Option V
 | .Constant (.int i) _ _=>some (.int i)
 | .Constant (.str x) _ _=>some (.str x)
 | .Constant (.bool b) _ _=>some (.bl b)
 | .Constant .none _ _=>some .non
 |_=>none
theorem N7 {st:Expr}{ts:TE}{pos:Pos}(he:PE X e O)(k:PE X st ts):PE X (.Subscript e (.Slice none none (some st) u) pos)
  (fun M H Q=>O M H fun x c=>ts M c fun y d=>y=.int (-1)/\∃a xs,x=.ref a/\SqL X.K d a xs/\∀p,d p=none->Q (.ref p) (ak d p (.lst xs.reverse))):=by
 intro L s M H Q I h;refine Subscript_ (aw (he L s M H _ I h) fun v l Z=>?_);obtain⟨x,c,m,n,w⟩:=Z;refine wpAny_Slice ?_;rw[evalPart_none];refine Xb (Xb ?_);rw[evalPart_some];refine aw (k L l M c _ m w) fun E s3 Y=>?_;obtain⟨y,z,A,B,C,a,xs,ex,D,q⟩:=Y;subst C ex;cases n;obtain⟨t,rfl⟩:=B;have f:Inv X L M z { s3 with heap:=s3.heap.push { cls:=.type "slice",data:=.fields #[.none,.none,.int (-1) t] } }:=A.kept (t':=s3.toks) fun b ob q=>W5 _ q;obtain⟨g,r,i,hz⟩:=f.list D;have j:=r.length;refine tail_any (ops:=[.ref a,.ref s3.heap.objs.size]) i.isList.typeIs slot_list_getitem.lookup (wpAny_getItem_list_slice i.isList (Heap.IsSliceOf.new ..) .none .none (.int (-1) t) (by simp) ?_ (by rw[Xf] <;> lia)) (by with_unfolding_all rfl);rw[PySem.W.krv_pick];refine⟨.ref _,_,f.laid (t':=s3.toks) (o:=.lst xs.reverse) (fun b ob q=>W5 _ q) (W9 _) ?_,rfl,q _ (f.hok.fresh (W9 _))⟩
 exact⟨by rw[XQ];exact hz,g.reverse,0,r.reverse,by
  rw[show(g.toArray.toList.reverse).toArray=g.reverse.toArray by simp]
  exact Xg _ rfl⟩
theorem Same.tup {K:W.Frag}{H H':Hp}{a:Addr}{xs:List V}(e:Same H H')(h:SqT K H a xs):SqT K H' a xs:=by rcases h with (h|⟨o,h⟩)|h;exact .inl (.inl (e _ _ h));exact .inl (.inr ⟨o,e _ _ h⟩);exact .inr h
end
section
open PySem.Builtin PySem.Builtin.Str
variable {x:Str}
theorem Qm {n:Nat}{j:Int}(h:(n:Int)<=j):(strSliceIndices none (some j) 1 n).length=n:=by unfold strSliceIndices sliceRange;simp only [show(1:Int)>0 by decide,Zf,Xa,Y4];split <;> (try split) <;> (try split) <;> (try simp only [Int.ediv_one]) <;> lia
theorem Ql {j:Int}(b:0<x.length)(c:1<=j):0<(Txt.slice x none (some j)).length:=by
 have a:x.cps.toList.length=x.length:=by simp [Str.length]
 by_cases h:j<=x.length;have e:=Xv.mp (slice_closes_to (x:=x) (j:=j) ⟨by lia,by rw[a];exact h⟩);rw[e];show 0<(List.toArray _).size;rw[Xf,XJ,Yw,a];lia;have e:Txt.slice x none (some j)=x:=by unfold Txt.slice;rw[Qm (show((x.length:Nat):Int)<=j by lia)];simp
 rw[e];exact b
theorem DF {j:Int}(b:0<=j):((Txt.slice x none (some j)).length:Int)<=j:=by
 have a:x.cps.toList.length=x.length:=by simp [Str.length]
 by_cases h:j<=x.length;have e:=Xv.mp (slice_closes_to (x:=x) (j:=j) ⟨b,by rw[a];exact h⟩);rw[e];show(((List.toArray _).size:Nat):Int)<=j;rw[Xf,XJ,Yw,a];lia;have:=Txt.slice_le x none (some j);lia
theorem RQ {i:Int}(a:0<=i)(h:i<=x.length):((Txt.slice x (some i) none).length:Int)=x.length-i:=by
 have b:x.cps.toList.length=x.length:=by simp [Str.length]
 rw[slice_from_eq a h rfl];show(((List.toArray _).size:Nat):Int)=_;rw[Xf,XJ,Yw,b];omega
end
section
variable {x:Str}{e:Expr}{X:Cx}{es:List Expr}{p:Pos}{CX:lL}
section
variable {k:Nat}{E:XK}{pos:Pos}{c:TE}{t:TA}{j:Addr->Prop}{sp:Addr->Sp}
def DE (j:Addr->Prop)(sp:Addr->Sp)(E:XK)(c:TE)(t:TA):TE:=fun a H Q=>c a H fun fv b=>∃f,fv=.ref f/\j f/\t a b fun d e=>sp f d e Q E
theorem RP (l:∀f,j f->∃a ps,FnOk X.prog X.w X.K X.mg X.base CX k f a ps (sp f)/\PySem.W.keepIn X.K (.ref f)=true/\Binds X.K a ps [])(m:Room k X.A)(n:vq CX X E)(o:PE X (.Name x p) c)
  (y:PA X (e::es) t) (he:starEach (e::es) X.env=(false,eval e X.env)::starEach es X.env:=by rfl) (b:(backTo pos (starEach es X.env)).any (·.1)=false:=by rfl):
  PE X (.Call (.Name x p) (e::es) [] pos) (DE j sp E c t):=by
 intro d s g H Q I h;refine Yy (aw (o d s g H _ I h) fun u z Z=>?_);obtain⟨v,B,C,D,f,G,J,L⟩:=Z;subst G;cases D;obtain⟨a,ps,F,M,N⟩:=l f J;refine PySem.W.callWith_K (h₀:=X.base) I.ok.mod.kin M (aw (y pos d z g B _ C L) fun O P ⟨R,S,i,r,q⟩=>⟨i.kIn,?_⟩) he b;exact DL (dvs:=[]) F m N .nil n i r (by rw[Xm];exact q)
end
inductive Th where
 |at (v:V)
 |tup (xs:List Th)
 |lst (xs:List Th)
def vn:V->Bool
 | .str x=>decide (x.length<=1000)
 |v=>fE v
mutual
inductive b7 (H:Hp):V->Th->Prop where
 |at {v:V} (f:vn v=true):b7 H v (.at v)
 |tup {a:Addr} {vs:List V} {ts:List Th} (h:H a=some (.tup vs)) (r:cJ H vs ts):b7 H (.ref a) (.tup ts)
 |lst {a:Addr} {vs:List V} {ts:List Th} (h:H a=some (.lst vs)) (r:cJ H vs ts):b7 H (.ref a) (.lst ts)
inductive cJ (H:Hp):List V->List Th->Prop where
 |nil:cJ H [] []
 |cons {v:V} {vs:List V} {t:Th} {ts:List Th} (h:b7 H v t) (r:cJ H vs ts):cJ H (v::vs) (t::ts)
end
section
def fN:V->List V->Hp->VK->Prop:=fun x c H Q=>∃l b xs a,x=.ref l/\c=[.ref b]/\H l=some (.lst xs)/\H b=some (.tup a)/\xs.length+a.length<=sizeLine/\Q .non (ak H l (.lst (xs++a)))
theorem VO (l:Addr)(a:Array Value)(n:Nat)(b:Addr)(c:Array Value)(i:Nat)(j:Option Addr)(m:Array (Option Value))(r:¬(!a.isEmpty&&Builtin.List.listTooLong (a.size+c.size))=true)(e:a.size<=sizeLine)(o:a.size+c.size<=sizeLine+1):Meets (Builtin.«list.extend» ⟨[.ref l, .ref b], []⟩) (fun _ R s => s.heap.get? l=some { cls := .type "list", dict := none, data := .seq a n, slots := #[] } /\ s.heap.get? b=some { cls := .type "tuple", dict := j, data := .seq c i, slots := m } /\ R (.ok (.ret Value.none)) { s with heap := s.heap.update l (Obj.mapSeq (· ++ c)), toks := s.toks }) := by
 refine .of_wp fun prog w A R s h=>?_;obtain⟨t,g,d,tk,os⟩:=s;obtain⟨f,p,k⟩:=h;have g1:=AutoSeq1.idx_int;have g2:=AutoSeq1.sub_tuple_tuple;have u:=AutoSeq1.sub_list_list;have v:=AutoSeq1.sub_tuple_list;have x:=AutoSeq1.sub_list_tuple;have q:(a++c).size<=sizeLine+1:=by rw[Array.size_append];exact o
 wp_walk using (wpAny_updateSeq f rfl (hz:=e) (_hz':=q)),AutoSeq1.wpAny_loadPart' f,AutoSeq1.wpAny_loadPart' p
 exact⟨_,rfl,k⟩
theorem Ur:tG X "list.extend" fN:=by
 intro D s E H x G v J Q I k m h;obtain⟨l,b,xs,L,rfl,rfl,g,hB,hz,q⟩:=h;cases k;obtain⟨u,rfl,o⟩:=m.one;cases o;obtain⟨z,c,n,r,M,e⟩:=I.lstM g;obtain⟨a,i,p,t⟩:=I.tuple (SqT.of (K:=X.K) hB);have w:=i.length;obtain⟨⟨N,y,data2,A⟩,f,j,B,d⟩:=id p;simp only at j d;subst j d;have hsz:c.toArray.size+a.toArray.size<=sizeLine:=by rw[Xf,Xf];lia
 have C:¬ (!c.toArray.isEmpty&&Builtin.List.listTooLong (c.toArray.size+a.toArray.size))=true:=by rw[zY hsz,Bool.and_false];exact W6
 refine call_meets F.slot_list_extend ⟨_,e,rfl⟩ F.entry_list_extend (F.args_list_extend_2 _ _)
  (VO l c.toArray n b a.toArray B y A C (by rw[Xf];lia) (by lia)) ⟨e,f,?_⟩
 refine⟨.non,_,I.lset (its':=c++a) g e (by simp) (r.append i) ?_,rfl,q⟩;rw[Xd];lia
end
section
theorem Tn (d:X.A.units<cLine):OpR X (compareOp .Eq) (fun x y H Q=>∃a b xs,x=.ref a/\y=.ref b/\SqL X.K H a xs/\SqL X.K H b []/\Q (.bl xs.isEmpty) H):=by intro p s t H x y v u Q I g i h;obtain⟨a,b,xs,rfl,rfl,k,l,q⟩:=h;cases g;cases i;obtain⟨w,r,pl,hz⟩:=I.list k;obtain⟨f,m,c,n⟩:=I.list l;cases m;cases r with|nil=>refine SeqAt.eq_listAt (e:=fun _=>true) pl.isList c.isList rfl d (fun j h1 o=>absurd o (by simp)) ?_;exact bT I q (by simp)|cons z B=>refine SeqAt.eq_list_lengthsAt pl.isList c.isList (by simp) d ?_;exact bT I q rfl
end
end
section
variable {w:World}{Q:Value->Shared->Prop}{lo c:Option Int}{prog:Program}{j:Addr}{q:Value}{r:Array Value}
section
variable {A:Around}{E:Value->Shared->Prop}{s:Shared}
theorem getItem_tuple_all {t:Addr}{d:Value}(a:IsTup s.heap t r)(e:s.heap.IsSliceOf j q d .none)(pl:IsPart q lo)(g:IsPart d c)
  (f:sIx r.size 0 lo=0/\sIx r.size r.size c=r.size) (h:Q (.ref t) s):wpAny (model prog w) A (getItem (.ref t) (.ref j)) Q E s:=by
 obtain⟨os,b,i,k⟩:=id e;have l:s.TypeIs (.ref j) "slice":=⟨os,b,i⟩;unfold getItem
 try with_reducible refine Yu ?_
 first|refine W3 (Xb ?_)|skip
 refine W3 (wpAny_sequenceKey a.typeIs (by decide) ?_)
 refine W3 (XC (name:=Str.ofString "__getitem__") a.typeIs X1
  (Xz X1 a.typeIs entry_tuple_getitem ?_ (args_tuple_getitem _ _)))
 show wpAny _ _ (Builtin.Tuple.tupleItemsOf (.ref t) >>= _) _ _ s;refine W3 (tupleItemsOf_ a ?_);refine W3 (wpAny_typeOf l ?_);rw[Xk (by decide)];refine W3 (JM e pl g ?_);have n:((((sIx r.size 0 lo:Nat):Int)==0&&(1:Int)==1&&(sIx r.size r.size c-sIx r.size 0 lo)==r.size)=true):=by rw[f.1,f.2];simp
 show wpAny _ _ (if (((sIx r.size 0 lo:Nat):Int)==0&&(1:Int)==1&&(sIx r.size r.size c-sIx r.size 0 lo)==r.size)=true then _ else _) _ _ s;rw[Xk n];refine W3 (m:=Builtin.Tuple.tupleIsExact _) (W3 (wpAny_typeOf a.typeIs (Xb ?_)));rw[Xk (by decide)];refine W3 (Y0 ?_);exact Xb ⟨_,rfl,Xb h⟩
end
end
section
variable {xs:List V}{H:Hp}{a it l:Addr}{P prog:Program}{w:World}{h':Heap}{e:Expr}{X:Cx}{j:List (Addr×Obj)}{B:St}{t':Nat}{K:W.Frag}{lo c:Option Int}{r:List Expr}
section
theorem RO (h:sIx xs.length 0 lo=0/\sIx xs.length xs.length c=xs.length):jQ xs lo c=xs:=by unfold jQ;rw[h.1,h.2,drop_zero,Nat.sub_zero,YX (W9 _)]
def CB (K:W.Frag):R2:=fun x y H Q=>∃a n xs,x=.ref a/\y=.int n/\SqT K H a xs/\xs ≠ []/\2<=n/\n<=1000/\xs.length<=1000/\∀p,H p=none->Q (.ref p) (ak H p (.tup (List.replicate n.toNat xs).flatten))
theorem VN:fillsNumberSlot (.type "tuple") "mul"=pure false:=PySem.fillsNumberSlot_seq (id:="tuple.__mul__") (r:=some (.builtin "tuple.__rmul__")) F.slot_tuple_mul.lookup (by decide+kernel) F.slot_tuple_rmul.lookup (by decide+kernel)
theorem Vh:seqRepeat? (.type "tuple")=pure (some (.builtin "tuple.__mul__")):=by unfold seqRepeat?;rw[PySem.seqSlot_of (T:="tuple") (name:="__mul__") (id:="tuple.__mul__") F.slot_tuple_mul.lookup (by decide+kernel),PySem.seqSlot_of (T:="tuple") (name:="__rmul__") (id:="tuple.__rmul__") F.slot_tuple_rmul.lookup (by decide+kernel)];rfl
theorem Vg (a:Int)(t:Tok)(l:Addr)(o:Obj)(b:Array Value)(n:Nat)(c:o.cls=.type "tuple")(hd:o.data=.seq b n):Meets (Builtin.«int.__rmul__» ⟨[.int a t, .ref l], []⟩) (fun _ R s => s.heap.get? l=some o /\ R (.ok (.ret Value.notImplemented)) s) :=.of_wp fun prog w A R s h=>by obtain⟨e,g,d,tk,os⟩:=s;obtain⟨f,h⟩:=h;cases o;cases c;cases hd;wp_walk;exact⟨_,rfl,h⟩
theorem Qk:OpR X (binaryOp .Mult) (CB X.K):=by
 intro j s B H x y v u Q I i l h;obtain⟨a,k,xs,rfl,rfl,p,w,S,z,V,q⟩:=h;cases i;obtain⟨t,rfl⟩:=l;obtain⟨c,r,f,hz⟩:=I.tuple p;obtain⟨o,A,C,n,D⟩:=id f;have d:c.toArray.size=xs.length:=by rw[Xf];exact r.length.symm
 have W:0<xs.length:=YL.mpr w;refine wpAny_binaryOp_repeat_ref (T:="tuple") (U:="int") (by decide) f.typeIs (fun E=>typeIs_int E k t) VN F.fills_int_mul F.slot_int_rmul Vh F.slot_int_index.lookup
  (call_meets F.slot_int_rmul (typeIs_int s k t) F.entry_int_rmul (F.args_int_rmul_2 _ _) (Vg k t a o _ n C D)
   ⟨A,rfl,f.typeIs,?_⟩)
 refine Xz F.slot_tuple_mul f.typeIs F.entry_tuple_mul ?_ (F.args_tuple_mul_2 _ _);show wpAny _ _ (asIndex (.int k t) >>= _) _ _ s;refine W3 (Zl (show asIndex (.int k t)=pure k from rfl) ?_);have G:¬ (decide (k < -2 ^ 63)||decide (k ≥ 2 ^ 63))=true:=by rw[Bool.or_eq_true,XI,XI];lia
 have g:c.toArray.isEmpty=false:=by cases c with|nil=>rw[Xf] at d;simp at d;lia|cons _ _=>simp
 have J:¬ (c.toArray.isEmpty||k==1)=true:=by rw[g,Bool.false_or,Xv];lia
 have L:¬ (decide (k<=0)||c.toArray.isEmpty)=true:=by rw[g,Bool.or_false,XI];lia
 have Y:(c.toArray.size:Int)*k<=1000*1000:=Int.mul_le_mul (by lia) z (by lia) (by decide);have M:¬ (c.toArray.size:Int)*k>(2 ^ 63-1) / 8:=by lia
 have N:¬Builtin.Tuple.tupleTooMany ((c.toArray.size:Int)*k)=true:=by unfold Builtin.Tuple.tupleTooMany;rw[XI];have:sizeLine=16777216:=XD;lia
 rw[Xh G];refine W3 (tupleItemsOf_ f ?_);rw[Xh J,Xh L,Xh M,Xh N];have O:List.foldl (fun P R=>P++R) #[] (List.replicate k.toNat c.toArray)=(List.replicate k.toNat c).flatten.toArray:=by have:=Ag c k.toNat [];rw[XM] at this;exact this
 rw[O];have e:(List.replicate k.toNat c).flatten.length<=sizeLine:=by rw[vR];have:sizeLine=16777216:=XD;have Z:k.toNat*c.length<=1000*1000:=Nat.mul_le_mul (by lia) (by rw[Xf] at d;lia);lia
 refine W3 (m:=Builtin.Tuple.tupleExact _) (Xo ?_ (by show _<=sizeLine;rw[Xf];exact e));refine Xb ⟨_,rfl,?_⟩;refine⟨.ref s.heap.objs.size,_,I.laid (t':=s.toks) (o:=.tup (List.replicate k.toNat xs).flatten) (fun b ob q=>W5 _ q) (W9 _) ?_,rfl,q _ (I.hok.fresh (W9 _))⟩;exact⟨by rw[vR];rw[vR] at e;rw[r.length];exact e,_,r.rep k.toNat,IsTupN.new _ _⟩
theorem RN (e:X.calm=true):gy X (.builtin "sum") (fun xs H Q=>∃(a:Addr)(ns:List Int),xs=[.ref a]/\SqL X.K H a (ns.map V.int)/\Q (.int ns.sum) H):=by
 intro j s B H xs o Q I r h;obtain⟨a,ns,rfl,f,q⟩:=h;obtain⟨u,rfl,g⟩:=jf r;cases g;obtain⟨i,k,pl,hz⟩:=I.list f;have c:=Ux k;obtain⟨d,b⟩:=c.allInts.items;have l:(intItems d).toList=i:=by rw[<- b]
 have m:preSum (numAt d) d.size=ns.sum:=by rw[preSum_eq,YX (by simp),<- nums_intItems,l,c.numsOf]
 refine sum_intListG (I.ok.hd e) (b▸pl.isList) fun h' tk t' n=>?_;rw[m];exact⟨.int ns.sum,H,I.kept n,⟨_,rfl⟩,q⟩
def qH:V->Option Int->Option Int->Hp->VK->Prop:=fun x lo c H Q=>∃a xs,x=.ref a/\H a=some (.tup xs)/\∀p H',Same H H'->H' p=some (.tup (jQ xs lo c))->Q (.ref p) H'
theorem sl_tupP:SlR X qH:=by
 intro j s B H x v l m lo c n Q I f g pl i h;obtain⟨a,xs,rfl,d,q⟩:=h;by_cases e:sIx xs.length 0 lo=0/\sIx xs.length xs.length c=xs.length;cases f;obtain⟨o,r,k,hz⟩:=I.tuple (SqT.of d);have b:o.toArray.size=xs.length:=by rw[Xf];exact r.length.symm
 refine⟨"tuple",_,PyProof.Rows.slot_tuple_getitem.lookup,k.typeIs,?_⟩;refine getItem_tuple_all k g pl i (by rw[b];exact e) ?_;exact⟨.ref a,H,I,rfl,q a H (Same.refl H) (by rw[RO e];exact d)⟩;exact Oh j s B H (.ref a) v l m lo c n Q I f g pl i ⟨a,xs,rfl,SqT.of d,e,fun p t=>q p _ (c9 t) aJ⟩
def l8:R2:=fun x y H Q=>∃a b xs c,x=.ref a/\y=.ref b/\H a=some (.tup xs)/\H b=some (.tup c)/\xs.length+c.length<=sizeLine ∧∀p H',Same H H'->H' p=some (.tup (xs++c))->Q (.ref p) H'
theorem Qj:OpR X (binaryOp .Add) l8:=by
 intro j s B H x y v u Q I g i h;obtain⟨a,b,xs,z,rfl,rfl,e,f,hz,q⟩:=h;by_cases k:xs=[];subst k;cases g;cases i;obtain⟨N,A,C,_⟩:=I.tuple (SqT.of e);obtain⟨l,O,D,_⟩:=I.tuple (SqT.of f);cases A;obtain⟨⟨cls,E,data,G⟩,m,o,n,hd⟩:=id C;obtain⟨⟨r,J,data2,K⟩,c,t,L,d⟩:=id D;simp only at o hd t d;subst o hd t d;exact concat_meets ⟨_,m,rfl⟩ ⟨_,c,rfl⟩ noFill_tuple_add seq_tuple_add PySem.F.slot_tuple_add PySem.F.entry_tuple_add (PySem.F.args_tuple_add_2 _ _)
  (tuple_addW0 a b _ _ n L E J G K (by simp)) ⟨m,c,⟨.ref b,H,I,rfl,q b H (Same.refl H) f⟩⟩
 refine Qr j s B H (.ref a) (.ref b) v u Q I g i ⟨a,b,xs,z,rfl,rfl,SqT.of e,SqT.of f,k,hz,fun w=>?_,fun w p M=>?_⟩;subst w;exact q a H (Same.refl H) (by rw[Xm];exact e);exact q p _ (c9 M) aJ
theorem zg {v:V}(h:mR e=some v):PE X e (tC v):=by cases e with|Constant c j p=>(cases c with|int i=>(cases h;exact jh)|str x=>(cases h;exact DV)|bool b=>(cases h;exact MX)|none=>(cases h;exact Ox)|_=>cases h)|_=>cases h
end
theorem Uq {A:Around}{E:Value->Shared->Prop}{s:Shared}{e:Addr}(p:e≠it)(d:l≠e)(q:l≠it){a:Array Value}{i:Nat}{Q:Option Value->Shared->Prop}(c:i<a.size)
  (r:(∃g,IsEnum s.heap e it i g)/\s.heap.IsListIter it l i/\s.heap.IsList l a)
  (u:∀T vals h' tk,(∃t x,a[i]?=some x/\vals = #[.int i t,x])->s.heap.objs.size<=T->IsTupN h' T vals->((∃x,IsEnumOut h' e it ((i:Int)+1) x T)/\h'.IsListIter it l (i+1)/\h'.IsList l a/\T≠e/\T≠it)->(∀b o,b ∉ [e,it]->s.heap.get? b=some o->h'.get? b=some o)->Q (some (.ref T)) { s with heap:=h',toks:=tk }):
  wpAny (model prog w) A (pyNext (.ref e)) Q E s:=by
 obtain⟨⟨g,he⟩,h,j⟩:=r;have k:a[i]?=some a[i]:=Array.getElem?_eq_getElem c;refine wpAny_pyNext_enum_item he h j k p fun h' v y z hsz m=>?_;have B:e<s.heap.objs.size:=Xi he;have C:it<s.heap.objs.size:=by obtain⟨_,x,_⟩:=h;exact Xi x
 exact u s.heap.objs.size #[.int i s.toks,a[i]] h' (s.toks+1) ⟨_,_,k,rfl⟩ (W9 _) ⟨_,z,rfl,_,rfl,rfl⟩
  ⟨⟨_,v⟩,y,j.at fun o x=>m l o d q x,YE B,YE C⟩
  fun b o n x=>m b o (fun f=>n (by simp [f])) (fun f=>n (by simp [f])) x
section
variable {s:Shared}
theorem Inv.turnedL {ch:List Addr}(I:Inv X j B H s)(k:∀b o,b∉ch->s.heap.get? b=some o->h'.get? b=some o)(d:∀b∈ch,bW X j H b):Inv X j B H { s with heap:=h',toks:=t' }:=by
 have f:∀b u,H b=some u->b∉ch:=fun b u e z=>by rw[(d b z).1] at e;cases e
 refine I.step (g':=s.gens) (d':=s.drawn) (ch:=ch) (fun b g=>?_) (fun b o _ _ a e _=>k b o a e) (fun b o _ _ a e _=>⟨o.slots,k b o a e⟩) (fun _ _ _ _ n=>n)
  (fun b o a e=>⟨o,k b o a e⟩) (fun _ _ e=>e) (fun _ _ _ e=>e) (fun b ps e=>⟨#[],by rw[e];simp⟩) (fun m h=>?_) (fun b u e=>?_) I.bare
 obtain⟨w,f1,x,i,l,p⟩:=d b g;exact⟨i,f1,l,p⟩;obtain⟨o,es,ep,t,r⟩:=h;exact⟨o,es,ep,k _ o (fun z=>(d _ z).2.1 rfl) t,r⟩;refine(I.hok b u e).stay (fun c v a q=>k c v ?_ q) (fun _ q=>q) fun _ _ q=>q;rcases a with z|z;rw[z];exact f b u e;exact f c _ z
theorem Inv.turnedLaid {ch:List Addr}{o:HO}(I:Inv X j B H s)(k:∀b o,b∉ch->s.heap.get? b=some o->h'.get? b=some o)(h:∀b∈ch,bW X j H b)(i:s.heap.objs.size<=a)(new:ObjOk X.prog X.w (ak H a o) h' a o):Inv X j B (ak H a o) { s with heap:=h',toks:=t' }:=by
 have l:∀b u,H b=some u->b∉ch:=fun b u e z=>by rw[(h b z).1] at e;cases e
 have p:H a=none:=I.hok.fresh i;have f:∀b u,H b=some u->ak H a o b=some u:=fun b u e=>by rw[ay (bL e p)];exact e
 refine I.step (g':=s.gens) (d':=s.drawn) (ch:=ch) (fun b g=>?_) (fun b o _ _ d e _=>k b o d e) (fun b o _ _ d e _=>⟨o.slots,k b o d e⟩) (fun b u _ e n=>?_)
  (fun b o d e=>⟨o,k b o d e⟩) (fun _ _ e=>f _ _ e) (fun _ _ _ e=>f _ _ e) (fun b ps e=>⟨#[],by rw[f _ _ e];simp⟩) (fun m t=>?_) (fun b u e=>?_) I.bare
 obtain⟨D,f1,E,x,y,A⟩:=h b g;exact⟨x,f1,y,A⟩;rw[ay (fun z=>by subst z;exact absurd (Xx (Xi e) i) (X7 _))];exact n;obtain⟨o,es,ep,C,r⟩:=t;exact⟨o,es,ep,k _ o (fun z=>(h _ z).2.1 rfl) C,r⟩;by_cases g:b=a;subst g;rw[aJ] at e;cases e;exact new;rw[ay g] at e;refine(I.hok b u e).stay (fun c v d q=>k c v ?_ q) (fun c q=>f _ _ q) fun c xs q=>f _ _ q;rcases d with z|z;rw[z];exact l b u e;exact l c _ z
end
def K9 (K:W.Frag)(a:Addr):It:=⟨fun i H=>∃xs x,SqL K H a xs/\xs[i]?=some x,fun i H v H'=>∃T x,v=.ref T/\H T=none/\(∀xs,SqL K H a xs->xs[i]?=some x)/\H'=ak H T (.tup [.int i,x]),fun i H=>∃xs,SqL K H a xs/\xs.length=i⟩
theorem Tj {k:Nat}{pos:Pos}(a e it:Addr)(b9:e≠it):cA P w K (.Tuple r k pos) (K9 K a) [e,it] e (fun i h=>(∃bN,IsEnum h e it (i:Nat) bN)/\h.IsListIter it a i) where
 mem:=by simp
 obj:=fun i h st b hb=>by
  obtain⟨⟨bN,s1⟩,o,s2,_,s3⟩:=st;rcases Xj.mp hb with z|z;subst z;exact⟨_,s1,fun v z=>by cases z⟩;have z:b=it:=by simpa using z
  subst z;exact⟨o,s2,fun v z=>by rw[s3] at z;cases z⟩
 keep:=fun i h h' st k=>by obtain⟨⟨bN,s1⟩,s2⟩:=st;exact⟨⟨bN,k e (by simp) _ s1⟩,s2.at fun o e=>k it (by simp) o e⟩
 item:=by
  intro X hP hw hK hc i j s B H E I hf st hg;subst hP hw hK;obtain⟨xs,x,hq,hx⟩:=hg;obtain⟨ae,rv,p,hz⟩:=I.list hq;obtain⟨u,hu,ru⟩:=rv.get hx;have lh:a≠e:=fun z=>by obtain⟨⟨bN,s1⟩,_⟩:=st;obtain⟨o,q1,q2,_⟩:=p.isList;rw[z,s1] at q1;cases q1;injection q2 with q2;exact absurd q2 (by decide)
  have lg:a≠it:=fun z=>by obtain⟨_,o',s2,s3,_⟩:=st;obtain⟨o,q1,q2,_⟩:=p.isList;rw[z,s2] at q1;cases q1;rw[s3] at q2;injection q2 with q2;exact absurd q2 (by decide)
  have W:=WalksT.enumerate (prog:=X.prog) (w:=X.w) (I.ok.hd hc) e it a b9 lh lg ae.toArray;have c:i<ae.toArray.size:=by rw[Xf];exact(Xe.mp hu).1
  refine Uq b9 lh lg c ⟨st.1,st.2,p.isList⟩ fun T vals h' tk hv hT nU qS kk=>?_;obtain⟨t,x',et,rfl⟩:=hv;have ex:x'=u:=by
   have:ae.toArray[i]?=some u:=by simpa using hu
   rw[this] at et;exact(Xt et).symm
  subst ex;refine⟨_,rfl,W.go r k pos i T _ _ _ qS fun BN jq qU=>?_⟩;have rH:T ∉ [e,it]:=W.apart i T _ qS;have dJ:H T=none:=I.hok.fresh hT;refine⟨.ref T,_,I.turnedLaid (a:=T) (o:=.tup [.int i,x]) (ch:=[e,it]) (fun b o hb q=>qU b o hb (kk b o hb q)) hf hT ?_,rfl,⟨T,x,rfl,dJ,fun ys hy=>by rw[I.list_inj hy hq];exact hx,rfl⟩,⟨jq.1,jq.2.1⟩,fun b hb=>?_⟩;refine⟨by show 2<=sizeLine;decide,[Value.int (i:Nat) t,x'],.cons ⟨t,rfl⟩ (.cons ru .nil),?_⟩;obtain⟨o,q1,q2⟩:=nU;exact⟨o,qU T o rH q1,q2⟩;rw[ay (fun z=>rH (by rw[<- z];exact hb))];exact(hf b hb).1
 done:=by
  intro X hP hw hK hc i j s B H E I hf st hg;subst hP hw hK;obtain⟨xs,hq,hx⟩:=hg;obtain⟨ae,rv,p,hz⟩:=I.list hq;have lh:a≠e:=fun z=>by obtain⟨⟨bN,s1⟩,_⟩:=st;obtain⟨o,q1,q2,_⟩:=p.isList;rw[z,s1] at q1;cases q1;injection q2 with q2;exact absurd q2 (by decide)
  have lg:a≠it:=fun z=>by obtain⟨_,o',s2,s3,_⟩:=st;obtain⟨o,q1,q2,_⟩:=p.isList;rw[z,s2] at q1;cases q1;rw[s3] at q2;injection q2 with q2;exact absurd q2 (by decide)
  have W:=WalksT.enumerate (prog:=X.prog) (w:=X.w) (I.ok.hd hc) e it a b9 lh lg ae.toArray;have hl:=rv.length;have c:i=ae.toArray.size:=by rw[Xf];lia
  subst c;exact W.done s _ _ ⟨st.1,st.2,p.isList⟩ fun h' tk kk=>⟨rfl,I.turnedL (ch:=[e,it]) (fun b o hb q=>kk b o hb q) hf⟩
 self:=by intro A i s Q E st h;obtain⟨⟨bN,s1⟩,_⟩:=st;exact wpAny_pyIter_enum s1 h
end
section
open PySem.Builtin PySem.AutoSeq1
variable {P prog:Program}{w:World}{c:Type}{j:Array Value}
section
variable {B:Around}{G:Value->Shared->Prop}{z:Shared}
theorem HR {a tp:Addr}{n:Nat}{y:Value}{R:Value->Shared->Prop}(g:z.heap.IsTupleIter a tp n)(t:z.heap.IsTuple tp j)(c:j[n]?=some y)
  (q:∀k,k.IsTupleIter a tp (n+1)->Heap.SameBut a z.heap k->R y { z with heap:=k }):wpAny (model P w) B (SmallTypes.nextOf (.ref a)) R G z:=by
 obtain⟨f,g1,g2,b⟩:=id g;obtain⟨h,d,i,m,e⟩:=t;unfold SmallTypes.nextOf;refine W3 (XC (name:=Str.ofString "__next__") g.typeIs Y1 (Xz Y1 g.typeIs F.entry_tuple_iterator_next ?_ (F.args_tuple_iterator_next_1 _)));show wpAny _ _ (field (.ref a) 0 >>= _) _ _ z;refine W3 (XB g1 b (x:=.ref tp) rfl ?_);show wpAny _ _ (if (Value.ref tp==Value.none)=true then _ else _) _ _ z;rw[Xh (show ¬ ((Value.ref tp==Value.none)=true) from W6)];show wpAny _ _ (field (.ref a) 1 >>= _) _ _ z;refine W3 (XB g1 b (x:=.int n 0) rfl ?_);show wpAny _ _ (seqItems? (.ref tp) >>= _) _ _ z;refine W3 (Yn d e ?_);simp only [Yj,c];refine W3 (YI g1 b (by simp) (Xb ⟨y,rfl,Xb (q _ ?_ (X9 ..))⟩));exact⟨_,Ym _ g1 (YW (X4 b _)),(Obj.cls_mapFields ..).trans g2,by rw[X4 b];simp [rawInt]⟩
theorem Hb {b tp:Addr}{n:Nat}{R:Value->Shared->Prop}(d:B.handled=none)(g:z.heap.IsTupleIter b tp n)(t:z.heap.IsTuple tp j)(f:j[n]?=none)
  (q:∀k e,Heap.ExtBut b z.heap k->(∃o,k.get? e=some o/\o.cls=.type "StopIteration")->G (.ref e) { z with heap:=k }):wpAny (model P w) B (SmallTypes.nextOf (.ref b)) R G z:=by
 obtain⟨l,g1,g2,c⟩:=id g;obtain⟨p,h,r,m,i⟩:=t;unfold SmallTypes.nextOf;refine W3 (XC (name:=Str.ofString "__next__") g.typeIs Y1 (Xz Y1 g.typeIs F.entry_tuple_iterator_next ?_ (F.args_tuple_iterator_next_1 _)));show wpAny _ _ (field (.ref b) 0 >>= _) _ _ z;refine W3 (XB g1 c (x:=.ref tp) rfl ?_);show wpAny _ _ (if (Value.ref tp==Value.none)=true then _ else _) _ _ z;rw[Xh (show ¬ ((Value.ref tp==Value.none)=true) from W6)];show wpAny _ _ (field (.ref b) 1 >>= _) _ _ z;refine W3 (XB g1 c (x:=.int n 0) rfl ?_);show wpAny _ _ (seqItems? (.ref tp) >>= _) _ _ z;refine W3 (Yn h i ?_);simp only [Yj,f];refine W3 (Y0 (W3 (YI g1 c (by simp) ?_)));refine W3 (m:=newExc (.type "StopIteration") []) ?_;simp only [newExc,newTuple];refine W3 (Xo ?_ (by size_fits));refine W3 (m:=firstArgMember _ _) (Zl (a:=Value.none) (by first|rfl | (simp only [firstArgMember];rfl)) ?_);refine Xo ?_ (by size_fits)
 delta raiseNew;refine W3 (wpAny_handled ?_)
 first|rw[show B.in1.handled=none from d] | rw[d]
 refine W3 (Xb (wpAny_throw ?_));exact q _ _ (((X9 ..).extBut.push _).push _) ⟨_,Xg _ rfl,rfl⟩
theorem y9 (hb:B.handled=none)(gi tp:Addr)(b9:tp≠gi)(j:Array Value):Draws P w B gi [gi,tp] j.size (fun i v=>j[i]?=some v) (fun i k=>k.IsTupleIter gi tp i/\k.IsTuple tp j) where
 live:=fun _ _ st=>let ⟨o,ho,_⟩:=st.1;⟨o,ho⟩
 frame:=fun _ _ _ st k=>⟨st.1.at fun o e=>k gi (by simp) o e,let ⟨o,q1,q2⟩:=st.2;⟨o,k tp (by simp) o q1,q2⟩⟩
 item:=fun i z R G hi st q=>by refine HR st.1 st.2 (y:=j[i]) (by simp [hi]) fun k g sb=>?_;refine q _ k z.toks (by simp [hi]) ⟨g,?_⟩ sb;obtain⟨o,q1,q2⟩:=st.2;exact⟨o,(sb.2 tp b9).trans q1,q2⟩
 done:=fun z R G st q=>Hb hb st.1 st.2 (by simp) q
theorem Lo {A:Around}{a:c}{Q:c->Shared->Prop}{E:Value->Shared->Prop}{s:Shared}(h:∀a,Q a s):wpAny (model prog w) A (pure a) Q E s:=Xb (h a)
theorem Ti (tp:Addr)(j:Array Value)(n:Nat)(f:Option Addr)(i:Array (Option Value)):Meets (Builtin.«enumerate.__new__» ⟨[.type "enumerate", .ref tp], []⟩) (fun _ R s => s.heap.get? tp=some { cls := .type "tuple", dict := f, data := .seq j n, slots := i } ∧R (.ok (.ret (.ref (s.heap.push { cls:=.type "tuple_iterator",data:=.fields #[.ref tp,.int 0 0] }).objs.size)))
    { s with heap:=(s.heap.push { cls:=.type "tuple_iterator",data:=.fields #[.ref tp,.int 0 0] }).push { cls:=.type "enumerate",data:=.fields #[.none,.bool false,.ref s.heap.objs.size,rawInt 0,.none,.none] } }):=
 .of_wp fun prog w A R s h=>by
  obtain⟨k,g,d,tk,os⟩:=s;obtain⟨a,h⟩:=h;have c:=sub_enumerate;have e:Heap.IsTuple (Shared.heap ⟨k,g,d,tk,os⟩) tp j:=⟨_,a,rfl,n,rfl⟩;wp_walk using wpAny_loadPart' a
  refine wpAny_stack_any fun st=>Lo fun b=>?_;cases b;wp_walk using wpAny_loadPart' a,Zi e
  exact⟨_,rfl,h⟩;wp_walk using wpAny_loadPart' a,Zi e
  exact⟨_,rfl,h⟩
theorem Up {tp:Addr}{R:Value->Shared->Prop}(t:z.heap.IsTuple tp j)
  (h:∀k,IsEnum k (z.heap.objs.size+1) z.heap.objs.size 0 .none->k.IsTupleIter z.heap.objs.size tp 0->(∀b o,z.heap.get? b=some o->k.get? b=some o)->R (.ref (z.heap.objs.size+1)) { z with heap:=k }):
  wpAny (model P w) B (call (.type "enumerate") [.ref tp]) R G z:=by
 obtain⟨⟨c,e,i,f⟩,g,a,n,d⟩:=t;simp only at a d;subst a d;refine callType_new F.called_enumerate (by decide) (F.typeCall_enumerate_1 _) (F.newCall_enumerate_1 _) (fun obj=>F.args_object_init_2 obj _) F.entry_enumerate_new (Ti tp j n e f) ⟨g,?_⟩;have hz:(z.heap.push { cls:=.type "tuple_iterator",data:=.fields #[.ref tp,.int 0 0] }).objs.size=z.heap.objs.size+1:=YB ..;show _/\_;rw[hz];have he:=Xg (z.heap.push { cls:=.type "tuple_iterator",data:=.fields #[.ref tp,.int 0 0] }) (o:={ cls:=.type "enumerate",data:=.fields #[.none,.bool false,.ref z.heap.objs.size,rawInt 0,.none,.none] }) rfl;rw[hz] at he;exact⟨⟨_,he,rfl⟩,h _ he ⟨_,W5 _ (Xg _ rfl),rfl,rfl⟩ fun b o x=>W5 _ (W5 _ x)⟩
end
end
section
variable {H H':Hp}{P prog:Program}{w:World}{X:Cx}{c:List (Addr×Obj)}{j:St}{it:Addr}{K:W.Frag}{p:Pos}{fp:List Addr}{C:List Expr}
theorem UU {A:Around}{E:Value->Shared->Prop}{s:Shared}{n:Nat}{P:Nat->Value->Prop}{St:Nat->Heap->Prop}(D:Draws prog w A.in1 it fp n P St){e:Addr}(h:e≠it)(j:e∉fp)(z:it∈fp){i:Nat}{Q:Option Value->Shared->Prop}(k:i<n)
  (l:(∃f,IsEnum s.heap e it i f)/\St i s.heap) (a:it<s.heap.objs.size)
  (m:∀T vals h' tk,(∃t x,P i x/\vals = #[.int i t,x])->s.heap.objs.size<=T->IsTupN h' T vals->((∃x,IsEnumOut h' e it ((i:Int)+1) x T)/\St (i+1) h'/\T≠e/\T≠it)->(∀b o,b ∉ [e,it]->s.heap.get? b=some o->h'.get? b=some o)->Q (some (.ref T)) { s with heap:=h',toks:=tk }):
  wpAny (model prog w) A (pyNext (.ref e)) Q E s:=by
 obtain⟨⟨f,he⟩,p⟩:=l;refine wpAny_pyNext_enum_itemD D he p k h j fun x h' tk q r c u hsz v=>?_;have y:e<s.heap.objs.size:=Xi he
 exact m s.heap.objs.size #[.int i tk,x] h' (tk+1) ⟨_,_,q,rfl⟩ (W9 _) ⟨_,u,rfl,_,rfl,rfl⟩ ⟨⟨_,r⟩,c,YE y,YE a⟩
  fun b o g x=>v b o (fun d=>g (by simp [d])) (fun d=>g (by simp [d])) x
def K8 (K:W.Frag)(a:Addr):It:=⟨fun i H=>∃xs x,SqT K H a xs/\xs[i]?=some x,fun i H v H'=>∃T x,v=.ref T/\H T=none/\(∀xs,SqT K H a xs->xs[i]?=some x)/\H'=ak H T (.tup [.int i,x]),fun i H=>∃xs,SqT K H a xs/\xs.length=i⟩
theorem Uo {k:Nat}{pos:Pos}(a e it:Addr)(b9:e≠it):cA P w K (.Tuple C k pos) (K8 K a) [e,it] e (fun i h=>(∃bN,IsEnum h e it (i:Nat) bN)/\h.IsTupleIter it a i) where
 mem:=by simp
 obj:=fun i h st b hb=>by
  obtain⟨⟨bN,s1⟩,o,s2,_,s3⟩:=st;rcases Xj.mp hb with z|z;subst z;exact⟨_,s1,fun v z=>by cases z⟩;have z:b=it:=by simpa using z
  subst z;exact⟨o,s2,fun v z=>by rw[s3] at z;cases z⟩
 keep:=fun i h h' st k=>by obtain⟨⟨bN,s1⟩,s2⟩:=st;exact⟨⟨bN,k e (by simp) _ s1⟩,s2.at fun o e=>k it (by simp) o e⟩
 item:=by
  intro X hP hw hK hc i c s j H E I hf st hg;subst hP hw hK;obtain⟨xs,x,hq,hx⟩:=hg;obtain⟨ae,rv,p,hz⟩:=I.tuple hq;obtain⟨u,hu,ru⟩:=rv.get hx;have p':s.heap.IsTuple a ae.toArray:=p;have lh:a≠e:=fun z=>by obtain⟨⟨bN,s1⟩,_⟩:=st;obtain⟨o,q1,q2,_⟩:=p';rw[z,s1] at q1;cases q1;injection q2 with q2;exact absurd q2 (by decide)
  have lg:a≠it:=fun z=>by obtain⟨_,o',s2,s3,_⟩:=st;obtain⟨o,q1,q2,_⟩:=p';rw[z,s2] at q1;cases q1;rw[s3] at q2;injection q2 with q2;exact absurd q2 (by decide)
  have W:=WalksT.enumerateD (prog:=X.prog) (w:=X.w) (A:=X.A) (y9 (B:=X.A.in1) (I.ok.hd hc) it a lg ae.toArray) e b9 (by simp [b9,Ne.symm lh]) (by simp);have hi:i<ae.toArray.size:=by rw[Xf];exact(Xe.mp hu).1
  refine UU (y9 (B:=X.A.in1) (I.ok.hd hc) it a lg ae.toArray) b9 (by simp [b9,Ne.symm lh]) (by simp) hi ⟨st.1,st.2,p'⟩ (by obtain⟨_,y,_⟩:=st.2;exact Xi y) fun T vals h' tk hv hT nU qS kk=>?_;obtain⟨t,x',et,rfl⟩:=hv;have ex:x'=u:=by
   have:ae.toArray[i]?=some u:=by simpa using hu
   rw[this] at et;exact(Xt et).symm
  subst ex;refine⟨_,rfl,W.go C k pos i T _ _ _ qS fun BN jq qU=>?_⟩;have rH:T ∉ [e,it]:=W.apart i T _ qS;have dJ:H T=none:=I.hok.fresh hT;refine⟨.ref T,_,I.turnedLaid (a:=T) (o:=.tup [.int i,x]) (ch:=[e,it]) (fun b o hb q=>qU b o hb (kk b o hb q)) hf hT ?_,rfl,⟨T,x,rfl,dJ,fun ys hy=>by rw[I.tuple_inj hy hq];exact hx,rfl⟩,⟨jq.1,jq.2.1⟩,fun b hb=>?_⟩;refine⟨by show 2<=sizeLine;decide,[Value.int (i:Nat) t,x'],.cons ⟨t,rfl⟩ (.cons ru .nil),?_⟩;obtain⟨o,q1,q2⟩:=nU;exact⟨o,qU T o rH q1,q2⟩;rw[ay (fun z=>rH (by rw[<- z];exact hb))];exact(hf b hb).1
 done:=by
  intro X hP hw hK hc i c s j H E I hf st hg;subst hP hw hK;obtain⟨xs,hq,hx⟩:=hg;obtain⟨ae,rv,p,hz⟩:=I.tuple hq;have p':s.heap.IsTuple a ae.toArray:=p;have lh:a≠e:=fun z=>by obtain⟨⟨bN,s1⟩,_⟩:=st;obtain⟨o,q1,q2,_⟩:=p';rw[z,s1] at q1;cases q1;injection q2 with q2;exact absurd q2 (by decide)
  have lg:a≠it:=fun z=>by obtain⟨_,o',s2,s3,_⟩:=st;obtain⟨o,q1,q2,_⟩:=p';rw[z,s2] at q1;cases q1;rw[s3] at q2;injection q2 with q2;exact absurd q2 (by decide)
  have W:=WalksT.enumerateD (prog:=X.prog) (w:=X.w) (A:=X.A) (y9 (B:=X.A.in1) (I.ok.hd hc) it a lg ae.toArray) e b9 (by simp [b9,Ne.symm lh]) (by simp);have hl:=rv.length;have hi:i=ae.toArray.size:=by rw[Xf];lia
  subst hi;exact W.done s _ _ ⟨st.1,st.2,p'⟩ fun h' tk kk=>⟨rfl,I.turnedL (ch:=[e,it]) (fun b o hb q=>kk b o hb q) hf⟩
 self:=by intro A i s Q E st h;obtain⟨⟨bN,s1⟩,_⟩:=st;exact wpAny_pyIter_enum s1 h
section
def CA (K:W.Frag)(c:TA):TI:=fun j H R=>c j H fun d b=>∃a,d=[.ref a]/\(((∃xs,SqL K b a xs)/\R (K9 K a) b)∨((∃xs,SqT K b a xs)/\R (K8 K a) b))
theorem Qi {a:Expr}{x:TA}{pos q:Pos}{kn:Nat}(E:Gl X "enumerate")(F:X.mg "enumerate"=none)(G:PA X [a] x)(L:starEach [a] X.env=[(false,eval a X.env)]:=by rfl):PI X (.Tuple C kn q) (.Call (.Name "enumerate" p) [a] [] pos) (CA X.K x):=by
 intro c s j H R I h;refine Call_ (mZ I E F boot_enumerate (Yh (aw (G pos c s j H _ I h) fun Q d Z=>?_) L rfl));obtain⟨S,y,f,M,t⟩:=Z;obtain⟨l,e,t⟩:=t;subst e;cases M with
 |cons r N=>
  cases N;cases r;have B:∀{k:Heap}{J:It}{n:Nat->Heap->Prop},(∀b o,d.heap.get? b=some o->k.get? b=some o)->IsEnum k (d.heap.objs.size+1) d.heap.objs.size 0 .none →cA X.prog X.w X.K (.Tuple C kn q) J [d.heap.objs.size+1,d.heap.objs.size] (d.heap.objs.size+1) n->n 0 k->R J y →wpAny (model X.prog X.w) X.A (pyIter (.ref (d.heap.objs.size+1))) (A3 X c j (.Tuple C kn q) R) X.xe { d with heap:=k }:=fun {k J n} i g T t0 m=>by
   refine wpAny_pyIter_enum g ?_;refine⟨_,_,n,J,y,rfl,f.kept (t':=d.toks) i,T,t0,fun b O=>?_,m⟩;rcases Xj.mp O with z|z;subst z;exact f.fpOk (Nat.le_succ _) (f.hok.fresh (Nat.le_succ _));have z:b=d.heap.objs.size:=by simpa using z
   subst z;exact f.fpOk (W9 _) (f.hok.fresh (W9 _))
  rcases t with ⟨⟨xs,u⟩,m⟩|⟨⟨xs,u⟩,m⟩;obtain⟨D,P,pl,hz⟩:=f.list u;exact call_enumerate_list pl.isList fun k g v _ i=>B i g (Tj l _ _ (Nat.succ_ne_self _)) ⟨⟨_,g⟩,v⟩ m;obtain⟨D,P,pl,hz⟩:=f.tuple u;exact Up (show d.heap.IsTuple l D.toArray from pl) fun k g v i=>B i g (Uo l _ _ (Nat.succ_ne_self _)) ⟨⟨_,g⟩,v⟩ m
end
noncomputable def kf:V->PyData
 | .bl b=>.bool b
 | .int i=>.int i
 | .str x=>.str x
 |_=>.none
mutual
noncomputable def bD:Th->PyData
 | .at v=>kf v
 | .tup xs=>.tuple (gx xs)
 | .lst xs=>.list (gx xs)
noncomputable def gx:List Th->List PyData
 |[]=>[]
 |x::xs=>bD x::gx xs
end
mutual
theorem HQ:∀t:Th,(bD t).hasDict=false
 | .at v=>by cases v <;> simp only [bD,kf,PyData.hasDict]
 | .tup xs=>by simp only [bD,PyData.hasDict];exact Av xs
 | .lst xs=>by simp only [bD,PyData.hasDict];exact Av xs
theorem Av:∀ts:List Th,PyData.hasDictAll (gx ts)=false
 |[]=>by simp only [gx,PyData.hasDictAll]
 |t::ts=>by simp only [gx,PyData.hasDictAll,HQ t,Av ts,Bool.or_self]
end
mutual
theorem Gq {X:Cx}{c:List (Addr×Obj)}{j:St}{H:Hp}{s:Shared}(I:Inv X c j H s):∀{v:V}{t:Th}{u:Value},b7 H v t->RelV v u->∃a,Reads s.heap u (bD t) a
 |v,_,u,.at f,r=>by cases v with|non=>(cases r;exact⟨[],.none⟩)|bl b=>(cases r;exact⟨[],.bool b⟩)|int i=>(obtain⟨k,rfl⟩:=r;exact⟨[],.int i k⟩)|str x=>(obtain⟨k,rfl⟩:=r;exact⟨[],.str x k⟩)|_=>cases f
 |_,_,u,.tup h q,r=>by cases r;obtain⟨w,d,p,_⟩:=I.tuple (SqT.of (K:=X.K) h);obtain⟨a,e⟩:=Au I q d;obtain⟨o,g,l,n,m⟩:=(show s.heap.IsTuple _ w.toArray from p);exact⟨a,.tuple g l m e⟩
 |_,_,u,.lst h q,r=>by cases r;obtain⟨w,d,p,_⟩:=I.list (SqL.of (K:=X.K) h);obtain⟨a,e⟩:=Au I q d;obtain⟨o,g,l,n,m⟩:=p.isList;exact⟨_,.list g l m e⟩
theorem Au {X:Cx}{c:List (Addr×Obj)}{j:St}{H:Hp}{s:Shared}(I:Inv X c j H s):∀{b:List V}{ts:List Th}{a:List Value},cJ H b ts->Vals b a->∃d,ReadsAll s.heap a (gx ts) d
 |_,_,a,.nil,r=>by cases r;exact⟨[],.nil⟩
 |_,_,a,.cons h q,r=>by cases r with|cons e f=>obtain⟨k,g⟩:=Gq I h e;obtain⟨l,i⟩:=Au I q f;exact⟨_,.cons g i⟩
end
section
theorem Tg (f:X.A.guards=some []):gy X (.builtin "repr") (fun xs H Q=>∃(a:Addr)(t:Th),xs=[.ref a]/\b7 H (.ref a) t/\(bD t).showable=true/\X.A.units+((bD t).depth+1)<cLine/\(bD t).shown.length<=sizeLine/\Q (.str (bD t).shown) H):=by intro c s j H xs m Q I r h;obtain⟨a,t,rfl,g,h1,i,l,q⟩:=h;obtain⟨u,rfl,d⟩:=jf r;obtain⟨n,rd⟩:=Gq I g d;cases d;exact repr_of_reads' rd h1 (fun z=>by rw[HQ] at z;cases z) f i (fun b o e=>e) (fun h' u tk k=>⟨.str _,H,I.kept k,⟨u,rfl⟩,q⟩) l
end
theorem N5 {v:V}{ts:List Th}(h:b7 H v (.tup ts)):∃a b,v=.ref a/\H a=some (.tup b)/\cJ H b ts:=by cases h with|tup e r=>exact⟨_,_,rfl,e,r⟩
theorem Cz {v w:V}(h:b7 H v (.at w)):v=w/\vn w=true:=by cases h with| «at» f => exact ⟨rfl, f⟩
theorem Ha {p:Addr}(s:Same H H')(h:H' p=none):H p=none:=by cases e:H p with|none=>rfl|some o=>rw[s p o e] at h;cases h
end
mutual
noncomputable def dp:Th->Nat
 | .tup xs=>1+nY xs
 | .at _=>0
 | .lst _=>0
noncomputable def nY:List Th->Nat
 |[]=>0
 |x::xs=>max (dp x) (nY xs)
end
section
def N4 (e ty f:TE):TE:=fun b H Q=>e b H fun x d=>∃a,x=.ref a/\wR d a/\ty b d fun y g=>f b g fun z c=>∃kvs k,c a=some (.dK kvs)/\y=kV k/\kvs.length<sizeLine ∧(∀v,bw kvs k=some v->Q v c)/\(bw kvs k=none->Q z (ak c a (.dK (cf kvs k z))))
variable {e:Expr}{X:Cx}{c j:Pos}{r ty:TE}
section
variable {o f:Expr}{B:TE}
theorem RM (M:PE X o r)(he:PE X e ty)(N:PE X f B)(m:M2 X o "setdefault" c e f j):PE X (.Call (.Attribute o "setdefault" c) [e,f] [] j) (N4 r ty B):=by
 intro p s t H Q I h;refine wpAny_Call_method m.base m.few m.line YM YU PySem.F.type_dict_setdefault (aw (M p s t H _ I h) fun u O z0=>?_);obtain⟨x,P,D,R,a,ex,d,S⟩:=z0;subst ex;obtain rfl:u=Value.ref a:=R;obtain⟨T,U,_⟩:=zb D d;refine⟨T,U,?_⟩;rw[m.trees];refine Yk rfl (YF (X5 (aw (he p O t P _ D S) fun iv V ⟨y,W,Y,Z,q2⟩=>
  X5 (aw (N p V t W _ Y q2) fun fv s3 ⟨z,H3,A,E,kvs,k,G,ey,hl,q3,q4⟩=>YY ?_))))
 subst ey;obtain⟨hz,hd,g,b,J⟩:=u3 A.hok G;refine call_meetsIn YU J.typeIs PySem.F.entry_dict_setdefault (PySem.F.args_dict_setdefault_3 _ _ _) (kt_meets_setdefault (bg X.prog X.w) a (ki Z) hd fv) ⟨g,J,by rw[<- b.length];exact hz,fun v' i=>?_,fun n h' K hs=>?_⟩;cases l:bw kvs k with|none=>(have n:valueAt g k=none:=RelO.none_of (by rw[<- l];exact b.val k);rw[n] at i;cases i)|some v=>obtain⟨w',C,L⟩:=RelO.some_of (v:=v) (o:=valueAt g k) (by rw[<- l];exact b.val k);rw[C] at i;cases i;exact⟨v,H3,A.tok _,L,q3 v l⟩
 have l:bw kvs k=none:=by cases l:bw kvs k with|none=>rfl|some v=>obtain⟨w',C,L⟩:=RelO.some_of (v:=v) (o:=valueAt g k) (by rw[<- l];exact b.val k);rw[C] at n;cases n
 have he:∃q,h'.get? a=some q:=let ⟨q,_,_,hq,_⟩:=K;⟨q,hq⟩
 have nR:(cf kvs k z).length<=sizeLine:=by have:=qp kvs k z;lia
 exact⟨z,_,vQ A (by rw[G];exact True.intro) hs he (sI nR hd (b.put k E) K),E,q4 l⟩
end
end
section
open PySem.Builtin PySem.AutoSeq1
abbrev pO (h:Heap)(z TI TO:Addr)(a f1:Value):Prop:=h.get? z=some { cls:=.type "zip",dict:=none,data:=.fields #[a,f1,.bool false,.ref TI,.ref TO],slots:=#[] }
variable {b:Addr}{h h':Heap}
theorem DD {t:Addr}{xs:Array Value}(x:h.IsTuple t xs)(a:Heap.ExtBut b h h')(c:t≠b):h'.IsTuple t xs:=by obtain⟨o,d,e⟩:=x;exact⟨o,a _ _ c d,e⟩
end
section
open Sem (wp)
open AutoSeq1 (wpAny_loadPart')
variable {x:Str}{P:Program}{w:World}{X:Cx}{Q:Value->Shared->Prop}{d:Addr}
section
variable {A:Around}{E:Value->Shared->Prop}{s:Shared}
theorem VJ {kvs:List (aj×Value)}(n:A.handled=none)(lo:(d==sysModules)=false)(i:s.heap.DictOf (bg P w) d kvs)(l:kvs.length<=sizeLine)
  (h:∀(h':Heap)(tk:Nat)(a:Array Value),a.size=kvs.length->(∀(j:Nat)(v:Value),a[j]?=some v->∃k x,kvs[j]?=some (k,x)/\(bg P w).is k v=true) →(∀b o,s.heap.get? b=some o->h'.get? b=some o)->Q (.ref h'.objs.size) { s with heap:=h'.push { cls:=.type "tuple",data:=.seq a },toks:=tk }):
  codeAny (model P w) A (.call (.builtin "tuple.__new__") ⟨[.type "tuple",.ref d],[]⟩) (wants Q E) s:=by
 obtain⟨ep,c⟩:=i.dictAt;refine codeAny_of_tree ?_;show wpAny _ A.in1 (do checkBuiltinCall "tuple.__new__" ⟨[.type "tuple",.ref d],[]⟩;again (.builtin "tuple.__new__" ⟨[.type "tuple",.ref d],[]⟩)) _ _ s;refine W3 (Zl (PySem.F.newCall_tuple_1 _) (Xb ⟨plainId_quiet PySem.F.plain_tuple_new _,codeAny_builtin PySem.F.entry_tuple_new ?_⟩));rw[Around.under_plainId PySem.F.plain_tuple_new _];have m:=sub_tuple_self;have f:=init_tuple_lookup;have p:=madeHere_tuple;have q:s.TypeIs (.ref d) "dict":=i.typeIs;have r:A.in1.handled=none:=n;have src:=W.kdl_dict (prog:=P) (w:=w) (knd:=bg P w) (kvs:=kvs) (ep:=ep) lo
 wp_walk using wpAny_typeOf q,W.kdu_collect (A:=A.in1) src r c l
 intro h' tk a t g;show wpAny _ _ (Builtin.Tuple.tupleExact a.toList.toArray >>= fun v=>ret v) _ _ _;unfold Builtin.Tuple.tupleExact;have e:a.toList.toArray=a:=by simp
 refine W3 (Xo ?_ (by show a.toList.toArray.size<=sizeLine;rw[e,g.1];exact l));refine Xb ?_;rw[e];refine h h' tk a g.1 (fun j v u=>?_) t;obtain⟨k,x,y,z⟩:=g.2 j v u;exact⟨k,x,y,z⟩
theorem Um {kvs:List (aj×Value)}(f:A.handled=none)(lo:(d==sysModules)=false)(g:s.heap.DictOf (bg P w) d kvs)(i:kvs.length<=sizeLine)
  (h:∀(h':Heap)(tk:Nat)(e:Array Value),e.size=kvs.length->(∀(j:Nat)(v:Value),e[j]?=some v->∃k x,kvs[j]?=some (k,x)/\(bg P w).is k v=true) →(∀b o,s.heap.get? b=some o->h'.get? b=some o)->Q (.ref h'.objs.size) { s with heap:=h'.push { cls:=.type "tuple",data:=.seq e },toks:=tk }):
  wpAny (model P w) A (call (.type "tuple") [.ref d]) Q E s:=by
 refine callType_codes (Q₁:=fun obj s₁=>s₁.TypeIs obj "tuple"/\Q obj s₁) PySem.F.called_tuple (PySem.F.typeCall_tuple_1 _) PySem.F.entry_object_init
  (VJ f lo g i fun h' tk e a b c=>⟨⟨_,Xg _ rfl,rfl⟩,h h' tk e a b c⟩) fun obj s₁ h₁=>?_
 exact⟨h₁.1,PySem.F.args_object_init_2 obj _,object_init_meets PySem.F.called_tuple.init.lookup PySem.F.called_tuple.made (by decide) P w A.in1 _ s₁ ⟨h₁.1,rfl,h₁.2⟩⟩
theorem Qh {v:Value}(h:(bg P w).is (.inr x) v=true):∃t,v=.str x t:=by have h:oH (.inr x) v=true:=h;rcases jm h with ⟨i,t,e,_⟩|⟨y,t,e,rfl⟩;cases e;cases e;exact⟨t,rfl⟩
end
section
theorem Vf:∀(b:List Str)(a:List Value),a.length=b.length->(∀(j:Nat)(v:Value)(k:Str),a[j]?=some v->b[j]?=some k->∃t,v=.str k t)->Vals (b.map V.str) a:=by intro b;induction b with|nil=>(intro a c _;rw[Za c];exact .nil)|cons n ns d=>intro a c h;match a,c with|v::a,c=>obtain⟨t,rfl⟩:=h 0 v n rfl rfl;exact .cons ⟨t,rfl⟩ (d a (by simpa using c) fun j u m e f=>h (j+1) u m (by simpa using e) (by simpa using f))
theorem VI (A:X.calm=true):gy X (.type "tuple") (fun xs H Q=>∃(p:Addr)(kvs:List (aj×V))(c:List Str),xs=[.ref p]/\H p=some (.dK kvs)/\kvs.map (·.1)=c.map .inr ∧∀a,H a=none->Q (.ref a) (ak H a (.tup (c.map V.str)))):=by
 intro m s n H xs N Q I r h;obtain⟨p,kvs,c,rfl,B,d,q⟩:=h;obtain⟨u,rfl,C⟩:=jf r;cases C;obtain⟨z,hd,i,t,D⟩:=u3 I.hok B;have f:=KV.keys t;have O:i.length=c.length:=by have h1:=Yd List.length f;have E:=Yd List.length d;simp only [Xa] at h1 E;lia
 have hz:i.length<=sizeLine:=by rw[<- t.length];exact z
 refine Um (I.ok.hd A) hd D hz fun h' tk g P F kp=>?_;have y:Inv X m n H { s with heap:=h',toks:=tk }:=I.kept (t':=tk) kp;have l:Vals (c.map V.str) g.toList:=by
  refine Vf c g.toList (by rw[XS];lia) fun j v k l G=>?_;obtain⟨J,x,K,L⟩:=F j v (by rw[<- Array.getElem?_toList];exact l);have e:(i.map (·.1))[j]?=some J:=by rw[XG,K];rfl
  rw[<- f,d,XG,G] at e;cases e;exact Qh L
 have M:Inv X m n (ak H h'.objs.size (.tup (c.map V.str))) { s with heap:=h'.push { cls:=.type "tuple",data:=.seq g },toks:=tk }:=y.laid (t':=tk) (fun b o e=>W5 _ e) (W9 _) (show ObjOk X.prog X.w _ _ _ (.tup (c.map V.str)) from⟨by rw[Xa];lia,g.toList,l,by simpa using IsTupN.new _ _⟩);exact⟨.ref h'.objs.size,_,M,rfl,q _ (y.hok.fresh (W9 _))⟩
end
end
section
open PySem.Builtin PySem.AutoSeq1
variable {P prog:Program}{w:World}{X:Cx}{it l:Addr}{Q:Value->Shared->Prop}{K:W.Frag}{j:Expr}{p:Pos}{T:String}{c:Array Value}
theorem Aw:mroOf (.type "reversed")=pure [.type "reversed",.type "object"]:=by rw[mroOf_type];kernel_rfl
theorem VQ:typeLookup (.type "reversed") "__new__"=pure (some (.builtin "reversed.__new__")):=by rw[YT,Yl];kernel_rfl
theorem Jo:Bind.madeBy (.type "reversed")=pure (some "reversed.__new__"):=madeBy_type Aw VQ (by decide+kernel)
theorem IP:isSubtype (.type "reversed") (.type "reversed")=pure true:=by rw[Yz];kernel_rfl
theorem Ul:isSubtype (.type "list_reverseiterator") (.type "reversed")=pure false:=by rw[Yz];kernel_rfl
theorem JS : entryFor table "reversed.__new__"=some Builtin.«reversed.__new__» := entryFor_of_tree (by kernel_rfl)
theorem JR (a:Value):checkTypeCall "reversed" ⟨[a],[]⟩=pure ():=by kernel_rfl
theorem JL (a:Value):checkBuiltinCall "reversed.__new__" ⟨[.type "reversed",a],[]⟩=pure ():=by kernel_rfl
section
variable {A:Around}{E:Value->Shared->Prop}{s:Shared}
theorem VH {U a:String}{i:Builtin}{args:List Value}{S:PySem.Spec}{c:Value}{tl:List Value}(h1:(Value.type T==Value.type "type")=false)
  (l:((Manifest.find? T).bind (·.mro.findSome? fun t=>(Manifest.find? t).bind fun b=>if b.noNew then some true else if b.attrs.any (·.1=="__new__") then some false else none)).getD false=false)
  (m:mroOf (.type T)=pure (c::tl)) (n:Bind.madeBy (.type T)=pure (some a)) (plain:plainId a=true) (j:isSubtype (.type U) (.type T)=pure false)
  (o:checkTypeCall T ⟨args,[]⟩=pure ()) (d:checkBuiltinCall a ⟨.type T::args,[]⟩=pure ())
  (k:entryFor table a=some i) (g:Meets (i ⟨.type T::args,[]⟩) S)
  (h:S A.in1 (wants (fun obj s₁=>s₁.TypeIs obj U/\Q obj s₁) E) s):wpAny (model prog w) A (call (.type T) args) Q E s:=by
 refine wpAny_call (codeAny_of_tree ?_);show wpAny _ _ (callAny (.type T) _) _ _ _;refine Xb ⟨Code.quiet_builtin _ (by decide+kernel),codeAny_builtin F.entry_type_call ?_⟩;rw[Around.under_plain (weight_type_call_type T args []) (units_type_call_type T args [])]
 repeat (any_goals (first|assumption|wp_step))
 refine codeAny_mono (codeAny_call_builtin plain k (Zl d (g prog w A.in1 _ s h))) fun r s₁ f=>?_
 cases r with
 |error e=>exact f
 |ok fl=>
  cases fl with
  |ret obj=>
   obtain⟨p,q⟩:=f
   repeat (any_goals (first|assumption|wp_step))
  |_=>exact f.elim
end
theorem RL {A:Around}{s:Shared}{R:Result->Shared->Prop}{n:Nat}(a:s.heap.get? l=some { cls:=.type "list",dict:=none,data:=.seq c n,slots:=#[] })
  (h:R (.ok (.ret (Value.ref s.heap.objs.size))) { s with heap:=s.heap.push { cls:=Value.type "list_reverseiterator",data:=.fields #[.ref l,rawInt ((c.size:Int)-1)] } }):
  codeAny (model prog w) A (.call (.builtin "list.__reversed__") ⟨[.ref l],[]⟩) R s:=
 codeAny_call_builtin F.slot_list_reversed.plain F.entry_list_reversed (F.slot_list_reversed.check _ _ _ _ _ _ _ _ ⟨_,a,rfl⟩ (F.args_list_reversed_1 _) (PySem.AutoListH.list___reversed___list_0 l c n prog w A R s ⟨a,h⟩))
theorem VP (l:Addr)(c:Array Value)(n:Nat):Meets (Builtin.«reversed.__new__» ⟨[.type "reversed", .ref l], []⟩) (fun _ R s => s.heap.get? l=some { cls := .type "list", dict := none, data := .seq c n, slots := #[] } ∧R (.ok (.ret (Value.ref s.heap.objs.size))) { s with heap:=s.heap.push { cls:=Value.type "list_reverseiterator",data:=.fields #[.ref l,rawInt ((c.size:Int)-1)] } }):=.of_wp fun prog w A R s h=>by
 obtain⟨e,g,d,tk,os⟩:=s;obtain⟨a,h⟩:=h;have b:=IP;have j:Shared.TypeIs ⟨e,g,d,tk,os⟩ (.ref l) "list":=⟨_,a,rfl⟩;have f:=F.slot_list_reversed.lookup;have i:=F.slot_list_reversed.bind (.ref l);wp_walk
 refine RL a ?_;exact Xb ⟨_,rfl,h⟩
section
variable {A:Around}{E:Value->Shared->Prop}{s:Shared}
theorem VB {n:Nat}(a:s.heap.get? l=some { cls:=.type "list",dict:=none,data:=.seq c n,slots:=#[] })
  (h:Q (.ref s.heap.objs.size) { s with heap:=s.heap.push { cls:=Value.type "list_reverseiterator",data:=.fields #[.ref l,rawInt ((c.size:Int)-1)] } }):
  wpAny (model prog w) A (call (.type "reversed") [.ref l]) Q E s:=
 VH (U:="list_reverseiterator") (by decide+kernel) (by decide+kernel) Aw Jo (by decide+kernel) Ul (JR _) (JL _) JS (VP l c n)
  ⟨a,⟨_,Xg _ rfl,rfl⟩,h⟩
def IsRevIter (h:Heap)(it l:Addr)(k:Int):Prop:=∃o,h.get? it=some o/\o.cls=.type "list_reverseiterator"/\o.data=.fields #[.ref l,.int k 0]
theorem IsRevIter.typeIs {k:Int}(x:IsRevIter s.heap it l k):s.TypeIs (.ref it) "list_reverseiterator":=let ⟨o,a,b,_⟩:=x;⟨o,a,b⟩
theorem slot_rev_next:Slot "list_reverseiterator" "__next__" "list_reverseiterator.__next__":=.of (owner:="list_reverseiterator") (n:="__next__") (by rw[YT,Yl];kernel_rfl) (by decide+kernel) (by decide+kernel) (by decide+kernel)
  (by first|exact .inl (by decide+kernel)|exact .inr (by decide+kernel)) (by rw[Yz];kernel_rfl)
theorem Jn:Slot "list_reverseiterator" "__iter__" "list_reverseiterator.__iter__":=.of (owner:="list_reverseiterator") (n:="__iter__") (by rw[YT,Yl];kernel_rfl) (by decide+kernel) (by decide+kernel) (by decide+kernel)
  (by first|exact .inl (by decide+kernel)|exact .inr (by decide+kernel)) (by rw[Yz];kernel_rfl)
theorem JE : entryFor table "list_reverseiterator.__next__"=some Builtin.«list_reverseiterator.__next__» := entryFor_of_tree (by kernel_rfl)
theorem VG : entryFor table "list_reverseiterator.__iter__"=some Builtin.«dict_keyiterator.__iter__» :=entryFor_alias (id':="dict_keyiterator.__iter__") (by kernel_rfl) (by first|rfl|decide+kernel | (unfold String.splitOn;simp +decide [String.splitOnAux])) (by decide+kernel) (by kernel_rfl)
theorem Jm (a:Value):argsOk "list_reverseiterator.__next__" ⟨[a],[]⟩:=by unfold argsOk;kernel_rfl
theorem VA (a:Value):argsOk "list_reverseiterator.__iter__" ⟨[a],[]⟩:=by unfold argsOk;kernel_rfl
theorem HP {k:Int}(hz:IsRevIter s.heap it l k)(h:Q (.ref it) s):wpAny (model prog w) A (pyIter (.ref it)) Q E s:=by refine wpAny_pyIter_slot hz.typeIs Jn (Xz Jn hz.typeIs VG ?_ (VA _));show wpAny _ _ (ret (.ref it)) _ _ s;exact Xb ⟨_,rfl,"list_reverseiterator",_,hz.typeIs,slot_rev_next.lookup,h⟩
theorem Vz {k:Nat}{x:Value}{Q:Option Value->Shared->Prop}(b:IsRevIter s.heap it l k)(e:s.heap.IsList l c)(f:c[k]?=some x)
  (g:∀h',IsRevIter h' it l ((k:Int)-1)->Heap.SameBut it s.heap h'->Q (some x) { s with heap:=h' }):wpAny (model prog w) A (pyNext (.ref it)) Q E s:=by
 obtain⟨o,a,h,hd⟩:=id b;obtain⟨j,d,_,m,i⟩:=e;unfold pyNext
 refine W3 (YG (XC (name:=Str.ofString "__next__") b.typeIs slot_rev_next
  (Xz slot_rev_next b.typeIs JE ?_ (Jm _))))
 show wpAny _ _ (field (.ref it) 1 >>= _) _ _ s;refine W3 (XB a hd (x:=.int k 0) rfl ?_);show wpAny _ _ (if ((k:Int)<0) then _ else _) _ _ s;rw[Xh (by lia)];show wpAny _ _ (field (.ref it) 0 >>= _) _ _ s;refine W3 (XB a hd (x:=.ref l) rfl ?_);refine W3 (Yn d i ?_);simp only [Yj,f];refine W3 (YI a hd (by simp) (Xb ⟨x,rfl,Xb (g _ ?_ (X9 ..))⟩))
 exact⟨_,Ym _ a (YW (X4 hd _)),(Obj.cls_mapFields ..).trans h,by
  rw[X4 hd];simp [rawInt]⟩
theorem Ve {Q:Option Value->Shared->Prop}(d:A.handled=none)(c:IsRevIter s.heap it l (-1))
  (f:∀h',(∀b o,s.heap.get? b=some o->h'.get? b=some o)->Q none { s with heap:=h' }):wpAny (model prog w) A (pyNext (.ref it)) Q E s:=by
 obtain⟨o,g,h,hd⟩:=id c;unfold pyNext
 refine W3 (YG (XC (name:=Str.ofString "__next__") c.typeIs slot_rev_next
  (Xz slot_rev_next c.typeIs JE ?_ (Jm _))))
 show wpAny _ _ (field (.ref it) 1 >>= _) _ _ s;refine W3 (XB g hd (x:=.int (-1) 0) rfl ?_);show wpAny _ _ (if ((-1:Int)<0) then _ else _) _ _ s;rw[Xk (by decide)];refine W3 (Y0 ?_);refine W3 ?_;show wpAny _ _ (newExc (.type "StopIteration") [] >>= _) _ _ _;refine W3 ?_;simp only [newExc,newTuple];refine W3 (Xo ?_ (by size_fits));refine W3 (m:=firstArgMember _ _) (Zl (a:=Value.none) (by first|rfl | (simp only [firstArgMember];rfl)) ?_);refine Xo ?_ (by size_fits)
 delta raiseNew
 refine W3 (wpAny_handled ?_);rw[show A.in1.handled=none from d];refine W3 (Xb (wpAny_throw ?_));refine W3 (wpAny_isInstance (T:="StopIteration") (b:=true) ⟨_,Xg _ rfl,rfl⟩ isSubtype_stop ?_);exact Xb (f _ fun b o e=>W5 _ (W5 _ e))
end
noncomputable def K7 (K:W.Frag)(a:Addr)(n:Nat):It:=⟨fun i H=>i<n/\∃xs x,SqL K H a xs/\xs[n-1-i]?=some x,fun i H x H'=>H'=H/\∀xs,SqL K H a xs->xs[n-1-i]?=some x,fun i H=>i=n⟩
theorem RK (a it:Addr)(n:Nat):cA P w K j (K7 K a n) [it] it (fun i h=>IsRevIter h it a ((n:Int)-1-i)) where
 mem:=by simp
 obj:=fun i h st b hb=>by
  have e:b=it:=by simpa using hb
  subst e;obtain⟨o,e,c,d⟩:=st;exact⟨o,e,fun v z=>by rw[d] at z;cases z⟩
 keep:=fun i h h' st k=>by obtain⟨o,e,c,d⟩:=st;exact⟨o,k it (by simp) o e,c,d⟩
 item:=by
  intro X hP hw hK hc i aa s σ H E I hf st hg;subst hP hw hK;obtain⟨mw,xs,x,hq,hx⟩:=hg;obtain⟨ae,rv,p,hz⟩:=I.list hq;obtain⟨u,hu,ru⟩:=rv.get hx;obtain⟨f0,f1,f2,f3,f4,f5⟩:=hf it (by simp);have ek:(n:Int)-1-i=((n-1-i:Nat):Int):=by lia
  rw[ek] at st;refine Vz st p.isList (x:=u) (by simpa using hu) fun h' ed sb=>?_;have I1:Inv X aa σ H { s with heap:=h' }:=I.turned (t':=s.toks) (fun b o hb e=>(sb.2 b hb).trans e) f0 f1 f3 f4 f5;have e2:((n-1-i:Nat):Int)-1=(n:Int)-1-((i+1:Nat):Int):=by lia
  rw[e2] at ed;obtain⟨o,e,c,d⟩:=id ed;exact⟨u,rfl,pY (s:={ s with heap:=h' }) e c d (by decide) ⟨x,H,I1,ru,⟨rfl,fun ys hy=>by rw[I.list_inj hy hq];exact hx⟩,ed,fun b hb=>(hf b hb).1⟩⟩
 done:=by
  intro X hP hw hK hc i aa s σ H E I hf st hg;subst hP hw hK;have e:i=n:=hg;subst e;have ek:(i:Int)-1-i=-1:=by lia
  rw[ek] at st;exact Ve (I.ok.hd hc) st fun h' kk=>⟨rfl,I.kept (t':=s.toks) kk⟩
 self:=fun _ _ _ _ _ st h=>HP st h
def Ky (K:W.Frag)(c:TA):TI:=fun d H R=>c d H fun e b=>∃a xs,e=[.ref a]/\b a=some (.lst xs)/\R (K7 K a xs.length) b
section
theorem N3 {a:Expr}{g:TA}{pos:Pos}(k:Gl X "reversed")(m:X.mg "reversed"=none)(q:PA X [a] g)(t:starEach [a] X.env=[(false,eval a X.env)]:=by rfl):PI X j (.Call (.Name "reversed" p) [a] [] pos) (Ky X.K g):=by
 intro u s v H R I h;refine Yy (mZ I k m (by decide+kernel:bootBuiltins "reversed"=some (.type "reversed")) ?_);refine Yh (aw (q pos u s v H _ I h) fun F c Z=>?_) t (by rfl);obtain⟨G,i,f,x,y⟩:=Z;obtain⟨l,xs,rfl,z,A⟩:=y;cases x with
 |cons r B=>
  cases B;cases r;obtain⟨_,C,n,D,h1⟩:=(show ObjOk X.prog X.w i c.heap l (.lst xs) from f.hok l _ z);refine VB h1 ?_;have d:=D.length;have st:IsRevIter (c.heap.push { cls:=Value.type "list_reverseiterator",data:=.fields #[.ref l,rawInt ((C.toArray.size:Int)-1)] }) c.heap.objs.size l ((xs.length:Int)-1-((0:Nat):Int)):=by refine⟨_,Xg _ rfl,rfl,?_⟩;rw[Xf,<- d];simp [rawInt]
  refine HP st ?_;refine⟨c.heap.objs.size,[c.heap.objs.size],_,_,i,rfl,f.kept (t':=c.toks) fun b o e=>W5 _ e,RK l _ xs.length,st,fun b E=>?_,A⟩;have e:b=c.heap.objs.size:=by simpa using E
  subst e;exact f.fpOk (W9 _) (f.hok.fresh (W9 _))
end
end
section
set_option genInjectivity true in
inductive Tv where
 |at (v:V)
 |tup (l:List Tv)
 |lst (l:List Tv)
 |dic (l:List (aj×Tv))
 |scr (l:List Tv)
 |ktp (l:List Tv)
 |fnv (a:Addr)
noncomputable def mj:V->Bool
 | .str x=>decide (x.length<=16777216)
 | .byt _=>false
 | .flt _=>false
 |_=>true
mutual
inductive IsT (K:W.Frag)(G:Hp):V->Tv->Prop where
 |at {v:V} (f:mj v=true):IsT K G v (.at v)
 |tup {a:Addr} {vs:List V} {ts:List Tv} (h:G a=some (.tup vs)) (r:IsTs K G vs ts):IsT K G (.ref a) (.tup ts)
 |ktp {a:Addr} {vs:List V} {ts:List Tv} (h:SqT K G a vs) (r:IsTs K G vs ts):IsT K G (.ref a) (.ktp ts)
 |lst {a:Addr} {vs:List V} {ts:List Tv} (h:G a=some (.lst vs)) (r:IsTs K G vs ts):IsT K G (.ref a) (.lst ts)
 |scr {a:Addr} {vs:List V} {ts:List Tv} (h:SqL K G a vs) (r:IsTs K G vs ts):IsT K G (.ref a) (.scr ts)
 |dic {a:Addr} {kvs:List (aj×V)} {ub:List (aj×Tv)} (h:G a=some (.dK kvs)) (r:IsKs K G kvs ub):IsT K G (.ref a) (.dic ub)
 |fnv {a:Addr}:IsT K G (.ref a) (.fnv a)
inductive IsTs (K:W.Frag)(G:Hp):List V->List Tv->Prop where
 |nil:IsTs K G [] []
 |cons {v:V} {vs:List V} {t:Tv} {ts:List Tv} (h:IsT K G v t) (r:IsTs K G vs ts):IsTs K G (v::vs) (t::ts)
inductive IsKs (K:W.Frag)(G:Hp):List (aj×V)->List (aj×Tv)->Prop where
 |nil:IsKs K G [] []
 |cons {k:aj} {v:V} {vs:List (aj×V)} {t:Tv} {ts:List (aj×Tv)} (h:IsT K G v t) (r:IsKs K G vs ts):IsKs K G ((k,v)::vs) ((k,t)::ts)
end
variable {xs C:List V}{x c:Str}{H H' G I:Hp}{a l B d:Addr}{P prog:Program}{w:World}{h h' base:Heap}{q u J:Type}{e L:Expr}{X:Cx}{O:List (Addr×Obj)}{S U:St}{i j ep:Nat}{Q:Value->Shared->Prop}{t:Tv}{Y Z R:List Addr}{y:V}{K:W.Frag}{st:Stmt}{te tl:TE}{es:List Expr}{r r':R2}{mg:Str->Option Value}{fd:FuncData}{ps N':List Str}{vl:Value}{items:Array Value}{p2:Pos}{af:List Nat}
theorem IsT.tw {v:V}{u:Tv}{l:List Tv}(h:IsT K G v (.tup (t::u::l))):∃a x y r,v=.ref a/\G a=some (.tup (x::y::r))/\IsT K G x t/\IsT K G y u/\IsTs K G r l:=by
 cases h with|tup h r=>
 cases r with|cons c r=>
 cases r with|cons d r=>exact⟨_,_,_,_,rfl,h,c,d,r⟩
theorem IsT.mono {K:W.Frag}{G I:Hp}(s:Same G I){v:V}{t:Tv}(h:IsT K G v t):IsT K I v t:=IsT.rec (motive_1:=fun v t _=>IsT K I v t) (motive_2:=fun l t _=>IsTs K I l t) (motive_3:=fun l t _=>IsKs K I l t) .at (fun h _ r=>.tup (s _ _ h) r) (fun h _ r=>.ktp (s.tup h) r) (fun h _ r=>.lst (s _ _ h) r) (fun h _ r=>.scr (s.seq h) r) (fun h _ r=>.dic (s _ _ h) r) .fnv .nil (fun _ _ a b=>.cons a b) .nil (fun _ _ a b=>.cons a b) h
theorem IsTs.mono {K:W.Frag}{G I:Hp}(s:Same G I){C:List V}{ts:List Tv}(h:IsTs K G C ts):IsTs K I C ts:=by induction C generalizing ts with|nil=>(cases h;exact .nil)|cons _ _ i=>cases h with|cons a r=>exact .cons (a.mono s) (i r)
theorem IsKs.mono {K:W.Frag}{G I:Hp}(s:Same G I){C:List (aj×V)}{ts:List (aj×Tv)}(h:IsKs K G C ts):IsKs K I C ts:=by induction C generalizing ts with|nil=>(cases h;exact .nil)|cons _ _ i=>cases h with|cons a r=>exact .cons (a.mono s) (i r)
section
theorem IsTs.len:∀{ts:List Tv},IsTs K G C ts->C.length=ts.length:=by induction C with|nil=>(intro ts h;cases h;rfl)|cons v C a=>intro ts h;cases h with|cons _ r=>simp [a r]
theorem IsTs.get:∀{ts:List Tv}{i:Nat}{t:Tv},IsTs K G C ts->ts[i]?=some t->∃v,C[i]?=some v/\IsT K G v t:=by induction C with|nil=>(intro ts i t h e;cases h;simp at e)|cons v C b=>intro ts i t h e;cases h with|cons a r=>cases i with|zero=>simp at e;subst e;exact⟨v,rfl,a⟩|succ i=>simp at e;obtain⟨c,h1,d⟩:=b r e;exact⟨c,by simpa using h1,d⟩
theorem IsTs.app:∀{ws:List V}{ts c:List Tv},IsTs K G C ts->IsTs K G ws c->IsTs K G (C++ws) (ts++c):=by induction C with|nil=>(intro ws ts c h r;cases h;exact r)|cons v C d=>intro ws ts c h r;cases h with|cons a b=>exact .cons a (d b r)
theorem IsTs.take:∀{ts:List Tv}(n:Nat),IsTs K G C ts->IsTs K G (C.take n) (ts.take n):=by induction C with|nil=>(intro ts n h;cases h;simp;exact .nil)|cons v C c=>intro ts n h;cases h with|cons a b=>cases n with|zero=>exact .nil|succ n=>exact .cons a (c n b)
theorem IsTs.drop:∀{ts:List Tv}(n:Nat),IsTs K G C ts->IsTs K G (C.drop n) (ts.drop n):=by induction C with|nil=>(intro ts n h;cases h;simp;exact .nil)|cons v C c=>intro ts n h;cases h with|cons a b=>cases n with|zero=>exact .cons a b|succ n=>exact c n b
theorem IsTs.set:∀{ts:List Tv}{v:V}{t:Tv}(n:Nat),IsTs K G C ts->IsT K G v t->IsTs K G (C.set n v) (ts.set n t):=by induction C with|nil=>(intro ts v t n h _;cases h;exact .nil)|cons x C c=>intro ts v t n h q;cases h with|cons a b=>cases n with|zero=>exact .cons q b|succ n=>exact .cons a (c n b q)
theorem IsTs.rev:∀{ts:List Tv},IsTs K G C ts->IsTs K G C.reverse ts.reverse:=by induction C with|nil=>(intro ts h;cases h;exact .nil)|cons v C c=>intro ts h;cases h with|cons a b=>rw[Yr,Yr];exact(c b).app (.cons a .nil)
end
inductive Ob where
 |lst (l:List Tv)
 |dic (l:List (aj×Tv))
noncomputable def Ob.tv:Ob->Tv
 | .lst l=>.lst l
 | .dic l=>.dic l
inductive Sl where
 |fz (t:Tv)
 |own (o:Ob)
 |out (k:Nat)
structure Ms where
 env:List (Option Sl)
 out:List Sl
 tmp:List Ob
inductive Ev where
 |fz (t:Tv)|loc (i:Nat)|out (k:Nat)|tmp (j:Nat)
inductive Rf where
 |loc (i:Nat)|out (k:Nat)|tmp (j:Nat)
 deriving DecidableEq
def ObOk (K:W.Frag)(G H:Hp)(a:Addr):Ob->Prop
 | .lst ts=>∃C,H a=some (.lst C)/\IsTs K G C ts
 | .dic b=>∃kvs,H a=some (.dK kvs)/\IsKs K G kvs b
def mJ:HO->Prop
 | .tup _=>True
 | .frz _ (.tup _)=>True
 |_=>False
structure Fr where
 H0:Hp
 G0:Hp
 ao:List Addr
noncomputable def bY:Sl->Option Ob
 | .own o=>some o
 |_=>none
def az (M:Ms):Rf->Option Ob
 | .loc i=>(M.env[i]?).bind fun s=>s.bind bY
 | .out k=>(M.out[k]?).bind bY
 | .tmp j=>M.tmp[j]?
noncomputable def lu:V->Option Addr
 | .ref a=>some a
 |_=>none
def adr (F:Fr)(Y:List Addr)(S:St):Rf->Option Addr
 | .loc i=>(S[i]?).bind fun s=>s.bind lu
 | .out k=>F.ao[k]?
 | .tmp j=>Y[j]?
structure Rel (K:W.Frag)(F:Fr)(G:Hp)(Y:List Addr)(M:Ms)(S:St)(H:Hp):Prop where
 sub:Same G H
 g0:Same F.G0 G
 fra:∀a o,F.H0 a=some o->a∉F.ao->H a=some o
 gd:∀a o,G a=some o->F.G0 a=some o∨F.H0 a=none∨a∈F.ao∨mJ o
 pr:∀a,a∈F.ao->∃o,H a=some o
 ls:M.env.length=S.length
 lo:M.out.length=F.ao.length
 lt:M.tmp.length=Y.length
 fz:∀(i:Nat)(t:Tv),M.env[i]?=some (some (Sl.fz t))->∃v,S[i]?=some (some v)/\IsT K G v t
 al:∀(i k:Nat),M.env[i]?=some (some (Sl.out k))->∃a,F.ao[k]?=some a/\S[i]?=some (some (V.ref a))
 fo:∀(k:Nat)(t:Tv),M.out[k]?=some (.fz t)->∃a,F.ao[k]?=some a/\IsT K G (.ref a) t
 ob:∀r o,az M r=some o->∃a,adr F Y S r=some a/\ObOk K G H a o/\G a=none
 ij:∀r r' o o' a,az M r=some o->az M r'=some o'->adr F Y S r=some a->adr F Y S r'=some a->r=r'
 nw:∀r o a,az M r=some o->adr F Y S r=some a->(∃k,r=.out k)∨F.H0 a=none
variable {F:Fr}{M M':Ms}
section
theorem ObOk.mono (s:Same G I)(h:H' a=H a):∀{o:Ob},ObOk K G H a o->ObOk K I H' a o
 | .lst _,⟨C,e,r⟩=>⟨C,h.trans e,r.mono s⟩
 | .dic _,⟨C,e,r⟩=>⟨C,h.trans e,r.mono s⟩
theorem ObOk.some:∀{o:Ob},ObOk K G H a o->∃u,H a=some u
 | .lst _,⟨_,e,_⟩=>⟨_,e⟩
 | .dic _,⟨_,e,_⟩=>⟨_,e⟩
theorem ObOk.notup {u:HO}:∀{o:Ob},ObOk K G H a o->H a=Option.some u->¬mJ u
 | .lst _,⟨_,e,_⟩,h,t=>by rw[e] at h;cases h;exact t
 | .dic _,⟨_,e,_⟩,h,t=>by rw[e] at h;cases h;exact t
theorem Rel.new (R:Rel K F G Y M S H){p:Addr}(h:H p=none):F.H0 p=none/\p∉F.ao/\G p=none:=by
 have h1:p∉F.ao:=fun z=>by obtain⟨o,e⟩:=R.pr p z;rw[h] at e;cases e
 refine⟨?_,h1,R.sub.free h⟩;cases e:F.H0 p with|none=>rfl|some o=>rw[R.fra p o e h1] at h;cases h
def EvOk (K:W.Frag)(F:Fr)(G:Hp)(Y:List Addr)(S:St):Ev->V->Prop
 | .fz t,v=>IsT K G v t
 | .loc i,v=>S[i]?=some (some v)/\∃a,v=.ref a
 | .out k,v=>∃a,F.ao[k]?=some a/\v=.ref a
 | .tmp j,v=>∃a,Y[j]?=some a/\v=.ref a
structure Stp (G:Hp)(Y:List Addr)(I:Hp)(Z:List Addr):Prop where
 g:Same G I
 t:∃l,Z=Y++l
theorem Stp.refl:Stp G Y G Y:=⟨Same.refl _,[],by simp⟩
theorem Stp.trans {c d:Hp}{e f:List Addr}(a:Stp G Y c e)(b:Stp c e d f):Stp G Y d f:=by obtain⟨l,rfl⟩:=a.t;obtain⟨m,rfl⟩:=b.t;exact⟨a.g.trans b.g,l++m,by simp⟩
theorem EvOk.stp (s:Stp G Y I Z):∀{b:Ev}{v:V},EvOk K F G Y S b v->EvOk K F I Z S b v
 | .fz _,_,h=>IsT.mono s.g h
 | .loc _,_,h=>h
 | .out _,_,h=>h
 | .tmp j,_,⟨a,e,h⟩=>by obtain⟨l,rfl⟩:=s.t;refine⟨a,?_,h⟩;rw[XF (Xe.mp e).1];exact e
def lU:Sl->Option Tv
 | .fz t=>some t
 | .own o=>some o.tv
 | .out _=>none
def rd (M:Ms):Ev->Option Tv
 | .fz t=>some t
 | .loc i=>(M.env[i]?).bind fun s=>s.bind lU
 | .out k=>(M.out[k]?).bind lU
 | .tmp j=>(M.tmp[j]?).map Ob.tv
def IsR (K:W.Frag)(G H:Hp)(v:V)(t:Tv):Prop:=IsT K G v t∨∃a o,v=.ref a/\t=Ob.tv o/\ObOk K G H a o
theorem IsR.up (s:Same G H){v:V}{t:Tv}(h:IsR K G H v t):IsT K H v t:=by rcases h with h|⟨a,o,rfl,rfl,h⟩;exact h.mono s;cases o with|lst l=>(obtain⟨C,e,r⟩:=h;exact .lst e (r.mono s))|dic l=>obtain⟨C,e,r⟩:=h;exact .dic e (r.mono s)
theorem Rel.rd (R:Rel K F G Y M S H){f:Ev}{v:V}{t:Tv}(h:EvOk K F G Y S f v)(e:rd M f=some t):IsR K G H v t:=by
 have own:∀r o a,az M r=some o->adr F Y S r=some a->IsR K G H (.ref a) o.tv:=fun r o a h1 c=>by obtain⟨b,d,g,_⟩:=R.ob r o h1;rw[c] at d;cases d;exact .inr ⟨a,o,rfl,rfl,g⟩
 cases f with|fz u=>(cases e;exact .inl h)|loc i=>(obtain⟨h1,a,rfl⟩:=h;cases q:M.env[i]? with|none=>simp [Lake.rd,q] at e|some s=>cases s with|none=>simp [Lake.rd,q] at e|some s=>cases s with|fz u=>(simp [Lake.rd,q,lU] at e;subst e;obtain⟨v,c,d⟩:=R.fz i u q;rw[h1] at c;cases c;exact .inl d)|own o=>simp [Lake.rd,q,lU] at e;subst e;exact own (.loc i) o a (by simp [az,q,bY]) (by simp [adr,h1,lu])|out k=>simp [Lake.rd,q,lU] at e)|out k=>(obtain⟨a,h1,rfl⟩:=h;cases q:M.out[k]? with|none=>simp [Lake.rd,q] at e|some s=>cases s with|fz u=>(simp [Lake.rd,q,lU] at e;subst e;obtain⟨b,c,d⟩:=R.fo k u q;rw[h1] at c;cases c;exact .inl d)|own o=>simp [Lake.rd,q,lU] at e;subst e;exact own (.out k) o a (by simp [az,q,bY]) h1|out k=>simp [Lake.rd,q,lU] at e)|tmp j=>obtain⟨a,h1,rfl⟩:=h;cases q:M.tmp[j]? with|none=>simp [Lake.rd,q] at e|some o=>simp [Lake.rd,q] at e;subst e;exact own (.tmp j) o a q h1
theorem Rel.more (R:Rel K F G Y M S H)(s:Same G I)(sH:Same I H')(hH:Same H H')(hf:∀a o,I a=some o->G a=some o∨H a=none∨mJ o):Rel K F I Y M S H' where
 sub:=sH
 g0:=R.g0.trans s
 fra:=fun a o h1 h2=>hH _ _ (R.fra a o h1 h2)
 gd:=fun a o h=>by rcases hf a o h with h|h|h;exact R.gd a o h;exact .inr (.inl (R.new h).1);exact .inr (.inr (.inr h))
 pr:=fun a h=>by obtain⟨o,e⟩:=R.pr a h;exact⟨o,hH _ _ e⟩
 ls:=R.ls
 lo:=R.lo
 lt:=R.lt
 fz:=fun i t h=>by obtain⟨v,h1,h2⟩:=R.fz i t h;exact⟨v,h1,h2.mono s⟩
 al:=R.al
 fo:=fun k t h=>by obtain⟨a,h1,h2⟩:=R.fo k t h;exact⟨a,h1,h2.mono s⟩
 ob:=fun r o h=>by obtain⟨a,h1,h2,h3⟩:=R.ob r o h;obtain⟨u,hu⟩:=h2.some;refine⟨a,h1,h2.mono s ((hH _ _ hu).trans hu.symm),?_⟩;cases e:I a with|none=>rfl|some x=>rcases hf a x e with z|z|z;rw[h3] at z;cases z;rw[hu] at z;cases z;have q:=sH a x e;rw[hH a u hu] at q;cases q;exact absurd z (h2.notup hu)
 ij:=R.ij
 nw:=R.nw
theorem Rel.cut (R:Rel K F G Y M S H)(n:Nat):Rel K F G (Y.take n) { M with tmp:=M.tmp.take n } S H:=by
 have up:∀r o,az { M with tmp:=M.tmp.take n } r=some o->az M r=some o/\adr F (Y.take n) S r=adr F Y S r:=fun r o h=>by
  cases r with
  |loc i=>exact⟨h,rfl⟩|out k=>exact⟨h,rfl⟩
  |tmp j=>
   have h':(M.tmp.take n)[j]?=some o:=h;rw[List.getElem?_take] at h';split at h'
   .next hj=>exact⟨h',by show(Y.take n)[j]?=Y[j]?;rw[List.getElem?_take,Xk hj]⟩
   cases h'
 refine⟨R.sub,R.g0,R.fra,R.gd,R.pr,R.ls,R.lo,by show(M.tmp.take n).length=_;rw[XJ,XJ,R.lt],R.fz,R.al,R.fo,fun r o h=>?_,fun r r' o o' a h h' e c=>?_,fun r o a h e=>?_⟩;obtain⟨h1,b⟩:=up r o h;rw[b];exact R.ob r o h1;obtain⟨h1,b⟩:=up r o h;obtain⟨d,f⟩:=up r' o' h';rw[b] at e;rw[f] at c;exact R.ij r r' o o' a h1 d e c;obtain⟨h1,b⟩:=up r o h;rw[b] at e;exact R.nw r o a h1 e
theorem Rel.push (R:Rel K F G Y M S H){p:Addr}{o:Ob}(n:H p=none)(q:Same H H')(h:ObOk K G H' p o):Rel K F G (Y++[p]) { M with tmp:=M.tmp++[o] } S H':=by
 obtain⟨n1,A,w⟩:=R.new n;have R':Rel K F G Y M S H':=R.more (Same.refl _) (R.sub.trans q) q fun a o h=>.inl h;have up:∀r u,az { M with tmp:=M.tmp++[o] } r=some u->(az M r=some u/\adr F (Y++[p]) S r=adr F Y S r)∨(r=.tmp Y.length/\u=o/\adr F (Y++[p]) S r=some p):=fun r u h=>by
  cases r with
  |loc i=>exact .inl ⟨h,rfl⟩|out k=>exact .inl ⟨h,rfl⟩
  |tmp j=>
   have h':(M.tmp++[o])[j]?=some u:=h;rcases Nat.lt_or_ge j M.tmp.length with g|g;rw[XF g] at h';exact .inl ⟨h',by show(Y++[p])[j]?=_;rw[XF (by rw[<- R.lt];exact g)];rfl⟩;rw[Xr g] at h';have y:j-M.tmp.length=0:=by have:=(Xe.mp h').1;simp at this;lia
   rw[y] at h';simp at h';have s:j=Y.length:=by rw[<- R.lt];lia
   exact .inr ⟨by rw[s],h'.symm,by show(Y++[p])[j]?=_;rw[s,Xr (W9 _)];simp⟩
 have t:∀r u a,az M r=some u->adr F Y S r=some a->a≠p:=fun r u a h1 c z=>by obtain⟨b,e,k,_⟩:=R.ob r u h1;rw[c] at e;cases e;obtain⟨x,v⟩:=k.some;rw[z,n] at v;cases v
 refine⟨R'.sub,R'.g0,R'.fra,R'.gd,R'.pr,R'.ls,R'.lo,by show(M.tmp++[o]).length=_;rw[Xd,Xd,R.lt];rfl,R'.fz,R'.al,R'.fo,fun r u h=>?_,fun r r' u l a h h' e d=>?_,fun r u a h e=>?_⟩;rcases up r u h with ⟨h1,c⟩|⟨rfl,rfl,c⟩;rw[c];exact R'.ob r u h1;rw[c];exact⟨p,rfl,‹_›,w⟩;rcases up r u h with ⟨h1,c⟩|⟨rfl,rfl,c⟩;rcases up r' l h' with ⟨m,f⟩|⟨rfl,rfl,f⟩;rw[c] at e;rw[f] at d;exact R.ij r r' u l a h1 m e d;rw[c] at e;rw[f] at d;cases d;exact absurd rfl (t r u p h1 e);rcases up r' l h' with ⟨m,f⟩|⟨rfl,_,f⟩;rw[c] at e;rw[f] at d;cases e;exact absurd rfl (t r' l p m d);rfl;rcases up r u h with ⟨h1,c⟩|⟨rfl,rfl,c⟩;rw[c] at e;exact R.nw r u a h1 e;rw[c] at e;cases e;exact .inr n1
abbrev TW:=Ms->(Ev->Ms->Prop)->Prop
abbrev iB:=Ms->(List Ev->Ms->Prop)->Prop
inductive eD (K:W.Frag)(F:Fr)(G:Hp)(Y:List Addr)(S:St):List Ev->List V->Prop where
 |nil:eD K F G Y S [] []
 |cons {e:Ev} {es:List Ev} {v:V} {C:List V} (h:EvOk K F G Y S e v) (r:eD K F G Y S es C):eD K F G Y S (e::es) (v::C)
inductive LE (K:W.Frag)(F:Fr)(w:TW)(S:St)(H:Hp)(Q:VK):Prop
 |mk (G Y M K0:_) (_:Rel K F G Y M S H) (_:w M K0) (_:∀ev M' I Z v H',K0 ev M'->Rel K F I Z M' S H'->Stp G Y I Z->EvOk K F I Z S ev v->Q v H'):LE K F w S H Q
inductive LA (K:W.Frag)(F:Fr)(w:iB)(S:St)(H:Hp)(Q:(List V->Hp->Prop)):Prop
 |mk (G Y M K0:_) (_:Rel K F G Y M S H) (_:w M K0) (_:∀dR M' I Z C H',K0 dR M'->Rel K F I Z M' S H'->Stp G Y I Z->eD K F I Z S dR C->Q C H'):LA K F w S H Q
theorem PE.imp {t t':TE}(h:PE X e t)(i:∀ S H Q,t' S H Q->t S H Q):PE X e t':=fun O s S H Q I q=>h O s S H Q I (i S H Q q)
theorem PT.imp {t t':TT}(h:PT X e t)(i:∀ S H Q,t' S H Q->t S H Q):PT X e t':=fun O s S H Q I q=>h O s S H Q I (i S H Q q)
theorem PA.imp {e:List Expr}{t t':TA}(h:PA X e t)(i:∀ S H Q,t' S H Q->t S H Q):PA X e t':=fun pos O s S H Q I q=>h pos O s S H Q I (i S H Q q)
def aG {q : Type}(o:Option q)(f : q -> Prop):Prop:=match o with|some a=>f a|none=>False
theorem aE {o:Option q}{f:q -> Prop}(h:aG o f):∃a,o=some a/\f a:=by cases o with|none=>exact h.elim|some a=>exact⟨a,rfl,h⟩
def iu {q u : Type}(o:Option (q × u))(f : q -> u -> Prop):Prop:=match o with|some (a,b)=>f a b|none=>False
theorem iz {o:Option (q × u)}{f:q -> u -> Prop}(h:iu o f):∃a b,o=some (a,b)/\f a b:=by cases o with|none=>exact h.elim|some p=>exact⟨p.1,p.2,rfl,h⟩
def wC (t:Tv):TW:=fun M k=>k (.fz t) M
noncomputable def lA (M:Ms)(i:Nat):Option Ev:=match M.env[i]? with
 |some (some (.fz t))=>some (.fz t)
 |some (some (.own _))=>some (.loc i)
 |some (some (.out k))=>some (.out k)
 |_=>none
def pM (i:Nat):TW:=fun M k=>aG (lA M i) fun a=>k a M
theorem N2 {v:V}(h:PE X e (tC v))(ok:mj v=true):PE X e (LE X.K F (wC (.at v))):=h.imp fun S H Q ⟨G,Y,M,a,R,k,q⟩=>q _ _ G Y v H k R .refl (.at ok)
theorem Rel.var (R:Rel K F G Y M S H){i:Nat}{d:Ev}(h:lA M i=some d):∃v,S[i]?=some (some v)/\EvOk K F G Y S d v:=by
 unfold lA at h;split at h
 .next t e=>cases h;exact R.fz i t e
 .next o e=>
  cases h;obtain⟨a,b,_⟩:=R.ob (.loc i) o (by simp [az,e,bY]);have c:S[i]?=some (some (V.ref a)):=by simp only [adr] at b;cases q:S[i]? with|none=>simp [q] at b|some s=>cases s with|none=>simp [q] at b|some v=>cases v <;> simp [q,lu] at b;subst b;rfl
  exact⟨.ref a,c,c,a,rfl⟩
 .next k e=>
  cases h;obtain⟨a,b,c⟩:=R.al i k e;exact⟨.ref a,c,a,b,rfl⟩
 cases h
theorem vk (h:PE X e (se i)):PE X e (LE X.K F (pM i)):=h.imp fun S H Q ⟨G,Y,M,d,R,k,q⟩=>by obtain⟨f,a,k⟩:=aE k;obtain⟨v,b,c⟩:=R.var a;exact⟨v,b,q _ _ G Y v H k R .refl c⟩
inductive Rs where
 |v (t:Tv)
 |n (o:Ob)
def mM (K:W.Frag)(G H:Hp)(Q:VK):Rs->Prop
 | .v t=>∀v I H',Same G I->Same H H'->Same I H'->(∀a o,I a=some o->G a=some o∨H a=none∨mJ o)->IsT K I v t->Q v H'
 | .n o=>∀p H',H p=none->Same H H'->ObOk K G H' p o->Q (.ref p) H'
def oF (n:Nat)(M:Ms)(k:Ev->Ms->Prop):Rs->Prop
 | .v t=>k (.fz t) { M with tmp:=M.tmp.take n }
 | .n o=>k (.tmp n) { M with tmp:=M.tmp.take n++[o] }
theorem zX {l m:List Addr}:(l++m).take l.length=l:=by simp
theorem Rel.done {G0:Hp}{t0:List Addr}{M0:Ms}{Q:VK}{e:Ev->Ms->Prop}(a:M0.tmp.length=t0.length)(R:Rel K F G Y M S H)(s:Stp G0 t0 G Y){r:Rs}(k:oF M0.tmp.length M e r)
  (q:∀f M' I Z v H',e f M'->Rel K F I Z M' S H'->Stp G0 t0 I Z->EvOk K F I Z S f v->Q v H'):mM K G H Q r:=by
 obtain⟨l,rfl⟩:=s.t;have b:=R.cut M0.tmp.length;rw[a,zX] at b
 cases r with
 |v t=>intro v I H' h1 c d h i;have R2:=b.more h1 d c h;exact q _ _ I t0 v H' k (by rw[a];exact R2) ⟨s.g.trans h1,[],by simp⟩ i
 |n o=>intro p H' j c d;have R2:=b.push j c d;refine q _ _ G (t0++[p]) (.ref p) H' k (by rw[a];exact R2) ⟨s.g,[p],rfl⟩ ⟨p,?_,rfl⟩;rw[a,Xr (W9 _)];simp
inductive Rz where
 |ok (r:Rs)
 |cd (c:Prop) (r:Rs)
 |ex (p:Rs->Prop)
 |no
inductive ZH:Rz->Rs->Prop where
 |ok {r:Rs}:ZH (.ok r) r
 |cd {c:Prop} {r:Rs} (h:c):ZH (.cd c r) r
 |ex {p:Rs->Prop} {r:Rs} (h:p r):ZH (.ex p) r
theorem fU {s:Rs}(h:ZH .no s):False:=by cases h
noncomputable def aI (f:Int->Rz):Tv->Rz
 | .at v=>match v with
  | .int i=>f i
  |_=>.no
 |_=>.no
theorem ZH.aI {f:Int->Rz}{s:Rs}(h:ZH (Lake.aI f t) s):∃i,t=.at (.int i)/\ZH (f i) s:=by cases t with| «at» v=>(cases v with|int i=>exact⟨i,rfl,h⟩|_=>exact(fU h).elim)|_=>exact(fU h).elim
noncomputable def aS (f:Str->Rz):Tv->Rz
 | .at v=>match v with
  | .str i=>f i
  |_=>.no
 |_=>.no
theorem ZH.aS {f:Str->Rz}{s:Rs}(h:ZH (Lake.aS f t) s):∃i,t=.at (.str i)/\ZH (f i) s:=by cases t with| «at» v=>(cases v with|str i=>exact⟨i,rfl,h⟩|_=>exact(fU h).elim)|_=>exact(fU h).elim
def bz (z:Rz)(f:Rs->Prop):Prop:=match z with
 | .ok r=>f r
 | .cd c r=>c/\f r
 | .ex p=>∃r,p r/\f r
 | .no=>False
theorem lE {z:Rz}{f:Rs->Prop}(h:bz z f):∃s,ZH z s/\f s:=by cases z with|ok r=>exact⟨r,.ok,h⟩|cd c r=>exact⟨r,.cd h.1,h.2⟩|ex p=>(obtain⟨r,h1,a⟩:=h;exact⟨r,.ex h1,a⟩)|no=>exact h.elim
def mI (f:Tv->Tv->Rz)(a wb:TW):TW:=fun M k=>a M fun x M1=>wb M1 fun y M2=>aG (rd M2 x) fun t=>aG (rd M2 y) fun u=>bz (f t u) (oF M.tmp.length M2 k)
def dX (K:W.Frag)(f:Tv->Tv->Rz)(r:R2):Prop:=∀G H x y t u s Q,Same G H->IsR K G H x t->IsR K G H y u->ZH (f t u) s->mM K G H Q s->r x y H Q
theorem lD {f:Tv->Tv->Rz}{b wb:TW}(h:PE X e (qy r (LE X.K F b) (LE X.K F wb)))(o:dX X.K f r):PE X e (LE X.K F (mI f b wb)):=h.imp fun S H Q ⟨G,Y,M,D,R,k,q⟩=>by refine⟨G,Y,M,_,R,k,fun x M1 d g i E j l m n=>⟨d,g,M1,_,l,j,fun y M2 p I v w a R2 c z=>?_⟩⟩;obtain⟨t,A,a⟩:=aE a;obtain⟨u,B,a⟩:=aE a;obtain⟨s,C,a⟩:=lE a;exact o p w i v t u s Q R2.sub (R2.rd (n.stp c) A) (R2.rd z B) C (R2.done R.lt (m.trans c) a q)
def lN (f:Tv->Rz)(a:TW):TW:=fun M k=>a M fun x M1=>aG (rd M1 x) fun t=>bz (f t) (oF M.tmp.length M1 k)
def jd (K:W.Frag)(f:Tv->Rz)(r:V->Hp->VK->Prop):Prop:=∀G H x t s Q,Same G H->IsR K G H x t->ZH (f t) s->mM K G H Q s->r x H Q
theorem kh {f:Tv->Rz}{r:V->Hp->VK->Prop}{c:TW}(h:PE X e (tU r (LE X.K F c)))(o:jd X.K f r):PE X e (LE X.K F (lN f c)):=h.imp fun S H Q ⟨G,Y,M,p,R,k,q⟩=>by refine⟨G,Y,M,_,R,k,fun x M1 d u g i a b j l=>?_⟩;obtain⟨t,m,a⟩:=aE a;obtain⟨s,n,a⟩:=lE a;exact o d i g t s Q b.sub (b.rd l m) n (b.done R.lt j a q)
def Kx:iB:=fun M k=>k [] M
def uY (a:TW)(wr:iB):iB:=fun M k=>a M fun x M1=>wr M1 fun xs M2=>k (x::xs) M2
theorem N1:PA X [] (LA X.K F Kx):=pa_nil.imp fun S H Q ⟨G,Y,M,a,R,k,q⟩=>q _ _ G Y [] H k R .refl .nil
theorem Qg {a:TW}{wr:iB}(h:PA X (e::es) (je (LE X.K F a) (LA X.K F wr))):PA X (e::es) (LA X.K F (uY a wr)):=h.imp fun S H Q ⟨G,Y,M,r,R,k,q⟩=>by refine⟨G,Y,M,_,R,k,fun x M1 c d s t f g i j=>⟨c,d,M1,_,g,f,fun xs M2 l m C n o R2 b p=>?_⟩⟩;exact q _ _ l m _ n o R2 (i.trans b) (.cons (j.stp b) p)
theorem eB {l:List q}{x y:q}(h:(l.set i x)[j]?=some y):(i=j/\y=x)∨(i≠j/\l[j]?=some y):=by
 rw[List.getElem?_set] at h;split at h
 .next e=>
  subst e;split at h;cases h;exact .inl ⟨rfl,rfl⟩;cases h
 .next e=>exact .inr ⟨e,h⟩
theorem wF {l:List q}{x:q}(h:i≠j):(l.set i x)[j]?=l[j]? := by rw[List.getElem?_set,Xh h]
theorem vO {s:Option V}{r:Rf}(h:r ≠ .loc i):adr F Y (S.set i s) r=adr F Y S r:=by cases r with|loc j=>(have:i≠j:=fun z=>h (by rw[z]);simp only [adr];rw[wF this])|out k=>rfl|tmp j=>rfl
theorem Rel.drop (R:Rel K F G Y M S H)(i:Nat)(s:Option V):Rel K F G Y { M with env:=M.env.set i none } (S.set i s) H:=by
 have up:∀r o,az { M with env:=M.env.set i none } r=some o->az M r=some o/\r ≠ .loc i:=fun r o h=>by cases r with|loc j=>(simp only [az] at h;cases q:(M.env.set i none)[j]? with|none=>simp [q] at h|some x=>rcases eB q with ⟨_,rfl⟩|⟨z,d⟩;simp [q] at h;rw[q] at h;exact⟨by simp only [az];rw[d];exact h,fun e=>by cases e;exact z rfl⟩)|out k=>exact⟨h,fun z=>by cases z⟩|tmp j=>exact⟨h,fun z=>by cases z⟩
 refine⟨R.sub,R.g0,R.fra,R.gd,R.pr,by simp [R.ls],R.lo,R.lt,fun j t h=>?_,fun j k h=>?_,R.fo,fun r o h=>?_,fun r r' o o' a h h' e c=>?_,fun r o a h e=>?_⟩;rcases eB h with ⟨_,z⟩|⟨z,h⟩;cases z;rw[wF z];exact R.fz j t h;rcases eB h with ⟨_,z⟩|⟨z,h⟩;cases z;rw[wF z];exact R.al j k h;obtain⟨h1,b⟩:=up r o h;rw[vO b];exact R.ob r o h1;obtain⟨h1,b⟩:=up r o h;obtain⟨f,g⟩:=up r' o' h';rw[vO b] at e;rw[vO g] at c;exact R.ij r r' o o' a h1 f e c;obtain⟨h1,b⟩:=up r o h;rw[vO b] at e;exact R.nw r o a h1 e
def Kw (K:W.Frag)(F:Fr)(G H:Hp)(Y:List Addr)(M:Ms)(S:St)(v:V):Sl->Prop
 | .fz t=>IsT K G v t
 | .own o=>∃a,v=.ref a/\ObOk K G H a o/\G a=none/\F.H0 a=none/\∀r u,az M r=some u->adr F Y S r≠some a
 | .out k=>∃a,F.ao[k]?=some a/\v=.ref a
theorem Rel.fill (R:Rel K F G Y M S H){i:Nat}(w:M.env[i]?=some none){v:V}{s:Sl}(g:S[i]?=some (some v))(ok:Kw K F G H Y M S v s):Rel K F G Y { M with env:=M.env.set i (some s) } S H:=by
 have up:∀r o,az { M with env:=M.env.set i (some s) } r=some o->(az M r=some o/\r ≠ .loc i)∨(r=.loc i/\s=.own o):=fun r o h=>by
  cases r with
  |loc j=>
   simp only [az] at h;cases q:(M.env.set i (some s))[j]? with
   |none=>simp [q] at h
   |some x=>
    rcases eB q with ⟨rfl,rfl⟩|⟨z,m⟩;rw[q] at h;cases s with|own u=>simp [bY] at h;subst h;exact .inr ⟨rfl,rfl⟩|fz t=>simp [bY] at h|out k=>simp [bY] at h
    rw[q] at h;exact .inl ⟨by simp only [az];rw[m];exact h,fun e=>by cases e;exact z rfl⟩
  |out k=>exact .inl ⟨h,fun z=>by cases z⟩|tmp j=>exact .inl ⟨h,fun z=>by cases z⟩
 have d:∀a,v=.ref a->adr F Y S (.loc i)=some a:=fun a e=>by simp [adr,g,e,lu]
 refine⟨R.sub,R.g0,R.fra,R.gd,R.pr,by simp [R.ls],R.lo,R.lt,fun j t h=>?_,fun j k h=>?_,R.fo,fun r o h=>?_,fun r r' o o' a h h' e f=>?_,fun r o a h e=>?_⟩;rcases eB h with ⟨rfl,z⟩|⟨z,h⟩;cases z;exact⟨v,g,ok⟩;exact R.fz j t h;rcases eB h with ⟨rfl,z⟩|⟨z,h⟩;cases z;obtain⟨a,h1,rfl⟩:=ok;exact⟨a,h1,g⟩;exact R.al j k h;rcases up r o h with ⟨h1,_⟩|⟨rfl,rfl⟩;exact R.ob r o h1;obtain⟨a,rfl,n,c,_⟩:=ok;exact⟨a,d a rfl,n,c⟩;rcases up r o h with ⟨h1,_⟩|⟨rfl,rfl⟩;rcases up r' o' h' with ⟨c,_⟩|⟨rfl,rfl⟩;exact R.ij r r' o o' a h1 c e f;obtain⟨b,rfl,_,_,_,l⟩:=ok;rw[d b rfl] at f;cases f;exact absurd e (l r o h1);rcases up r' o' h' with ⟨c,_⟩|⟨rfl,_⟩;obtain⟨b,rfl,_,_,_,l⟩:=ok;rw[d b rfl] at e;cases e;exact absurd f (l r' o' c);rfl;rcases up r o h with ⟨h1,_⟩|⟨rfl,rfl⟩;exact R.nw r o a h1 e;obtain⟨b,rfl,_,_,p,_⟩:=ok;rw[d b rfl] at e;cases e;exact .inr p
theorem Rel.dropO (R:Rel K F G Y M S H)(k:Nat):Rel K F G Y { M with out:=M.out.set k (.out 0) } S H:=by
 have up:∀r o,az { M with out:=M.out.set k (.out 0) } r=some o->az M r=some o:=fun r o h=>by cases r with|out j=>(simp only [az] at h ⊢;cases q:(M.out.set k (.out 0))[j]? with|none=>simp [q] at h|some x=>rw[q] at h;rcases eB q with ⟨_,rfl⟩|⟨z,b⟩;simp [bY] at h;rw[b];exact h)|loc i=>exact h|tmp j=>exact h
 refine⟨R.sub,R.g0,R.fra,R.gd,R.pr,R.ls,by simp [R.lo],R.lt,R.fz,R.al,fun j t h=>?_,fun r o h=>R.ob r o (up r o h),fun r r' o o' a h h'=>R.ij r r' o o' a (up r o h) (up r' o' h'),fun r o a h=>R.nw r o a (up r o h)⟩;rcases eB h with ⟨_,z⟩|⟨_,h⟩;cases z;exact R.fo j t h
theorem Rel.fillO (R:Rel K F G Y M S H){k:Nat}{a:Addr}(m:M.out[k]?=some (.out 0))(d:F.ao[k]?=some a){s:Sl}
  (ok:match s with | .fz t=>IsT K G (.ref a) t | .own o=>ObOk K G H a o/\G a=none/\(∀r u,az M r=some u->adr F Y S r≠some a) | .out _=>True):Rel K F G Y { M with out:=M.out.set k s } S H:=by
 have up:∀r o,az { M with out:=M.out.set k s } r=some o->az M r=some o∨(r=.out k/\s=.own o):=fun r o h=>by
  cases r with
  |out j=>
   simp only [az] at h ⊢;cases q:(M.out.set k s)[j]? with
   |none=>simp [q] at h
   |some x=>
    rw[q] at h;rcases eB q with ⟨rfl,rfl⟩|⟨z,l⟩;cases x with|own u=>simp [bY] at h;subst h;exact .inr ⟨rfl,rfl⟩|fz t=>simp [bY] at h|out k=>simp [bY] at h
    rw[l];exact .inl h
  |loc i=>exact .inl h|tmp j=>exact .inl h
 refine⟨R.sub,R.g0,R.fra,R.gd,R.pr,R.ls,by simp [R.lo],R.lt,R.fz,R.al,fun j t h=>?_,fun r o h=>?_,fun r r' o o' b h h' e f=>?_,fun r o b h e=>?_⟩
 .rcases eB h with ⟨rfl,z⟩|⟨_,h⟩
  .subst z;exact⟨a,d,ok⟩
  .exact R.fo j t h
 .rcases up r o h with h|⟨rfl,rfl⟩
  .exact R.ob r o h
  .exact⟨a,d,ok.1,ok.2.1⟩
 .rcases up r o h with h1|⟨rfl,rfl⟩
  .rcases up r' o' h' with g|⟨rfl,rfl⟩
   .exact R.ij r r' o o' b h1 g e f
   .have c:F.ao[k]?=some b:=f;rw[d] at c;cases c;exact absurd e (ok.2.2 r o h1)
  .rcases up r' o' h' with g|⟨rfl,_⟩
   .have c:F.ao[k]?=some b:=e;rw[d] at c;cases c;exact absurd f (ok.2.2 r' o' g)
   .rfl
 .rcases up r o h with h1|⟨rfl,rfl⟩
  .exact R.nw r o b h1 e
  .exact .inl ⟨k,rfl⟩
theorem Rel.fr (R:Rel K F G Y M S H){a:Addr}{o:Ob}(f:ObOk K G H a o)(j:G a=none)(m:F.H0 a=none∨a∈F.ao)(n:∀r u,az M r=some u->adr F Y S r≠some a):∃I,Rel K F I Y M S H/\Same G I/\IsT K I (.ref a) o.tv:=by
 have s:Same G (fun b=>if b=a then H a else G b):=fun b x e=>by show(if b=a then H a else G b)=_;rw[Xh (fun z=>by rw[z,j] at e;cases e)];exact e
 have g:(fun b=>if b=a then H a else G b) a=H a:=by show(if a=a then _ else _)=_;rw[Xk rfl]
 refine⟨_,⟨fun b x e=>?_,R.g0.trans s,R.fra,fun b x e=>?_,R.pr,R.ls,R.lo,R.lt,fun i t h=>?_,R.al,fun k t h=>?_,fun r u h=>?_,R.ij,R.nw⟩,s,?_⟩
 .have c:(if b=a then H a else G b)=some x:=e;split at c
  .next z=>rw[z];exact c
  exact R.sub _ _ c
 .have c:(if b=a then H a else G b)=some x:=e;split at c
  .next z=>rw[z];exact .inr (m.elim .inl fun q=>.inr (.inl q))
  exact R.gd b x c
 obtain⟨v,h1,d⟩:=R.fz i t h;exact⟨v,h1,d.mono s⟩;obtain⟨v,h1,d⟩:=R.fo k t h;exact⟨v,h1,d.mono s⟩;obtain⟨b,h1,d,p⟩:=R.ob r u h;refine⟨b,h1,d.mono s rfl,?_⟩;show(if b=a then H a else G b)=none;rw[Xh (fun z=>n r u h (by rw[h1,z]))];exact p;cases o with|lst l=>(obtain⟨C,e,r⟩:=f;exact .lst (g.trans e) (r.mono s))|dic l=>obtain⟨C,e,r⟩:=f;exact .dic (g.trans e) (r.mono s)
def dj (n:Nat)(M:Ms):Ev->Option (Tv×Ms)
 | .fz t=>some (t,{ M with tmp:=M.tmp.take n })
 | .loc i=>match M.env[i]? with
  |some (some (.own o))=>some (o.tv,{ M with env:=M.env.set i (some (.fz o.tv)),tmp:=M.tmp.take n })
  |some (some (.fz t))=>some (t,{ M with tmp:=M.tmp.take n })
  |_=>none
 | .out k=>match M.out[k]? with
  |some (.own o)=>some (o.tv,{ M with out:=M.out.set k (.fz o.tv),tmp:=M.tmp.take n })
  |some (.fz t)=>some (t,{ M with tmp:=M.tmp.take n })
  |_=>none
 | .tmp j=>if n<=j then (M.tmp[j]?).map fun o=>(o.tv,{ M with tmp:=M.tmp.take n }) else none
theorem v9 {l:List q}{x:q}(h:i<l.length):(l.set i x)[i]?=some x:=by rw[List.getElem?_set,Xk rfl,Xk h]
theorem Rel.frz {G0:Hp}{t0:List Addr}{M0:Ms}(W:M0.tmp.length=t0.length)(R:Rel K F G Y M S H)(s:Stp G0 t0 G Y){L:Ev}{v:V}{t:Tv}(h:EvOk K F G Y S L v)(e:dj M0.tmp.length M L=some (t,M')):∃I,Rel K F I t0 M' S H/\Stp G0 t0 I t0/\Same G I/\IsT K I v t:=by
 obtain⟨l,rfl⟩:=s.t;have f:=R.cut M0.tmp.length;rw[W,zX] at f;rw[W] at e;have N:∀{t':Tv},IsT K G v t'->t'=t->{ M with tmp:=M.tmp.take t0.length }=M'->∃I,Rel K F I t0 M' S H/\Stp G0 t0 I t0/\Same G I/\IsT K I v t:=fun h1 d n=>by subst d;subst n;exact⟨G,f,⟨s.g,[],by simp⟩,Same.refl _,h1⟩
 cases L with
 |fz u=>simp only [dj,Yb,Prod.mk.injEq] at e;exact N h e.1 e.2
 |loc i=>
  obtain⟨p,a,rfl⟩:=h;simp only [dj] at e;split at e
  .next o q=>
   simp only [Yb,Prod.mk.injEq] at e;obtain⟨rfl,rfl⟩:=e;obtain⟨b,h1,d,n⟩:=f.ob (.loc i) o (by simp [az,q,bY]);have B:b=a:=by simp [adr,p,lu] at h1;exact h1.symm
   subst B;have O:=f.nw (.loc i) o b (by simp [az,q,bY]) h1;have X:F.H0 b=none:=by rcases O with ⟨k,z⟩|z;cases z;exact z
   have Z:i<S.length:=(Xe.mp p).1;have D:=f.drop i (some (.ref b));have P:S.set i (some (V.ref b))=S:=List.ext_getElem? fun j=>by
    rw[List.getElem?_set];split
    .next z=>subst z;rw[p]
    rfl
   rw[P] at D;have C:∀r u,az { M with env:=M.env.set i none,tmp:=M.tmp.take t0.length } r=some u->adr F t0 S r≠some b:=fun r u c z=>by
    have:az { M with tmp:=M.tmp.take t0.length } r=some u/\r ≠ .loc i:=by cases r with|loc j=>(simp only [az] at c ⊢;cases w:(M.env.set i none)[j]? with|none=>simp [w] at c|some x=>rw[w] at c;rcases eB w with ⟨_,rfl⟩|⟨Q,T⟩;simp at c;rw[T];exact⟨c,fun e=>by cases e;exact Q rfl⟩)|out k=>exact⟨c,fun z=>by cases z⟩|tmp j=>exact⟨c,fun z=>by cases z⟩
    exact this.2 (f.ij r (.loc i) u o b this.1 (by simp [az,q,bY]) z h1)
   obtain⟨I,R2,m,y⟩:=D.fr d n (.inl X) C;have U:=R2.fill (i:=i) (v:=.ref b) (s:=.fz o.tv) (by show(M.env.set i none)[i]?=_;exact v9 (by rw[R.ls];exact Z)) p y;refine⟨I,?_,⟨s.g.trans m,[],by simp⟩,m,y⟩;have:(M.env.set i none).set i (some (.fz o.tv))=M.env.set i (some (Sl.fz o.tv)):=set_set ..;simpa [this] using U
  .next u q=>
   simp only [Yb,Prod.mk.injEq] at e;obtain⟨v',h1,d⟩:=R.fz i u q;rw[p] at h1;cases h1;exact N d e.1 e.2
  cases e
 |out k=>
  obtain⟨a,A,rfl⟩:=h;simp only [dj] at e;split at e
  .next o q=>
   simp only [Yb,Prod.mk.injEq] at e;obtain⟨rfl,rfl⟩:=e;obtain⟨b,h1,d,n⟩:=f.ob (.out k) o (by simp [az,q,bY]);have B:a=b:=by have E:F.ao[k]?=some b:=h1;rw[A] at E;exact Xt E
   subst B;have D:=f.dropO k;have C:∀r u,az { M with out:=M.out.set k (.out 0),tmp:=M.tmp.take t0.length } r=some u->adr F t0 S r≠some a:=fun r u c z=>by
    have:az { M with tmp:=M.tmp.take t0.length } r=some u/\r ≠ .out k:=by cases r with|out j=>(simp only [az] at c ⊢;cases w:(M.out.set k (.out 0))[j]? with|none=>simp [w] at c|some x=>rw[w] at c;rcases eB w with ⟨_,rfl⟩|⟨Q,T⟩;simp [bY] at c;rw[T];exact⟨c,fun e=>by cases e;exact Q rfl⟩)|loc i=>exact⟨c,fun z=>by cases z⟩|tmp j=>exact⟨c,fun z=>by cases z⟩
    exact this.2 (f.ij r (.out k) u o a this.1 (by simp [az,q,bY]) z h1)
   obtain⟨I,R2,m,y⟩:=D.fr d n (.inr (XT A)) C;have U:=R2.fillO (k:=k) (a:=a) (s:=.fz o.tv) (by show(M.out.set k (.out 0))[k]?=_;exact v9 (Xe.mp q).1) A y;refine⟨I,?_,⟨s.g.trans m,[],by simp⟩,m,y⟩;have:(M.out.set k (.out 0)).set k (.fz o.tv)=M.out.set k (Sl.fz o.tv):=set_set ..;simpa [this] using U
  .next u q=>
   simp only [Yb,Prod.mk.injEq] at e;obtain⟨v',h1,d⟩:=R.fo k u q;rw[A] at h1;cases h1;exact N d e.1 e.2
  cases e
 |tmp j=>
  obtain⟨a,A,rfl⟩:=h;simp only [dj] at e;split at e
  .next hj=>
   cases q:M.tmp[j]? with
   |none=>(rw[q] at e;cases e)
   |some o=>
    rw[q] at e;simp only [YV,Yb,Prod.mk.injEq] at e;obtain⟨rfl,rfl⟩:=e;obtain⟨b,h1,d,n⟩:=R.ob (.tmp j) o q;have B:a=b:=by have E:(t0++l)[j]?=some b:=h1;rw[A] at E;exact Xt E
    subst B;have O:F.H0 a=none:=by rcases R.nw (.tmp j) o a q h1 with ⟨k,z⟩|z;cases z;exact z
    have C:∀r u,az { M with tmp:=M.tmp.take t0.length } r=some u->adr F t0 S r≠some a:=fun r u c z=>by
     have:(az M r=some u/\adr F (t0++l) S r=some a)/\r ≠ .tmp j:=by
      cases r with
      |loc i=>exact⟨⟨c,z⟩,fun z=>by cases z⟩|out k=>exact⟨⟨c,z⟩,fun z=>by cases z⟩
      |tmp i=>
       have J:(M.tmp.take t0.length)[i]?=some u:=c;rw[List.getElem?_take] at J;split at J
       .next p=>
        refine⟨⟨J,?_⟩,fun z=>by cases z;lia⟩;show(t0++l)[i]?=_;rw[XF p];exact z
       cases J
     exact this.2 (R.ij r (.tmp j) u o a this.1.1 q this.1.2 h1)
    obtain⟨I,R2,m,y⟩:=f.fr d n (.inl O) C;exact⟨I,R2,⟨s.g.trans m,[],by simp⟩,m,y⟩
  cases e
end
variable {wa we:TW}
section
abbrev cP:=Ms->(Bool->Ms->Prop)->Prop
noncomputable def Ms.cut (M:Ms)(n:Nat):Ms:={ M with tmp:=M.tmp.take n }
noncomputable def jL:Ev->Option Bool
 | .fz (.at (.bl b))=>some b
 |_=>none
inductive LB (K:W.Frag)(F:Fr)(w:cP)(S:St)(H:Hp)(Q:(Bool->Hp->Prop)):Prop
 |mk (G Y M K0:_) (_:Rel K F G Y M S H) (_:w M K0) (_:∀b M' I H',K0 b M'->Rel K F I Y M' S H'->Same G I->Q b H'):LB K F w S H Q
theorem Rel.cutTo {G0:Hp}{t0:List Addr}{M0:Ms}(a:M0.tmp.length=t0.length)(R:Rel K F G Y M S H)(s:Stp G0 t0 G Y):Rel K F G t0 (M.cut M0.tmp.length) S H:=by obtain⟨l,rfl⟩:=s.t;have b:=R.cut M0.tmp.length;rw[a,zX] at b;rw[a];exact b
def uK (wa:TW):cP:=fun M k=>wa M fun x M1=>aG (jL x) fun b=>k b (M1.cut M.tmp.length)
theorem DC (h:PT X e (yN (LE X.K F wa))):PT X e (LB X.K F (uK wa)):=h.imp fun S H Q ⟨G,Y,M,p,R,k,q⟩=>by
 refine⟨G,Y,M,_,R,k,fun x M1 d r i j c l f m=>?_⟩;obtain⟨b,a,c⟩:=aE c;have n:x=.fz (.at (.bl b)):=by
  cases x with
  |fz t=>cases t with
   | «at» v => cases v <;> simp [jL] at a; subst a; rfl
   |_=>simp [jL] at a
  |_=>simp [jL] at a
 subst n;have o:IsT X.K d i (.at (.bl b)):=m;cases o;exact⟨b,rfl,q _ _ d j c (l.cutTo R.lt f) f.g⟩
noncomputable def Kv:Tv->Option Bool
 | .at .non=>some false
 | .at (.bl b)=>some b
 | .at (.int i)=>some (i != 0)
 | .at (.str x)=>some ((x.length:Int) != 0)
 | .tup l=>some !l.isEmpty
 | .lst l=>some !l.isEmpty
 | .dic l=>some !l.isEmpty
 |_=>none
theorem IsTs.emp {ts:List Tv}(h:IsTs K G C ts):C.isEmpty=ts.isEmpty:=by cases h <;> rfl
theorem IsKs.emp {C:List (aj×V)}{ts:List (aj×Tv)}(h:IsKs K G C ts):C.isEmpty=ts.isEmpty:=by cases h <;> rfl
theorem Qf {v:V}{b:Bool}(h:IsT K H v t)(e:Kv t=some b):uN K v H b:=by have hz:=XD;cases h with| «at» f =>(cases v with|non=>(cases e;rfl)|bl c=>(cases e;rfl)|int i=>(cases e;rfl)|str x=>(cases e;exact⟨by rw[hz];exact XY f,rfl⟩)|_=>cases e)|tup h r=>(cases e;exact .inr (.inl ⟨_,.of h,by rw[r.emp]⟩))|ktp h r=>(cases e)|fnv=>(cases e)|lst h r=>(cases e;exact .inl ⟨_,.of h,by rw[r.emp]⟩)|scr h r=>(cases e)|dic h r=>cases e;exact .inr (.inr ⟨_,h,by rw[r.emp]⟩)
def Ku (wa:TW):cP:=fun M k=>wa M fun x M1=>aG (rd M1 x) fun t=>aG (Kv t) fun b=>k b (M1.cut M.tmp.length)
theorem DB (h:PT X e (fun S H Q=>LE X.K F wa S H fun x H'=>∃k,uN X.K x H' k/\Q k H')):PT X e (LB X.K F (Ku wa)):=h.imp fun S H Q ⟨G,Y,M,n,R,k,q⟩=>by refine⟨G,Y,M,_,R,k,fun x M1 f o p i a c d j=>?_⟩;obtain⟨t,l,a⟩:=aE a;obtain⟨b,m,a⟩:=aE a;exact⟨b,Qf ((c.rd j l).up c.sub) m,q _ _ f i a (c.cutTo R.lt d) d.g⟩
def Kt (a b:cP):cP:=fun M k=>a M fun c M1=>if c=true then b M1 k else k false M1
def A8 (a b:cP):cP:=fun M k=>a M fun c M1=>if c=true then k true M1 else b M1 k
def Ks (a:cP):cP:=fun M k=>a M fun c M1=>k (!c) M1
theorem LB.and {a b:cP}{Q:Bool->Hp->Prop}:LB X.K F (Kt a b) S H Q->KR (LB X.K F a) (LB X.K F b) S H Q:=fun⟨G,Y,M,h,R,k,q⟩=>by refine⟨G,Y,M,_,R,k,fun c M1 d i e f g=>?_⟩;cases c with|true=>exact⟨d,Y,M1,h,f,e,fun b M' I H' j R' l=>q b M' I H' j R' (g.trans l)⟩|false=>exact q _ _ d i e f g
theorem LB.or {a b:cP}{Q:Bool->Hp->Prop}:LB X.K F (A8 a b) S H Q->Bc (LB X.K F a) (LB X.K F b) S H Q:=fun⟨G,Y,M,h,R,k,q⟩=>by refine⟨G,Y,M,_,R,k,fun c M1 d i e f g=>?_⟩;cases c with|false=>exact⟨d,Y,M1,h,f,e,fun b M' I H' j R' l=>q b M' I H' j R' (g.trans l)⟩|true=>exact q _ _ d i e f g
theorem LB.not {a:cP}{Q:Bool->Hp->Prop}:LB X.K F (Ks a) S H Q->KQ (LB X.K F a) S H Q:=fun⟨G,Y,M,h,R,k,q⟩=>⟨G,Y,M,_,R,k,fun c M1 b d e f g=>q _ _ b d e f g⟩
abbrev bU:=Ms->(List Tv->Ms->Prop)->Prop
inductive LF (K:W.Frag)(F:Fr)(n:Nat)(w:bU)(S:St)(H:Hp)(Q:(List V->Hp->Prop)):Prop
 |mk (G Y M K0:_) (_:Rel K F G Y M S H) (_:w M K0) (_:∀ts M' I C H',K0 ts M'->Rel K F I Y M' S H'->Same G I->IsTs K I C ts->ts.length=n->Q C H'):LF K F n w S H Q
def yK:bU:=fun M k=>k [] M
def sF (wa:TW)(wr:bU):bU:=fun M k=>wa M fun x M1=>iu (dj M.tmp.length M1 x) fun t M2=>wr M2 fun ts a=>k (t::ts) a
theorem N0:PA X [] (LF X.K F 0 yK):=pa_nil.imp fun S H Q ⟨G,Y,M,a,R,k,q⟩=>q _ _ G [] H k R (Same.refl _) .nil rfl
theorem LF.cons {n:Nat}{wa:TW}{wr:bU}{S:St}{H:Hp}{Q:List V->Hp->Prop}:LF X.K F (n+1) (sF wa wr) S H Q->je (LE X.K F wa) (LF X.K F n wr) S H Q:=fun⟨G,Y,M,p,R,k,q⟩=>by refine⟨G,Y,M,_,R,k,fun x M1 r s u v a c d e=>?_⟩;obtain⟨t,M2,f,a⟩:=iz a;obtain⟨h,R2,i,w,j⟩:=c.frz R.lt d e f;exact⟨h,Y,M2,_,R2,a,fun ts M' I C H' l R' b m o=>q _ _ I _ H' l R' (i.g.trans b) (.cons (j.mono b) m) (by rw[Xl,o])⟩
noncomputable def Kr (ts:List Tv):Option Rs:=some (.v (.tup ts))
noncomputable def Kq (ts:List Tv):Option Rs:=some (.n (.lst ts))
def sk (f:List Tv->Option Rs)(wr:bU):TW:=fun M k=>wr M fun ts M1=>aG (f ts) fun r=>oF M.tmp.length M1 k r
theorem vN {Q:VK}{ts:List Tv}(s:Same G H)(h:IsTs K G C ts)(q:mM K G H Q (.v (.tup ts))):∀p,H p=none->Q (.ref p) (ak H p (.tup C)):=fun p a=>by
 have c:Same G (ak G p (.tup C)):=fun b x e=>by rw[ay (bL e (s.free a))];exact e
 refine q (.ref p) (ak G p (.tup C)) _ c (fun b x e=>by rw[ay (bL e a)];exact e) (fun b x e=>?_) (fun b x e=>?_) (.tup aJ (h.mono c));by_cases z:b=p;subst z;rw[aJ] at e ⊢;exact e;rw[ay z] at e ⊢;exact s _ _ e;by_cases z:b=p;subst z;exact .inr (.inl a);rw[ay z] at e;exact .inl e
theorem v8 {Q:VK}{ts:List Tv}{p:Addr}(s:Same G H)(d:Same H H')(e:H' p=some (.tup C))(h:IsTs K G C ts)(q:mM K G H Q (.v (.tup ts))):Q (.ref p) H':=by
 have f:Same G (fun b=>if b=p then H' p else G b):=fun b x c=>by
  show(if b=p then H' p else G b)=_;split
  .next z=>subst z;exact d _ _ (s _ _ c)
  exact c
 refine q (.ref p) _ H' f d (fun b x c=>?_) (fun b x c=>?_) (.tup (by show(if p=p then H' p else G p)=_;rw[Xk rfl];exact e) (h.mono f))
 .have a:(if b=p then H' p else G b)=some x:=c;split at a
  .next z=>subst z;exact a
  exact d _ _ (s _ _ a)
 .have a:(if b=p then H' p else G b)=some x:=c;split at a
  .next z=>subst z;rw[e] at a;cases a;exact .inr (.inr trivial)
  exact .inl a
theorem m8 {Q:VK}{ts:List Tv}(h:IsTs K G C ts)(q:mM K G H Q (.n (.lst ts))):∀p,H p=none->Q (.ref p) (ak H p (.lst C)):=fun p a=>
 q p _ a (fun b x e=>by rw[ay (bL e a)];exact e) ⟨C,aJ,h⟩
theorem cN {Q:VK}{v:V}(s:Same G H)(h:IsT K G v t)(q:mM K G H Q (.v t)):Q v H:=q v G H (Same.refl _) (Same.refl _) s (fun _ _ e=>.inl e) h
theorem LE.disp {n:Nat}{f:List Tv->Option Rs}{wr:bU}{Q:VK}:LE X.K F (sk f wr) S H Q->LF X.K F n wr S H fun C a=>∃G ts s,Same G a/\IsTs X.K G C ts/\f ts=some s/\mM X.K G a Q s/\ts.length=n:=fun⟨G,Y,M,i,R,k,q⟩=>by refine⟨G,Y,M,_,R,k,fun ts M1 d C a b c e g l1=>?_⟩;obtain⟨s,h,b⟩:=aE b;exact⟨d,ts,s,c.sub,g,h,c.done R.lt ⟨e,[],by simp⟩ b q,l1⟩
theorem NZ {n:Nat}{b:Nat}{pos:Pos}{wr:bU}(p:n<=1000)(h:PA X es (LF X.K F n wr)):PE X (.Tuple es b pos) (LE X.K F (sk Kr wr)):=(vt h).imp fun S H Q k=>by obtain⟨G,Y,M,c,R,k,q⟩:=LE.disp (n:=n) k;refine⟨G,Y,M,c,R,k,fun ts M1 d C e f g i j l1=>?_⟩;obtain⟨r,l,s,h1,a,m,o,l2⟩:=q ts M1 d C e f g i j l1;cases m;exact⟨by rw[a.len,XD];lia,vN h1 a o⟩
theorem NY {n:Nat}{pos:Pos}{wr:bU}(o:n<=1000)(h:PA X es (LF X.K F n wr)):PE X (.List es pos) (LE X.K F (sk Kq wr)):=(mY h).imp fun S H Q k=>by obtain⟨G,Y,M,b,R,k,q⟩:=LE.disp (n:=n) k;refine⟨G,Y,M,b,R,k,fun ts M1 c C d e f g i l1=>?_⟩;obtain⟨p,j,s,h1,a,l,m,l2⟩:=q ts M1 c C d e f g i l1;cases l;exact⟨by rw[a.len,XD];lia,m8 a m⟩
structure PD where
 nx:Ms->Prop
 rt:Ev->Ms->Prop
 bk:Ms->Prop:=fun _=>False
 ct:Ms->Prop:=fun _=>False
abbrev cg:=PD->Ms->Prop
structure PDOk (K:W.Frag)(F:Fr)(G:Hp)(P:PD)(D:bp):Prop where
 nx:∀M' I U H',P.nx M'->Rel K F I [] M' U H'->Same G I->D.nx U H'
 rt:∀ev M' I Z U v H',P.rt ev M'->Rel K F I Z M' U H'->Same G I->EvOk K F I Z U ev v->D.rt v H'
 bk:∀M' I U H',P.bk M'->Rel K F I [] M' U H'->Same G I->D.bk U H'
 ct:∀M' I U H',P.ct M'->Rel K F I [] M' U H'->Same G I->D.ct U H'
theorem PDOk.up {P:PD}{D:bp}(h:PDOk K F G P D)(s:Same G I):PDOk K F I P D:=⟨fun M1 b a c p R d=>h.nx M1 b a c p R (s.trans d),fun e M1 b f a v c p R d=>h.rt e M1 b f a v c p R (s.trans d),fun M1 b a c p R d=>h.bk M1 b a c p R (s.trans d),fun M1 b a c p R d=>h.ct M1 b a c p R (s.trans d)⟩
inductive LS (K:W.Frag)(F:Fr)(w:cg)(D:bp)(S:St)(H:Hp):Prop
 |mk (G M P:_) (_:Rel K F G [] M S H) (_:w P M) (_:PDOk K F G P D):LS K F w D S H
theorem PS.imp {t t':TS}(h:PS X st t)(i:∀D S H,t' D S H->t D S H):PS X st t':=fun O s S H D I q=>h O s S H D I (i D S H q)
theorem PSs.imp {st:List Stmt}{t t':TS}(h:PSs X st t)(i:∀D S H,t' D S H->t D S H):PSs X st t':=fun O s S H D I q=>h O s S H D I (i D S H q)
def Cy:cg:=fun P M=>P.nx M
def Kp (a b:cg):cg:=fun P M=>a { P with nx:=fun M1=>b P M1 } M
theorem LS.seq {a b:cg}{D:bp}:LS X.K F (Kp a b) D S H->yw (LS X.K F a) (LS X.K F b) D S H:=fun⟨G,M,P,R,k,ok⟩=>
 ⟨G,M,_,R,k,fun M1 c d g p e f=>⟨c,M1,P,e,p,ok.up f⟩,ok.rt,ok.bk,ok.ct⟩
def Ko (wa:TW):cg:=fun P M=>wa M P.rt
theorem LS.ret {D:bp}:LS X.K F (Ko wa) D S H->KO (LE X.K F wa) D S H:=fun⟨G,M,P,R,k,ok⟩=>
 ⟨G,[],M,_,R,k,fun a M1 b c v d p e f h=>ok.rt a M1 b c S v d p e f.g h⟩
def A9 (c:cP)(a b:cg):cg:=fun P M=>c M fun x M1=>if x=true then a P M1 else b P M1
theorem LS.ite {c:cP}{a b:cg}{D:bp}:LS X.K F (A9 c a b) D S H->KN (LB X.K F c) (LS X.K F a) (LS X.K F b) D S H:=fun⟨G,M,P,R,k,ok⟩=>by refine⟨G,[],M,_,R,k,fun x M1 d g p e f=>?_⟩;cases x with|true=>exact⟨d,M1,P,e,p,ok.up f⟩|false=>exact⟨d,M1,P,e,p,ok.up f⟩
def Kn (wa:TW):cg:=fun P M=>wa M fun _ M1=>P.nx (M1.cut 0)
theorem LS.exp {D:bp}:LS X.K F (Kn wa) D S H->CJ (LE X.K F wa) D S H:=fun⟨G,M,P,R,k,ok⟩=>
 ⟨G,[],M,_,R,k,fun e M1 a f v b p c d h=>ok.nx _ a S b p (by have:=c.cut 0;exact this) d.g⟩
def asg (i:Nat)(M:Ms):Ev->Option Ms
 | .fz t=>some ⟨M.env.set i (some (.fz t)),M.out,[]⟩
 | .tmp j=>(M.tmp[j]?).map fun o=>⟨M.env.set i (some (.own o)),M.out,[]⟩
 | .out k=>some ⟨M.env.set i (some (.out k)),M.out,[]⟩
 | .loc j=>(dj 0 M (.loc j)).map fun p=>⟨p.2.env.set i (some (.fz p.1)),p.2.out,[]⟩
theorem Rel.putS (R:Rel K F G Y M S H)(i:Nat){v:V}{s:Sl}(ok:Kw K F G H Y { M with env:=M.env.set i none } (S.set i (some v)) v s):Rel K F G Y { M with env:=M.env.set i (some s) } (S.set i (some v)) H:=by have D:=R.drop i (some v);by_cases a:i<S.length;have:=D.fill (i:=i) (v:=v) (s:=s) (by show(M.env.set i none)[i]?=_;exact v9 (by rw[R.ls];exact a)) (v9 a) ok;have e:(M.env.set i none).set i (some s)=M.env.set i (some s):=set_set ..;simpa [e] using this;have b:M.env.set i none=M.env:=List.set_eq_of_length_le (by rw[R.ls];lia);have c:M.env.set i (some s)=M.env:=List.set_eq_of_length_le (by rw[R.ls];lia);rw[b] at D;rw[c];exact D
theorem Rel.asg {G0:Hp}(R:Rel K F G Y M S H){d:Ev}{v:V}{i:Nat}(s:Same G0 G)(h:EvOk K F G Y S d v)(e:asg i M d=some M'):∃I,Rel K F I [] M' (S.set i (some v)) H/\Same G0 I:=by
 have f:Rel K F G [] { M with tmp:=[] } S H:=by have:=R.cut 0;simpa using this
 cases d with
 |fz t=>simp only [Lake.asg,Yb] at e;subst e;exact⟨G,f.putS i (s:=.fz t) h,s⟩|out k=>simp only [Lake.asg,Yb] at e;subst e;exact⟨G,f.putS i (s:=.out k) h,s⟩
 |tmp j=>
  obtain⟨a,h1,rfl⟩:=h;simp only [Lake.asg] at e;cases q:M.tmp[j]? with
  |none=>(rw[q] at e;cases e)
  |some o=>
   rw[q] at e;simp only [YV,Yb] at e;subst e;obtain⟨b,y,A,B⟩:=R.ob (.tmp j) o q;have C:a=b:=by have l:Y[j]?=some b:=y;rw[h1] at l;exact Xt l
   subst C;have D:F.H0 a=none:=by rcases R.nw (.tmp j) o a q h1 with ⟨k,z⟩|z;cases z;exact z
   refine⟨G,f.putS i (s:=.own o) ⟨a,rfl,A,B,D,fun r u c z=>?_⟩,s⟩;have:az M r=some u/\adr F Y S r=some a/\r ≠ .tmp j:=by cases r with|loc m=>(simp only [az] at c ⊢;cases g:(M.env.set i none)[m]? with|none=>simp [g] at c|some x=>rw[g] at c;rcases eB g with ⟨_,rfl⟩|⟨E,J⟩;simp at c;rw[J];refine⟨c,?_,fun z=>by cases z⟩;simp only [adr] at z ⊢;rw[wF E] at z;exact z)|out k=>exact⟨c,z,fun z=>by cases z⟩|tmp m=>exact absurd (show([]:List Ob)[m]?=some u from c) (by simp)
   exact this.2.2 (R.ij r (.tmp j) u o a this.1 q this.2.1 h1)
 |loc j=>simp only [Lake.asg] at e;cases q:dj 0 M (.loc j) with|none=>(rw[q] at e;cases e)|some p=>obtain⟨t,M1⟩:=p;rw[q] at e;simp only [YV,Yb] at e;subst e;obtain⟨I,n,O,L,N⟩:=R.frz (G0:=G) (t0:=[]) (M0:=⟨[],[],[]⟩) rfl ⟨Same.refl _,Y,rfl⟩ h q;have w:M1.tmp=[]:=Za n.lt;have R2:=n.putS i (s:=.fz t) (v:=v) N;obtain⟨P,Q,T⟩:=M1;simp only at w;subst w;exact⟨I,R2,s.trans L⟩
def AV (i:Nat)(wa:TW):cg:=fun P M=>wa M fun a M1=>aG (asg i M1 a) P.nx
theorem LS.set {D:bp}:LS X.K F (AV i wa) D S H->oy (LE X.K F wa) (pZ i) D S H:=fun⟨G,M,P,R,k,ok⟩=>by refine⟨G,[],M,_,R,k,fun j M1 l m v a p b c d=>?_⟩;obtain⟨M2,e,p⟩:=aE p;obtain⟨f,R2,h⟩:=b.asg c.g d e;exact ok.nx M2 f _ a p R2 h
def Km (c:cP)(b:cg):cg:=fun P M=>∃W:Nat->Ms->Prop,(∃m,W m M)/\∀m M,W m M->c M fun x M1=>if x=true then b { nx:=fun M2=>∃a,a<m/\W a M2,ct:=fun M2=>∃a,a<m/\W a M2,bk:=P.nx,rt:=P.rt } M1 else P.nx M1
theorem LS.whl {c:cP}{b:cg}{D:bp}:LS X.K F (Km c b) D S H->DN (LB X.K F c) (LS X.K F b) D S H:=fun⟨G,M,P,R,⟨W,⟨m,t⟩,u⟩,ok⟩=>by refine⟨fun n S H=>∃I M,Rel X.K F I [] M S H/\Same G I/\W n M,⟨m,G,M,R,Same.refl _,t⟩,?_⟩;rintro n l J ⟨w,M1,y,i,z⟩;refine⟨w,[],M1,_,y,u n M1 z,fun x M2 s A p R2 j=>?_⟩;cases x with|true=>refine⟨fun S H=>∃g,g<n/\∃I M,Rel X.K F I [] M S H/\Same G I/\W g M,fun U H' h=>h,s,M2,_,R2,p,fun d e a k Z f s3=>by obtain⟨g,o,q⟩:=Z;exact ⟨g,o,e,d,f,i.trans (j.trans s3),q⟩,fun B d e C a v k r f s3 E=>ok.rt B d e C a v k r f (i.trans (j.trans s3)) E,fun d e a k r f s3=>ok.nx d e a k r f (i.trans (j.trans s3)),fun d e a k Y f s3=>by obtain⟨g,o,q⟩:=Y;exact ⟨g,o,e,d,f,i.trans (j.trans s3),q⟩⟩|false=>exact ok.nx M2 s l A p R2 (i.trans j)
end
abbrev SA:=List Sl
abbrev SK:=Sl->List Sl->Prop
abbrev aK:=List Sl->(Sl->List Sl->Prop)->Prop
inductive AOk (K:W.Frag)(G H:Hp):List Sl->List V->List Addr->Prop where
 |nil:AOk K G H [] [] []
 |fz {t:Tv} {ss:List Sl} {v:V} {C:List V} {R:List Addr} (h:IsT K G v t) (r:AOk K G H ss C R):AOk K G H (.fz t::ss) (v::C) R
 |own {o:Ob} {a:Addr} {ss:List Sl} {C:List V} {R:List Addr} (h:ObOk K G H a o) (hg:G a=none) (r:AOk K G H ss C R):AOk K G H (.own o::ss) (.ref a::C) (a::R)
inductive iV (K:W.Frag)(G H:Hp):List Sl->List V->List Sl->Prop where
 |nil:iV K G H [] [] []
 |fz {t:Tv} {s:Sl} {ss lS:List Sl} {v:V} {C:List V} (r:iV K G H ss C lS):iV K G H (.fz t::ss) (v::C) (s::lS)
 |own {o o':Ob} {a:Addr} {ss lS:List Sl} {C:List V} (h:ObOk K G H a o') (hg:G a=none) (r:iV K G H ss C lS):iV K G H (.own o::ss) (.ref a::C) (.own o'::lS)
 |gone {o:Ob} {t:Tv} {a:Addr} {ss lS:List Sl} {C:List V} (h:IsT K G (.ref a) t) (r:iV K G H ss C lS):iV K G H (.own o::ss) (.ref a::C) (.fz t::lS)
def AZ (K:W.Frag)(H I H':Hp)(v:V):Sl->Prop
 | .fz t=>IsT K I v t
 | .own o=>∃p,v=.ref p/\H p=none/\ObOk K I H' p o/\I p=none
 | .out _=>False
structure oT (K:W.Frag)(G H:Hp)(R:List Addr)(I H':Hp):Prop where
 g:Same G I
 s:Same I H'
 k:∀a o,H a=some o->a∉R->H' a=some o
 d:∀a o,I a=some o->G a=some o∨H a=none∨a∈R∨mJ o
 t:∀a o,H a=some o->∃o',H' a=some o'
def ff (K:W.Frag)(psp:aK):Sp:=fun C H Q _=>∃G args R a,Same G H/\AOk K G H args C R/\R.Nodup/\psp args a/\∀r b v I H',a r b->oT K G H R I H'->iV K I H' args C b->AZ K H I H' v r->Q v H'
noncomputable def uX (n:Nat)(M:Ms):Ev->Option (Sl×Option Rf)
 | .fz t=>some (.fz t,none)
 | .loc i=>match M.env[i]? with
  |some (some (.own o))=>some (.own o,some (.loc i))
  |some (some (.fz t))=>some (.fz t,none)
  |_=>none
 | .out k=>match M.out[k]? with
  |some (.own o)=>some (.own o,some (.out k))
  |some (.fz t)=>some (.fz t,none)
  |_=>none
 | .tmp j=>if n<=j then (M.tmp[j]?).map fun o=>(.own o,some (.tmp j)) else none
noncomputable def oK (n:Nat)(M:Ms):List Ev->Option (List (Sl×Option Rf))
 |[]=>some []
 |e::es=>match uX n M e,oK n M es with
  |some a,some r=>some (a::r)
  |_,_=>none
noncomputable def oE (r:Rf):List (Sl×Option Rf)->Bool
 |[]=>true
 | (_,some r')::l => !(r==r')&&oE r l
 | (_,none)::l=>oE r l
noncomputable def lr:List (Sl×Option Rf)->Bool
 |[]=>true
 | (_,some r)::l=>oE r l&&lr l
 | (_,none)::l=>lr l
noncomputable def lM (M:Ms):Option Rf->Sl->Ms
 |some (.loc i),s=>{ M with env:=M.env.set i (some s) }
 |some (.out k),s=>{ M with out:=M.out.set k s }
 |_,_=>M
noncomputable def wb (M:Ms):List (Sl×Option Rf)->List Sl->Ms
 | (_,r)::a,s::b=>wb (lM M r s) a b
 |_,_=>M
def ow (n:Nat)(M:Ms)(k:Ev->Ms->Prop):Sl->Prop
 | .fz t=>k (.fz t) { M with tmp:=M.tmp.take n }
 | .own o=>k (.tmp n) { M with tmp:=M.tmp.take n++[o] }
 | .out _=>False
def uW (psp:aK)(wr:iB):TW:=fun M k=>wr M fun a M1=>aG (oK M.tmp.length M1 a) fun R=>lr R=true/\psp (R.map (·.1)) fun r b=>ow M.tmp.length (wb M1 R b) k r
variable {psp:aK}
section
theorem zB {r:Option Rf}{s:Sl}:(lM M r s).env.length=M.env.length/\(lM M r s).out.length=M.out.length/\(lM M r s).tmp=M.tmp:=by match r with|none|some (.tmp _)=>exact⟨rfl,rfl,rfl⟩|some (.loc _)=>exact⟨length_set,rfl,rfl⟩|some (.out _)=>exact⟨rfl,length_set,rfl⟩
theorem qa:∀{a:List (Sl×Option Rf)}{b:List Sl}{M:Ms},(wb M a b).tmp=M.tmp
 |[],_,_=>rfl
 |_::_,[],_=>rfl
 | (_,r)::a,s::b,M=>(@qa a b (lM M r s)).trans zB.2.2
theorem Af:∀{a:List (Sl×Option Rf)}{b:List Sl}{M:Ms},(wb M a b).env.length=M.env.length/\(wb M a b).out.length=M.out.length
 |[],_,_=>⟨rfl,rfl⟩
 |_::_,[],_=>⟨rfl,rfl⟩
 | (_,r)::a,s::b,M=>have h:=@Af a b (lM M r s);⟨h.1.trans zB.1,h.2.trans zB.2.1⟩
inductive Wr:List (Sl×Option Rf)->List Sl->Rf->Sl->Prop where
 |hd {x:Sl} {r:Rf} {rs:List (Sl×Option Rf)} {s:Sl} {ss:List Sl}:Wr ((x,some r)::rs) (s::ss) r s
 |tl {x:Sl×Option Rf} {r:Rf} {rs:List (Sl×Option Rf)} {s s':Sl} {ss:List Sl} (h:Wr rs ss r s'):Wr (x::rs) (s::ss) r s'
theorem vj:∀{a:List (Sl×Option Rf)}{b:List Sl}{M:Ms}{i:Nat}{x:Option Sl},a.length=b.length->(wb M a b).env[i]?=some x->(∃s,x=some s/\Wr a b (.loc i) s)∨(M.env[i]?=some x/\∀y,(y,some (.loc i))∉a)
 |[],_,M,i,x,_,h=>.inr ⟨h,fun _ z=>by cases z⟩
 |p::a,[],M,i,x,d,h=>by simp at d
 | (z,r)::a,s::b,M,i,x,d,h=>by
  rcases vj (M:=lM M r s) (by simpa using d) h with ⟨f,e,w⟩|⟨e,n⟩;exact .inl ⟨f,e,.tl w⟩;have c:(r=some (.loc i)/\x=some s)∨(M.env[i]?=some x/\r≠some (.loc i)):=by match r,e with|none,e|some (.tmp _),e|some (.out _),e=>exact .inr ⟨e,fun z=>by cases z⟩|some (.loc m),e=>rcases eB e with ⟨rfl,rfl⟩|⟨g,e⟩;exact .inl ⟨rfl,rfl⟩;exact .inr ⟨e,fun z=>by cases z;exact g rfl⟩
  rcases c with ⟨rfl,rfl⟩|⟨e,c⟩;exact .inl ⟨s,rfl,.hd⟩;exact .inr ⟨e,fun y j=>(Xj.mp j).elim (fun q=>c (by cases q;rfl)) (n y)⟩
theorem y8:∀{a:List (Sl×Option Rf)}{b:List Sl}{M:Ms}{i:Nat}{x:Sl},a.length=b.length->(wb M a b).out[i]?=some x->Wr a b (.out i) x∨(M.out[i]?=some x/\∀y,(y,some (.out i))∉a)
 |[],_,M,i,x,_,h=>.inr ⟨h,fun _ z=>by cases z⟩
 |p::a,[],M,i,x,d,h=>by simp at d
 | (z,r)::a,s::b,M,i,x,d,h=>by
  rcases y8 (M:=lM M r s) (by simpa using d) h with w|⟨e,n⟩;exact .inl (.tl w);have c:(r=some (.out i)/\x=s)∨(M.out[i]?=some x/\r≠some (.out i)):=by match r,e with|none,e|some (.tmp _),e|some (.loc _),e=>exact .inr ⟨e,fun z=>by cases z⟩|some (.out m),e=>rcases eB e with ⟨rfl,rfl⟩|⟨f,e⟩;exact .inl ⟨rfl,rfl⟩;exact .inr ⟨e,fun z=>by cases z;exact f rfl⟩
  rcases c with ⟨rfl,rfl⟩|⟨e,c⟩;exact .inl .hd;exact .inr ⟨e,fun y g=>(Xj.mp g).elim (fun q=>c (by cases q;rfl)) (n y)⟩
inductive RAs (F:Fr)(Y:List Addr)(S:St)(M:Ms):List (Sl×Option Rf)->List V->List Addr->Prop where
 |nil:RAs F Y S M [] [] []
 |fz {t:Tv} {rs:List (Sl×Option Rf)} {v:V} {C:List V} {R:List Addr} (r:RAs F Y S M rs C R):RAs F Y S M ((.fz t,none)::rs) (v::C) R
 |own {o:Ob} {x:Rf} {a:Addr} {rs:List (Sl×Option Rf)} {C:List V} {R:List Addr} (ho:az M x=some o) (ha:adr F Y S x=some a) (r:RAs F Y S M rs C R):RAs F Y S M ((.own o,some x)::rs) (.ref a::C) (a::R)
theorem RAs.mem {b:List (Sl×Option Rf)}(h:RAs F Y S M b C R):∀a∈R,∃y x o,(y,some x)∈b/\az M x=some o/\adr F Y S x=some a:=by induction h with|nil=>(intro a h;cases h)|fz r c=>(intro a h;obtain⟨y,x,o,h1,d⟩:=c a h;exact⟨y,x,o,W7 _ h1,d⟩)| @own o x g b C R e f r c=>intro a h;rcases Xj.mp h with rfl|h;exact⟨_,x,o,W8,e,f⟩;obtain⟨y,x,o,h1,d⟩:=c a h;exact⟨y,x,o,W7 _ h1,d⟩
theorem RAs.wr {c:List (Sl×Option Rf)}(h:RAs F Y S M c C R):∀{d:List Sl},iV K G H (c.map (·.1)) C d->∀{x:Rf}{s:Sl},Wr c d x s →∃o a,az M x=some o/\adr F Y S x=some a/\((∃o',s=.own o'/\ObOk K G H a o'/\G a=none)∨∃t,s=.fz t/\IsT K G (.ref a) t):=by induction h with|nil=>(intro d b x s w;cases w)| @fz t c v C R r e=>(intro d b x s w;cases b with|fz b=>cases w with|tl w=>exact e b w)| @own o y a c C R f g r e=>intro d b x s w;cases b with|own h1 i b=>(cases w with|hd=>exact⟨o,a,f,g,.inl ⟨_,rfl,h1,i⟩⟩|tl w=>exact e b w)|gone h1 b=>cases w with|hd=>exact⟨o,a,f,g,.inr ⟨_,rfl,h1⟩⟩|tl w=>exact e b w
theorem RAs.len {d:List (Sl×Option Rf)}(h:RAs F Y S M d C R):∀{b:List Sl},iV K G H (d.map (·.1)) C b->d.length=b.length:=by
 induction h with
 |nil=>(intro b a;cases a;rfl)|fz r c=>(intro b a;cases a with|fz a=>simp [c a])
 |own e f r c=>intro b a;cases a with
  |own _ _ a=>simp [c a]
  |gone _ a=>simp [c a]
theorem Rel.back {t0 l:List Addr}(a0:Rel K F G (t0++l) M S H){f:List (Sl×Option Rf)}{C:List V}{R:List Addr}{D:List Sl}(J:RAs F (t0++l) S M f C R)(N:iV K I H' (f.map (·.1)) C D)(p:oT K G H R I H')(tm:∀y j,(y,some (Rf.tmp j))∈f->t0.length<=j):Rel K F I t0 { wb M f D with tmp:=M.tmp.take t0.length } S H'/\∀r o a,az { wb M f D with tmp:=M.tmp.take t0.length } r=some o->adr F t0 S r=some a->∃x,H a=some x:=by
 have O:=J.len N;have Z:∀a∈R,(a∈F.ao∨F.H0 a=none)/\∃o,H a=some o:=fun a W=>by obtain⟨y,x,o,_,c,A⟩:=J.mem a W;obtain⟨b,B,E,T⟩:=a0.ob x o c;rw[A] at B;cases B;refine⟨?_,E.some⟩;rcases a0.nw x o a c A with ⟨k,rfl⟩|z;exact .inl (XT (show F.ao[k]?=some a from A));exact .inr z
 have up:∀r o,az { wb M f D with tmp:=M.tmp.take t0.length } r=some o->(adr F t0 S r=adr F (t0++l) S r)/\((∃s,Wr f D r s/\s=.own o)∨(az M r=some o/\∀y,(y,some r)∉f∨∃j,r=.tmp j/\j<t0.length)):=fun r o h=>by
  cases r with
  |loc i=>
   refine⟨rfl,?_⟩;simp only [az] at h ⊢;cases q:(wb M f D).env[i]? with
   |none=>simp [q] at h
   |some x=>
    rw[q] at h;rcases vj O q with ⟨s,rfl,w⟩|⟨e,n⟩;cases s with|own u=>simp [bY] at h;subst h;exact .inl ⟨_,w,rfl⟩|fz t=>simp [bY] at h|out k=>simp [bY] at h
    exact .inr ⟨by rw[e];exact h,fun y=>.inl (n y)⟩
  |out k=>
   refine⟨rfl,?_⟩;simp only [az] at h ⊢;cases q:(wb M f D).out[k]? with
   |none=>simp [q] at h
   |some x=>
    rw[q] at h;rcases y8 O q with w|⟨e,n⟩;cases x with|own u=>simp [bY] at h;subst h;exact .inl ⟨_,w,rfl⟩|fz t=>simp [bY] at h|out k=>simp [bY] at h
    exact .inr ⟨by rw[e];exact h,fun y=>.inl (n y)⟩
  |tmp j=>
   have h':(M.tmp.take t0.length)[j]?=some o:=h;rw[List.getElem?_take] at h';split at h'
   .next X=>exact⟨by show t0[j]?=(t0++l)[j]?;rw[XF X],.inr ⟨h',fun y=>.inr ⟨j,rfl,X⟩⟩⟩
   cases h'
 have U:∀r o,az { wb M f D with tmp:=M.tmp.take t0.length } r=some o->∃m,az M r=some m:=fun r o h=>by rcases(up r o h).2 with ⟨s,w,_⟩|⟨h1,_⟩;obtain⟨m,_,h1,_⟩:=J.wr N w;exact⟨m,h1⟩;exact⟨o,h1⟩
 have wY:∀y j,(y,some (Rf.tmp j))∈f->t0.length<=j:=tm;have qV:∀r o a,az M r=some o->adr F (t0++l) S r=some a->(∀y,(y,some r)∉f∨∃j,r=.tmp j/\j<t0.length)->a∉R:=fun r o a h1 c A W=>by obtain⟨y,x,o',B,E,T⟩:=J.mem a W;have:=a0.ij r x o o' a h1 E c T;subst this;rcases A y with z|⟨j,rfl,X⟩;exact z B;have:=wY y j B;lia
 refine⟨?_,fun r o a h e=>by
  obtain⟨m,P⟩:=U r o h;rw[(up r o h).1] at e;obtain⟨b,B,E,_⟩:=a0.ob r m P;rw[e] at B;cases B
  exact E.some⟩
 refine⟨p.s,a0.g0.trans p.g,fun a o h1 c=>?_,fun a o h=>?_,fun a h=>?_,by show(wb M f D).env.length=_;rw[Af.1];exact a0.ls,by show(wb M f D).out.length=_;rw[Af.2];exact a0.lo,?_,fun i t h=>?_,fun i k h=>?_,fun k t h=>?_,fun r o h=>?_,fun r r' o o' a h h' e e'=>?_,fun r o a h e=>?_⟩;refine p.k a o (a0.fra a o h1 c) fun z=>?_;rcases(Z a z).1 with q|q;exact c q;rw[h1] at q;cases q;rcases p.d a o h with z|z|z|z;exact a0.gd a o z;exact .inr (.inl (a0.new z).1);rcases(Z a z).1 with q|q;exact .inr (.inr (.inl q));exact .inr (.inl q);exact .inr (.inr (.inr z));obtain⟨o,e⟩:=a0.pr a h;exact p.t a o e;show(M.tmp.take t0.length).length=_;rw[XJ,a0.lt,Xd];lia;rcases vj O h with ⟨s,e,w⟩|⟨e,_⟩;cases e;obtain⟨m,a,h1,c,A|⟨t',A,L⟩⟩:=J.wr N w;obtain⟨_,z,_⟩:=A;cases z;cases A;refine⟨.ref a,?_,L⟩;simp only [adr] at c;cases q:S[i]? with|none=>simp [q] at c|some x=>cases x with|none=>simp [q] at c|some v=>cases v <;> simp [q,lu] at c;subst c;rfl
 obtain⟨v,h1,c⟩:=a0.fz i t e;exact⟨v,h1,c.mono p.g⟩;rcases vj O h with ⟨s,e,w⟩|⟨e,_⟩;cases e;obtain⟨m,a,h1,c,⟨_,z,_⟩|⟨t',z,L⟩⟩:=J.wr N w;cases z;cases z;exact a0.al i k e;rcases y8 O h with w|⟨e,_⟩;obtain⟨m,a,h1,c,⟨_,z,_⟩|⟨t',z,L⟩⟩:=J.wr N w;cases z;cases z;exact⟨a,c,L⟩;obtain⟨a,h1,c⟩:=a0.fo k t e;exact⟨a,h1,c.mono p.g⟩;obtain⟨u1,u2⟩:=up r o h;rw[u1];rcases u2 with ⟨s,w,rfl⟩|⟨h1,c⟩;obtain⟨m,a,h1,c,⟨o',z,A,L⟩|⟨t',z,L⟩⟩:=J.wr N w;cases z;exact⟨a,c,A,L⟩;cases z;obtain⟨a,B,E,T⟩:=a0.ob r o h1;have Y:=qV r o a h1 B c;obtain⟨x,Q⟩:=E.some;refine⟨a,B,E.mono p.g ((p.k a x Q Y).trans Q.symm),?_⟩;cases q:I a with|none=>rfl|some y=>rcases p.d a y q with z|z|z|z;rw[T] at z;cases z;rw[Q] at z;cases z;exact absurd z Y;have q2:=p.s a y q;rw[p.k a x Q Y] at q2;cases q2;exact absurd z (E.notup Q)
 obtain⟨m,P⟩:=U r o h;obtain⟨o1,h1⟩:=U r' o' h';rw[(up r o h).1] at e;rw[(up r' o' h').1] at e';exact a0.ij r r' m o1 a P h1 e e';obtain⟨m,P⟩:=U r o h;rw[(up r o h).1] at e;exact a0.nw r m a P e
theorem Rel.pushAt (R:Rel K F G Y M S H){p:Addr}{o:Ob}(h:ObOk K G H p o)(q:G p=none)(n1:F.H0 p=none)(m:∀r u a,az M r=some u->adr F Y S r=some a->a≠p):Rel K F G (Y++[p]) { M with tmp:=M.tmp++[o] } S H:=by
 have up:∀r u,az { M with tmp:=M.tmp++[o] } r=some u->(az M r=some u/\adr F (Y++[p]) S r=adr F Y S r)∨(r=.tmp Y.length/\u=o/\adr F (Y++[p]) S r=some p):=fun r u h=>by
  cases r with
  |loc i=>exact .inl ⟨h,rfl⟩|out k=>exact .inl ⟨h,rfl⟩
  |tmp j=>
   have h':(M.tmp++[o])[j]?=some u:=h;rcases Nat.lt_or_ge j M.tmp.length with f|f;rw[XF f] at h';exact .inl ⟨h',by show(Y++[p])[j]?=_;rw[XF (by rw[<- R.lt];exact f)];rfl⟩;rw[Xr f] at h';have s:j-M.tmp.length=0:=by have:=(Xe.mp h').1;simp at this;lia
   rw[s] at h';simp at h';have n:j=Y.length:=by rw[<- R.lt];lia
   exact .inr ⟨by rw[n],h'.symm,by show(Y++[p])[j]?=_;rw[n,Xr (W9 _)];simp⟩
 refine⟨R.sub,R.g0,R.fra,R.gd,R.pr,R.ls,R.lo,by show(M.tmp++[o]).length=_;rw[Xd,Xd,R.lt];rfl,R.fz,R.al,R.fo,fun r u h=>?_,fun r r' u g a h h' e c=>?_,fun r u a h e=>?_⟩;rcases up r u h with ⟨h1,b⟩|⟨rfl,rfl,b⟩;rw[b];exact R.ob r u h1;rw[b];exact⟨p,rfl,‹_›,q⟩;rcases up r u h with ⟨h1,b⟩|⟨rfl,rfl,b⟩;rcases up r' g h' with ⟨l,d⟩|⟨rfl,rfl,d⟩;rw[b] at e;rw[d] at c;exact R.ij r r' u g a h1 l e c;rw[b] at e;rw[d] at c;cases c;exact absurd rfl (m r u p h1 e);rcases up r' g h' with ⟨l,d⟩|⟨rfl,_,d⟩;rw[b] at e;rw[d] at c;cases e;exact absurd rfl (m r' g p l c);rfl;rcases up r u h with ⟨h1,b⟩|⟨rfl,rfl,b⟩;rw[b] at e;exact R.nw r u a h1 e;rw[b] at e;cases e;exact .inr n1
theorem wy {r:Rf}:∀{l:List (Sl×Option Rf)},oE r l=true->∀y,(y,some r)∉l
 |[],_,_,h=>by cases h
 | (x,none)::l,a,y,h=>by simp only [oE] at a;rcases Xj.mp h with q|q;cases q;exact wy a y q
 | (x,some r')::l,a,y,h=>by simp only [oE,W4,YZ,XX] at a;rcases Xj.mp h with q|q;cases q;exact a.1 rfl;exact wy a.2 y q
theorem Rel.args {n:Nat}(a0:Rel K F G Y M S H):∀{l:List Ev}{C:List V}{f:List (Sl×Option Rf)},eD K F G Y S l C->oK n M l=some f->lr f=true →∃R,RAs F Y S M f C R/\AOk K G H (f.map (·.1)) C R/\R.Nodup/\∀y j,(y,some (Rf.tmp j))∈f->n<=j:=by
 intro l;induction l with
 |nil=>(intro C f h e _;cases h;cases e;exact⟨[],.nil,.nil,.nil,fun _ _ z=>by cases z⟩)
 |cons L l N=>
  intro C f h e ok;cases h with| @cons _ _ v C h1 O=>
  simp only [oK] at e;split at e
  .next a r d er=>
   cases e;have lift:∀(I:lr r=true),_:=fun I=>N O er I;have p:∀t,a=(.fz t,none)->IsT K G v t->∃R,RAs F Y S M (a::r) (v::C) R/\AOk K G H ((a::r).map (·.1)) (v::C) R/\R.Nodup/\∀y j,(y,some (Rf.tmp j))∈a::r->n<=j:=fun t q P=>by subst q;obtain⟨R,g1,g2,s,u⟩:=lift ok;exact⟨R,.fz g1,.fz P g2,s,fun y j z=>(Xj.mp z).elim (fun q=>by cases q) (u y j)⟩
   have w:∀o x b,a=(.own o,some x)->v=.ref b->az M x=some o->adr F Y S x=some b->(∀j,x=.tmp j->n<=j)->∃R,RAs F Y S M (a::r) (v::C) R/\AOk K G H ((a::r).map (·.1)) (v::C) R/\R.Nodup/\∀y j,(y,some (Rf.tmp j))∈a::r->n<=j:=fun o x b q Q A B D=>by subst q;subst Q;simp only [lr,W4] at ok;obtain⟨R,g1,g2,s,u⟩:=lift ok.2;obtain⟨c,J,T,U⟩:=a0.ob x o A;rw[B] at J;cases J;refine⟨b::R,.own A B g1,.own T U g2,YH.mpr ⟨fun z=>?_,s⟩,fun y j z=>(Xj.mp z).elim (fun q=>by cases q;exact D j rfl) (u y j)⟩;obtain⟨y,W,o',X,Z,m3⟩:=g1.mem b z;have:=a0.ij x W o o' b A Z B m3;subst this;exact wy ok.1 y X
   cases L with
   |fz t=>(cases d;exact p t rfl h1)
   |loc i=>
    obtain⟨g,b,rfl⟩:=h1;simp only [uX] at d;split at d
    .next o q=>cases d;exact w o _ b rfl rfl (by simp [az,q,bY]) (by simp [adr,g,lu]) fun j z=>by cases z
    .next t q=>
     cases d;obtain⟨v',m,E⟩:=a0.fz i t q;rw[g] at m;cases m;exact p t rfl E
    cases d
   |out k=>
    obtain⟨b,g,rfl⟩:=h1;simp only [uX] at d;split at d
    .next o q=>cases d;exact w o _ b rfl rfl (by simp [az,q,bY]) g fun j z=>by cases z
    .next t q=>
     cases d;obtain⟨b',m,E⟩:=a0.fo k t q;rw[g] at m;cases m;exact p t rfl E
    cases d
   |tmp j=>
    obtain⟨b,g,rfl⟩:=h1;simp only [uX] at d;split at d
    .next D=>
     cases q:M.tmp[j]? with|none=>(rw[q] at d;cases d)|some o=>rw[q] at d;cases d;exact w o _ b rfl rfl q g fun j' z=>by cases z;exact D
    cases d
  cases e
theorem LE.call {wr:iB}{Q:VK}{E:XK}:LE X.K F (uW psp wr) S H Q->yM (ff X.K psp) [] E (LA X.K F wr) S H Q:=fun⟨G,Y,M,U,a0,k,q⟩=>by
 refine⟨G,Y,M,_,a0,k,fun V M1 w W C Z d b e f=>?_⟩;obtain⟨y,h1,ok,d⟩:=aE d;obtain⟨R,g1,g2,A,i⟩:=b.args f h1 ok;rw[Xm];refine⟨w,_,R,_,b.sub,g2,A,d,fun r D v I H' c p J m=>?_⟩;obtain⟨l,rfl⟩:=e.t;have h:=a0.lt;rw[h] at i c;have B:=b.back g1 J p i;cases r with
 |fz t=>exact q _ _ I Y v H' c (by rw[qa];exact B.1) ⟨e.g.trans p.g,[],by simp⟩ m
 |own o=>
  obtain⟨a,rfl,n,L,N⟩:=m;have n1:=b.new n;have O:Rel X.K F I (Y++[a]) { wb M1 y D with tmp:=M1.tmp.take Y.length++[o] } S H':=B.1.pushAt L N n1.1 fun r u P f T z=>by obtain⟨x,s⟩:=B.2 r u P f T;rw[z,n] at s;cases s
  refine q _ _ I (Y++[a]) _ H' c (by rw[qa];exact O) ⟨e.g.trans p.g,[a],rfl⟩ ⟨a,?_,rfl⟩;rw[Xr (W9 _)];simp
 |out j=>exact c.elim
end
noncomputable def iq:Nat->List Sl->List (Option Sl)
 |_,[]=>[]
 |k,.own _::r=>some (.out k)::iq (k+1) r
 |k,s::r=>some s::iq k r
noncomputable def jP:List Sl->List Sl
 |[]=>[]
 | .own o::r=>.own o::jP r
 |_::r=>jP r
def aR (n:Nat)(args:List Sl):Ms:=⟨iq 0 args++List.replicate (n-args.length) none,jP args,[]⟩
noncomputable def eW:List Sl->List Sl->Option (List Sl)
 |[],_=>some []
 | .own _::r,.own o::os=>(eW r os).map (.own o :: ·)
 | .own _::r,.fz t::os=>(eW r os).map (.fz t :: ·)
 | .own _::_,_=>none
 | .fz t::r,os=>(eW r os).map (.fz t :: ·)
 | .out _::_,_=>none
noncomputable def Bd (M:Ms)(i:Nat):Option Sl:=match M.env[i]? with
 |some (some (.own o))=>some (.own o)
 |some (some (.fz t))=>some (.fz t)
 |_=>none
def uV (M:Ms):Ev->Option Sl
 | .fz t=>some (.fz t)
 | .tmp j=>(M.tmp[j]?).map .own
 | .loc i=>Bd M i
 | .out _=>none
def aW (args:List Sl)(k:Sl->List Sl->Prop):PD where
 nx:=fun M=>aG (eW args M.out) fun ss=>k (.fz (.at .non)) ss
 rt:=fun ev M=>aG (eW args M.out) fun ss=>aG (uV M ev) fun r=>k r ss
section
theorem AOk.len {args:List Sl}(h:AOk K G H args C R):C.length=args.length:=by induction h with|nil=>rfl|fz _ _ a=>simp [a]|own _ _ _ a=>simp [a]
theorem v7:∀{k:Nat}{args:List Sl},(iq k args).length=args.length
 |_,[]=>rfl
 |k,.own _::r=>by simp [iq,@v7 (k+1) r]
 |k,.fz _::r=>by simp [iq,@v7 k r]
 |k,.out _::r=>by simp [iq,@v7 k r]
theorem AOk.ent {args:List Sl}(h:AOk K G H args C R):∀(k i:Nat)(s:Sl),(iq k args)[i]?=some (some s)->∃v,C[i]?=some v/\((∃t,s=.fz t/\IsT K G v t)∨∃j a,s=.out (k+j)/\R[j]?=some a/\v=.ref a):=by induction h with|nil=>(intro k i s h;simp [iq] at h)| @fz t c v C R d r b=>(intro k i s h;cases i with|zero=>simp [iq] at h;subst h;exact⟨v,rfl,.inl ⟨t,rfl,d⟩⟩|succ i=>simp [iq] at h;simpa using b k i s h)| @own o a c C R h1 m r b=>intro k i s h;cases i with|zero=>simp [iq] at h;subst h;exact⟨_,rfl,.inr ⟨0,a,rfl,rfl,rfl⟩⟩|succ i=>simp [iq] at h;obtain⟨v,e,z⟩:=b (k+1) i s h;refine⟨v,by simpa using e,?_⟩;rcases z with z|⟨j,f,rfl,g,l⟩;exact .inl z;exact .inr ⟨j+1,f,by congr 1;lia,by simpa using g,l⟩
theorem AOk.outs {args:List Sl}(h:AOk K G H args C R):(jP args).length=R.length/\∀(k:Nat)(s:Sl),(jP args)[k]?=some s->∃o a,s=.own o/\R[k]?=some a/\ObOk K G H a o/\G a=none:=by induction h with|nil=>exact⟨rfl,fun k s h=>by simp [jP] at h⟩|fz _ _ b=>exact b| @own o a d C R h1 c r b=>refine⟨by simp [jP,b.1],fun k s h=>?_⟩;cases k with|zero=>simp [jP] at h;exact⟨o,a,h.symm,rfl,h1,c⟩|succ k=>simp [jP] at h;simpa using b.2 k s h
theorem Vd {l:List (Option q)}{n:Nat}{s:q}(h:(l++List.replicate n none)[i]?=some (some s)):l[i]?=some (some s):=by rcases Nat.lt_or_ge i l.length with a|a;rw[XF a] at h;exact h;rw[Xr a,List.getElem?_replicate] at h;split at h <;> cases h
theorem wx {N:List Str}{args:List Sl}(s:Same G H)(h:AOk K G H args C R)(nd:R.Nodup)(J:args.length<=N.length):Rel K ⟨H,G,R⟩ G [] (aR N.length args) (f9 N C) H:=by
 have L:=h.len;have slot:∀(i:Nat)(B:Sl),(aR N.length args).env[i]?=some (some B)->∃v,(f9 N C)[i]?=some (some v)/\((∃t,B=.fz t/\IsT K G v t)∨∃j a,B=.out (0+j)/\R[j]?=some a/\v=.ref a):=fun i B e=>by obtain⟨v,c,d⟩:=h.ent 0 i B (Vd e);refine⟨v,?_,d⟩;unfold f9;rw[XF (by rw[Xa];exact(Xe.mp c).1),XG,c];rfl
 have ob:∀r o,az (aR N.length args) r=some o->∃k,r=.out k/\(jP args)[k]?=some (.own o):=fun r o e=>by cases r with|loc i=>(simp only [az] at e;cases q:(aR N.length args).env[i]? with|none=>simp [q] at e|some x=>cases x with|none=>simp [q] at e|some B=>rw[q] at e;obtain⟨v,_,⟨t,rfl,_⟩|⟨j,a,rfl,_⟩⟩:=slot i B q;simp [bY] at e;simp [bY] at e)|out k=>(simp only [az] at e;cases q:(aR N.length args).out[k]? with|none=>simp [q] at e|some x=>rw[q] at e;cases x with|own u=>simp [bY] at e;subst e;exact⟨k,rfl,q⟩|fz t=>simp [bY] at e|out k=>simp [bY] at e)|tmp j=>exact absurd (show([]:List Ob)[j]?=some o from e) (by simp)
 refine⟨s,Same.refl _,fun a o h1 _=>h1,fun a o h1=>.inl h1,fun a y=>?_,?_,h.outs.1,rfl,fun i t e=>?_,fun i k e=>?_,fun k t e=>?_,fun r o e=>?_,fun r r' o o' a e A m D=>?_,fun r o a e m=>?_⟩;obtain⟨k,n⟩:=List.getElem?_of_mem y;have g:k<(jP args).length:=by rw[h.outs.1];exact(Xe.mp n).1
 obtain⟨o,b,_,d,f,_⟩:=h.outs.2 k _ (Xc g);have p:R[k]?=some b:=d;have l:R[k]?=some a:=n;rw[l] at p;cases p;exact f.some;show(iq 0 args++_).length=(f9 N C).length;unfold f9;simp only [Xd,Xa,List.length_replicate,v7];lia;obtain⟨v,c,⟨t',z,d⟩|⟨j,a,z,_⟩⟩:=slot i _ e;cases z;exact⟨v,c,d⟩;cases z;obtain⟨v,c,⟨t',z,d⟩|⟨j,a,z,f,rfl⟩⟩:=slot i _ e;cases z;cases z;exact⟨a,by show R[0+j]?=_;rw[Nat.zero_add];exact f,c⟩;obtain⟨o,a,z,_⟩:=h.outs.2 k _ e;cases z;obtain⟨k,rfl,c⟩:=ob r o e;obtain⟨o',a,z,d,f,E⟩:=h.outs.2 k _ c;cases z;exact⟨a,d,f,E⟩;obtain⟨k,rfl,c⟩:=ob r o e;obtain⟨F,rfl,M⟩:=ob r' o' A;have w:R[k]?=some a:=m;have I:R[F]?=some a:=D;have:=(List.getElem?_inj (Xe.mp w).1 nd).mp (w.trans I.symm);rw[this];obtain⟨k,rfl,_⟩:=ob r o e;exact .inl ⟨k,rfl⟩
theorem RJ {args:List Sl}(h:AOk K G H args C R):∀{os d:List Sl}{n:Nat},eW args os=some d->(∀(k:Nat)(s:Sl),os[k]?=some s->∃a,R[k]?=some a/\match s with | .own o=>ObOk K I H' a o/\I a=none | .fz t=>IsT K I (.ref a) t | .out _=>True)->iV K I H' args C d:=by
 induction h with
 |nil=>(intro os d n e _;cases e;exact .nil)| @fz t c v C R u r f=>(intro os d n e g;simp only [eW] at e;cases q:eW c os with|none=>(rw[q] at e;cases e)|some x=>rw[q] at e;cases e;exact .fz (f (n:=n) q g))
 | @own o a c C R h1 w r f=>
  intro os d n e g;cases os with
  |nil=>(cases e)
  |cons s os=>
   have l:∀(k:Nat)(i:Sl),os[k]?=some i->∃b,R[k]?=some b/\match i with | .own o=>ObOk K I H' b o/\I b=none | .fz t=>IsT K I (.ref b) t | .out _=>True:=fun k i m=>by have:=g (k+1) i (by simpa using m);simpa using this
   obtain⟨b,p,j⟩:=g 0 s rfl;cases p;cases s with|own o'=>(simp only [eW] at e;cases q:eW c os with|none=>(rw[q] at e;cases e)|some x=>rw[q] at e;cases e;exact .own j.1 j.2 (f (n:=n) q l))|fz t=>(simp only [eW] at e;cases q:eW c os with|none=>(rw[q] at e;cases e)|some x=>rw[q] at e;cases e;exact .gone j (f (n:=n) q l))|out k=>cases e
theorem Rel.post (a0:Rel K ⟨H,G,R⟩ I Y M S H'):oT K G H R I H':=⟨a0.g0,a0.sub,a0.fra,a0.gd,fun a o h=>by
  by_cases b:a∈R
  .exact a0.pr a b
  .exact⟨o,a0.fra a o h b⟩⟩
theorem Rel.aps {args:List Sl}{d:List Sl}(a0:Rel K ⟨H,G,R⟩ I Y M S H')(h:AOk K G H args C R)(e:eW args M.out=some d):iV K I H' args C d:=RJ h (n:=0) e fun k s b=>by
 cases s with
 |own o=>(obtain⟨a,h1,c,f⟩:=a0.ob (.out k) o (by simp [az,b,bY]);exact⟨a,h1,c,f⟩)|fz t=>(obtain⟨a,h1,c⟩:=a0.fo k t b;exact⟨a,h1,c⟩)
 |out j=>
  have:k<R.length:=by have:=(Xe.mp b).1;rw[a0.lo] at this;exact this
  exact⟨R[k],Xc this,trivial⟩
theorem Rel.res (a0:Rel K ⟨H,G,R⟩ I Y M S H'){c:Ev}{v:V}{r:Sl}(h:EvOk K ⟨H,G,R⟩ I Y S c v)(e:uV M c=some r):AZ K H I H' v r:=by
 have own:∀x o a,az M x=some o->adr ⟨H,G,R⟩ Y S x=some a->(∀k,x ≠ .out k)->AZ K H I H' (.ref a) (.own o):=fun x o a h1 d l=>by obtain⟨b,f,m,n⟩:=a0.ob x o h1;rw[d] at f;cases f;rcases a0.nw x o a h1 d with ⟨k,z⟩|z;exact absurd z (l k);exact⟨a,rfl,z,m,n⟩
 cases c with
 |fz t=>(cases e;exact h)
 |loc i=>
  obtain⟨h1,a,rfl⟩:=h;simp only [uV,Bd] at e;split at e
  .next o q=>cases e;exact own (.loc i) o a (by simp [az,q,bY]) (by simp [adr,h1,lu]) fun k z=>by cases z
  .next t q=>
   cases e;obtain⟨s,g,p⟩:=a0.fz i t q;rw[h1] at g;cases g;exact p
  cases e
 |out k=>(cases e)|tmp j=>obtain⟨a,h1,rfl⟩:=h;simp only [uV] at e;cases q:M.tmp[j]? with|none=>(rw[q] at e;cases e)|some o=>rw[q] at e;cases e;exact own (.tmp j) o a q h1 fun k z=>by cases z
end
section
theorem Fun.okW {f:Addr}{N:List Str}{k:Nat}{wb:cg}(F:Fun K x c st f fd)(S:aO N ps (cO st))(len:∀args k,psp args k->args.length=ps.length)
  (body:∀(d:Value)(A:Around)(outer:List Env)(s:Shared)(H:Hp)(E:XK)(Fr:Fr),Room k (A.deeper (envOfC c (cO st) s.heap.objs.size f d))->PSs (ox dr P w K mg base N c (cO st) f d A outer s H E).nox (iT st) (LS K Fr wb))
  (h:∀args k,psp args k->wb (aW args k) (aR N.length args)):FnOk P w K mg base dr (k+1) f fd ps (ff K psp):=by
 have m:ps.length<=N.length:=by have:=Yd List.length S.pre;rw[XJ] at this;lia
 refine F.ok S (fun C H Q E z=>by obtain⟨G,args,R,l,s,b,nd,e,q⟩:=z;rw[b.len,len _ _ e]) fun d A outer s H C Q E n y=>?_;obtain⟨G,args,R,l,o,b,nd,e,q⟩:=y;refine⟨_,body d A outer s H E ⟨H,G,R⟩ n,G,_,_,wx o b nd (by rw[len _ _ e];exact m),h args l e,?_⟩;refine⟨fun M' I U H' a R' g=>?_,fun u M' I Z U v H' a R' g p=>?_,fun M' I U H' a R' g=>a.elim,fun M' I U H' a R' g=>a.elim⟩
 .obtain⟨i,j,a⟩:=aE a;exact q _ i .non I H' a R'.post (R'.aps b j) (.at rfl)
 .obtain⟨i,j,a⟩:=aE a;obtain⟨r,t,a⟩:=aE a;exact q r i v I H' a R'.post (R'.aps b j) (R'.res p t)
end
inductive Pt where
 |nm (i:Nat)
 |nil
 |cons (a b:Pt)
noncomputable def bd:Pt->Tv->Ms->Option Ms
 | .nm i,t,M=>some { M with env:=M.env.set i (some (.fz t)) }
 | .nil,.tup [],M=>some M
 | .cons a b,.tup (t::ts),M=>(bd a t M).bind fun M1=>bd b (.tup ts) M1
 | .cons a b,.ktp (t::ts),M=>(bd a t M).bind fun M1=>bd b (.tup ts) M1
 |_,_,_=>none
inductive LG (K:W.Frag)(F:Fr)(b:Tv->Ms->Option Ms)(v:V)(S:St)(H:Hp)(Q:(St->Hp->Prop)):Prop
 |mk (G M t M':_) (_:Rel K F G [] M S H) (_:IsT K G v t) (_:b t M=some M') (_:∀ U,Rel K F G [] M' U H->Q U H):LG K F b v S H Q
inductive LGs (K:W.Frag)(F:Fr)(b:List Tv->Ms->Option Ms)(C:List V)(S:St)(H:Hp)(Q:(St->Hp->Prop)):Prop
 |mk (G M ts M':_) (_:Rel K F G [] M S H) (_:IsTs K G C ts) (_:b ts M=some M') (_:∀ U,Rel K F G [] M' U H->Q U H):LGs K F b C S H Q
section
theorem PG.imp {t t':TG}(h:PG X e t)(i:∀v S H Q,t' v S H Q->t v S H Q):PG X e t':=fun O s S H v u Q I r q=>h O s S H v u Q I r (i v S H Q q)
theorem PGs.imp {e:List Expr}{t t':ng}(h:PGs X e t)(i:∀v S H Q,t' v S H Q->t v S H Q):PGs X e t':=fun O s S H v u Q I r q=>h O s S H v u Q I r (i v S H Q q)
theorem Qe (h:PG X e (pZ i)):PG X e (LG X.K F (bd (.nm i))):=h.imp fun v S H Q ⟨G,M,t,M',R,a,e,q⟩=>by cases e;exact q _ (R.putS i (s:=.fz t) a)
theorem LG.tup {n:Nat}{b:List Tv->Ms->Option Ms}{c:Tv->Ms->Option Ms}(i:∀t M M',c t M=some M'->∃ts,(t=.tup ts∨t=.ktp ts)/\ts.length=n/\b ts M=some M'){v:V}{S:St}{H:Hp}{Q:St->Hp->Prop}:LG X.K F c v S H Q->KJ X.K n (LGs X.K F b) v S H Q:=fun⟨G,M,t,M',R,d,e,q⟩=>by
 obtain⟨ts,z,f,g⟩:=i _ _ _ e;rcases z with rfl|rfl;cases d with| @tup a C _ h r=>exact⟨a,C,rfl,.of (R.sub _ _ h),by rw[r.len];exact f,G,M,ts,M',R,r,g,q⟩
 cases d with| @ktp a C _ h r=>exact⟨a,C,rfl,R.sub.tup h,by rw[r.len];exact f,G,M,ts,M',R,r,g,q⟩
theorem LGs.nil {b:List Tv->Ms->Option Ms}(a:∀ts M M',b ts M=some M'->ts=[]/\M'=M){C:List V}{S:St}{H:Hp}{Q:St->Hp->Prop}:LGs X.K F b C S H Q->rL C S H Q:=fun⟨G,M,ts,M',R,c,e,q⟩=>by obtain⟨rfl,rfl⟩:=a _ _ _ e;cases c;exact⟨rfl,q S R⟩
theorem LGs.cons {a:Tv->Ms->Option Ms}{b c:List Tv->Ms->Option Ms}(d:∀ts M M',c ts M=some M'->∃t r M1,ts=t::r/\a t M=some M1/\b r M1=some M'){C:List V}{S:St}{H:Hp}{Q:St->Hp->Prop}:LGs X.K F c C S H Q->CI (LG X.K F a) (LGs X.K F b) C S H Q:=fun⟨G,M,ts,M',R,f,e,q⟩=>by obtain⟨t,r,M1,rfl,g,h⟩:=d _ _ _ e;cases f with| @cons v C _ _ h1 i=>exact⟨v,C,rfl,G,M,t,M1,R,h1,g,fun j k=>⟨G,M1,r,M',k,i,h,q⟩⟩
structure tI (K:W.Frag)(G:Hp)(J:It)(ts:List Tv):Prop where
 go:∀i I H',Same G I->Same I H'->i<ts.length->J.go i H'
 stop:∀I H',Same G I->Same I H'->J.stop ts.length H'
 yld:∀(i:Nat)(t:Tv) I H' x iU,Same G I->Same I H'->ts[i]?=some t->J.yld i H' x iU->∃iC,Same I iC/\Same iC iU/\Same H' iU/\(∀a o,iC a=some o->I a=some o∨H' a=none∨mJ o)/\IsT K iC x t
inductive LI (K:W.Frag)(F:Fr)(w:bU)(S:St)(H:Hp)(R:(It->Hp->Prop)):Prop
 |mk (G Y M K0:_) (_:Rel K F G Y M S H) (_:w M K0) (_:∀ts M' I J H',K0 ts M'->Rel K F I Y M' S H'->Same G I->tI K I J ts->R J H'):LI K F w S H R
theorem PI.imp {t t':TI}(h:PI X L e t)(i:∀ S H Q,t' S H Q->t S H Q):PI X L e t':=fun O s S H R I q=>h O s S H R I (i S H R q)
def AU (K:W.Frag)(tl:TE):TI:=fun S H R=>tl S H fun x b=>∃a,x=.ref a/\(((∃xs,SqL K b a xs)/\R (qu K a) b)∨((∃xs,SqT K b a xs)/\R (qt K a) b))
theorem y6 {l:Expr}(k:PE X l tl):PI X L l (AU X.K tl):=by
 intro O s S H R I h;refine aw (k O s S H _ I h) fun v c z=>?_;obtain⟨x,f,d,m,g⟩:=z;obtain⟨a,e,g⟩:=g;subst e;cases m;have fp:∀b ∈ [c.heap.objs.size],bW X O f b:=fun b n=>by
  have e:b=c.heap.objs.size:=by simpa using n
  subst e;exact d.fpOk (W9 _) (d.hok.fresh (W9 _))
 rcases g with ⟨⟨xs,i⟩,q⟩|⟨⟨xs,i⟩,q⟩;obtain⟨j,r,p,hz⟩:=d.list i;refine wpAny_pyIter_list p.isList ?_;exact⟨c.heap.objs.size,[c.heap.objs.size],_,_,f,rfl,d.kept (t':=c.toks) fun b o e=>W5 _ e,Hj a _,⟨_,Xg _ rfl,rfl,rfl⟩,fp,q⟩;obtain⟨j,r,p,hz⟩:=d.tuple i;refine Zi (show c.heap.IsTuple a j.toArray from p) ?_;exact⟨c.heap.objs.size,[c.heap.objs.size],_,_,f,rfl,d.kept (t':=c.toks) fun b o e=>W5 _ e,Ia a _,⟨_,Xg _ rfl,rfl,rfl⟩,fp,q⟩
noncomputable def Kl:Tv->Option (List Tv)
 | .tup l=>some l
 | .lst l=>some l
 | .ktp l=>some l
 |_=>none
def wW (wa:TW):bU:=fun M k=>wa M fun a M1=>iu (dj M.tmp.length M1 a) fun t M2=>aG (Kl t) fun ts=>k ts M2
theorem LI.seq {R:It->Hp->Prop}:LI X.K F (wW wa) S H R->AU X.K (LE X.K F wa) S H R:=fun⟨G,Y,M,O,z,k,q⟩=>by refine⟨G,Y,M,_,z,k,fun P M1 Q T v s l D E J=>?_⟩;obtain⟨t,M2,L,l⟩:=iz l;obtain⟨ts,m,l⟩:=aE l;obtain⟨w,R2,y,U,N⟩:=D.frz z.lt E J L;cases N with| «at» f =>( cases m)|dic h r=>(cases m)|scr h r=>(cases m)|fnv=>(cases m)| @ktp a C _ h r=>(cases m;refine⟨a,rfl,.inr ⟨⟨C,R2.sub.tup h⟩,q _ _ w _ s l R2 y.g ⟨fun i I H' b c n=>?_,fun I H' b c=>⟨C,(b.trans c).tup h,by rw[r.len];exact W9 _⟩,fun i u I H' x A b c o d=>?_⟩⟩⟩;obtain⟨x,j,_⟩:=r.get (Xc n);exact⟨C,x,(b.trans c).tup h,j⟩;obtain⟨rfl,d⟩:=d;obtain⟨B,j,p⟩:=r.get o;have:=d C ((b.trans c).tup h);rw[j] at this;cases this;exact⟨I,Same.refl _,c,Same.refl _,fun _ _ e=>.inl e,p.mono b⟩)| @tup a C _ h r=>(cases m;refine⟨a,rfl,.inr ⟨⟨C,SqT.of (R2.sub _ _ h)⟩,q _ _ w _ s l R2 y.g ⟨fun i I H' b c n=>?_,fun I H' b c=>⟨C,SqT.of ((b.trans c) _ _ h),by rw[r.len];exact W9 _⟩,fun i u I H' x A b c o d=>?_⟩⟩⟩;obtain⟨x,j,_⟩:=r.get (Xc n);exact⟨C,x,SqT.of ((b.trans c) _ _ h),j⟩;obtain⟨rfl,d⟩:=d;obtain⟨B,j,p⟩:=r.get o;have:=d C (SqT.of ((b.trans c) _ _ h));rw[j] at this;cases this;exact⟨I,Same.refl _,c,Same.refl _,fun _ _ e=>.inl e,p.mono b⟩)| @lst a C _ h r=>cases m;refine⟨a,rfl,.inl ⟨⟨C,SqL.of (R2.sub _ _ h)⟩,q _ _ w _ s l R2 y.g ⟨fun i I H' b c n=>?_,fun I H' b c=>⟨C,SqL.of ((b.trans c) _ _ h),by rw[r.len];exact W9 _⟩,fun i u I H' x A b c o d=>?_⟩⟩⟩;obtain⟨x,j,_⟩:=r.get (Xc n);exact⟨C,x,SqL.of ((b.trans c) _ _ h),j⟩;obtain⟨rfl,d⟩:=d;obtain⟨B,j,p⟩:=r.get o;have:=d C (SqL.of ((b.trans c) _ _ h));rw[j] at this;cases this;exact⟨I,Same.refl _,c,Same.refl _,fun _ _ e=>.inl e,p.mono b⟩
def cy (p:Tv->Ms->Option Ms)(b:cg)(P:PD):List Tv->Ms->Prop
 |[],M=>P.nx M
 |t::ts,M=>aG (p t M) fun M1=>b { nx:=cy p b P ts,ct:=cy p b P ts,bk:=P.nx,rt:=P.rt } M1
def Kk (a:bU)(p:Tv->Ms->Option Ms)(b:cg):cg:=fun P M=>a M fun ts M1=>cy p b P ts M1
theorem v5 {l:List q}{x:q}(h:l[i]?=some x):l.drop i=x::l.drop (i+1):=by have a:=(Xe.mp h).1;rw[List.drop_eq_getElem_cons a];congr 1;exact(Xe.mp h).2
theorem LS.for {A:bU}{p:Tv->Ms->Option Ms}{b:cg}{D:bp}:LS X.K F (Kk A p b) D S H->KH (LI X.K F A) (LG X.K F p) (LS X.K F b) D S H:=fun⟨G,M,P,R,k,ok⟩=>by
 refine⟨G,[],M,_,R,k,fun ts M1 t J H1 N O u w=>?_⟩;refine⟨fun i m S H=>m+i=ts.length/\∃I M,Rel X.K F I [] M S H/\Same t I/\cy p b P (ts.drop i) M,⟨ts.length,by lia,t,M1,O,Same.refl _,N⟩,?_⟩;rintro i m y q ⟨hm,r,M2,R2,c,l⟩;rcases Nat.lt_or_ge i ts.length with s|s;right;refine⟨w.go i r q c R2.sub s,fun U H'=>∃B,B<m/\B+(i+1)=ts.length/\∃I M,Rel X.K F I [] M U H'/\Same t I/\cy p b P (ts.drop (i+1)) M,fun U H' h=>h,fun x H' Q=>?_⟩;have C:=Xc s;obtain⟨E,n,T,V,W,Y⟩:=w.yld i _ r q x H' c R2.sub C Q;have Z:=R2.more n T V W;rw[v5 C] at l;obtain⟨L,e3,l⟩:=aE l;refine⟨E,M2,_,L,Z,Y,e3,fun σ4 R4=>⟨E,L,_,R4,l,fun d e a o f g j=>?_,fun ev d e t5 a v o f g j e5=>ok.rt ev d e t5 a v o f g (u.trans (c.trans (n.trans j))) e5,fun d e a o f g j=>ok.nx d e a o f g (u.trans (c.trans (n.trans j))),fun d e a o f g j=>?_⟩⟩;exact⟨m-1,by lia,by lia,e,d,g,c.trans (n.trans j),f⟩;exact⟨m-1,by lia,by lia,e,d,g,c.trans (n.trans j),f⟩;left;rw[YD s] at l;have z:i=ts.length:=by lia
 subst z;exact⟨w.stop r q c R2.sub,ok.nx M2 r y q l R2 (u.trans c)⟩
def Kj (p:Tv->Ms->Option Ms)(wa:TW):cg:=fun P M=>wa M fun a M1=>iu (dj 0 M1 a) fun t M2=>aG (p t M2) P.nx
theorem LS.asgP {p:Tv->Ms->Option Ms}{D:bp}:LS X.K F (Kj p wa) D S H->oy (LE X.K F wa) (LG X.K F p) D S H:=fun⟨G,M,P,R,k,ok⟩=>by
 refine⟨G,[],M,_,R,k,fun d M1 q r v e a f h i=>?_⟩;obtain⟨t,M2,j,a⟩:=iz a;obtain⟨b,l,a⟩:=aE a;have m:dj M.tmp.length M1 d=some (t,M2):=by rw[R.lt];exact j
 obtain⟨c,R2,n,s,o⟩:=f.frz R.lt h i m;exact⟨c,M2,t,b,R2,o,l,fun U R'=>ok.nx b c U e a R' n.g⟩
end
def bo (p:Tv->Ms->Option Ms)(c:cP)(we:TW)(k:List Tv->Ms->Prop):List Tv->List Tv->Ms->Prop
 |[],a,M=>k a M
 |t::ts,a,M=>aG (p t M) fun M1=>c M1 fun b M2=>if b=true then we M2 fun d e=>iu (dj 0 e d) fun y f=>bo p c we k ts (a++[y]) f else bo p c we k ts a M2
noncomputable def p9 (M:Ms):List Nat->Option (List Ev)
 |[]=>some []
 |i::r=>match lA M i,p9 M r with
  |some e,some es=>some (e::es)
  |_,_=>none
def yJ (af:List Nat)(own:Nat)(b:bU)(p:Tv->Ms->Option Ms)(c:cP)(we:TW):TW:=fun M k=>b M fun ts M1=>ts.length<=16777216/\aG (p9 M1 af) fun d=>aG (oK M1.tmp.length M1 d) fun a=>lr a=true ∧bo p c we (fun e f=>aG (eW (a.map (·.1)) f.out) fun g=>ow M1.tmp.length (wb M1 a g) k (.own (.lst e))) ts [] (aR (af.length+own) (a.map (·.1)))
inductive lJ (K:W.Frag)(w:TW)(S:St)(H:Hp)(Q:VK):Prop
 |mk (F:_) (_:LE K F w S H Q):lJ K w S H Q
inductive oX (K:W.Frag)(w:cP)(S:St)(H:Hp)(Q:(Bool->Hp->Prop)):Prop
 |mk (F:_) (_:LB K F w S H Q):oX K w S H Q
inductive oW (K:W.Frag)(b:Tv->Ms->Option Ms)(v:V)(S:St)(H:Hp)(Q:(St->Hp->Prop)):Prop
 |mk (F:_) (_:LG K F b v S H Q):oW K b v S H Q
section
theorem PE.all {w:TW}(h:∀F,PE X e (LE X.K F w)):PE X e (lJ X.K w):=fun O s S H Q I ⟨F,q⟩=>h F O s S H Q I q
theorem PTs.all {e:List Expr}{w:cP}(h:∀F,PTs X e (LB X.K F w)):PTs X e (oX X.K w):=fun O s S H Q I ⟨F,q⟩=>h F O s S H Q I q
theorem PG.all {b:Tv->Ms->Option Ms}(h:∀F,PG X e (LG X.K F b)):PG X e (oW X.K b):=fun O s S H v u Q I r ⟨F,q⟩=>h F O s S H v u Q I r q
theorem Rel.vars (R:Rel K F G Y M S H):∀{af:List Nat}{a:List Ev},p9 M af=some a->∃C,af.map (fun j=>(S[j]?).getD none)=C.map some/\eD K F G Y S a C
 |[],_,e=>by cases e;exact⟨[],rfl,.nil⟩
 |i::r,_,e=>by
  simp only [p9] at e;split at e
  .next x xs e1 e2=>
   cases e;obtain⟨v,h1,b⟩:=R.var e1;obtain⟨C,c,d⟩:=R.vars e2;exact⟨v::C,by rw[Xp,Xp,h1,c];rfl,.cons b d⟩
  cases e
theorem zW {m:Nat}:mV (af.map some++List.replicate m none) S=af.map (fun j=>(S[j]?).getD none)++List.replicate m none:=by unfold mV;rw[Xq,Ze,List.map_replicate];rfl
theorem zV {N:List Str}:f9 N C=C.map some++List.replicate (N.length-C.length) none:=rfl
theorem LE.comp {m:Nat}{wi:bU}{p:Tv->Ms->Option Ms}{T:cP}(U:N'.length=af.length+m){S:St}{H:Hp}{Q:VK}:LE X.K F (yJ af m wi p T we) S H Q->uZ (af.map some++List.replicate m none) (LI X.K F wi) (oW X.K p) (oX X.K T) (lJ X.K we) S H Q:=fun⟨G,Y,M,K0,a0,k,q⟩=>by
 refine⟨G,Y,M,_,a0,k,fun ts M1 y J H1 c j s1 V=>?_⟩;obtain⟨hts,c⟩:=c;obtain⟨dR,h1,c⟩:=aE c;obtain⟨z,h2,ok,c⟩:=aE c;obtain⟨C,e1,e2⟩:=j.vars h1;obtain⟨R,g1,g2,g3,g4⟩:=j.args e2 h2 ok;have r:C.length=af.length:=by have:=Yd List.length e1;simpa using this.symm
 have W:(z.map (·.1)).length=af.length:=by rw[<- g2.len,r]
 have st:mV (af.map some++List.replicate m none) S=f9 N' C:=by rw[zW,e1,zV,U,r];congr 2;lia
 have E:=wx (N:=N') j.sub g2 g3 (by rw[W,U];lia);rw[U] at E;rw[st];refine⟨fun i n d s H=>n+i=ts.length/\d.length<=i/\∃Z f u,Rel X.K ⟨H1,y,R⟩ Z [] f s H/\IsTs X.K Z d u/\Same y Z/\bo p T we (fun d f=>aG (eW (z.map (·.1)) f.out) fun ss=>ow M1.tmp.length (wb M1 z ss) K0 (.own (.lst d))) (ts.drop i) u f,⟨ts.length,by lia,Xw _,y,_,[],E,.nil,Same.refl _,c⟩,?_⟩;rintro i n d s A ⟨hn,hyl,D,f,u,R2,hy,h,a⟩;rcases Nat.lt_or_ge i ts.length with I|I;right;refine⟨V.go i D A h R2.sub I,by rw[XD];lia,fun x H' hx=>?_⟩;have ht:=Xc I;obtain⟨G3,w,z2,z3,z4,z5⟩:=V.yld i _ D A x H' h R2.sub ht hx;have R3:=R2.more w z2 z3 z4;rw[v5 ht] at a;obtain⟨M3,e3,a⟩:=aE a;refine⟨_,G3,f,_,M3,R3,z5,e3,fun σ4 R4=>⟨_,G3,[],M3,_,R4,a,fun b L G5 H5 k5 O P=>?_⟩⟩;cases b with
 |true=>
  refine⟨_,G5,[],L,_,O,k5,fun ev M6 G6 t6 v H6 k6 R6 s6 e6=>?_⟩;obtain⟨t,M7,h7,k6⟩:=iz k6;have l5:L.tmp.length=0:=O.lt;have yc:dj L.tmp.length M6 ev=some (t,M7):=by rw[l5];exact h7
  obtain⟨G7,R7,s7,s7',t7⟩:=R6.frz O.lt s6 e6 yc;exact⟨n-1,by lia,by lia,by simp;lia,G7,M7,_,R7,(hy.mono (w.trans (P.trans s7.g))).app (.cons t7 .nil),h.trans (w.trans (P.trans s7.g)),k6⟩
 |false=>exact⟨n-1,by lia,by lia,by lia,G5,L,u,O,hy.mono (w.trans P),h.trans (w.trans P),k5⟩
 left;have hi':i=ts.length:=by lia
 refine⟨by rw[hi'];exact V.stop D A h R2.sub,fun l hl=>?_⟩;rw[YD I] at a;obtain⟨ss,e3,a⟩:=aE a;have nE:M1.tmp.length=Y.length:=j.lt;rw[nE] at g4 a;have tD:Rel X.K F y (Y++[]) M1 S H1:=by rw[Xm];exact j
 have rM:RAs F (Y++[]) S M1 z C R:=by rw[Xm];exact g1
 have B:=tD.back rM (R2.aps g2 e3) R2.post g4;have B2:=B.1.push (o:=.lst u) hl (H':=ak A l (.lst d)) (fun b x e=>by rw[ay (bL e hl)];exact e) ⟨d,aJ,hy⟩;refine q _ _ D (Y++[l]) _ _ a (by rw[qa];exact B2) ⟨s1.trans h,[l],rfl⟩ ⟨l,?_,rfl⟩;rw[Xr (W9 _)];simp
end
inductive NT (J : Type) where
 |at (k : J)
 |tup (xs:List (NT J))
section
variable [DecidableEq J]
mutual
noncomputable def gK:NT J -> NT J -> Bool
 | .at a,.at b=>decide (a=b)
 | .tup xs,.tup c=>jc xs c
 | .at _,.tup _=>false
 | .tup _,.at _=>false
noncomputable def jc:List (NT J)->List (NT J)->Bool
 |[],[]=>true
 |x::xs,y::a=>gK x y&&jc xs a
 |[],_::_=>false
 |_::_,[]=>false
end
mutual
theorem sV:∀x y:NT J,gK x y=true↔x=y
 | .at a,.at b=>by rw[gK,XI];exact⟨fun h=>by rw[h],fun h=>by injection h⟩
 | .tup xs,.tup c=>by rw[gK,G9 xs c];exact⟨fun h=>by rw[h],fun h=>by injection h⟩
 | .at _,.tup _=>by rw[gK];exact⟨fun h=>(by cases h),fun h=>(by cases h)⟩
 | .tup _,.at _=>by rw[gK];exact⟨fun h=>(by cases h),fun h=>(by cases h)⟩
theorem G9:∀xs a:List (NT J),jc xs a=true↔xs=a
 |[],[]=>by rw[jc];exact⟨fun _=>rfl,fun _=>rfl⟩
 |x::xs,y::a=>by rw[jc,W4,sV x y,G9 xs a,List.cons.injEq]
 |[],_::_=>by rw[jc];exact⟨fun h=>(by cases h),fun h=>(by cases h)⟩
 |_::_,[]=>by rw[jc];exact⟨fun h=>(by cases h),fun h=>(by cases h)⟩
end
instance ntDec:DecidableEq (NT J):=fun x y=>decidable_of_iff _ (sV x y)
variable (knd:KeyKind prog w J)
def gc (h:Heap):Nat->NT J -> Value->Prop
 | 0,.at k,v=>knd.is k v=true
 | 0,.tup _,_=>False
 |_+1,.at k,v=>knd.is k v=true
 |n+1,.tup xs,v=>∃(a:Addr)(o:Obj)(b:Array Value)(m:Nat),v=.ref a/\h.get? a=some o/\o.cls=.type "tuple"/\o.data=.seq b m/\Paired (gc h n) xs b.toList
mutual
noncomputable def pV:NT J -> Int
 | .at k=>knd.hash k
 | .tup xs=>reduceHash (Builtin.Tuple.tupleHashOf (iy xs))
noncomputable def iy:List (NT J)->List Int
 |[]=>[]
 |x::xs=>pV x::iy xs
end
mutual
noncomputable def pU:NT J -> Nat
 | .at _=>1
 | .tup xs=>jg xs+1
noncomputable def jg:List (NT J)->Nat
 |[]=>0
 |x::xs=>pU x+jg xs
end
variable {knd}
theorem p8 {n:Nat}{k:J}{v:Value}(x:gc knd h n (.at k) v):knd.is k v=true:=by cases n with|zero=>exact x|succ n=>exact x
theorem HN:∀(xs a:List (NT J)),iy knd (xs++a)=iy knd xs++iy knd a
 |[],a=>by rw[iy];rfl
 |x::xs,a=>by rw[XR,iy,iy,HN xs a];rfl
theorem HM:∀(xs a:List (NT J)),jg (xs++a)=jg xs+jg a
 |[],a=>by rw[jg,Nat.zero_add];rfl
 |x::xs,a=>by rw[XR,jg,jg,HM xs a,Nat.add_assoc]
theorem RI:∀(n:Nat){A:Around}{E:Value->Shared->Prop}{s:Shared}{t:NT J}{v:Value}{Q:Int->Shared->Prop},A.units+n<cLine->gc knd s.heap n t v →Q (pV knd t) { s with toks:=s.toks+pU t }->wpAny (model prog w) A (pyHash v) Q E s:=by
 intro n;induction n with
 |zero=>(intro A E s t v Q _ d q;cases t with| «at» k => exact knd.pyHash (p8 d) (by rw [pV, pU] at q; exact q)|tup xs=>exact d.elim)
 |succ n r=>
  intro A E s t v Q C d q;cases t with
  | «at» k => exact knd.pyHash (p8 d) (by rw [pV, pU] at q; exact q)
  |tup xs=>
   obtain⟨a,o,D,m,rfl,l,u,hd,y⟩:=d;have e:s.TypeIs (.ref a) "tuple":=⟨o,l,u⟩;unfold pyHash;first|unfold pyHashByItsType|skip
   first|refine W3 (wpAny_cRoomFor_or (.inr (by lia)) ?_)|skip
   refine W3 (Zd e F.slot_tuple_hash.lookup ?_);show wpAny _ _ (if (some (Value.builtin "tuple.__hash__")==some Value.none)=true then _ else _) Q E s;rw[Xh (by rw[beq_builtin_none];decide)];refine W3 (Zd e F.slot_tuple_hash.lookup ?_);show wpAny _ _ (callSpecialIfBoundUnlessNone? (.ref a) "__hash__" _ >>= _) Q E s;refine W3 (wpAny_callSpecialIfBoundUnlessNone?_slot e F.slot_tuple_hash (Xz F.slot_tuple_hash e F.entry_tuple_hash ?_ (F.args_tuple_hash_1 _)));show wpAny _ A.in1 (Builtin.Tuple.tupleItemsOf (.ref a) >>= _) _ _ s;refine W3 (wpAny_tupleItemsOf l hd (W3 ?_));rw[<- Array.forIn_toList];refine wpAny_forIn_list _ (fun p (b:Array Int) g=>∃(c ls:List (NT J)),xs=c++ls/\Paired (gc knd s.heap n) ls p/\b.toList=iy knd c/\g={ s with toks:=s.toks+jg c }) _ ?_ ?_ _ _ ⟨[],xs,rfl,y,by rw[iy],by rw[jg];rfl⟩;rintro x p b g ⟨c,ls,rfl,h,i,rfl⟩;cases h with| @cons z _ j _ h1 B=>refine W3 (r (A:=A.in1) (by show A.units+1+n<cLine;lia) h1 ?_);exact Xb ⟨c++[z],j,by simp,B,by rw[Array.toList_push,i,HN,iy,iy],by rw[HM,jg,jg];simp [Nat.add_assoc]⟩
   rintro b g ⟨c,ls,rfl,h,i,rfl⟩;cases h;rw[Xm,pV,pU] at q;show wpAny _ _ (retInt (Builtin.Tuple.tupleHashOf b.toList)) _ _ _;rw[i];refine wpAny_ret_mkInt ?_;unfold reduceHash at q;by_cases f:(decide (-(2:Int) ^ 63<=Builtin.Tuple.tupleHashOf (iy knd c))&&decide (Builtin.Tuple.tupleHashOf (iy knd c)<2 ^ 63))=true;rw[Xk f] at q;show wpAny _ _ (if _ then _ else _) Q E _;rw[Xk f];exact Xb (by simpa [Nat.add_assoc] using q);rw[Xh f] at q;show wpAny _ _ (if _ then _ else _) Q E _;rw[Xh f];exact W3 (Y0 (Xb (by simpa [Nat.add_assoc] using q)))
theorem E5:∀(n:Nat){x y:NT J}{v:Value},gc knd h n x v->gc knd h n y v->x=y:=by
 intro n;induction n with
 |zero=>(intro x y v f c;cases x with|tup xs=>exact f.elim| «at» k =>cases y with|tup d=>exact c.elim| «at» j => rw [knd.inj v k j f c])
 |succ n s=>
  intro x y v f c;have t:∀{xs d:List (NT J)}{C:List Value},Paired (gc knd h n) xs C->Paired (gc knd h n) d C->xs=d:=by intro xs d C p;induction p generalizing d with|nil=>(intro q;cases q;rfl)|cons h1 _ l=>intro q;cases q with|cons u w=>rw[s h1 u,l w]
  cases x with| «at» k =>(cases y with| «at» j => rw [knd.inj v k j f c]|tup d=>obtain⟨a,o,z,m,rfl,_⟩:=c;have:=knd.byValue _ _ f;cases this)|tup xs=>obtain⟨a,o,z,m,rfl,A,E,hd,B⟩:=f;cases y with| «at» j =>(have:=knd.byValue _ _ c;cases this)|tup d=>obtain⟨b,F,r,G,e,g,_,i,D⟩:=c;cases e;rw[A] at g;cases g;rw[hd] at i;cases i;rw[t B D]
theorem Tf {o:Obj}{es:Array DictEntry}(f:h.get? d=some o)(hd:o.data=.dict es ep)(g:Heap.SameBut d h h'):∀(n:Nat){t:NT J}{v:Value},gc knd h n t v->gc knd h' n t v:=by
 intro n;induction n with
 |zero=>(intro t v x;cases t with| «at» k => exact x|tup xs=>exact x.elim)
 |succ n i=>
  intro t v x;cases t with
  | «at» k => exact x
  |tup xs=>
   obtain⟨a,o',j,m,e,c,l,b,p⟩:=x;have q:a≠d:=fun z=>by subst z;rw[f] at c;cases c;rw[hd] at b;cases b
   exact⟨a,o',j,m,e,(g.2 a q).trans c,l,b,Paired.mapP p fun _ _ z=>i z⟩
theorem Te:∀(n g:Nat){A:Around}{E:Value->Shared->Prop}{s:Shared}{t:NT J}{v:Value}{Q:Bool->Shared->Prop},n<=g->gc knd s.heap n t v->Q true s->wpAny (model prog w) A (eqIsQuiet g v) Q E s:=by
 intro n;induction n with
 |zero=>(intro g A E s t v Q _ b q;cases t with|tup xs=>exact b.elim| «at» k => rw [eqIsQuiet_byValue _ (knd.byValue _ _ (p8 b))]; exact Xb q)
 |succ n i=>
  intro g A E s t v Q z b q;cases t with
  | «at» k => rw [eqIsQuiet_byValue _ (knd.byValue _ _ (p8 b))]; exact Xb q
  |tup xs=>
   obtain⟨a,o,j,m,rfl,e,l,hd,p⟩:=b;have f:s.TypeIs (.ref a) "tuple":=⟨o,e,l⟩;cases g with
   |zero=>lia
   |succ g=>
    unfold eqIsQuiet;refine W3 (Zd f F.slot_tuple_eq.lookup ?_);show wpAny _ _ (isInstance (.ref a) (.type "tuple") >>= _) _ _ s;refine W3 (wpAny_isInstance f isSubtype_tuple_tuple ?_);simp only [Bool.not_true,Bool.false_eq_true,Y9];refine W3 (Yn e hd (W3 ?_));show wpAny _ _ (forIn j _ _) _ _ s;rw[<- Array.forIn_toList];refine wpAny_forIn_list _ (fun h r c=>r.1=none/\c=s/\∃ls,Paired (gc knd s.heap n) ls h) _ ?_ ?_ _ _ ⟨rfl,rfl,xs,p⟩;rintro x h r c ⟨d,rfl,ls,u⟩;cases u with|cons h1 y=>refine W3 (i g (by lia) h1 ?_);simp only [Bool.not_true,Bool.false_eq_true,Y9];exact Xb ⟨rfl,rfl,_,y⟩
    rintro⟨B,C⟩ c ⟨d,rfl,_⟩;simp only at d;subst d;exact Xb q
end
theorem NX (x y:NT aj):decide (x=y)=gK x y:=by cases e:gK x y with|true=>exact Xs ((sV x y).mp e)|false=>exact XW fun z=>by rw[(sV x y).mpr z] at e;cases e
theorem E4:∀(ts a:List (NT aj)),((List.range (min ts.length a.length)).all (fun j=>gK (ts.getD j (.tup [])) (a.getD j (.tup [])))&&ts.length==a.length)=jc ts a
 |[],[]=>by unfold jc;rfl
 |[],_::_=>by unfold jc;simp
 |_::_,[]=>by unfold jc;simp
 |t::ts,u::a=>by have b:=E4 ts a;unfold jc;rw[<- b];simp only [Xl,Nat.add_min_add_right,List.range_succ_eq_map,all_cons,List.all_map,Bool.and_assoc];simp [Function.comp_def]
theorem vi {F:q -> u -> Prop}{xs:List q}{c:List u}(h:Paired F xs c):∀(j:Nat)(d : q)(h:j<c.length),j<xs.length/\F (xs.getD j d) c[j]:=by induction h with|nil=>(intro j d h;cases h)|cons h1 _ i=>intro j d h;cases j with|zero=>exact⟨by simp,by simpa using h1⟩|succ j=>obtain⟨a,b⟩:=i j d (by simpa using h);exact⟨by simpa using a,by simpa using b⟩
theorem km {F:q -> u -> Prop}:∀{xs:List q}{a:List u},Paired F xs a->xs.length=a.length
 |_,_,.nil=>rfl
 |_,_,.cons _ r=>Yd (· + 1) (km r)
section
theorem NW {s:Shared}:∀(n:Nat)(A:Around),A.units+n<cLine->∀{x y:NT aj}{u v:Value},gc (bg prog w) s.heap n x u->gc (bg prog w) s.heap n y v->SeqAt.EqAt A s u v (gK x y):=by
 have I:∀(A:Around){a b:aj}{u v:Value},(bg prog w).is a u=true->(bg prog w).is b v=true->SeqAt.EqAt A s u v (gK (.at a) (.at b)):=fun A a b u v M N O P E Q q=>by rw[gK] at q;exact(bg O P).eqBool (a:=a) (b:=b) M N q
 intro n;induction n with
 |zero=>(intro A R x y u v k d;cases x with|tup xs=>exact k.elim| «at» a =>cases y with|tup p=>exact d.elim| «at» b => exact I A k d)
 |succ n S=>
  intro A R x y u v k d;have r:A.units<cLine:=by lia
  cases x with| «at» a =>(cases y with| «at» b => exact I A k d|tup p=>obtain⟨l,o,G,m,rfl,f,g,hd,F⟩:=d;rw[gK];rcases jm (p8 k) with ⟨i,t,rfl,rfl⟩|⟨z,t,rfl,rfl⟩;exact SeqAt.EqAt.int_tuple i t ⟨o,f,g,m,hd⟩ r;exact SeqAt.EqAt.str_tuple z t ⟨o,f,g,m,hd⟩ r)|tup xs=>obtain⟨l,o,G,m,rfl,f,g,hd,F⟩:=k;cases y with| «at» b =>(rw[gK];rcases jm (p8 d) with ⟨i,t,rfl,rfl⟩|⟨z,t,rfl,rfl⟩;exact SeqAt.EqAt.tuple_int i t ⟨o,f,g,m,hd⟩ r;exact SeqAt.EqAt.tuple_str z t ⟨o,f,g,m,hd⟩ r)|tup p=>obtain⟨l2,J,c,K,rfl,B,L,C,H⟩:=d;by_cases D:l=l2;subst D;have e:NT.tup xs=NT.tup p:=E5 (knd:=bg prog w) (n+1) ⟨l,o,G,m,rfl,f,g,hd,F⟩ ⟨l,J,c,K,rfl,B,L,C,H⟩;rw[(sV _ _).mpr e];exact SeqAt.EqAt.same _;have e:=E4 xs p;have l1:=km F;have h:=km H;have l1:xs.length=G.size:=l1.trans XS;have h:p.length=c.size:=h.trans XS;rw[l1,h] at e;rw[gK,<- e];refine SeqAt.EqAt.of_refs D (SeqAt.RcAt.tuples ⟨o,f,g,m,hd⟩ ⟨J,B,L,K,C⟩ r fun j h1 T=>?_);have g1:=(vi F j (.tup []) (by rw[XS];exact h1)).2;have g2:=(vi H j (.tup []) (by rw[XS];exact T)).2;rw[Array.getElem_toList] at g1 g2;exact S A.in1 (by show A.units+1+n<cLine;lia) g1 g2
end
def RH (prog:Program)(w:World)(n:Nat)(hn:n<=8):HeapKind prog w (NT aj) where
 is:=fun h t a=>gc (bg prog w) h n t (.ref a)
 hash:=pV (bg prog w)
 draws:=pU
 room:=fun A=>A.units+n<cLine
 inj:=fun hx hy=>E5 n hx hy
 keeps:=fun x ho hd hs=>Tf ho hd hs n x
 pyHash:=fun hu hk h=>RI n hu hk h
 eqBool:=fun hu hx hy h=>NW n _ hu hx hy _ _ _ _ (by rw[NX] at h;exact h)
 quiet:=fun hk h=>Te n 8 hn hk h
section
variable [DecidableEq J]{knd:HeapKind prog w J}{A:Around}{E:Value->Shared->Prop}{s:Shared}
theorem RG {xs:List (J × Addr×Value)}{k:J}{v:Value}(i:knd.room A)(f:knd.is s.heap k a)(q:s.heap.DictOfH knd d xs)(hsz:xs.length<=sizeLine)
  (h1:∀p,atKey xs k=some p->Q p.2 { s with toks:=s.toks+knd.draws k })
  (r:atKey xs k=none->∀h',h'.DictOfH knd d (xs++[(k,a,v)])->Heap.SameBut d s.heap h'->Q v { s with heap:=h',toks:=s.toks+knd.draws k }):
  wpAny (model prog w) A (dictSetDefault d (.ref a) v) Q E s:=by
 obtain⟨o,es,ep,b,t,hd,he,c,g⟩:=q;unfold dictSetDefault
 try with_reducible refine Yu ?_
 refine W3 (knd.pyHash i f (W3 (wpAny_dictFind_heap (s:={ s with toks:=s.toks+knd.draws k }) i f b hd he c g (fun l=>?_) fun j p m=>?_)))
 .have u:=atKey_none_of_get l
  have B:k∉xs.map (·.1):=not_mem_keys_of_get l;refine W3 (Y0 (W3 (wpAny_updateDictKeys (hz:=by have e:=size_of_entries he;lia) (s:={ s with toks:=s.toks+knd.draws k }) b hd (Xb (r u _ ⟨_,_,ep+1,Ym _ b (Obj.isFreed_of_dict (Obj.data_mapDictKeys hd _)),t.mapDictKeys _,Obj.data_mapDictKeys hd _,?_,?_,?_⟩ (X9 ..))))))
  .simp [he,entryOfKey]
  .intro x h
   rcases Xn.mp h with z|z
   .exact knd.keeps (c x z) b hd (X9 ..)
   .rw[XH] at z;subst z;exact knd.keeps f b hd (X9 ..)
  .rw[Xq,Y2];refine⟨g,by simp,fun x h y n z=>?_⟩;rw[Xp,Y3,XH] at n;subst n;subst z;exact B h
 .have C:=atKey_of_get g m;refine W3 (wpAny_dictEntries (s:={ s with toks:=s.toks+knd.draws k }) b hd ?_);rw[entry_at he j,m];exact W3 (Y0 (Xb (h1 p C)))
theorem UT (knd:HeapKind prog w J)(d a:Addr)(hd:(d==sysModules)=false)(v:Value):MeetsIn prog w (Builtin.«dict.setdefault» ⟨[.ref d, .ref a, v], []⟩) (fun A R s => knd.room A.in1 /\ ∃ k xs, knd.is s.heap k a /\ s.heap.DictOfH knd d xs /\ xs.length <= sizeLine ∧(∀p,atKey xs k=some p->R (.ok (.ret p.2)) { s with toks:=s.toks+knd.draws k }) ∧(atKey xs k=none->∀h',h'.DictOfH knd d (xs++[(k,a,v)])->Heap.SameBut d s.heap h'->R (.ok (.ret v)) { s with heap:=h',toks:=s.toks+knd.draws k })):=.of_wp fun A R s z=>by obtain⟨e,k,xs,f,c,hz,h1,g⟩:=z;unfold Builtin.«dict.setdefault»;refine W3 ?_;unfold Builtin.Dict.keyAndDefault;refine W3 (wpAny_notOrdered_dict c.typeIs ?_);show wpAny _ _ (pure (d,Value.ref a,some v)) _ _ s;refine Xb ?_;show wpAny _ _ (if (d==sysModules)=true then _ else (dictSetDefault d (.ref a) v >>= _)) _ _ s;rw[Xh (by rw[hd];decide)];exact W3 (RG e f c hz (fun p h=>Xb ⟨_,rfl,h1 p h⟩) fun i h' j b=>Xb ⟨v,rfl,g i h' j b⟩)
end
mutual
noncomputable def c0:NT aj->Th
 | .at k=>.at (kV k)
 | .tup xs=>.tup (ke xs)
noncomputable def ke:List (NT aj)->List Th
 |[]=>[]
 |x::xs=>c0 x::ke xs
end
section
theorem sE (ok:HOk P w H h):∀(n:Nat){t:NT aj}{v:V}{u:Value},b7 H v (c0 t)->dp (c0 t)<=n->RelV v u->gc (bg P w) h n t u:=by
 intro n;induction n with
 |zero=>(intro t v u b hd r;cases t with| «at» k =>( rw [c0] at b; obtain ⟨rfl, _⟩ := Cz b; exact ki r)|tup xs=>rw[c0,dp] at hd;lia)
 |succ n f=>
  intro t v u b hd r;cases t with
  | «at» k =>( rw [c0] at b; obtain ⟨rfl, _⟩ := Cz b; exact ki r)
  |tup xs=>
   rw[c0] at b hd;obtain⟨a,C,rfl,g,d⟩:=N5 b;obtain⟨_,i,j,o,h1,l,m,s,_⟩:=(show ObjOk P w H h a (.tup C) from ok a _ g);cases r;rw[dp] at hd;have y:∀{xs:List (NT aj)}{C:List V}{c:List Value},cJ H C (ke xs)->nY (ke xs)<=n->Vals C c->Paired (gc (bg P w) h n) xs c:=by intro xs;induction xs with|nil=>(intro C c p _ q;rw[ke] at p;cases p;cases q;exact .nil)|cons x xs e=>intro C c p hd q;rw[ke] at p hd;rw[nY] at hd;cases p with|cons z p2=>cases q with|cons A B=>exact .cons (f z (by lia) A) (e p2 (by lia) B)
   exact⟨a,o,i.toArray,m,rfl,h1,l,s,y d (by lia) j⟩
end
def kg (p:NT aj×Addr×V)(q:NT aj×Addr×Value):Prop:=p.1=q.1/\p.2.1=q.2.1/\RelV p.2.2 q.2.2
def dq (kvs:List (NT aj×Addr×V))(t:NT aj):Option V:=(kvs.find? fun p=>decide (p.1=t)).map (·.2.2)
theorem DA {F:q -> u -> Prop}{xs:List q}{b:List u}(h:Paired F xs b):∀y∈b,∃x∈xs,F x y:=by induction h with|nil=>(intro y a;cases a)|cons h1 _ i=>intro y a;rcases Xj.mp a with z|z;subst z;exact⟨_,W8 ..,h1⟩;obtain⟨x,c,d⟩:=i y z;exact⟨x,W7 _ c,d⟩
theorem sD:∀{kvs:List (NT aj×Addr×V)}{xs:List (NT aj×Addr×Value)},Paired kg kvs xs->∀t,RelO (dq kvs t) ((atKey xs t).map (·.2))
 |_,_,.nil,t=>by unfold dq atKey;exact trivial
 |_,_,.cons (a:=p) (b:=q) h1 r,t=>by obtain⟨e,g,f⟩:=h1;have c:=sD r t;unfold dq atKey at c ⊢;rw[X8,X8,e];by_cases d:q.1=t;rw[Xs d];exact f;rw[XW d];exact c
theorem vM {F:q -> u -> Prop}{x:q}{y:u}{xs:List q}{a:List u}(h:Paired F xs a)(g:F x y):Paired F (xs++[x]) (a++[y]):=by induction h with|nil=>exact .cons g .nil|cons r _ i=>exact .cons r i
theorem JD (h:X.K=K):gy X (.type "tuple") (fun xs H Q=>∃p a,xs=[.ref p]/\((SqL K H p a/\∀l,H l=none->Q (.ref l) (ak H l (.tup a)))∨(SqT K H p a/\Q (.ref p) H))):=by subst h;exact wL
section
variable {v x:V}{Q:VK}
theorem IsR.at {u:V}(h:IsR K G H v (.at u)):v=u/\mj u=true:=by
 rcases h with h|⟨a,o,rfl,e,h⟩;cases h with | «at» f => exact ⟨rfl, f⟩
 cases o <;> cases e
theorem IsR.lst {l:List Tv}(s:Same G H)(h:IsR K G H v (.lst l)):∃a C,v=.ref a/\H a=some (.lst C)/\IsTs K G C l:=by
 rcases h with h|⟨a,o,rfl,e,h⟩;cases h with|lst h r=>exact⟨_,_,rfl,s _ _ h,r⟩
 cases o with|lst b=>(cases e;obtain⟨C,e,r⟩:=h;exact⟨a,C,rfl,e,r⟩)|dic b=>cases e
theorem IsR.tup {l:List Tv}(s:Same G H)(h:IsR K G H v (.tup l)):∃a C,v=.ref a/\H a=some (.tup C)/\IsTs K G C l:=by
 rcases h with h|⟨a,o,rfl,e,h⟩;cases h with|tup h r=>exact⟨_,_,rfl,s _ _ h,r⟩
 cases o <;> cases e
theorem IsR.ktp {l:List Tv}(s:Same G H)(h:IsR K G H v (.ktp l)):∃a C,v=.ref a/\SqT K H a C/\IsTs K G C l:=by
 rcases h with h|⟨a,o,rfl,e,h⟩;cases h with|ktp h r=>exact⟨_,_,rfl,s.tup h,r⟩
 cases o <;> cases e
theorem IsR.dic {l:List (aj×Tv)}(s:Same G H)(h:IsR K G H v (.dic l)):∃a kvs,v=.ref a/\H a=some (.dK kvs)/\IsKs K G kvs l:=by
 rcases h with h|⟨a,o,rfl,e,h⟩;cases h with|dic h r=>exact⟨_,_,rfl,s _ _ h,r⟩
 cases o with|dic b=>(cases e;obtain⟨C,e,r⟩:=h;exact⟨a,C,rfl,e,r⟩)|lst b=>cases e
theorem IsR.scr {l:List Tv}(s:Same G H)(h:IsR K G H v (.scr l)):∃a C,v=.ref a/\SqL K H a C/\IsTs K G C l:=by
 rcases h with h|⟨a,o,rfl,e,h⟩;cases h with|scr h r=>exact⟨_,_,rfl,s.seq h,r⟩
 cases o <;> cases e
def oZ (r r':R2):R2:=fun x y H Q=>r x y H Q∨r' x y H Q
noncomputable def vI (i:Int):Rs:=.v (.at (.int i))
noncomputable def vB (b:Bool):Rs:=.v (.at (.bl b))
noncomputable def vS (x:Str):Rs:=.v (.at (.str x))
def K5 (t u:Tv):Rz:=match t with
 | .at v=>match v with
  | .int i=>aI (fun j=>.ok (vI (i+j))) u
  | .str i=>aS (fun j=>.cd (i.length+j.length<=16777216) (vS (i++j))) u
  |_=>.no
 | .lst l=>match u with
  | .lst m=>.cd (l.length+m.length<=16777216) (.n (.lst (l++m)))
  |_=>.no
 | .tup l=>match u with
  | .tup m=>.cd (l.length+m.length<=16777216) (.v (.tup (l++m)))
  |_=>.no
 |_=>.no
def E3:R2:=fun x y H Q=>∃i j,x=.str i/\y=.str j/\i.length+j.length<=sizeLine/\Q (.str (i++j)) H
def Cw (K:W.Frag):R2:=oZ (j4 fun i j=>.int (i+j)) (oZ E3 (oZ qM l8))
theorem Qd:OpR X (binaryOp .Add) (Cw X.K):=op_add.or (OpR.or (r:=E3) UA (op_cat.or Qj))
theorem m7 {i j:Str}:(i++j).length=i.length+j.length:=by show(Str.mk (i.cps++j.cps)).cps.size=i.cps.size+j.cps.size;simp
theorem Qc:dX K K5 (Cw K):=fun G H x y t u s Q c h1 k e q=>by
 have hz:=XD;cases t with
 | «at» v=>
  cases v with
  |int i=>(obtain⟨j,rfl,d⟩:=e.aI;cases d;obtain⟨rfl,_⟩:=h1.at;obtain⟨rfl,_⟩:=k.at;exact .inl ⟨i,j,rfl,rfl,cN c (.at rfl) q⟩)
  |str i=>
   obtain⟨j,rfl,d⟩:=e.aS;cases d with|cd f=>
   obtain⟨rfl,_⟩:=h1.at;obtain⟨rfl,_⟩:=k.at;exact .inr (.inl ⟨i,j,rfl,rfl,by rw[hz];exact f,cN c (.at (by show decide _=true;rw[m7];exact Xs f)) q⟩)
  |_=>exact(fU e).elim
 |lst l=>
  cases u with
  |lst m=>
   cases e with|cd f=>
   obtain⟨a,C,rfl,n,g⟩:=h1.lst c;obtain⟨b,ws,rfl,o,h⟩:=k.lst c;exact .inr (.inr (.inl ⟨a,b,C,ws,rfl,rfl,n,o,by rw[hz,g.len,h.len];exact f,m8 (g.app h) q⟩))
  |_=>exact(fU e).elim
 |tup l=>
  cases u with
  |tup m=>
   cases e with|cd f=>
   obtain⟨a,C,rfl,n,g⟩:=h1.tup c;obtain⟨b,ws,rfl,o,h⟩:=k.tup c;exact .inr (.inr (.inr ⟨a,b,C,ws,rfl,rfl,n,o,by rw[hz,g.len,h.len];exact f,fun p H' r w=>v8 c r w (g.app h) q⟩))
  |_=>exact(fU e).elim
 |_=>exact(fU e).elim
def sf (C:Int->Int->Prop)(g:Int->Int->V)(t u:Tv):Rz:=aI (fun i=>aI (fun j=>.cd (C i j) (.v (.at (g i j)))) u) t
theorem vL {C:Int->Int->Prop}{g:Int->Int->V}(a:∀i j,mj (g i j)=true):dX K (sf C g) (rI C g):=fun G H x y t u s Q b h1 h e q=>by
 obtain⟨i,rfl,f⟩:=e.aI;obtain⟨j,rfl,d⟩:=f.aI;cases d with|cd c=>
 obtain⟨rfl,_⟩:=h1.at;obtain⟨rfl,_⟩:=h.at;exact⟨i,j,rfl,rfl,c,cN b (.at (a i j)) q⟩
def p4 (g:Int->Int->V)(t u:Tv):Rz:=aI (fun i=>aI (fun j=>.ok (.v (.at (g i j)))) u) t
theorem sU {g:Int->Int->V}(a:∀i j,mj (g i j)=true):dX K (p4 g) (j4 g):=fun G H x y t u s Q b h1 c e q=>by obtain⟨i,rfl,f⟩:=e.aI;obtain⟨j,rfl,d⟩:=f.aI;cases d;obtain⟨rfl,_⟩:=h1.at;obtain⟨rfl,_⟩:=c.at;exact⟨i,j,rfl,rfl,cN b (.at (a i j)) q⟩
def yx (g:Str->Str->Bool)(t u:Tv):Rz:=aS (fun i=>aS (fun j=>.ok (vB (g i j))) u) t
noncomputable def jz (f g:Tv->Tv->Rz):Tv->Tv->Rz:=fun t u=>match f t u with | .no=>g t u|z=>z
theorem sC {f g:Tv->Tv->Rz}(h:dX K f r)(h':dX K g r'):dX K (jz f g) (oZ r r'):=fun G H x y t u s Q a h1 b e q=>by unfold jz at e;split at e;exact .inr (h' G H x y t u s Q a h1 b e q);exact .inl (h G H x y t u s Q a h1 b e q)
theorem E2 {g:Str->Str->Bool}:dX K (yx g) (fun x y H Q=>∃i j,x=.str i/\y=.str j/\Q (.bl (g i j)) H):=fun G H x y t u s Q a h1 b e q=>by obtain⟨i,rfl,f⟩:=e.aS;obtain⟨j,rfl,d⟩:=f.aS;cases d;obtain⟨rfl,_⟩:=h1.at;obtain⟨rfl,_⟩:=b.at;exact⟨i,j,rfl,rfl,cN a (.at rfl) q⟩
def pJ (neg:Bool):Tv->Tv->Rz
 | .at a,.at b=>match yt a b with
  |true=>.ok (vB (xor neg (decide (a=b))))
  |false=>.no
 |_,_=>.no
theorem NV:dX K (pJ false) Bh:=fun G H x y t u s Q d h1 f e q=>by
 unfold pJ at e;split at e
 .next a b=>
  split at e
  .next c=>
   cases e;obtain⟨rfl,_⟩:=h1.at;obtain⟨rfl,_⟩:=f.at;exact⟨c,cN d (.at rfl) (by simpa [vB] using q)⟩
  cases e
 cases e
theorem NU:dX K (pJ true) Bf:=fun G H x y t u s Q d h1 f e q=>by
 unfold pJ at e;split at e
 .next a b=>
  split at e
  .next c=>
   cases e;obtain⟨rfl,_⟩:=h1.at;obtain⟨rfl,_⟩:=f.at;exact⟨c,cN d (.at rfl) (by simpa [vB] using q)⟩
  cases e
 cases e
noncomputable def gB:Tv->V
 | .at v=>v
 |_=>.non
def flatL (l:List Tv):Prop:=∀t∈l,∃v,t=.at v/\fE v=true
theorem flatL.is {l:List Tv}(f:flatL l):∀{C:List V},IsTs K G C l->C=l.map gB/\C.all fE=true:=by induction l with|nil=>(intro C h;cases h;exact⟨rfl,rfl⟩)|cons t l a=>intro C h;cases h with| @cons v C _ _ h1 b=>obtain⟨u,rfl,c⟩:=f t W8;obtain⟨e,g⟩:=a (fun x d=>f x (W7 _ d)) b;cases h1;exact⟨by rw[Xp,<- e];rfl,by simp [all_cons,c,g]⟩
def uz (neg:Bool):Tv->Tv->Rz
 | .lst l,.lst m=>.cd (flatL l/\flatL m) (vB (xor neg (mK (l.map gB) (m.map gB))))
 |_,_=>.no
def AS (K:W.Frag)(neg:Bool):R2:=fun x y H Q=>∃a b xs c,x=.ref a/\y=.ref b/\SqL K H a xs/\SqL K H b c/\xs.all fE=true/\c.all fE=true/\Q (.bl (xor neg (mK xs c))) H
theorem E1 {neg:Bool}:dX K (uz neg) (AS K neg):=fun G H x y t u s Q d h1 f e q=>by
 unfold uz at e;split at e
 .next l m=>
  cases e with|cd c=>
  obtain⟨a,C,rfl,g,h⟩:=h1.lst d;obtain⟨b,ws,rfl,i,j⟩:=f.lst d;obtain⟨rfl,f1⟩:=c.1.is h;obtain⟨rfl,k⟩:=c.2.is j;exact⟨a,b,_,_,rfl,rfl,.of g,.of i,f1,k,cN d (.at rfl) q⟩
 cases e
theorem NS (c:X.A.units<cLine):OpR X (compareOp .Eq) (AS X.K false):=fun O s S H x y v u Q I d e z=>by obtain⟨a,b,xs,f,h1,g,h,i,j,k,q⟩:=z;exact Ut c O s S H x y v u Q I d e ⟨a,b,xs,f,h1,g,h,i,j,k,by simpa using q⟩
theorem NR (c:X.A.units<cLine):OpR X (compareOp .NotEq) (AS X.K true):=fun O s S H x y v u Q I d e z=>by obtain⟨a,b,xs,f,h1,g,h,i,j,k,q⟩:=z;exact Us c O s S H x y v u Q I d e ⟨a,b,xs,f,h1,g,h,i,j,k,by simpa using q⟩
noncomputable def xt (neg:Bool)(v:V)(l:List Tv):Rz:=.cd (flatL l/\fE v=true) (vB (xor neg (ia v (l.map gB))))
def xr (neg:Bool)(t u:Tv):Rz:=match t with
 | .at v=>match u with
  | .lst l=>xt neg v l
  | .tup l=>xt neg v l
  | .ktp l=>xt neg v l
  |_=>.no
 |_=>.no
theorem Dz {neg:Bool}:dX K (xr neg) (xg K neg):=fun G H x y t u s Q d h1 j e q=>by
 cases t with
 | «at» w=>
  cases u with
  |lst l=>
   cases e with|cd c=>
   obtain⟨rfl,_⟩:=h1.at;obtain⟨b,ws,rfl,f,g⟩:=j.lst d;obtain⟨rfl,h⟩:=c.1.is g;have i:∀a,a=xor neg (ia x (l.map gB))->Q (.bl a) H:=fun a z=>by subst z;exact cN d (.at rfl) q
   exact⟨b,_,rfl,.inl (.of f),c.2,h,i _ (by cases neg <;> simp)⟩
  |tup l=>
   cases e with|cd c=>
   obtain⟨rfl,_⟩:=h1.at;obtain⟨b,ws,rfl,f,g⟩:=j.tup d;obtain⟨rfl,h⟩:=c.1.is g;have i:∀a,a=xor neg (ia x (l.map gB))->Q (.bl a) H:=fun a z=>by subst z;exact cN d (.at rfl) q
   exact⟨b,_,rfl,.inr (.of f),c.2,h,i _ (by cases neg <;> simp)⟩
  |ktp l=>
   cases e with|cd c=>
   obtain⟨rfl,_⟩:=h1.at;obtain⟨b,ws,rfl,f,g⟩:=j.ktp d;obtain⟨rfl,h⟩:=c.1.is g;have i:∀a,a=xor neg (ia x (l.map gB))->Q (.bl a) H:=fun a z=>by subst z;exact cN d (.at rfl) q
   exact⟨b,_,rfl,.inr f,c.2,h,i _ (by cases neg <;> simp)⟩
  |_=>exact(fU e).elim
 |_=>exact(fU e).elim
noncomputable def ofO:Option Tv->Rz
 |some t=>.ok (.v t)
 |none=>.no
theorem ZH.ofO {o:Option Tv}{s:Rs}(h:ZH (Lake.ofO o) s):∃t,o=some t/\s=.v t:=by cases o with|none=>(cases h)|some t=>cases h;exact⟨t,rfl,rfl⟩
noncomputable def d6 {q : Type}(l:List q):Int->Option q
 | .ofNat j=>l[j]?
 | .negSucc j=>if j<l.length then l[l.length-(j+1)]? else none
theorem zA (l:List q)(i:Int):d6 l i=atI l i:=by
 unfold d6 atI hZ;cases i with
 |ofNat j=>simp only [Int.ofNat_eq_natCast,Int.natCast_nonneg,Zf];by_cases h:j<l.length;rw[Xk (by lia)];simp;rw[Xh (by lia)];simp;lia
 |negSucc j=>
  have a:¬ (0:Int)<=Int.negSucc j:=by lia
  by_cases h:j<l.length;have h1 : -(l.length:Int)<=Int.negSucc j:=by lia
  have b:(Int.negSucc j+(l.length:Int)).toNat=l.length-(j+1):=by lia
  simp only [Xh a,Xk h,Xk h1,b];rfl;have h1:¬ -(l.length:Int)<=Int.negSucc j:=by lia
  simp only [Xh a,Xh h,Xh h1];rfl
def Br (t u:Tv):Rz:=aI (fun i=>match t with
 | .lst l=>ofO (d6 l i)
 | .tup l=>ofO (d6 l i)
 |t=>aS (fun x=>ofO ((d6 x.cps.toList i).map fun c=>.at (.str ⟨#[c]⟩))) t) u
theorem IsTs.atI {ts:List Tv}{i:Int}(r:IsTs K G C ts)(h:Lake.atI ts i=some t):∃v,Lake.atI C i=some v/\IsT K G v t:=by unfold Lake.atI at h ⊢;rw[r.len];cases e:hZ ts.length i with|none=>(rw[e] at h;cases h)|some j=>rw[e] at h;exact r.get h
theorem NQ:dX K Br (Bg K):=fun G H x y t u s Q b h1 g e q=>by have hz:=XD;obtain⟨i,rfl,d⟩:=e.aI;cases t with|lst l=>(obtain⟨w,z,rfl⟩:=d.ofO;rw[zA] at z;obtain⟨a,C,rfl,h,j⟩:=h1.lst b;obtain⟨rfl,_⟩:=g.at;obtain⟨v,k,m⟩:=j.atI z;exact .inl ⟨a,C,i,v,rfl,rfl,.of h,k,cN b m q⟩)|tup l=>(obtain⟨w,z,rfl⟩:=d.ofO;rw[zA] at z;obtain⟨a,C,rfl,h,j⟩:=h1.tup b;obtain⟨rfl,_⟩:=g.at;obtain⟨v,k,m⟩:=j.atI z;exact .inr (.inl ⟨a,C,i,v,rfl,rfl,.of h,k,cN b m q⟩))| «at» v=>(obtain⟨w,c,d⟩:=d.aS;cases c;obtain⟨o,z,rfl⟩:=d.ofO;rw[zA] at z;cases n:atI w.cps.toList i with|none=>(rw[n] at z;cases z)|some c=>rw[n] at z;cases z;obtain⟨rfl,f⟩:=h1.at;obtain⟨rfl,_⟩:=g.at;exact .inr (.inr ⟨w,i,c,rfl,rfl,by rw[hz];exact XY f,n,cN b (.at rfl) q⟩))|_=>exact(fU d).elim
def K4:Tv->Rz
 | .lst l=>.ok (vI l.length)
 | .tup l=>.ok (vI l.length)
 | .dic l=>.ok (vI l.length)
 | .at (.str x)=>.ok (vI x.length)
 |_=>.no
noncomputable def yI:Tv->Rz
 | .lst l=>.ok (.n (.lst l))
 | .tup l=>.ok (.n (.lst l))
 |_=>.no
noncomputable def y4:Tv->Rz
 | .lst l=>.ok (.v (.tup l))
 | .tup l=>.ok (.v (.tup l))
 |_=>.no
def Cv (K:W.Frag):V->Hp->VK->Prop:=fun x H Q=>(∃p b,x=.ref p/\(SqL K H p b∨SqT K H p b)/\Q (.int b.length) H)∨(∃z,x=.str z/\z.length<=sizeLine/\Q (.int z.length) H)∨∃a kvs,x=.ref a/\H a=some (.dK kvs)/\Q (.int kvs.length) H
theorem IsKs.len {C:List (aj×V)}:∀{ts:List (aj×Tv)},IsKs K G C ts->C.length=ts.length:=by induction C with|nil=>(intro ts h;cases h;rfl)|cons v C a=>intro ts h;cases h with|cons _ r=>simp [a r]
theorem Qb:jd K K4 (Cv K):=fun G H x t s Q b h1 e q=>by have hz:=XD;cases t with|lst l=>(cases e;obtain⟨a,C,rfl,c,d⟩:=h1.lst b;exact .inl ⟨a,C,rfl,.inl (.of c),by rw[d.len];exact cN b (.at rfl) q⟩)|tup l=>(cases e;obtain⟨a,C,rfl,c,d⟩:=h1.tup b;exact .inl ⟨a,C,rfl,.inr (.of c),by rw[d.len];exact cN b (.at rfl) q⟩)|dic l=>(cases e;obtain⟨a,C,rfl,c,d⟩:=h1.dic b;exact .inr (.inr ⟨a,C,rfl,c,by rw[d.len];exact cN b (.at rfl) q⟩))| «at» v=>(cases v with|str z=>(cases e;obtain⟨rfl,f⟩:=h1.at;exact .inr (.inl ⟨z,rfl,by rw[hz];exact XY f,cN b (.at rfl) q⟩))|_=>exact(fU e).elim)|_=>exact(fU e).elim
theorem Td:gy X (.builtin "len") (fun xs H Q=>∃x,xs=[x]/\Cv X.K x H Q):=fun O s S H xs b Q I r ⟨x,e,h⟩=>by subst e;rcases h with ⟨p,c,rfl,h,q⟩|⟨z,rfl,h,q⟩|⟨a,kvs,rfl,h,q⟩;exact Vl O s S H _ b Q I r ⟨p,c,rfl,h,q⟩;exact Vk O s S H _ b Q I r ⟨z,rfl,h,q⟩;exact Tq O s S H _ b Q I r ⟨a,kvs,rfl,h,q⟩
def NP (K:W.Frag):V->Hp->VK->Prop:=fun x H Q=>∃p a,x=.ref p/\(SqL K H p a∨SqT K H p a)/\∀l,H l=none->Q (.ref l) (ak H l (.lst a))
theorem RF:jd K yI (NP K):=fun G H x t s Q d h1 e q=>by
 unfold yI at e;split at e
 .next l=>cases e;obtain⟨a,C,rfl,b,c⟩:=h1.lst d;exact⟨a,C,rfl,.inl (.of b),m8 c q⟩
 .next l=>cases e;obtain⟨a,C,rfl,b,c⟩:=h1.tup d;exact⟨a,C,rfl,.inr (.of b),m8 c q⟩
 cases e
def Qa (K:W.Frag):V->Hp->VK->Prop:=fun x H Q=>∃p a,x=.ref p/\((SqL K H p a/\∀l,H l=none->Q (.ref l) (ak H l (.tup a)))∨(SqT K H p a/\Q (.ref p) H))
theorem Tc:jd K y4 (Qa K):=fun G H x t s Q b h1 e q=>by
 unfold y4 at e;split at e
 .next l=>cases e;obtain⟨a,C,rfl,c,d⟩:=h1.lst b;exact⟨a,C,rfl,.inl ⟨.of c,vN b d q⟩⟩
 .next l=>cases e;obtain⟨a,C,rfl,c,d⟩:=h1.tup b;exact⟨a,C,rfl,.inr ⟨.of c,v8 b (Same.refl _) c d q⟩⟩
 cases e
theorem lC {r:List V->Hp->VK->Prop}{a:V->Hp->VK->Prop}(b:∀x H Q,a x H Q->r [x] H Q){S:St}{H:Hp}{Q:VK}:tU a (LE K F wa) S H Q->w6 r (je (LE K F wa) gC) S H Q:=fun⟨G,Y,M,c,R,k,q⟩=>
 ⟨G,Y,M,c,R,k,fun d M' I t' v H' e R' f g=>b _ _ _ (q d M' I t' v H' e R' f g)⟩
end
noncomputable def gw (M:Ms)(o:Ob):Rf->Ms
 | .loc i=>{ M with env:=M.env.set i (some (.own o)) }
 | .out k=>{ M with out:=M.out.set k (.own o) }
 | .tmp j=>{ M with tmp:=M.tmp.set j o }
noncomputable def sj:Ev->Option Rf
 | .loc i=>some (.loc i)
 | .out k=>some (.out k)
 | .tmp j=>some (.tmp j)
 | .fz _=>none
section
theorem Rel.chg (R:Rel K F G Y M S H){r:Rf}{o o':Ob}{a:Addr}(h1:az M r=some o)(d:adr F Y S r=some a)(l:∀b,b≠a->H' b=H b)(ok:ObOk K G H' a o'):Rel K F G Y (gw M o' r) S H':=by
 obtain⟨b,c,Q,w⟩:=R.ob r o h1;rw[d] at c;cases c;have E:∀b x,G b=some x->b≠a:=fun b x e z=>by rw[z,w] at e;cases e
 have y:∀x u,az (gw M o' r) x=some u->(x=r/\u=o')∨(x≠r/\az M x=some u):=fun x u h=>by cases r with|loc i=>(cases x with|loc j=>(simp only [az,gw] at h;cases q:(M.env.set i (some (.own o')))[j]? with|none=>simp [q] at h|some s=>rw[q] at h;rcases eB q with ⟨rfl,rfl⟩|⟨z,f⟩;simp [bY] at h;exact .inl ⟨rfl,h.symm⟩;exact .inr ⟨(fun e=>by cases e;exact z rfl),by simp only [az];rw[f];exact h⟩)|out k=>exact .inr ⟨(fun z=>by cases z),h⟩|tmp k=>exact .inr ⟨(fun z=>by cases z),h⟩)|out i=>(cases x with|out j=>(simp only [az,gw] at h;cases q:(M.out.set i (.own o'))[j]? with|none=>simp [q] at h|some s=>rw[q] at h;rcases eB q with ⟨rfl,rfl⟩|⟨z,f⟩;simp [bY] at h;exact .inl ⟨rfl,h.symm⟩;exact .inr ⟨(fun e=>by cases e;exact z rfl),by simp only [az];rw[f];exact h⟩)|loc k=>exact .inr ⟨(fun z=>by cases z),h⟩|tmp k=>exact .inr ⟨(fun z=>by cases z),h⟩)|tmp i=>cases x with|tmp j=>(have q:(M.tmp.set i o')[j]?=some u:=h;rcases eB q with ⟨rfl,rfl⟩|⟨z,f⟩;exact .inl ⟨rfl,rfl⟩;exact .inr ⟨(fun e=>by cases e;exact z rfl),f⟩)|loc k=>exact .inr ⟨(fun z=>by cases z),h⟩|out k=>exact .inr ⟨(fun z=>by cases z),h⟩
 have m:∀x u,az (gw M o' r) x=some u->∃p,az M x=some p:=fun x u h=>by rcases y x u h with ⟨rfl,_⟩|⟨_,h⟩;exact⟨o,h1⟩;exact⟨u,h⟩
 have lens:(gw M o' r).env.length=M.env.length/\(gw M o' r).out.length=M.out.length/\(gw M o' r).tmp.length=M.tmp.length:=by cases r <;> simp [gw]
 have A:∀(i:Nat)(s:Sl),(gw M o' r).env[i]?=some (some s)->(∀u,s ≠ .own u)->M.env[i]?=some (some s):=fun i s h n=>by cases r with|loc j=>(rcases eB (show(M.env.set j (some (.own o')))[i]?=some (some s) from h) with ⟨_,z⟩|⟨_,z⟩;cases z;exact absurd rfl (n o');exact z)|out j=>exact h|tmp j=>exact h
 have I:∀(i:Nat)(s:Sl),(gw M o' r).out[i]?=some s->(∀u,s ≠ .own u)->M.out[i]?=some s:=fun i s h n=>by cases r with|out j=>(rcases eB (show(M.out.set j (.own o'))[i]?=some s from h) with ⟨_,z⟩|⟨_,z⟩;cases z;exact absurd rfl (n o');exact z)|loc j=>exact h|tmp j=>exact h
 refine⟨fun b x e=>by rw[l b (E b x e)];exact R.sub b x e,R.g0,fun b x c B=>?_,R.gd,fun b g=>?_,by rw[lens.1];exact R.ls,by rw[lens.2.1];exact R.lo,by rw[lens.2.2];exact R.lt,fun i t h=>R.fz i t (A i _ h fun u z=>by cases z),fun i k h=>R.al i k (A i _ h fun u z=>by cases z),fun k t h=>R.fo k t (I k _ h fun u z=>by cases z),fun x u h=>?_,fun x C u p b h h' e J=>?_,fun x u b h e=>?_⟩;have g:b≠a:=fun z=>by rcases R.nw r o a h1 d with ⟨k,rfl⟩|q;exact B (z▸XT (show F.ao[k]?=some a from d));rw[z,q] at c;cases c
 rw[l b g];exact R.fra b x c B;by_cases z:b=a;rw[z];exact ok.some;rw[l b z];exact R.pr b g;rcases y x u h with ⟨rfl,rfl⟩|⟨L,h⟩;exact⟨a,d,ok,w⟩;obtain⟨b,D,N,O⟩:=R.ob x u h;have g:b≠a:=fun z=>L (R.ij x r u o a h h1 (by rw[D,z]) d);exact⟨b,D,N.mono (Same.refl _) (l b g),O⟩;obtain⟨v,h⟩:=m x u h;obtain⟨P,h'⟩:=m C p h';exact R.ij x C v P b h h' e J;obtain⟨v,h⟩:=m x u h;exact R.nw x v b h e
theorem EvOk.adr {b:Ev}{v:V}{r:Rf}(h:EvOk K F G Y S b v)(e:sj b=some r):∃a,v=.ref a/\Lake.adr F Y S r=some a:=by cases b with|fz t=>(cases e)|loc i=>(cases e;obtain⟨h1,a,rfl⟩:=h;exact⟨a,rfl,by simp [Lake.adr,h1,lu]⟩)|out k=>(cases e;obtain⟨a,h1,rfl⟩:=h;exact⟨a,rfl,h1⟩)|tmp j=>cases e;obtain⟨a,h1,rfl⟩:=h;exact⟨a,rfl,h1⟩
noncomputable def LC:Ob->Bool
 | .lst _=>true
 |_=>false
def AR (f:Ob->List Tv->Option (Prop×Ob×Tv))(wo:TW)(wr:bU):TW:=fun M k=>wo M fun x M1=>aG (sj x) fun r=>aG (az M1 r) fun a=>LC a=true/\wr M1 fun ts M2=>aG (az M2 r) fun o=>iu (f o ts) fun c p=>c/\k (.fz p.2) ((gw M2 p.1 r).cut M.tmp.length)
def uU (K:W.Frag)(f:Ob->List Tv->Option (Prop×Ob×Tv))(r:V->List V->Hp->VK->Prop):Prop:=∀G H a o o' t ts C Q,Same G H->ObOk K G H a o->G a=none->IsTs K G C ts->(∃c:Prop,c/\f o ts=some (c,o',t))->(∀v H',(∀b,b≠a->H' b=H b)->ObOk K G H' a o'->IsT K G v t->Q v H')->r (.ref a) C H Q
theorem LE.mut {n:Nat}{f:Ob->List Tv->Option (Prop×Ob×Tv)}{r:V->List V->Hp->VK->Prop}{wo:TW}{wr:bU}(ok:uU X.K f r){S:St}{H:Hp}{Q:VK}:LE X.K F (AR f wo wr) S H Q->w8 X.K "list" r (LE X.K F wo) (LF X.K F n wr) S H Q:=fun⟨G,Y,M,K0,R,k,q⟩=>by
 refine⟨G,Y,M,_,R,k,fun x M1 B D v H1 d p i E=>?_⟩;obtain⟨r,I,d⟩:=aE d;obtain⟨s,j,J,d⟩:=aE d;obtain⟨a,rfl,m⟩:=E.adr I;obtain⟨b,u,L,z3⟩:=p.ob r s j;rw[m] at u;cases u;refine⟨?_,B,D,M1,_,p,d,fun ts M2 w C N h R2 y O _=>?_⟩;cases s with|lst l=>(obtain⟨C,e,_⟩:=L;exact .inl ⟨rfl,_,SqL.of e⟩)|dic l=>cases J
 obtain⟨o,z,h⟩:=aE h;obtain⟨c,⟨o',t⟩,P,T,h⟩:=iz h;obtain⟨b,A,U,W⟩:=R2.ob r o z;rw[m] at A;cases A;refine ok w N a o o' t ts C Q R2.sub U W O ⟨c,T,P⟩ fun v H' Z t9 ht=>?_;have R3:=R2.chg z m Z t9;exact q _ _ w Y v H' h (R3.cutTo R.lt ⟨i.g.trans y,i.t⟩) ⟨i.g.trans y,[],by simp⟩ ht
noncomputable def K3 (o:Ob)(ts:List Tv):Option (Prop×Ob×Tv):=match o with
 | .lst l=>match ts with
  |[t]=>some (l.length<16777216,.lst (l++[t]),.at .non)
  |_=>none
 |_=>none
theorem P9:uU K K3 g8:=fun G H a o o' t ts C Q n h p f e q=>by obtain⟨c,g,e⟩:=e;cases o with|lst l=>(cases f with|nil=>(cases e)| @cons v _ _ _ i j=>cases j with|cons _ _=>(cases e)|nil=>cases e;obtain⟨ws,k,d⟩:=h;exact⟨a,ws,v,rfl,rfl,k,by rw[XD,d.len];exact g,q _ _ (fun b m=>ay m) ⟨_,aJ,d.app (.cons i .nil)⟩ (.at rfl)⟩)|_=>cases e
noncomputable def ou:Ob->List Tv->Option (Prop×Ob×Tv)
 | .lst l,[]=>(l[l.length-1]?).map fun t=>(True,.lst l.dropLast,t)
 |_,_=>none
theorem P8:uU K ou qJ:=fun G H a o o' t ts C Q m h n g e q=>by
 obtain⟨c,p,e⟩:=e;unfold ou at e;split at e
 .next l=>
  cases z:l[l.length-1]? with|none=>(rw[z] at e;cases e)|some u=>rw[z] at e;cases e;obtain⟨ws,i,d⟩:=h;cases g;obtain⟨v,f,j⟩:=d.get z;rw[<- d.len] at f;refine⟨a,ws,v,rfl,rfl,i,f,q _ _ (fun b k=>ay k) ⟨_,aJ,?_⟩ j⟩;rw[List.dropLast_eq_take,List.dropLast_eq_take,d.len];exact d.take _
 cases e
noncomputable def uP:Tv->Option aj
 | .at (.int i)=>some (.inl i)
 | .at (.str x)=>some (.inr x)
 |_=>none
noncomputable def eU (l:List (aj×Tv))(k:aj)(t:Tv):List (aj×Tv):=if (l.any fun a=>decide (a.1=k))=true then l.map (fun a=>if a.1=k then (a.1,t) else a) else l++[(k,t)]
noncomputable def cb:List (aj×Tv)->aj->Option Tv
 |[],_=>none
 | (a,t)::r,k=>if a=k then some t else cb r k
theorem IsKs.look {C:List (aj×V)}:∀{ts:List (aj×Tv)}{k:aj}{t:Tv},IsKs K G C ts->cb ts k=some t->∃v,bw C k=some v/\IsT K G v t:=by
 induction C with
 |nil=>(intro ts k t h e;cases h;cases e)
 |cons p C a=>
  intro ts k t h e;cases h with
  | @cons b v _ u ts h1 c=>
   by_cases z:b=k;simp [cb,z] at e;subst e;exact⟨v,by simp [bw,X8,z],h1⟩;have d:cb ts k=some t:=by simpa [cb,z] using e
   obtain⟨w,f,g⟩:=a c d;exact⟨w,by simpa [bw,X8,z] using f,g⟩
theorem IsKs.lookN {C:List (aj×V)}:∀{ts:List (aj×Tv)}{k:aj},IsKs K G C ts->cb ts k=none->bw C k=none:=by
 induction C with
 |nil=>(intro ts k h e;rfl)
 |cons p C a=>
  intro ts k h e;cases h with
  | @cons b v _ u ts h1 c=>
   by_cases z:b=k;simp [cb,z] at e;have d:cb ts k=none:=by simpa [cb,z] using e
   have f:=a c d;simpa [bw,X8,z] using f
theorem IsKs.any {C:List (aj×V)}{ts:List (aj×Tv)}{k:aj}(h:IsKs K G C ts):(C.any fun a=>decide (a.1=k))=ts.any fun a=>decide (a.1=k):=by induction C generalizing ts with|nil=>(cases h;rfl)|cons p C b=>cases h with|cons h1 c=>simp only [any_cons,b c]
theorem IsKs.map {C:List (aj×V)}{k:aj}{v:V}(d:IsT K G v t):∀{ts:List (aj×Tv)},IsKs K G C ts->IsKs K G (C.map fun a=>if a.1=k then (a.1,v) else a) (ts.map fun a=>if a.1=k then (a.1,t) else a):=by induction C with|nil=>(intro ts h;cases h;exact .nil)|cons p C b=>intro ts h;cases h with| @cons e w _ u ts h1 c=>rw[Xp,Xp];by_cases z:e=k;simp only [z,Xk];exact .cons d (b c);simp only [Xh z];exact .cons h1 (b c)
theorem IsKs.snoc {C:List (aj×V)}{k:aj}{v:V}(a:IsT K G v t):∀{ts:List (aj×Tv)},IsKs K G C ts->IsKs K G (C++[(k,v)]) (ts++[(k,t)]):=by induction C with|nil=>(intro ts h;cases h;exact .cons a .nil)|cons p C b=>intro ts h;cases h with|cons h1 c=>exact .cons h1 (b c)
theorem IsKs.put {C:List (aj×V)}{ts:List (aj×Tv)}{k:aj}{v:V}(h:IsKs K G C ts)(a:IsT K G v t):IsKs K G (cf C k v) (eU ts k t):=by unfold cf eU;rw[h.any];split;exact h.map a;exact h.snoc a
def yq:Tv->Tv->Rz
 | .dic l,t=>match uP t with
  |some k=>ofO (cb l k)
  |none=>.no
 |_,_=>.no
def l7:R2:=fun x y H Q=>∃a v,x=.ref a/\DGet H a y (some v)/\Q v H
theorem zz {k:aj}(h:IsR K G H y t)(e:uP t=some k):y=kV k:=by cases t with| «at» v=>(cases v with|int i=>(cases e;obtain⟨rfl,_⟩:=h.at;rfl)|str i=>(cases e;obtain⟨rfl,_⟩:=h.at;rfl)|_=>cases e)|_=>cases e
theorem NO:dX K yq l7:=fun G H x y t u s Q b h1 c e q=>by
 unfold yq at e;split at e
 .next l=>
  split at e
  .next k z=>
   obtain⟨w,d,rfl⟩:=e.ofO;obtain⟨a,kvs,rfl,f,g⟩:=h1.dic b;obtain⟨v,h,i⟩:=g.look d;have j:=zz c z;subst j;exact⟨a,v,rfl,by rw[<- h];exact DGet.k f,cN b i q⟩
  cases e
 cases e
def Cu (b wd wk:TW):cg:=fun P M=>b M fun v M1=>iu (dj 0 M1 v) fun t M2=>wd M2 fun x M2=>wk M2 fun y a=>aG (sj x) fun r=>aG (az a r) fun o=>aG (rd a y) fun u=>aG (uP u) fun k=>match o with
 | .dic l=>l.length<16777216/\P.nx ((gw a (.dic (eU l k t)) r).cut 0)
 |_=>False
theorem LS.dput {h wd wk:TW}{D:bp}:LS X.K F (Cu h wd wk) D S H->CD (LE X.K F wd) (LE X.K F wk) (LE X.K F h) D S H:=fun⟨G,M,P,R,k,ok⟩=>by
 refine⟨G,[],M,_,R,k,fun q M1 G1 t1 v H1 d s w z=>?_⟩;obtain⟨t,M2,A,d⟩:=iz d;have B:dj M.tmp.length M1 q=some (t,M2):=by rw[R.lt];exact A
 obtain⟨C,R2,E,jw,I⟩:=s.frz R.lt w z B;refine⟨C,[],M2,_,R2,d,fun x J L N xv H3 O Q s3 T=>⟨L,N,J,_,Q,O,fun y M4 U t4 yv V c e f W=>?_⟩⟩;obtain⟨r,Y,c⟩:=aE c;obtain⟨o,i,c⟩:=aE c;obtain⟨u,Z,c⟩:=aE c;obtain⟨j,hk,c⟩:=aE c;obtain⟨a,rfl,m⟩:=(T.stp f).adr Y;obtain⟨b,n,z2,z3⟩:=e.ob r o i;rw[m] at n;cases n;have hy:=zz (e.rd W Z) hk;subst hy;cases o with|lst l=>exact c.elim|dic l=>obtain⟨kvs,e5,p⟩:=z2;obtain⟨hl,c⟩:=c;refine⟨a,_,rfl,DPut.k e5 (by rw[XD,p.len];exact hl),?_⟩;have R5:=e.chg (o':=.dic (eU l j t)) i m (H':=ak V a (.dK (cf kvs j v))) (fun b hb=>ay hb) ⟨_,aJ,p.put (I.mono (s3.g.trans f.g))⟩;exact ok.nx _ U S _ c (R5.cut 0) (E.g.trans (s3.g.trans f.g))
end
section
def aV {q : Type}(xs:List q)(lo a:Option Int):List q := (xs.drop (sIx xs.length 0 lo)).take (sIx xs.length xs.length a-sIx xs.length 0 lo)
theorem IsTs.cut {ts:List Tv}(h:IsTs K G C ts)(lo a:Option Int):IsTs K G (jQ C lo a) (aV ts lo a):=by unfold jQ aV;rw[h.len];exact(h.drop _).take _
abbrev lH:=Ms->(Option Int->Ms->Prop)->Prop
inductive LO (K:W.Frag)(F:Fr)(w:lH)(S:St)(H:Hp)(Q:(Option Int->Hp->Prop)):Prop
 |mk (G Y M K0:_) (_:Rel K F G Y M S H) (_:w M K0) (_:∀i M' I Z H',K0 i M'->Rel K F I Z M' S H'->Stp G Y I Z->Q i H'):LO K F w S H Q
noncomputable def u6:Tv->Option Int
 | .at (.int i)=>some i
 |_=>none
def Ki:lH:=fun M k=>k none M
def Ct (wa:TW):lH:=fun M k=>wa M fun x M1=>aG (rd M1 x) fun t=>aG (u6 t) fun i=>k (some i) M1
theorem PO.imp {e:Option Expr}{t t':TO}(h:PO X e t)(i:∀ S H Q,t' S H Q->t S H Q):PO X e t':=fun O s S H Q I q=>h O s S H Q I (i S H Q q)
theorem P7:PO X none (LO X.K F Ki):=po_none.imp fun S H Q ⟨G,Y,M,a,R,k,q⟩=>q _ _ G Y H k R .refl
theorem zU {i:Int}(h:u6 t=some i):t=.at (.int i):=by cases t with| «at» v=>(cases v with|int i=>(cases h;rfl)|_=>cases h)|_=>cases h
theorem P6 (h:PE X e (LE X.K F wa)):PO X (some e) (LO X.K F (Ct wa)):=(Qs h).imp fun S H Q ⟨G,Y,M,o,R,k,q⟩=>by refine⟨G,Y,M,_,R,k,fun x M1 d f p g a b j l=>?_⟩;obtain⟨t,m,a⟩:=aE a;obtain⟨i,n,a⟩:=aE a;have c:=b.rd l m;rw[zU n] at c;exact⟨i,c.at.1,q _ _ d f g a b j⟩
def K1 (lo a:Option Int):Tv->Rz
 | .lst l=>.ok (.n (.lst (aV l lo a)))
 | .scr l=>.ok (.n (.lst (aV l lo a)))
 | .tup l=>.ok (.v (.tup (aV l lo a)))
 | .at v=>match v with
  | .str z=>.cd ((Txt.slice z lo a).length<=16777216) (vS (Txt.slice z lo a))
  |_=>.no
 |_=>.no
def AQ (K:W.Frag):V->Option Int->Option Int->Hp->VK->Prop:=fun x lo a H Q=>Kz K x lo a H Q∨(fun x lo a H Q=>qH x lo a H Q∨qG x lo a H Q) x lo a H Q
theorem VY:SlR X (AQ X.K):=sl_list.or (sl_tupP.or N9)
theorem NN (lo b:Option Int):jd K (K1 lo b) (fun x H Q=>AQ K x lo b H Q):=fun G H x t s Q c h1 e q=>by
 have hz:=XD;cases t with
 |lst l=>(cases e;obtain⟨a,C,rfl,d,g⟩:=h1.lst c;exact .inl ⟨a,C,rfl,.of d,m8 (g.cut lo b) q⟩)|scr l=>(cases e;obtain⟨a,C,rfl,d,g⟩:=h1.scr c;exact .inl ⟨a,C,rfl,d,m8 (g.cut lo b) q⟩)|tup l=>(cases e;obtain⟨a,C,rfl,d,g⟩:=h1.tup c;exact .inr (.inl ⟨a,C,rfl,d,fun p H' h e=>v8 c h e (g.cut lo b) q⟩))
 | «at» v=>
  cases v with
  |str z=>
   cases e with|cd i=>
   obtain⟨rfl,f⟩:=h1.at;exact .inr (.inr ⟨z,rfl,by rw[hz];exact XY f,cN c (.at (Xs i)) q⟩)
  |_=>exact(fU e).elim
 |_=>exact(fU e).elim
def Kh (wa:TW)(wl b:lH):TW:=fun M k=>wa M fun x M1=>wl M1 fun lo M2=>b M2 fun c a=>aG (rd a x) fun t=>bz (K1 lo c t) (oF M.tmp.length a k)
theorem LE.slc {wl c:lH}{Q:VK}:LE X.K F (Kh wa wl c) S H Q->Bb (AQ X.K) (LE X.K F wa) (LO X.K F wl) (LO X.K F c) S H Q:=fun⟨G,Y,M,y,R,k,q⟩=>by refine⟨G,Y,M,_,R,k,fun x M1 e f g z h i j l=>⟨e,f,M1,_,i,h,fun lo M2 m n A o R2 d=>⟨m,n,M2,_,R2,o,fun p B r C u a b s3=>?_⟩⟩⟩;obtain⟨t,v,a⟩:=aE a;obtain⟨s,w,a⟩:=lE a;exact NN lo p r u g t s Q b.sub (b.rd (l.stp (d.trans s3)) v) w (b.done R.lt (j.trans (d.trans s3)) a q)
noncomputable def tQ:Tv->Option String
 | .at .non=>some "NoneType"
 | .at (.bl _)=>some "bool"
 | .at (.int _)=>some "int"
 | .at (.str _)=>some "str"
 | .tup _=>some "tuple"
 | .lst _=>some "list"
 | .dic _=>some "dict"
 |_=>none
theorem NM {v:V}{n:String}(h:IsT K H v t)(e:tQ t=some n):cI K H v (.type n):=by cases h with| «at» f =>( cases v <;> cases e <;> constructor)|tup h r=>(cases e;exact .tup h)|lst h r=>(cases e;exact .lst h)|dic h r=>(cases e;exact .dK h)|scr h r=>(cases e)|fnv=>(cases e)|ktp h r=>cases e
noncomputable def nG (n T:String):Bool:=n==T||(n=="bool"&&T=="int")
def AO (T:String)(t:Tv):Rz:=match tQ t with
 |some n=>.ok (vB (nG n T))
 |none=>.no
noncomputable def ni:Tv->Int
 | .at (.int i)=>i
 |_=>0
noncomputable def Ba:Tv->Bool
 | .at (.bl b)=>b
 |_=>false
def intL (l:List Tv):Prop:=∀t∈l,∃i,t=.at (.int i)
def blL (l:List Tv):Prop:=∀t∈l,∃b,t=.at (.bl b)
theorem intL.is {l:List Tv}(f:intL l):∀{C:List V},IsTs K G C l->C=(l.map ni).map V.int:=by induction l with|nil=>(intro C h;cases h;rfl)|cons t l a=>intro C h;cases h with| @cons v C _ _ h1 b=>obtain⟨i,rfl⟩:=f t W8;cases h1;rw[a (fun x c=>f x (W7 _ c)) b];rfl
theorem blL.is {l:List Tv}(f:blL l):∀{C:List V},IsTs K G C l->C=(l.map Ba).map V.bl:=by induction l with|nil=>(intro C h;cases h;rfl)|cons t l a=>intro C h;cases h with| @cons v C _ _ h1 b=>obtain⟨i,rfl⟩:=f t W8;cases h1;rw[a (fun x c=>f x (W7 _ c)) b];rfl
def AN:Tv->Rz
 | .lst l=>.cd (intL l) (vI (l.map ni).sum)
 |_=>.no
def AM:Tv->Rz
 | .lst l=>.cd (blL l) (vB ((l.map Ba).all id))
 |_=>.no
def yH:Tv->Rz
 | .at (.int i)=>.ok (vI i)
 | .at (.bl b)=>.ok (vI (if b then 1 else 0))
 |_=>.no
def AL:Tv->Rz
 | .at (.int i)=>.ok (vI (-i))
 |_=>.no
def Wm (K:W.Frag):V->Hp->VK->Prop:=fun x H Q=>∃(a:Addr)(ns:List Int),x=.ref a/\SqL K H a (ns.map V.int)/\Q (.int ns.sum) H
def Wl (K:W.Frag)(f:List Bool->Bool):V->Hp->VK->Prop:=fun x H Q=>∃(a:Addr)(bs:List Bool),x=.ref a/\SqL K H a (bs.map V.bl)/\Q (.bl (f bs)) H
theorem P5:jd K AN (Wm K):=fun G H x t s Q b h1 e q=>by
 unfold AN at e;split at e
 .next l=>
  cases e with|cd c=>
  obtain⟨a,C,rfl,d,f⟩:=h1.lst b;have:=c.is f;subst this;exact⟨a,_,rfl,.of d,cN b (.at rfl) q⟩
 cases e
theorem P4:jd K AM (Wl K fun bs=>bs.all id):=fun G H x t s Q b h1 e q=>by
 unfold AM at e;split at e
 .next l=>
  cases e with|cd c=>
  obtain⟨a,C,rfl,d,f⟩:=h1.lst b;have:=c.is f;subst this;exact⟨a,_,rfl,.of d,cN b (.at rfl) q⟩
 cases e
def qL:V->Hp->VK->Prop:=fun x H Q=>(∃i,x=.int i/\Q (.int i) H)∨∃k,x=.bl k/\Q (.int (if k then 1 else 0)) H
theorem P2:jd K yH qL:=fun G H x t s Q a h1 e q=>by
 unfold yH at e;split at e
 .next i=>cases e;obtain⟨rfl,_⟩:=h1.at;exact .inl ⟨i,rfl,cN a (.at rfl) q⟩
 .next b=>cases e;obtain⟨rfl,_⟩:=h1.at;exact .inr ⟨b,rfl,cN a (.at rfl) q⟩
 cases e
theorem P1:jd K AL (rU fun i=>.int (-i)):=fun G H x t s Q a h1 e q=>by
 unfold AL at e;split at e
 .next i=>cases e;obtain⟨rfl,_⟩:=h1.at;exact⟨i,rfl,cN a (.at rfl) q⟩
 cases e
noncomputable def f6 (n:Nat):List Tv:=(List.range n).map fun(i:Nat)=>.at (.int (i:Int))
def Kg (wa:TW):bU:=fun M k=>wa M fun x M1=>aG (rd M1 x) fun t=>aG (u6 t) fun j=>(-(2 ^ 62)<=j/\j<2 ^ 62)/\k (f6 j.toNat) (M1.cut M.tmp.length)
theorem NL (n:Nat):tI K G (wQ 0 n) (f6 n):=by
 have c:(f6 n).length=n:=by unfold f6;simp
 refine⟨fun i I H' _ _ a=>by rw[c] at a;exact a,fun I H' _ _=>by rw[c];exact W9 _,fun i t I H' x g h d b f=>?_⟩;obtain⟨rfl,rfl⟩:=f;have a:i<n:=by have:=(Xe.mp b).1;rw[c] at this;exact this
 have:t=.at (.int (0+(i:Int))):=by unfold f6 at b;rw[XG,List.getElem?_range a] at b;simpa using b.symm
 subst this;exact⟨I,Same.refl _,d,Same.refl _,fun _ _ e=>.inl e,.at rfl⟩
theorem LI.rng {R:It->Hp->Prop}:LI X.K F (Kg wa) S H R->CH (je (LE X.K F wa) gC) S H R:=fun⟨G,Y,M,o,b,k,q⟩=>by refine⟨G,Y,M,_,b,k,fun x M1 h p r i a c d l=>?_⟩;obtain⟨t,m,a⟩:=aE a;obtain⟨j,n,e,a⟩:=aE a;have f:=c.rd l m;rw[zU n] at f;exact⟨j,by rw[f.at.1],e.1,e.2,q _ _ h _ i a (c.cutTo b.lt d) d.g (NL _)⟩
theorem y0 {x:Ev}{b:Bool}(a:jL x=some b):x=.fz (.at (.bl b)):=by
 cases x with
 |fz t=>cases t with
  | «at» v => cases v <;> simp [jL] at a; subst a; rfl
  |_=>simp [jL] at a
 |_=>simp [jL] at a
def Cr (wa wb:TW):TW:=fun M k=>wa M fun x M1=>aG (jL x) fun c=>if c=true then wb (M1.cut M.tmp.length) k else k (.fz (.at (.bl false))) (M1.cut M.tmp.length)
def Kf (wa wb:TW):TW:=fun M k=>wa M fun x M1=>aG (jL x) fun c=>if c=true then k (.fz (.at (.bl true))) (M1.cut M.tmp.length) else wb (M1.cut M.tmp.length) k
def Cq (wa:TW):TW:=fun M k=>wa M fun x M1=>aG (jL x) fun c=>k (.fz (.at (.bl (!c)))) (M1.cut M.tmp.length)
theorem LE.andV {wb:TW}{Q:VK}:LE X.K F (Cr wa wb) S H Q->CM (LE X.K F wa) (LE X.K F wb) S H Q:=fun⟨G,Y,M,f,R,k,q⟩=>by refine⟨G,Y,M,_,R,k,fun x M1 c r h i a j d e=>?_⟩;obtain⟨b,l,a⟩:=aE a;rw[y0 l] at e;have m:IsT X.K c h (.at (.bl b)):=e;cases m;have R2:=j.cutTo R.lt d;refine⟨b,rfl,?_⟩;cases b with|true=>exact⟨c,Y,_,f,R2,a,fun b M' I t' v H' n R' o p=>q b M' I t' v H' n R' (Stp.trans ⟨d.g,[],by simp⟩ o) p⟩|false=>exact q _ _ c Y _ i a R2 ⟨d.g,[],by simp⟩ (.at rfl)
theorem LE.orV {wb:TW}{Q:VK}:LE X.K F (Kf wa wb) S H Q->KP (LE X.K F wa) (LE X.K F wb) S H Q:=fun⟨G,Y,M,f,R,k,q⟩=>by refine⟨G,Y,M,_,R,k,fun x M1 c r h i a j d e=>?_⟩;obtain⟨b,l,a⟩:=aE a;rw[y0 l] at e;have m:IsT X.K c h (.at (.bl b)):=e;cases m;have R2:=j.cutTo R.lt d;refine⟨b,rfl,?_⟩;cases b with|false=>exact⟨c,Y,_,f,R2,a,fun b M' I t' v H' n R' o p=>q b M' I t' v H' n R' (Stp.trans ⟨d.g,[],by simp⟩ o) p⟩|true=>exact q _ _ c Y _ i a R2 ⟨d.g,[],by simp⟩ (.at rfl)
theorem LE.notV {Q:VK}:LE X.K F (Cq wa) S H Q->CL (LE X.K F wa) S H Q:=fun⟨G,Y,M,m,R,k,q⟩=>by refine⟨G,Y,M,_,R,k,fun x M1 c n f h a i d e=>?_⟩;obtain⟨b,j,a⟩:=aE a;rw[y0 j] at e;have l:IsT X.K c f (.at (.bl b)):=e;cases l;exact⟨b,rfl,q _ _ c Y _ h a (i.cutTo R.lt d) ⟨d.g,[],by simp⟩ (.at rfl)⟩
noncomputable def Be:Rs->Option Bool
 | .v (.at (.bl b))=>some b
 |_=>none
theorem NK {r:Rs}{b:Bool}(h:Be r=some b):r=.v (.at (.bl b)):=by cases r with|v t=>(cases t with| «at» v=>(cases v with|bl i=>(cases h;rfl)|_=>cases h)|_=>cases h)|_=>cases h
def Ke (f b:Tv->Tv->Rz)(wa wb d:TW):TW:=fun M k=>wa M fun x M1=>wb M1 fun y M2=>aG (rd M2 x) fun t=>aG (rd M2 y) fun u=>bz (f t u) fun r=>aG (Be r) fun c=>
 if c=true then d M2 fun z a=>aG (rd a y) fun e=>aG (rd a z) fun v=>bz (b e v) (oF M.tmp.length a k) else k (.fz (.at (.bl false))) (M2.cut M.tmp.length)
theorem LE.chn {f m:Tv->Tv->Rz}(o:dX X.K f r)(o':dX X.K m r'){wa wb n:TW}{S:St}{H:Hp}{Q:VK}:LE X.K F (Ke f m wa wb n) S H Q->zc r r' (LE X.K F wa) (LE X.K F wb) (LE X.K F n) S H Q:=fun⟨G,Y,M,K0,R,k,q⟩=>by refine⟨G,Y,M,_,R,k,fun x M1 E J L H1 N O j P=>⟨E,J,M1,_,O,N,fun y M2 p w A T a R2 e B=>?_⟩⟩;obtain⟨t,U,a⟩:=aE a;obtain⟨u,V,a⟩:=aE a;obtain⟨s,W,a⟩:=lE a;obtain⟨c,Z,a⟩:=aE a;have b:=W;rw[NK Z] at b;refine o p T L A t u _ _ R2.sub (R2.rd (P.stp e) U) (R2.rd B V) b fun v I H' h z2 z3 z4 z5=>?_;cases z5;have C:=R2.more h z3 z2 z4;refine⟨c,rfl,?_⟩;cases c with|true=>(refine⟨I,w,M2,_,C,a,fun z M4 D t4 v4 H4 d i s4 e4=>?_⟩;obtain⟨u',l,d⟩:=aE d;obtain⟨v',qZ,d⟩:=aE d;obtain⟨s',b,d⟩:=lE d;have st:Stp p w D t4:=Stp.trans ⟨h,[],by simp⟩ s4;exact o' D H4 A v4 u' v' s' Q i.sub (i.rd (B.stp st) l) (i.rd e4 qZ) b (i.done R.lt (j.trans (e.trans st)) d q))|false=>exact q _ _ I Y _ H' a (C.cutTo R.lt (j.trans (e.trans ⟨h,[],by simp⟩))) ⟨j.g.trans (e.g.trans h),[],by simp⟩ (.at rfl)
def Cp (b wo c:TW):cg:=fun P M=>b M fun v M1=>iu (dj 0 M1 v) fun t M2=>wo M2 fun x d=>c d fun y a=>aG (sj x) fun r=>aG (az a r) fun o=>aG (rd a y) fun u=>aG (u6 u) fun i=>match o with
 | .lst l=>∃j,hZ l.length i=some j/\P.nx ((gw a (.lst (l.set j t)) r).cut 0)
 |_=>False
theorem LS.lput {h wo m:TW}{D:bp}:LS X.K F (Cp h wo m) D S H->oy (LE X.K F h) (KI (LE X.K F wo) (LE X.K F m) lY) D S H:=fun⟨G,M,P,R,k,ok⟩=>by
 refine⟨G,[],M,_,R,k,fun z M1 G1 t1 v H1 d A B E=>?_⟩;obtain⟨t,M2,I,d⟩:=iz d;have J:dj M.tmp.length M1 z=some (t,M2):=by rw[R.lt];exact I
 obtain⟨L,R2,N,jw,O⟩:=A.frz R.lt B E J;refine⟨L,[],M2,_,R2,d,fun x Q T U xv H3 V W s3 Y=>⟨T,U,Q,_,W,V,fun y M4 Z t4 yv H4 c e f e4=>?_⟩⟩;obtain⟨r,hr,c⟩:=aE c;obtain⟨o,n,c⟩:=aE c;obtain⟨u,hu,c⟩:=aE c;obtain⟨i,hi,c⟩:=aE c;obtain⟨a,rfl,p⟩:=(Y.stp f).adr hr;obtain⟨b,q,z2,z3⟩:=e.ob r o n;rw[p] at q;cases q;have s:=e.rd e4 hu;rw[zU hi] at s;obtain⟨rfl,_⟩:=s.at;cases o with|dic l=>exact c.elim|lst l=>obtain⟨C,e5,w⟩:=z2;obtain⟨j,hj,c⟩:=c;refine⟨a,C,i,j,rfl,rfl,e5,by rw[w.len];exact hj,?_⟩;have R5:=e.chg (o':=.lst (l.set j t)) n p (H':=ak H4 a (.lst (C.set j v))) (fun b hb=>ay hb) ⟨_,aJ,w.set j (O.mono (s3.g.trans f.g))⟩;exact ok.nx _ Z S _ c (R5.cut 0) (N.g.trans (s3.g.trans f.g))
def Co:TW:=fun M k=>oF M.tmp.length M k (.n (.dic []))
theorem P0 {pos:Pos}:PE X (.Dict [] [] pos) (LE X.K F Co):=pe_dnewK.imp fun S H Q ⟨G,Y,M,c,R,k,q⟩ p a=>
 R.done R.lt .refl k q p _ a (fun b x e=>by rw[ay (bL e a)];exact e) ⟨[],aJ,.nil⟩
noncomputable def yG:Tv->Rz
 | .dic l=>.ok (.n (.dic l))
 |_=>.no
def nv:V->Hp->VK->Prop:=fun x H Q=>∃(p:Addr)(kvs:List (aj×V)),x=.ref p/\H p=some (.dK kvs)/\∀a,H a=none->Q (.ref a) (ak H a (.dK kvs))
theorem RE:jd K yG nv:=fun G H x t s Q d h1 e q=>by
 unfold yG at e;split at e
 .next l=>
  cases e;obtain⟨a,kvs,rfl,f,g⟩:=h1.dic d;exact⟨a,kvs,rfl,f,fun p c=>q p _ c (fun b x e=>by rw[ay (bL e c)];exact e) ⟨kvs,aJ,g⟩⟩
 cases e
def p7 (l:List (aj×Tv))(m:List (aj×Tv)):List (aj×Tv):=m.foldl (fun b a=>eU b a.1 a.2) l
theorem IsKs.merge {C:List (aj×V)}:∀{ts:List (aj×Tv)}{ws:List (aj×V)}{c:List (aj×Tv)},IsKs K G C ts->IsKs K G ws c->IsKs K G (mW ws C) (p7 c ts):=by induction C with|nil=>(intro ts ws c h1 d;cases h1;exact d)|cons p C e=>intro ts ws c h1 d;cases h1 with| @cons k v _ t ts a b=>show IsKs K G (mW (cf ws k v) C) (p7 (eU c k t) ts);exact e b (d.put a)
theorem IsKs.zip {c:List Str}:∀{C:List V}{ts:List Tv},IsTs K G C ts->IsKs K G (c.zip C |>.map fun p=>(Sum.inr p.1,p.2)) (c.zip ts |>.map fun p=>(Sum.inr p.1,p.2)):=by induction c with|nil=>(intro C ts h;exact .nil)|cons k c d=>intro C ts h;cases h with|nil=>exact .nil|cons a b=>exact .cons a (d b)
noncomputable def uJ (a:List Str)(ts:List Tv):List (aj×Tv):=a.zip ts |>.map fun p=>(Sum.inr p.1,p.2)
def Kd (a:List Str)(wr:bU):TW:=fun M k=>wr { M with tmp:=M.tmp++[.dic []] } fun ts M2=>M2.tmp[M.tmp.length]?=some (.dic [])/\k (.tmp M.tmp.length) { M2 with tmp:=M2.tmp.take M.tmp.length++[.dic (p7 [] (uJ a ts))] }
def LP (K:W.Frag)(F:Fr)(w:bU)(b:List Str)(S:St)(H:Hp)(Q:List (V×V)->Hp->Prop):Prop:=∃G Y M a,Rel K F G Y M S H/\w M a/\∀ts M' I C H',a ts M'->Rel K F I Y M' S H'->Same G I->IsTs K I C ts->Q (b.zip C |>.map fun p=>(V.str p.1,p.2)) H'
theorem LP.nil {Q:List (V×V)->Hp->Prop}:LP K F yK [] S H Q->mX [] S H Q:=fun z=>by obtain⟨G,Y,M,a,R,k,q⟩:=z;exact q [] M G [] H k R (Same.refl _) .nil
theorem LP.cons {x:Str}{b:List Str}{wa:TW}{wr:bU}{c:List (TE×TE)}(e:∀ S H Q,LP K F wr b S H Q->mX c S H Q){S:St}{H:Hp}{Q:List (V×V)->Hp->Prop}:LP K F (sF wa wr) (x::b) S H Q->mX ((tC (.str x),LE K F wa)::c) S H Q:=fun⟨G,Y,M,s,R,k,q⟩=>by refine⟨G,Y,M,_,R,k,fun u M1 v w f y a h i j=>?_⟩;obtain⟨t,M2,l,a⟩:=iz a;obtain⟨m,R2,n,z,o⟩:=h.frz R.lt i j l;exact e _ _ _ ⟨m,Y,M2,_,R2,a,fun ts M' I C H' p R' d r=>q _ _ I (f::C) H' p R' (n.g.trans d) (.cons (o.mono d) r)⟩
theorem LE.dct {a:List Str}{wr:bU}{h:List (TE×TE)}(B:a.length<=15)(l:∀ S H Q,LP X.K F wr a S H Q->mX h S H Q){S:St}{H:Hp}{Q:VK}:LE X.K F (Kd a wr) S H Q->CC h S H Q:=fun⟨G,Y,M,D,R,k,q⟩ p i=>by
 have m:=R.push (o:=.dic []) i (H':=ak H p (.dK [])) (fun b x e=>by rw[ay (bL e i)];exact e) ⟨[],aJ,.nil⟩;refine l _ _ _ ⟨G,Y++[p],_,_,m,k,fun ts M2 n C s c R2 t u=>?_⟩;have E:M2.tmp.length=Y.length+1:=by have:=R2.lt;simpa using this
 obtain⟨d,c⟩:=c;have v:=R.lt;rw[v] at d c;have f:adr F (Y++[p]) S (.tmp Y.length)=some p:=by show(Y++[p])[Y.length]?=_;rw[Xr (W9 _)];simp
 obtain⟨b,j,⟨kvs,w,y⟩,I⟩:=R2.ob (.tmp Y.length) (.dic []) d;rw[f] at j;cases j;cases y;refine⟨w,(a.zip C).map (fun p=>(Sum.inr p.1,p.2)),by rw[Ze];rfl,by rw[Xa,length_zip];lia,?_⟩;have g:=R2.chg (r:=.tmp Y.length) (o:=.dic []) (o':=.dic (p7 [] (uJ a ts))) d f (H':=ak s p (.dK (mW [] ((a.zip C).map fun p=>(Sum.inr p.1,p.2))))) (fun b z=>ay z) ⟨_,aJ,(IsKs.zip u).merge .nil⟩;have A:M2.tmp.set Y.length (.dic (p7 [] (uJ a ts)))=M2.tmp.take Y.length++[.dic (p7 [] (uJ a ts))]:=by rw[List.set_eq_take_append_cons_drop,Xk (by lia),YD (by lia)]
 simp only [gw] at g;rw[A] at g;exact q _ _ n (Y++[p]) _ _ c g ⟨t,[p],rfl⟩ ⟨p,f,rfl⟩
def Kc (wa:TW):bU:=fun M k=>wa M fun a M1=>iu (dj M.tmp.length M1 a) fun t M2=>match t with
 | .lst l=>k l.reverse M2
 |_=>False
theorem LI.rev {R:It->Hp->Prop}:LI X.K F (Kc wa) S H R->Ky X.K (je (LE X.K F wa) gC) S H R:=fun⟨G,Y,M,J,n,k,q⟩=>by
 refine⟨G,Y,M,_,n,k,fun L M1 N O v o d p s w=>?_⟩;obtain⟨t,M2,y,d⟩:=iz d;obtain⟨z,R2,A,P,B⟩:=p.frz n.lt s w y;cases B with
 | @lst a C l h r=>
  refine⟨a,C,rfl,R2.sub _ _ h,q _ _ z _ o d R2 A.g ⟨fun i I H' b c f=>?_,fun I H' b c=>by rw[XQ,<- r.len];rfl,fun i u I H' x Q b c j m=>?_⟩⟩;rw[XQ,<- r.len] at f;exact⟨f,C,C[C.length-1-i],.of ((b.trans c) _ _ h),Xc (by omega)⟩;obtain⟨rfl,m⟩:=m;have f:i<l.length:=by have:=(Xe.mp j).1;simpa using this
  rw[List.getElem?_reverse f] at j;obtain⟨T,D,E⟩:=r.get j;have:=m C (.of ((b.trans c) _ _ h));rw[r.len,D] at this;cases this;exact⟨I,Same.refl _,c,Same.refl _,fun _ _ e=>.inl e,E.mono b⟩
 |_=>exact d.elim
noncomputable def i6 (l:List Tv):List Tv:=(List.range l.length).zip l |>.map fun p=>.tup [.at (.int (p.1:Nat)),p.2]
theorem mU (l:List Tv):(i6 l).length=l.length:=by unfold i6;simp
theorem yZ {l:List Tv}{u:Tv}(h:(i6 l)[i]?=some u):∃t,l[i]?=some t/\u=.tup [.at (.int (i:Nat)),t]:=by
 have a:i<l.length:=by have:=(Xe.mp h).1;rw[mU] at this;exact this
 unfold i6 at h;have e:((List.range l.length).zip l)[i]?=some (i,l[i]):=List.getElem?_zip_eq_some.mpr ⟨List.getElem?_range a,Xc a⟩;rw[XG,e] at h;exact⟨_,Xc a,by simpa using h.symm⟩
def Kb (wa:TW):bU:=fun M k=>wa M fun a M1=>iu (dj M.tmp.length M1 a) fun t M2=>aG (Kl t) fun l=>k (i6 l) M2
theorem LI.enu {R:It->Hp->Prop}:LI X.K F (Kb wa) S H R->CA X.K (je (LE X.K F wa) gC) S H R:=fun⟨G,Y,M,K0,U,k,q⟩=>by
 refine⟨G,Y,M,_,U,k,fun ev M1 G1 t1 v N p R1 s1 e1=>?_⟩;obtain⟨t,M2,h2,p⟩:=iz p;obtain⟨l,s,p⟩:=aE p;obtain⟨O,R2,P,jw,t2⟩:=R1.frz U.lt s1 e1 h2;have Q:∀{I H':Hp}{i:Nat}{t:Tv}{x:V}{T:Addr},Same I H'->H' T=none->IsT X.K I x t->∃L,Same I L/\Same L (ak H' T (.tup [.int (i:Nat),x]))/\Same H' (ak H' T (.tup [.int (i:Nat),x]))/\(∀a o,L a=some o->I a=some o∨H' a=none∨mJ o)/\IsT X.K L (.ref T) (.tup [.at (.int (i:Nat)),t]):=fun {I H' i t x T} c m A=>by
  have sH:Same H' (ak H' T (.tup [.int (i:Nat),x])):=fun b y e=>by rw[ay (bL e m)];exact e
  have W:Same I (ak I T (.tup [.int (i:Nat),x])):=fun b y e=>by rw[ay (bL e (c.free m))];exact e
  refine⟨ak I T (.tup [.int (i:Nat),x]),W,fun b y e=>?_,sH,fun b y e=>?_,.tup aJ (.cons (.at rfl) (.cons (A.mono W) .nil))⟩;by_cases z:b=T;subst z;rw[aJ] at e ⊢;exact e;rw[ay z] at e ⊢;exact c _ _ e;by_cases z:b=T;subst z;exact .inr (.inl m);rw[ay z] at e;exact .inl e
 cases t2 with| «at» f =>( cases s)|dic h r=>(cases s)|scr h r=>(cases s)|fnv=>(cases s)| @lst a C _ h r=>(cases s;refine⟨a,rfl,.inl ⟨⟨C,.of (R2.sub _ _ h)⟩,q _ _ O _ N p R2 P.g ⟨fun i I H' d c n=>?_,fun I H' d c=>⟨C,.of ((d.trans c) _ _ h),by rw[mU,r.len]⟩,fun i u I H' x Z d c B D=>?_⟩⟩⟩;rw[mU,<- r.len] at n;exact⟨C,C[i],.of ((d.trans c) _ _ h),Xc n⟩;obtain⟨t,E,rfl⟩:=yZ B;obtain⟨T,x',rfl,m,A,rfl⟩:=D;obtain⟨w,J,j⟩:=r.get E;have:=A C (.of ((d.trans c) _ _ h));rw[J] at this;cases this;exact Q c m (j.mono d))| @tup a C _ h r=>(cases s;refine⟨a,rfl,.inr ⟨⟨C,.of (R2.sub _ _ h)⟩,q _ _ O _ N p R2 P.g ⟨fun i I H' d c n=>?_,fun I H' d c=>⟨C,.of ((d.trans c) _ _ h),by rw[mU,r.len]⟩,fun i u I H' x Z d c B D=>?_⟩⟩⟩;rw[mU,<- r.len] at n;exact⟨C,C[i],.of ((d.trans c) _ _ h),Xc n⟩;obtain⟨t,E,rfl⟩:=yZ B;obtain⟨T,x',rfl,m,A,rfl⟩:=D;obtain⟨w,J,j⟩:=r.get E;have:=A C (.of ((d.trans c) _ _ h));rw[J] at this;cases this;exact Q c m (j.mono d))| @ktp a C _ h r=>cases s;refine⟨a,rfl,.inr ⟨⟨C,R2.sub.tup h⟩,q _ _ O _ N p R2 P.g ⟨fun i I H' d c n=>?_,fun I H' d c=>⟨C,(d.trans c).tup h,by rw[mU,r.len]⟩,fun i u I H' x Z d c B D=>?_⟩⟩⟩;rw[mU,<- r.len] at n;exact⟨C,C[i],(d.trans c).tup h,Xc n⟩;obtain⟨t,E,rfl⟩:=yZ B;obtain⟨T,x',rfl,m,A,rfl⟩:=D;obtain⟨w,J,j⟩:=r.get E;have:=A C ((d.trans c).tup h);rw[J] at this;cases this;exact Q c m (j.mono d)
noncomputable def KZ (t u:Tv):Rz:=aI (fun n=>match t with
 | .lst l=>.cd ((-(2 ^ 63)<=n/\n<2 ^ 63)/\l.length*n.toNat<=16777216) (.n (.lst (List.replicate n.toNat l).flatten))
 |_=>.no) u
theorem IsTs.rep {ts:List Tv}(h:IsTs K G C ts):∀n:Nat,IsTs K G (List.replicate n C).flatten (List.replicate n ts).flatten
 | 0=>.nil
 |n+1=>by rw[YJ,YJ,Ys,Ys];exact h.app (IsTs.rep h n)
theorem PZ:dX K KZ qI:=fun G H x y t u s Q f h1 g e q=>by
 obtain⟨n,rfl,d⟩:=e.aI;cases t with
 |lst l=>
  cases d with|cd c=>
  obtain⟨a,C,rfl,h,b⟩:=h1.lst f;obtain⟨rfl,_⟩:=g.at;exact⟨a,n,C,rfl,rfl,h,c.1.1,c.1.2,by rw[XD,b.len];exact c.2,m8 (b.rep _) q⟩
 |_=>exact(fU d).elim
noncomputable def CU (t u:Tv):Rz:=aI (fun n=>match t with
 | .tup l=>.cd (l ≠ []/\(2<=n/\n<=1000)/\l.length<=1000) (.v (.tup (List.replicate n.toNat l).flatten))
 |_=>.no) u
theorem RD:dX K CU (CB K):=fun G H x y t u s Q f h1 g e q=>by
 obtain⟨n,rfl,d⟩:=e.aI;cases t with
 |tup l=>
  cases d with|cd c=>
  obtain⟨a,C,rfl,h,b⟩:=h1.tup f;obtain⟨rfl,_⟩:=g.at;exact⟨a,n,C,rfl,rfl,SqT.of h,fun z=>c.1 (by subst z;cases b;rfl),c.2.1.1,c.2.1.2,by rw[b.len];exact c.2.2,fun p i=>v8 f (c9 i) aJ (b.rep _) q⟩
 |_=>exact(fU d).elim
def Ka (wd wk wz:TW):TW:=fun M k=>wd M fun x M1=>aG (rd M1 x) fun t1=>isD t1=true/\wk M1 fun y M2=>wz M2 fun z M3=>iu (dj M.tmp.length M3 z) fun tz M4=>aG (rd M3 x) fun t=>aG (rd M3 y) fun u=>aG (uP u) fun kk=>aG (getT t kk tz) fun r=>k (.fz r) M4
where
 isD:Tv->Bool
  | .dic _=>true
  |_=>false
 getT:Tv->aj->Tv->Option Tv
  | .dic l,k,z=>some ((cb l k).getD z)
  |_,_,_=>none
theorem LE.get {wd wk m:TW}{Q:VK}:LE X.K F (Ka wd wk m) S H Q->DG (LE X.K F wd) (LE X.K F wk) (LE X.K F m) S H Q:=fun⟨G,Y,M,K0,R,k,q⟩=>by refine⟨G,Y,M,_,R,k,fun x M1 I J v1 H1 e f L n=>?_⟩;obtain⟨N,g,O,e⟩:=aE e;have h:=f.rd n g;cases N with|dic l1=>(obtain⟨a,o,rfl,P,_⟩:=h.dic f.sub;refine⟨a,rfl,.inl ⟨_,.inl P⟩,I,J,M1,_,f,e,fun y M2 T U v2 H2 V R2 p W=>⟨T,U,M2,_,R2,V,fun z M3 G3 t3 Z s c d s3 e3=>?_⟩⟩;obtain⟨tz,M4,h4,c⟩:=iz c;obtain⟨t,ht,c⟩:=aE c;obtain⟨u,hu,c⟩:=aE c;obtain⟨v,hk,c⟩:=aE c;obtain⟨r,A,c⟩:=aE c;obtain⟨B,C,D,i,t4⟩:=d.frz R.lt (L.trans (p.trans s3)) e3 h4;cases t with|dic l=>(cases A;have hx:=d.rd (n.stp (p.trans s3)) ht;obtain⟨b,kvs,eb,hb,E⟩:=hx.dic d.sub;cases eb;have hy:=zz (d.rd (W.stp s3) hu) hk;subst hy;refine⟨bw kvs v,DGet.k hb,?_⟩;cases z:cb l v with|none=>rw[E.lookN z];rw[z] at c;exact q _ _ B Y Z s c C D t4|some w=>obtain⟨w',hw,j⟩:=E.look z;rw[hw];rw[z] at c;exact q _ _ B Y w' s c C D (j.mono i))|_=>cases A)|_=>cases O
end
section
def gZ:V->List V->Hp->VK->Prop:=fun x C H Q=>∃(l:Addr)(ns:List Str)(i:Str)(j:Nat),x=.ref l/\C=[.str i]/\H l=some (.lst (ns.map V.str))/\ns[j]?=some i/\(∀m,m<j->ns[m]? ≠ some i)/\Q (.int (j:Nat)) H
theorem Tb:A4 X "list.index" gZ:=by
 intro O s S H x C v N Q I D E h;obtain⟨l,ns,i,j,rfl,rfl,G,p,J,q⟩:=h;cases D;obtain⟨u,rfl,K⟩:=E.one;obtain⟨tk,rfl⟩:=K;obtain⟨z,c,n,r,P,e⟩:=I.lstM G;have b:c.length=ns.length:=by have:=r.length;rw[Xa] at this;exact this.symm
 have L:∀(m:Nat)(y:Value),c[m]?=some y->∃k t,ns[m]?=some k/\y=.str k t:=by
  intro m y g;have a:m<ns.length:=by rw[<- b];exact(Xe.mp g).1
  obtain⟨R,A,M⟩:=r.get (i:=m) (x:=.str ns[m]) (by rw[XG,Xc a];rfl);rw[g] at A;cases A;obtain⟨t,rfl⟩:=M;exact⟨_,t,Xc a,rfl⟩
 have B:j<c.length:=by rw[b];exact(Xe.mp p).1
 have val:∀(m:Nat)(a:m<c.toArray.size),∃k t,ns[m]?=some k/\c.toArray[m]=.str k t:=fun m a=>by simp only [Xf] at a;obtain⟨k,t,d,f⟩:=L m c[m] (Xc a);exact⟨k,t,d,by simpa using f⟩
 have hsz:=XD;refine call_meets F.slot_list_index ⟨_,e,rfl⟩ F.entry_list_index (F.args_list_index_2 _ _) (SeqAt.list_indexAt l c.toArray n none #[] (.str i tk) (fun y=>match y with | .str k _=>k==i|_=>false) j (by simpa using B) (by
  rw[Xa] at z
  lia) ?_ ?_) ⟨e,?_,?_⟩
 obtain⟨k,t,d,f⟩:=val j (by simpa using B);rw[f];rw[p] at d;cases d;exact beq_self_eq_true _;intro m a o;obtain⟨k,t,d,f⟩:=val m a;rw[f];show(k==i)=false;rw[XX];intro w;subst w;exact J m o d;intro y g;obtain⟨m,a,rfl⟩:=Array.mem_iff_getElem.mp g;obtain⟨k,t,d,f⟩:=val m a;rw[f];exact vo (y:=.str k) (x:=.str i) ⟨t,rfl⟩ ⟨tk,rfl⟩ rfl rfl;exact⟨.int (j:Nat),H,I.tok _,⟨_,rfl⟩,q⟩
theorem Vc:gy X (.type "dict") (fun xs H Q=>∃(p:Addr)(kvs:List (aj×V)),xs=[.ref p]/\H p=some (.dK kvs)/\∀a,H a=none->Q (.ref a) (ak H a (.dK kvs))):=by intro O s S H xs f Q I r h;obtain⟨p,kvs,rfl,b,q⟩:=h;obtain⟨u,rfl,c⟩:=jf r;cases c;exact RT I (Rd.of b) fun a g d e=>⟨.ref a,_,e,rfl,q a d⟩
end
section
variable {A:Around}{E:Value->Shared->Prop}{s:Shared}
theorem US {a n:Nat}(b:a<=n):sliceBounds (some (a:Int)) none none n=((a:Int),(n:Int),1):=by
 simp only [sliceBounds,Option.getD_none];have h1:¬ ((a:Int)<0):=by lia
 simp only [h1,Y9,show(1:Int)>0 by decide,Zf];congr 1;lia
theorem Ta:∀(xs:List Value)(b:Nat)(p:Nat->Bool)(a:Nat),(∀k,b<=k->k<b+xs.length->p k=decide (a<=k))->((xs.zipIdx b).filterMap fun x=>if p x.snd=true then none else some x.fst)=xs.take (a-b):=by intro xs;induction xs with|nil=>(intro b p a _;simp)|cons x xs e=>intro b p a h;have c:=h b (W9 _) (by rw[Xl];lia);have h1:=e (b+1) p a (fun k h1 f=>h k (by lia) (by rw[Xl];lia));rw[zipIdx_cons];by_cases d:a<=b;rw[List.filterMap_cons_none (by simp [c,d]),h1,show a-(b+1)=0 by lia,show a-b=0 by lia];simp;rw[List.filterMap_cons_some (b:=x) (by simp [c,d]),h1,show a-b=(a-(b+1))+1 by lia];simp
theorem S9 (items:Array Value)(a:Nat)(p:Nat->Bool)(h:∀k,k<items.size->p k=decide (a<=k)):(items.toList.zipIdx.filterMap fun x=>if p x.snd=true then none else some x.fst).toArray=(items.toList.take a).toArray:=by rw[Ta items.toList 0 p a (fun k _ b=>h k (by rw[XS] at b;lia)),Nat.sub_zero]
theorem Vy {n:Nat}{a:Nat}{Q:Unit->Shared->Prop}
  (e:s.heap.get? l=some { cls:=.type "list",data:=.seq items n })
  (m:s.heap.IsSliceOf B vl .none .none) (pl:IsPart vl (some (a:Int))) (o:a<=items.size)
  (hsz:items.size<=sizeLine) (h:∀f:Array Value->Array Value,f items=(items.toList.take a).toArray->Q () { s with heap:=s.heap.update l (Obj.mapSeq f) }):
  wpAny (model prog w) A (delItem (.ref l) (.ref B)) Q E s:=by
 have i:s.heap.IsList l items:=PySem.IsL.isList e;obtain⟨os,c,p,d⟩:=id m;have j:s.TypeIs (.ref B) "slice":=⟨os,c,p⟩;have q:¬ ((rawPart none==rawInt 0)=true):=W6;refine wpAny_delItem_slot i.typeIs (by decide) PySem.F.slot_list_delitem (Xz PySem.F.slot_list_delitem i.typeIs PySem.F.entry_list_delitem ?_ (PySem.F.args_list_delitem_2 _ _));show wpAny _ _ (Builtin.List.listSubscript? (.ref B) >>= _) _ _ s;refine W3 ?_;unfold Builtin.List.listSubscript?;refine W3 (Zd j slice_no_index ?_);simp only [Option.isNone_none,Zf];refine Xb ?_;show wpAny _ _ (typeOf (.ref B) >>= _) _ _ s;refine W3 (wpAny_typeOf j ?_)
 first
  |rw[Xh (by decide)]
  |refine PySem.W.KFB.if_not (by decide) ?_
 rw[listSliceParts_eq];refine W3 (W3 (XB c d (x:=.none) rfl (W3 (wpAny_listPart .none ?_))));rw[Xh q];refine W3 (XB c d (x:=vl) rfl (W3 (wpAny_listPart pl ?_)));refine W3 (XB c d (x:=.none) rfl (W3 (wpAny_listPart .none (Xb ?_))));unfold Builtin.List.listItems;refine W3 (W3 (Yn e rfl (Xb ?_)));refine W3 (Zl ((sliceIndices_raw (some (a:Int)) none none items.size (by simp)).trans (Yd (pure:Int×Int×Int->Sem (Int×Int×Int)) (US o))) ?_);refine W3 (Y0 ?_)
 have g:∀k,k<items.size->(if (1:Int)>0 then decide ((a:Int)<=k)&&decide ((k:Int)<(items.size:Int))&&((k:Int)-a) % 1==0 else decide ((items.size:Int)<k)&&decide ((k:Int)<=a)&&((a:Int)-k) % (-1)==0)=decide (a<=k):=by
  intro k t;rw[Xk (by decide)];have h1:decide ((k:Int)<(items.size:Int))=true:=Xs (by lia);have r:(((k:Int)-a) % 1==0)=true:=by rw[Int.emod_one];rfl
  rw[h1,r,Bool.and_true,Bool.and_true];exact decide_eq_decide.mpr (by lia)
 have b:=S9 items a _ g;refine W3 (wpAny_updateSeq (hz:=hsz) (_hz':=?_) e rfl ?_)
 .refine W3 (wpAny_letGo ?_)
  first
   |exact Xb ⟨.none,rfl,h _ b⟩
   |exact W3 (Xb (Xb ⟨.none,rfl,h _ b⟩))
   |exact W3 (Xb (Xb ⟨.none,rfl,Xb (h _ b)⟩))
 .refine XZ (Nat.le_of_eq (Yd Array.size b)) ?_;rw[Xf,XJ,XS];lia
end
section
theorem S8 {s:Shared}{a:Int}{Q:Unit->Shared->Prop}(I:Inv X O S H s)
  (b:H l=some (.lst xs)) (g:s.heap.IsSliceOf B vl .none .none) (i:IsPart vl (some a)) (j:0<=a) (o:a<=xs.length)
  (h:∀c,Inv X O S (ak H l (.lst (xs.take a.toNat))) c->Q () c):
  wpAny (model X.prog X.w) X.A (delItem (.ref l) (.ref B)) Q X.xe s:=by
 obtain⟨z,k,n,r,p,e⟩:=I.lstM b;obtain⟨d,rfl⟩:=YN j;simp only [Yj] at h;refine Vy (a:=d) e g i (by rw[Xf];lia) (by rw[Xf];lia) (fun f m=>h _ ?_);refine I.lset (its':=k.take d) (t':=s.toks) b e m (r.take _) ?_;rw[XJ];lia
def Gp (te:TE)(tl:TO):TS:=fun D S H=>te S H fun x c=>tl S c fun lo b=>∃(l:Addr)(xs:List V)(a:Int),x=.ref l/\lo=some a/\b l=some (.lst xs)/\0<=a/\a<=xs.length/\D.nx S (ak b l (.lst (xs.take a.toNat)))
theorem Uk {o:Expr}{lo:Option Expr}{tl:TO}{d pos:Pos}(e:PE X o te)(f:PO X lo tl):PS X (.Delete [.Subscript o (.Slice lo none none p2) d] pos) (Gp te tl):=by intro O s S H D I h;refine wpAny_Delete (wpAny_deleteEach_cons (wpAny_delete_Subscript (aw (e O s S H _ I h) fun u g Z=>?_)));obtain⟨x,i,j,k,m⟩:=Z;refine wpAny_Slice (aw (f O g S i _ j m) fun vl c Y=>?_);obtain⟨l,n,p,pl,r⟩:=Y;rw[evalPart_none];refine Xb (Xb ?_);obtain⟨la,xs,a,rfl,rfl,t,v,w,y⟩:=r;obtain rfl:u=Value.ref la:=k;have z:Inv X O S n { c with heap:=c.heap.push { cls:=.type "slice",data:=.fields #[vl,.none,.none] } }:=p.kept (t':=c.toks) fun b ob q=>W5 _ q;exact S8 z t (Heap.IsSliceOf.new ..) pl v w fun B A=>wpAny_deleteEach_nil ⟨S,_,A,y⟩
end
end
section
variable {w:World}{Q:Value->Shared->Prop}{prog:Program}{c:Addr}{j:Array Value}
section
variable {A:Around}{E:Value->Shared->Prop}{s:Shared}
theorem Uj (n:Nat):Builtin.Slice.sliceAdjust none none (-1) (n:Int)=((n:Int)-1,-1):=by unfold Builtin.Slice.sliceAdjust;simp
theorem Ui (n:Nat):Builtin.Slice.slicePlaces ((n:Int)-1) (-1) (-1)=n:=by unfold Builtin.Slice.slicePlaces;simp;split <;> lia
theorem VM {t:Tok}{n:Nat}{Q:Int×Int×Nat->Shared->Prop}(d:s.heap.IsSliceOf c .none .none (.int (-1) t))
  (h:Q ((n:Int)-1,-1,n) s):wpAny (model prog w) A (Builtin.Slice.sliceApplied (.ref c) (pure (n:Int))) Q E s:=by
 obtain⟨os,a,f,b⟩:=id d;unfold Builtin.Slice.sliceApplied Builtin.Slice.sliceFields;refine W3 (W3 (XB a b (x:=.none) rfl (W3 (XB a b (x:=.none) rfl (W3 (XB a b (x:=.int (-1) t) rfl (Xb ?_)))))));refine W3 (slicePart_int ?_);show wpAny _ _ (if ((-1:Int)==0)=true then _ else _) _ _ s;rw[Xh (by decide)];refine W3 (slicePart_none (W3 (slicePart_none (W3 (Xb ?_)))));show wpAny _ _ (match Builtin.Slice.sliceAdjust none none (-1) (n:Int) with | (lo,e)=>pure (lo,(-1:Int),Builtin.Slice.slicePlaces lo e (-1))) _ _ s;rw[Uj n];show wpAny _ _ (pure ((n:Int)-1,(-1:Int),Builtin.Slice.slicePlaces ((n:Int)-1) (-1) (-1))) _ _ s;rw[Ui];exact Xb h
theorem RC (xs:Array Value):((List.range xs.size).filterMap fun(m:Nat)=>xs[((xs.size:Int)-1+(m:Int)*(-1)).toNat]?).toArray=xs.toList.reverse.toArray:=by
 have e:(fun(m:Nat)=>xs[((xs.size:Int)-1+(m:Int)*(-1)).toNat]?)=(fun k:Nat=>xs[k]?)∘fun m=>xs.size-1-m:=by
  funext m
  show _=xs[xs.size-1-m]?;by_cases b:m<xs.size;have h1:((xs.size:Int)-1+(m:Int)*(-1)).toNat=xs.size-1-m:=by lia
  rw[h1];have h1:((xs.size:Int)-1+(m:Int)*(-1)).toNat=0:=by lia
  have a:xs.size-1-m=0:=by lia
  rw[h1,a]
 rw[e,<- List.filterMap_map,PySem.W.krv_range,List.filterMap_reverse,PySem.W.krv_all]
theorem getItem_tuple_rev {t:Addr}{tk:Tok}(a:IsTup s.heap t j)(e:s.heap.IsSliceOf c .none .none (.int (-1) tk))
  (h:Q (.ref s.heap.objs.size) { s with heap:=s.heap.push { cls:=.type "tuple",data:=.seq j.toList.reverse.toArray } })
  (hsz:j.size<=sizeLine):wpAny (model prog w) A (getItem (.ref t) (.ref c)) Q E s:=by
 have b:sizeOk (.seq j.toList.reverse.toArray):=by show(j.toList.reverse).toArray.size<=sizeLine;rw[Xf,XQ,XS];lia
 obtain⟨os,d,f,g⟩:=id e;have i:s.TypeIs (.ref c) "slice":=⟨os,d,f⟩;unfold getItem
 try with_reducible refine Yu ?_
 first|refine W3 (Xb ?_)|skip
 refine W3 (wpAny_sequenceKey a.typeIs (by decide) ?_)
 refine W3 (XC (name:=Str.ofString "__getitem__") a.typeIs X1
  (Xz X1 a.typeIs entry_tuple_getitem ?_ (args_tuple_getitem _ _)))
 show wpAny _ _ (Builtin.Tuple.tupleItemsOf (.ref t) >>= _) _ _ s;refine W3 (tupleItemsOf_ a ?_);refine W3 (wpAny_typeOf i ?_);rw[Xk (by decide)];refine W3 (VM e ?_);have k:¬ ((((j.size:Int)-1)==0&&(-1:Int)==1&&j.size==j.size)=true):=by intro q;rw[W4,W4] at q;exact absurd q.1.2 (by decide)
 show wpAny _ _ (if (((j.size:Int)-1)==0&&(-1:Int)==1&&j.size==j.size)=true then _ else _) _ _ s;rw[Xh k,RC]
 first
  |exact W3 (m:=Builtin.Tuple.tupleExact _) (Xo (Xb ⟨_,rfl,Xb h⟩) b)
  |exact W3 (m:=Builtin.Tuple.tupleExact _) (Xo (W3 (Xb (Xb ⟨_,rfl,Xb h⟩))) b)
  |exact W3 (W3 (m:=Builtin.Tuple.tupleExact _) (Xo (Xb (Xb ⟨_,rfl,Xb h⟩)) b))
  |exact W3 (W3 (m:=Builtin.Tuple.tupleExact _) (Xo (Xb ⟨_,rfl,Xb h⟩) b))
end
end
section
variable {H G:Hp}{F:Fr}{e:Expr}{X:Cx}{c:St}{M:Ms}{i:Nat}{K:W.Frag}{j:TE}{C:List V}{u:Pos}{N':List Str}{y I:TW}{J:List Nat}
section
theorem PY {st:Expr}{ts:TE}{pos:Pos}(he:PE X e j)(n:PE X st ts):PE X (.Subscript e (.Slice none none (some st) u) pos)
  (fun c H Q=>j c H fun x d=>ts c d fun y f=>y=.int (-1)/\∃a xs,x=.ref a/\SqT X.K f a xs/\∀p,f p=none->Q (.ref p) (ak f p (.tup xs.reverse))):=by
 intro g s c H Q I h;refine Subscript_ (aw (he g s c H _ I h) fun v w Z=>?_);obtain⟨x,d,z,A,B⟩:=Z;refine wpAny_Slice ?_;rw[evalPart_none];refine Xb (Xb ?_);rw[evalPart_some];refine aw (n g w c d _ z B) fun C s3 Y=>?_;obtain⟨y,D,E,F,G,a,xs,ex,J,q⟩:=Y;subst G ex;cases A;obtain⟨t,rfl⟩:=F;have i:Inv X g c D { s3 with heap:=s3.heap.push { cls:=.type "slice",data:=.fields #[.none,.none,.int (-1) t] } }:=E.kept (t':=s3.toks) fun b ob q=>W5 _ q;obtain⟨k,r,l,hz⟩:=i.tuple J;have m:=r.length;refine tail_any (ops:=[.ref a,.ref s3.heap.objs.size]) l.typeIs PyProof.Rows.slot_tuple_getitem.lookup (getItem_tuple_rev l (Heap.IsSliceOf.new ..) ?_ (by rw[Xf] <;> lia)) (by with_unfolding_all rfl);refine⟨.ref _,_,i.laid (t':=s3.toks) (o:=.tup xs.reverse) (fun b ob q=>W5 _ q) (W9 _) ?_,rfl,q _ (i.hok.fresh (W9 _))⟩;refine⟨by rw[XQ];exact hz,k.reverse,r.reverse,?_⟩;rw[show(k.toArray.toList.reverse).toArray=k.reverse.toArray by simp];exact IsTupN.new _ _
end
section
noncomputable def KY (o:Ob)(ts:List Tv):Option (Prop×Ob×Tv):=match o with
 | .lst l=>match ts with
  |[t]=>match t with
   | .lst m=>some (l.length+m.length<=16777216,.lst (l++m),.at .non)
   | .tup m=>some (l.length+m.length<=16777216,.lst (l++m),.at .non)
   |_=>none
  |_=>none
 |_=>none
def lZ:V->List V->Hp->VK->Prop:=fun x C H Q=>g7 x C H Q∨fN x C H Q
theorem PX:tG X "list.extend" lZ:=fun a s c H x xs v b Q I d e h=>by rcases h with h|h;exact Tw a s c H x xs v b Q I d e h;exact Ur a s c H x xs v b Q I d e h
theorem PV:uU K KY lZ:=fun G H a o o' t ts C Q n h u p e q=>by obtain⟨c,s,e⟩:=e;cases o with|lst l=>(cases ts with|nil=>(cases e)|cons t r=>cases r with|cons _ _=>(cases e)|nil=>cases t with|lst m=>(cases e;obtain⟨ws,f,d⟩:=h;cases p with|cons g i=>cases i;cases g with| @lst b j _ h r=>exact .inl ⟨a,b,ws,j,rfl,rfl,f,n _ _ h,by rw[XD,d.len,r.len];exact s,q _ _ (fun b k=>ay k) ⟨_,aJ,d.app r⟩ (.at rfl)⟩)|tup m=>(cases e;obtain⟨ws,f,d⟩:=h;cases p with|cons g i=>cases i;cases g with| @tup b j _ h r=>exact .inr ⟨a,b,ws,j,rfl,rfl,f,n _ _ h,by rw[XD,d.len,r.len];exact s,q _ _ (fun b k=>ay k) ⟨_,aJ,d.app r⟩ (.at rfl)⟩)|_=>cases e)|_=>cases e
noncomputable def J9:Bool->Tv->Rz
 |false,.lst l=>.ok (.n (.lst l.reverse))
 |true,.tup l=>.ok (.v (.tup l.reverse))
 |_,_=>.no
theorem NJ {b:Bool}{st:Expr}{w pos:Pos}(h:PE X e (LE X.K F y))(v:PE X st (tU (rU fun i=>.int (-i)) (tC (.int 1)))):PE X (.Subscript e (.Slice none none (some st) w) pos) (LE X.K F (lN (J9 b) y)):=by cases b with|false=>(refine(N7 h v).imp fun c H Q ⟨G,j,M,z,R,k,q⟩=>⟨G,j,M,_,R,k,fun x M1 A B D E d f m n=>?_⟩;obtain⟨t,o,d⟩:=aE d;obtain⟨s,g,d⟩:=lE d;have p:=f.rd n o;refine⟨1,rfl,rfl,?_⟩;cases t with|lst l=>(cases g;obtain⟨a,C,rfl,u,r⟩:=p.lst f.sub;exact⟨a,C,rfl,.of u,m8 r.rev (f.done R.lt m d q)⟩)|_=>cases g)|true=>refine(PY h v).imp fun c H Q ⟨G,j,M,z,R,k,q⟩=>⟨G,j,M,_,R,k,fun x M1 A B D E d f m n=>?_⟩;obtain⟨t,o,d⟩:=aE d;obtain⟨s,g,d⟩:=lE d;have p:=f.rd n o;refine⟨1,rfl,rfl,?_⟩;cases t with|tup l=>(cases g;obtain⟨a,C,rfl,u,r⟩:=p.tup f.sub;exact⟨a,C,rfl,.of u,vN f.sub r.rev (f.done R.lt m d q)⟩)|_=>cases g
noncomputable def VX:Tv->Bool
 | .lst _=>true
 |_=>false
def J8 (y:TW)(wr:bU):TW:=fun M k=>y M fun x M1=>aG (rd M1 x) fun a=>VX a=true/\wr M1 fun ts M2=>aG (rd M2 x) fun t=>∃(ns:List Str)(i:Str)(j:Nat),t=.lst (ns.map fun s=>.at (.str s))/\ts=[.at (.str i)]/\ns[j]?=some i/\(∀m,m<j->ns[m]? ≠ some i)/\k (.fz (.at (.int (j:Nat)))) (M2.cut M.tmp.length)
theorem PU:∀{ns:List Str},IsTs K G C (ns.map fun s=>.at (.str s))->C=ns.map V.str:=by induction C with|nil=>(intro ns h;cases ns with|nil=>rfl|cons _ _=>cases h)|cons v C c=>intro ns h;cases ns with|nil=>(cases h)|cons n ns=>cases h with|cons a b=>cases a;rw[c b];rfl
theorem LE.idx {n:Nat}{wr:bU}{Q:VK}:LE X.K F (J8 y wr) c H Q->w8 X.K "list" gZ (LE X.K F y) (LF X.K F n wr) c H Q:=fun⟨G,p,M,W,R,k,q⟩=>by refine⟨G,p,M,_,R,k,fun x M1 w z v Y d e f r=>?_⟩;obtain⟨u,A,B,d⟩:=aE d;have D:=e.rd r A;cases u with|lst l=>(obtain⟨a,C,rfl,E,_⟩:=D.lst e.sub;refine⟨.inl ⟨rfl,_,SqL.of E⟩,w,z,M1,_,e,d,fun ts M2 I ws J h R2 m L _=>?_⟩;obtain⟨t,N,ns,i,j,rfl,rfl,h1,O,h⟩:=aE h;have o:=R2.rd (r.stp ⟨m,[],by simp⟩) N;obtain⟨b,P,S,s,T⟩:=o.lst R2.sub;cases S;rw[PU T] at s;cases L with|cons U V=>cases V;cases U;exact⟨a,ns,i,j,rfl,rfl,s,h1,O,q _ _ I p _ J h (R2.cutTo R.lt ⟨f.g.trans m,f.t⟩) ⟨f.g.trans m,[],by simp⟩ (.at rfl)⟩)|_=>cases B
end
mutual
inductive TvTh:Tv->Th->Prop where
 |at {v:V} (h:vn v=true):TvTh (.at v) (.at v)
 |tup {l:List Tv} {m:List Th} (h:TvThs l m):TvTh (.tup l) (.tup m)
 |lst {l:List Tv} {m:List Th} (h:TvThs l m):TvTh (.lst l) (.lst m)
inductive TvThs:List Tv->List Th->Prop where
 |nil:TvThs [] []
 |cons {t:Tv} {u:Th} {l:List Tv} {m:List Th} (h:TvTh t u) (r:TvThs l m):TvThs (t::l) (u::m)
end
section
theorem TvTh.is {t:Tv}{u:Th}{v:V}(h:TvTh t u)(g:IsT K H v t):b7 H v u:=TvTh.rec (motive_1:=fun t u _=>∀v,IsT K H v t->b7 H v u) (motive_2:=fun l m _=>∀C,IsTs K H C l->cJ H C m) (fun h _ q=>by cases q with| «at» f=>exact .at h) (fun _ i _ q=>by cases q with|tup e r=>exact .tup e (i _ r)) (fun _ i _ q=>by cases q with|lst e r=>exact .lst e (i _ r)) (fun _ q=>by cases q;exact .nil) (fun _ _ i j _ q=>by cases q with|cons a b=>exact .cons (i _ a) (j _ b)) h _ g
def Cn (t:Tv):Rz:=.ex fun r=>∃u,isRf t=true/\TvTh t u/\(bD u).showable=true/\(bD u).depth<=60/\(bD u).shown.length<=16777216/\r=vS (bD u).shown
where isRf:Tv->Bool
 | .at _=>false
 |_=>true
def NI (n:Nat):V->Hp->VK->Prop:=fun x H Q=>∃(a:Addr)(t:Th),x=.ref a/\b7 H (.ref a) t/\(bD t).showable=true/\n+((bD t).depth+1)<cLine/\(bD t).shown.length<=sizeLine/\Q (.str (bD t).shown) H
theorem RB {n:Nat}(l:n+64<cLine):jd K Cn (NI n):=fun G H x t s Q b h1 e q=>by
 cases e with
 |ex h=>
  obtain⟨u,g,i,j,m,c,rfl⟩:=h;have d:=h1.up b;have k:=i.is d;have:∃a,x=.ref a:=by cases d with| «at» f =>( cases g)|_=>exact⟨_,rfl⟩
  obtain⟨a,rfl⟩:=this;exact⟨a,u,rfl,k,j,by lia,by rw[XD];exact c,cN b (.at (Xs c)) q⟩
end
def uy (neg:Bool):Tv->Tv->Rz
 | .lst l,.lst []=>.ok (vB (xor neg l.isEmpty))
 |_,_=>.no
def AK (K:W.Frag)(neg:Bool):R2:=fun x y H Q=>∃a b xs,x=.ref a/\y=.ref b/\SqL K H a xs/\SqL K H b []/\Q (.bl (xor neg xs.isEmpty)) H
theorem EZ {neg:Bool}:dX K (uy neg) (AK K neg):=fun G H x y t u s Q c h1 d e q=>by
 unfold uy at e;split at e
 .next l=>
  cases e;obtain⟨a,C,rfl,f,g⟩:=h1.lst c;obtain⟨b,ws,rfl,h,i⟩:=d.lst c;cases i;have j:C.isEmpty=l.isEmpty:=by cases g <;> rfl
  refine⟨a,b,_,rfl,rfl,.of f,.of h,?_⟩;rw[j];exact cN c (.at rfl) q
 cases e
section
theorem NH (d:X.A.units<cLine):OpR X (compareOp .Eq) (AK X.K false):=fun e s c H x y v u Q I f g z=>by obtain⟨a,b,xs,h1,h,i,j,q⟩:=z;exact Tn d e s c H x y v u Q I f g ⟨a,b,xs,h1,h,i,j,by simpa using q⟩
theorem NG (i:X.A.units<cLine):OpR X (compareOp .NotEq) (AK X.K true):=by intro B s c H x y v u Q I l m h;obtain⟨a,b,xs,rfl,rfl,n,o,q⟩:=h;cases l;cases m;obtain⟨C,r,pl,hz⟩:=I.list n;obtain⟨k,p,d,t⟩:=I.list o;have g:=r.length;have f:=p.length;cases xs with|nil=>refine SeqAt.RcNeAt.lists (e:=fun _=>true) pl.isList d.isList (by simp only [Xf];simp at g f;lia) i (fun j h1 D=>?_) X.prog X.w _ _ ?_;simp only [Xf] at h1;simp at g;lia;refine bT I q ?_;rw[Xf,<- g];rfl|cons z E=>refine SeqAt.RcNeAt.lists_lengths pl.isList d.isList (by simp only [Xf,bne_iff_ne];simp at g f;lia) i X.prog X.w _ _ ?_;exact bT I q rfl
end
def AJ (M:Ms)(i:Nat):Option (Rf×List Tv):=match lA M i with
 |some (.loc j)=>match az M (.loc j) with
  |some (.lst ts)=>some (.loc j,ts)
  |_=>none
 |some (.out j)=>match az M (.out j) with
  |some (.lst ts)=>some (.out j,ts)
  |_=>none
 |_=>none
def yY (J:List Nat)(own i:Nat)(p:Tv->Ms->Option Ms)(b:cP)(I:TW):TW:=fun M k=>match AJ M i with
 |some (r,ts)=>ts.length<=16777216/\aG (p9 M J) fun c=>aG (oK M.tmp.length M c) fun a=>(lr a&&oE r a)=true ∧bo p b I (fun d e=>aG (eW (a.map (·.1)) e.out) fun f=>ow M.tmp.length (wb M a f) k (.own (.lst d))) ts [] (aR (J.length+own) (a.map (·.1)))
 |none=>yJ J own (wW (pM i)) p b I M k
theorem PR {r:Rf}{ts:List Tv}(h:AJ M i=some (r,ts)):az M r=some (.lst ts)/\((r=.loc i/\lA M i=some (.loc i))∨∃k,r=.out k/\lA M i=some (.out k)):=by
 unfold AJ at h;split at h
 .next j e=>
  have a:j=i:=by
   unfold lA at e;split at e <;> cases e
   rfl
  subst a;split at h
  .next ts' e2=>cases h;exact⟨e2,.inl ⟨rfl,e⟩⟩
  cases h
 .next j e=>
  split at h
  .next ts' e2=>cases h;exact⟨e2,.inr ⟨j,rfl,e⟩⟩
  cases h
 cases h
section
theorem LE.compV {m U:Nat}{p:Tv->Ms->Option Ms}{wt:cP}(V:N'.length=J.length+m){c:St}{H:Hp}{Q:VK}:LE X.K F (yY J m U p wt I) c H Q->uZ (J.map some++List.replicate m none) (AU X.K (LE X.K F (pM U))) (oW X.K p) (oX X.K wt) (lJ X.K I) c H Q:=fun⟨G,ta,M,K0,R,k,q⟩=>by
 unfold yY at k;split at k
 .next r ts hr=>
  obtain⟨ho,w⟩:=PR hr;have hw:pM U M fun W M'=>M'=M/\lA M U=some W:=by unfold pM;rcases w with ⟨_,e⟩|⟨k',_,e⟩ <;> (rw[e];exact⟨rfl,rfl⟩)
  refine⟨G,ta,M,_,R,hw,fun W M1 Y Z v H1 hk h s1 e1=>?_⟩;obtain⟨rfl,hv⟩:=hk;obtain⟨a,j,⟨d,hH,z⟩,hg⟩:=h.ob r _ ho;have LK:v=.ref a:=by rcases w with ⟨rfl,e⟩|⟨k',rfl,e⟩;rw[e] at hv;cases hv;obtain⟨h1,b,A⟩:=e1;simp only [adr] at j;subst A;rw[h1] at j;cases j;rfl;rw[e] at hv;cases hv;obtain⟨b,h1,A⟩:=e1;simp only [adr] at j;subst A;rw[h1] at j;cases j;rfl
  refine⟨a,LK,.inl ⟨⟨d,SqL.of hH⟩,?_⟩⟩;obtain⟨hts',D⟩:=k;obtain⟨dR,h1,D⟩:=aE D;obtain⟨rs,A,ok,D⟩:=aE D;rw[W4] at ok;obtain⟨C,jN,e2⟩:=h.vars h1;obtain⟨as,g1,g2,g3,g4⟩:=h.args e2 A ok.1;have LZ:a∉as:=fun hm=>by obtain⟨y,x,o,m1,m2,m3⟩:=g1.mem a hm;have:=h.ij r x _ o a ho m2 j m3;subst this;exact wy ok.2 y m1
  have L:C.length=J.length:=by have:=Yd List.length jN;simpa using this.symm
  have hal:(rs.map (·.1)).length=J.length:=by rw[<- g2.len,L]
  have st:mV (J.map some++List.replicate m none) c=f9 N' C:=by rw[zW,jN,zV,V,L];congr 2;lia
  have E:=wx (N:=N') h.sub g2 g3 (by rw[hal,V];lia);rw[V] at E;rw[st];refine⟨fun i n s O H=>n+i=ts.length/\s.length<=i/\∃Gc u P,Rel X.K ⟨H1,Y,as⟩ Gc [] u O H/\IsTs X.K Gc s P/\Same Y Gc/\bo p wt I (fun s u=>aG (eW (rs.map (·.1)) u.out) fun ss=>ow M1.tmp.length (wb M1 rs ss) K0 (.own (.lst s))) (ts.drop i) P u,⟨ts.length,by lia,Xw _,Y,_,[],E,.nil,Same.refl _,D⟩,?_⟩;rintro i n s O H2 ⟨hn,hyl,G2,u,P,R2,hy,s2,f⟩;have x8:H2 a=some (.lst d):=R2.fra a _ hH LZ;rcases Nat.lt_or_ge i ts.length with hi|hi;right;have ht:=Xc hi;obtain⟨xi,S,iH⟩:=z.get ht;refine⟨⟨d,xi,SqL.of x8,S⟩,by rw[XD];lia,fun x H' hx=>?_⟩;obtain⟨rfl,hx⟩:=hx;have T:=hx d (SqL.of x8);rw[S] at T;cases T;have z5:=iH.mono s2;rw[v5 ht] at f;obtain⟨M3,e3,f⟩:=aE f;refine⟨_,G2,u,_,M3,R2,z5,e3,fun σ4 R4=>⟨_,G2,[],M3,_,R4,f,fun b M5 G5 H5 k5 R5 s5=>?_⟩⟩;cases b with
  |true=>
   refine⟨_,G5,[],M5,_,R5,k5,fun W M6 G6 t6 v H6 k6 R6 s6 e6=>?_⟩;obtain⟨t,M7,h7,k6⟩:=iz k6;have l5:M5.tmp.length=0:=R5.lt;have yc:dj M5.tmp.length M6 W=some (t,M7):=by rw[l5];exact h7
   obtain⟨G7,R7,s7,s7',t7⟩:=R6.frz R5.lt s6 e6 yc;exact⟨n-1,by lia,by lia,by simp;lia,G7,M7,_,R7,(hy.mono (s5.trans s7.g)).app (.cons t7 .nil),s2.trans (s5.trans s7.g),k6⟩
  |false=>exact⟨n-1,by lia,by lia,by lia,G5,M5,P,R5,hy.mono s5,s2.trans s5,k5⟩
  left;have hi':i=ts.length:=by lia
  refine⟨⟨d,SqL.of x8,by rw[z.len,hi'];exact W9 _⟩,fun l hl=>?_⟩;rw[YD hi] at f;obtain⟨ss,e3,f⟩:=aE f;have nE:M1.tmp.length=Z.length:=h.lt;rw[nE] at g4 f;have tD:Rel X.K F Y (Z++[]) M1 c H1:=by rw[Xm];exact h
  have rM:RAs F (Z++[]) c M1 rs C as:=by rw[Xm];exact g1
  have B:=tD.back rM (R2.aps g2 e3) R2.post g4;have B2:=B.1.push (o:=.lst P) hl (H':=ak H2 l (.lst s)) (fun b x e=>by rw[ay (bL e hl)];exact e) ⟨s,aJ,hy⟩;refine q _ _ G2 (Z++[l]) _ _ f (by rw[qa];exact B2) (s1.trans ⟨s2,[l],rfl⟩) ⟨l,?_,rfl⟩;rw[Xr (W9 _)];simp
 exact LI.seq (LE.comp V ⟨G,ta,M,K0,R,k,q⟩)
end
end
namespace Ztl
open PySem.Builtin PySem.AutoSeq1
variable {P prog:Program}{w:World}{h:Heap}{X:Cx}{i:Nat}{Q:Value->Shared->Prop}{B:Array Value}{K:W.Frag}{l z j r:Addr}{p:Pos}{C:List Expr}
theorem PQ {t:Addr}{xs:Array Value}(x:h.IsList t xs)(o:Obj):(h.push o).IsList t xs:=by obtain⟨q,a,b⟩:=x;exact⟨q,W5 _ a,b⟩
structure mQ (h:Heap)(z TI TO j r l t:Addr)(i:Nat)(f0:Value):Prop where
 z:IsZip h z TI TO f0
 ti:IsPair h TI (.ref j) (.ref r)
 to:∃a b,IsPair h TO a b
 g1:h.IsTupleIter j l i
 g2:h.IsListIter r t i
section
variable {A:Around}{E:Value->Shared->Prop}{s:Shared}
theorem S7 {TI TO t:Addr}{xs:Array Value}{x y:Value}(D:ZipApart z TI TO j r l t)(Z:mQ s.heap z TI TO j r l t i .none)(n:s.heap.IsTuple l xs)(p:s.heap.IsList t B)
  (H:xs[i]?=some x) (I:B[i]?=some y)
  (J:∀h',mQ h' z TI TO j r l t (i+1) (rawInt s.heap.objs.size)->IsPair h' s.heap.objs.size x y->(∀c o,c≠z->c≠TO->c≠j->c≠r->s.heap.get? c=some o->h'.get? c=some o)->Q (.ref s.heap.objs.size) { s with heap:=h' }):
  wpAny (model prog w) A (Builtin.«zip.__next__» ⟨[.ref z], []⟩) (fun K L => ∃ v, K=.done (.ret v) /\ Q v L) E s := by
 obtain⟨hz,C,⟨a,b,f⟩,h1,k⟩:=Z;show wpAny _ _ (field (.ref z) 2 >>= _) _ _ _;refine W3 (XB hz rfl (x:=.bool false) rfl ?_);show wpAny _ _ (field (.ref z) 3 >>= _) _ _ _;refine W3 (XB hz rfl (x:=.ref TI) rfl ?_);refine W3 (Yn C rfl ?_);show wpAny _ _ (Builtin.SmallTypes.ownedTupleIsFree (.ref z) >>= _) _ _ _;refine W3 ?_;unfold Builtin.SmallTypes.ownedTupleIsFree;refine W3 (XB hz rfl (x:=.none) rfl (Xb ?_));simp only [Zf];refine W3 (Y0 ?_);refine W3 (XB hz rfl (x:=.ref TO) rfl ?_);refine W3 (Zh hz (by simp) fun h₁ hz₁ d₁=>?_);replace hz₁:pO h₁ z TI TO .ellipsis (.bool false):=hz₁;refine W3 ?_;simp only [zipIdx_cons,List.zipIdx_nil,forIn_cons,List.forIn_nil];refine W3 (W3 (wpAny_onRaise ?_));show wpAny _ _ (Builtin.SmallTypes.nextOf (.ref j) >>= _) _ _ _;refine W3 (HR (h1.extBut d₁.extBut D.i1z) (DD n d₁.extBut D.l1z) H fun h₂ h1₂ d₂=>Xb ?_);have f₂:IsPair h₂ TO a b:=d₂.extBut _ _ D.TOi1 (d₁.extBut _ _ D.TOz f);refine W3 (Yn f₂ rfl ?_);refine W3 (wpAny_updateSeq_pair f₂ fun h₃ f₃ d₃=>?_);replace f₃:IsPair h₃ TO x b:=f₃;refine W3 (wpAny_letGo (Xb ?_));refine W3 (W3 (wpAny_onRaise ?_));show wpAny _ _ (Builtin.SmallTypes.nextOf (.ref r) >>= _) _ _ _
 refine W3 (wpAny_nextOf_list_item (((k.extBut d₁.extBut D.i2z).extBut d₂.extBut D.i12.symm).extBut d₃.extBut D.TOi2.symm)
  (((p.extBut d₁.extBut D.l2z).extBut d₂.extBut D.l2i1).extBut d₃.extBut D.l2TO) I fun h₄ k₄ d₄=>Xb ?_)
 have f₄:IsPair h₄ TO x b:=d₄.extBut _ _ D.TOi2 f₃;refine W3 (Yn f₄ rfl ?_);refine W3 (wpAny_updateSeq_pair f₄ fun h₅ f₅ d₅=>?_);replace f₅:IsPair h₅ TO x y:=f₅;refine W3 (wpAny_letGo (Xb (Xb ?_)));refine W3 (Yn f₅ rfl ?_);refine W3 (wpAny_newTuple ?_);have hsz:h₅.objs.size=s.heap.objs.size:=by rw[d₅.1,d₄.1,d₃.1,d₂.1,d₁.1]
 have hz₅:pO h₅ z TI TO .ellipsis (.bool false):=d₅.extBut _ _ D.TOz.symm (d₄.extBut _ _ D.i2z.symm (d₃.extBut _ _ D.TOz.symm (d₂.extBut _ _ D.i1z.symm hz₁)))
 have M₅:∀c o,c≠z->c≠TO->c≠j->c≠r->s.heap.get? c=some o->h₅.get? c=some o:=fun c o g m q u e=>
  d₅.extBut _ _ m (d₄.extBut _ _ u (d₃.extBut _ _ m (d₂.extBut _ _ q (d₁.extBut _ _ g e))))
 have h1₅:h₅.IsTupleIter j l (i+1):=((h1₂.extBut d₃.extBut D.TOi1.symm).extBut d₄.extBut D.i12).extBut d₅.extBut D.TOi1.symm;have k₅:h₅.IsListIter r t (i+1):=k₄.extBut d₅.extBut D.TOi2.symm;have F:z<h₅.objs.size:=Xi hz₅;show wpAny _ _ (Builtin.SmallTypes.ownedTupleHandOut (.ref z) (.ref h₅.objs.size) >>= _) _ _ _;refine W3 ?_;unfold Builtin.SmallTypes.ownedTupleHandOut;have hz₆:pO (h₅.push { cls:=.type "tuple",data:=.seq #[x,y] }) z TI TO .ellipsis (.bool false):=W5 _ hz₅;refine W3 (Zh hz₆ (by simp) fun h₇ hz₇ d₇=>?_);replace hz₇:pO h₇ z TI TO (rawInt h₅.objs.size) (.bool false):=hz₇;refine Zh hz₇ (by simp) fun h₈ hz₈ d₈=>?_;replace hz₈:IsZip h₈ z TI TO (rawInt h₅.objs.size):=hz₈;have up:∀c o,c≠z->h₅.get? c=some o->h₈.get? c=some o:=fun c o g e=>d₈.extBut _ _ g (d₇.extBut _ _ g (W5 _ e));have G₈:IsPair h₈ h₅.objs.size x y:=d₈.extBut _ _ (YE F) (d₇.extBut _ _ (YE F) (Xg _ rfl));have al:∀c o,c≠z->c≠TO->c≠j->c≠r->s.heap.get? c=some o->h₈.get? c=some o:=fun c o g m q u e=>up c o g (M₅ c o g m q u e);rw[hsz] at hz₈ G₈ ⊢;exact Xb ⟨_,rfl,J h₈ ⟨hz₈,al _ _ D.TIz D.TITO D.TIi1 D.TIi2 C,⟨_,_,up _ _ D.TOz f₅⟩,h1₅.at fun o e=>up _ o D.i1z e,k₅.at fun o e=>up _ o D.i2z e⟩ G₈ al⟩
theorem S6 {TI TO t:Addr}{xs:Array Value}{Q:Fin->Shared->Prop}(n:A.handled=none)(D:ZipApart z TI TO j r l t)(Z:mQ s.heap z TI TO j r l t i .none)(g:s.heap.IsTuple l xs)(p:xs[i]?=none)
  (q:∀h' e,(∀c o,c≠z->c≠TO->c≠j->c≠r->s.heap.get? c=some o->h'.get? c=some o)->(∃o,h'.get? e=some o/\o.cls=.type "StopIteration")->E (.ref e) { s with heap:=h' }):
  wpAny (model prog w) A (Builtin.«zip.__next__» ⟨[.ref z], []⟩) Q E s := by
 obtain⟨hz,u,⟨a,b,v⟩,h1,F⟩:=Z;show wpAny _ _ (field (.ref z) 2 >>= _) _ _ _;refine W3 (XB hz rfl (x:=.bool false) rfl ?_);show wpAny _ _ (field (.ref z) 3 >>= _) _ _ _;refine W3 (XB hz rfl (x:=.ref TI) rfl ?_);refine W3 (Yn u rfl ?_);show wpAny _ _ (Builtin.SmallTypes.ownedTupleIsFree (.ref z) >>= _) _ _ _;refine W3 ?_;unfold Builtin.SmallTypes.ownedTupleIsFree;refine W3 (XB hz rfl (x:=.none) rfl (Xb ?_));simp only [Zf];refine W3 (Y0 ?_);refine W3 (XB hz rfl (x:=.ref TO) rfl ?_);refine W3 (Zh hz (by simp) fun h₁ hz₁ d₁=>?_);replace hz₁:pO h₁ z TI TO .ellipsis (.bool false):=hz₁;refine W3 ?_;simp only [zipIdx_cons,List.zipIdx_nil,forIn_cons,List.forIn_nil];refine W3 (W3 (wpAny_onRaise ?_));show wpAny _ _ (Builtin.SmallTypes.nextOf (.ref j) >>= _) _ _ _;refine W3 (Hb n (h1.extBut d₁.extBut D.i1z) (DD g d₁.extBut D.l1z) p fun h₂ e d₂ he=>?_);obtain⟨y,f,k⟩:=he;have hz₂:pO h₂ z TI TO .ellipsis (.bool false):=d₂ _ _ D.i1z.symm hz₁;have B:e≠z:=fun x=>by subst x;rw[hz₂] at f;cases f;simp at k
 refine Zh hz₂ (by simp) fun h₃ _ d₃=>q h₃ e (fun c o m _ C _ x=>d₃.extBut _ _ m (d₂ _ _ C (d₁.extBut _ _ m x))) ⟨y,d₃.extBut _ _ B f,k⟩
theorem S5 {TI TO t:Addr}{xs:Array Value}{x y:Value}{Q:Option Value->Shared->Prop}(D:ZipApart z TI TO j r l t)(Z:mQ s.heap z TI TO j r l t i .none)(a:s.heap.IsTuple l xs)(b:s.heap.IsList t B)
  (e:xs[i]?=some x) (f:B[i]?=some y)
  (g:∀h',mQ h' z TI TO j r l t (i+1) (rawInt s.heap.objs.size)->IsPair h' s.heap.objs.size x y->(∀c o,c≠z->c≠TO->c≠j->c≠r->s.heap.get? c=some o->h'.get? c=some o)->Q (some (.ref s.heap.objs.size)) { s with heap:=h' }):
  wpAny (model prog w) A (pyNext (.ref z)) Q E s:=by
 have d:s.TypeIs (.ref z) "zip":=⟨_,Z.z,rfl⟩;unfold pyNext
 exact W3 (YG (XC (name:=Str.ofString "__next__") d F.slot_zip_next
  (Xz F.slot_zip_next d F.entry_zip_next
   (S7 D Z a b e f fun h' h k m=>Xb (g h' h k m)) (F.args_zip_next_1 _))))
theorem Uh {TI TO t:Addr}{xs:Array Value}{Q:Option Value->Shared->Prop}(f:A.handled=none)(D:ZipApart z TI TO j r l t)(Z:mQ s.heap z TI TO j r l t i .none)(a:s.heap.IsTuple l xs)(g:xs[i]?=none)
  (h:∀h',(∀c o,c≠z->c≠TO->c≠j->c≠r->s.heap.get? c=some o->h'.get? c=some o)->Q none { s with heap:=h' }):wpAny (model prog w) A (pyNext (.ref z)) Q E s:=by
 have d:s.TypeIs (.ref z) "zip":=⟨_,Z.z,rfl⟩;unfold pyNext
 refine W3 (YG (XC (name:=Str.ofString "__next__") d F.slot_zip_next
  (Xz F.slot_zip_next d F.entry_zip_next (S6 f D Z a g fun h' e k he=>?_) (F.args_zip_next_1 _))))
 obtain⟨o,m,n⟩:=he;refine W3 (wpAny_isInstance (T:="StopIteration") (b:=true) ⟨o,m,n⟩ isSubtype_stop ?_);exact Xb (h _ k)
end
noncomputable abbrev tP (h:Heap)(l1:Addr):Heap:=h.push { cls:=.type "tuple_iterator",data:=.fields #[.ref l1,.int 0 0] }
abbrev tO (h:Heap)(l1 l2:Addr):Heap:=(tP h l1).push { cls:=.type "list_iterator",data:=.fields #[.ref l2,.int 0 0] }
abbrev tN (h:Heap)(l1 l2:Addr):Heap:=(tO h l1 l2).push { cls:=.type "tuple",data:=.seq #[.ref h.objs.size,.ref (tP h l1).objs.size] }
abbrev tM (h:Heap)(l1 l2:Addr):Heap:=(tN h l1 l2).push { cls:=.type "tuple",data:=.seq #[.none,.none] }
abbrev nh (h:Heap)(l1 l2:Addr):Heap:=(tM h l1 l2).push { cls:=.type "zip",data:=.fields #[.none,.bool false,.bool false,.ref (tO h l1 l2).objs.size,.ref (tN h l1 l2).objs.size] }
theorem RA (l1 l2:Addr)(xs B:Array Value):Meets (Builtin.«zip.__new__» ⟨[.type "zip", .ref l1, .ref l2], []⟩) (fun _ R s => s.heap.IsTuple l1 xs /\ s.heap.IsList l2 B ∧R (.ok (.ret (.ref (tM s.heap l1 l2).objs.size))) { s with heap:=nh s.heap l1 l2 }):=.of_wp fun prog w A R s h=>by
 obtain⟨c,g,d,tk,os⟩:=s;obtain⟨a,b,h⟩:=h;have e:=sub_zip;have f:Heap.IsTuple (Shared.heap ⟨c,g,d,tk,os⟩) l1 xs:=a;have i:Heap.IsList (Shared.heap ⟨c.push { cls:=.type "tuple_iterator",data:=.fields #[.ref l1,.int 0 0] },g,d,tk,os⟩) l2 B:=PQ b _;wp_walk using Zi f,wpAny_pyIter_list i
 exact⟨_,rfl,h⟩
section
variable {A:Around}{E:Value->Shared->Prop}{s:Shared}
theorem S3 {l1 l2:Addr}{xs:Array Value}(a:s.heap.IsTuple l1 xs)(b:s.heap.IsList l2 B)
  (h:∀h',mQ h' (s.heap.objs.size+4) (s.heap.objs.size+2) (s.heap.objs.size+3) s.heap.objs.size (s.heap.objs.size+1) l1 l2 0 .none->ZipApart (s.heap.objs.size+4) (s.heap.objs.size+2) (s.heap.objs.size+3) s.heap.objs.size (s.heap.objs.size+1) l1 l2 →(∀c o,s.heap.get? c=some o->h'.get? c=some o)->Q (.ref (s.heap.objs.size+4)) { s with heap:=h' }):
  wpAny (model prog w) A (call (.type "zip") [.ref l1,.ref l2]) Q E s:=by
 refine callType_new F.called_zip (by decide) (F.typeCall_zip_2 _ _) (F.newCall_zip_2 _ _) (fun obj=>F.args_object_init_3 obj _ _) F.entry_zip_new
  (RA l1 l2 xs B) ⟨a,b,?_⟩
 have d:(tP s.heap l1).objs.size=s.heap.objs.size+1:=YB ..;have f:(tO s.heap l1 l2).objs.size=s.heap.objs.size+2:=by rw[YB,d]
 have g:(tN s.heap l1 l2).objs.size=s.heap.objs.size+3:=by rw[YB,f]
 have j:(tM s.heap l1 l2).objs.size=s.heap.objs.size+4:=by rw[YB,g]
 have i:(nh s.heap l1 l2).get? (tM s.heap l1 l2).objs.size=some _:=Xg _ rfl;have k:(nh s.heap l1 l2).get? (tN s.heap l1 l2).objs.size=some _:=W5 _ (Xg _ rfl);have l:(nh s.heap l1 l2).get? (tO s.heap l1 l2).objs.size=some _:=W5 _ (W5 _ (Xg _ rfl));have g2:(nh s.heap l1 l2).get? (tP s.heap l1).objs.size=some _:=W5 _ (W5 _ (W5 _ (Xg _ rfl)));have g1:(nh s.heap l1 l2).get? s.heap.objs.size=some _:=W5 _ (W5 _ (W5 _ (W5 _ (Xg _ rfl))));show _/\_;rw[f,g,j] at i;rw[d,f] at l;rw[g] at k;rw[d] at g2;rw[j]
 have kp:∀c o,s.heap.get? c=some o->(nh s.heap l1 l2).get? c=some o:=fun c o x=>
  W5 _ (W5 _ (W5 _ (W5 _ (W5 _ x))))
 have m:l1<s.heap.objs.size:=let ⟨_,e,_⟩:=a;Xi e
 have n:l2<s.heap.objs.size:=let ⟨_,e,_⟩:=b;Xi e
 exact⟨⟨_,i,rfl⟩,h _ ⟨i,l,⟨_,_,k⟩,⟨_,g1,rfl,rfl⟩,⟨_,g2,rfl,rfl⟩⟩ (zipApart_new m n) kp⟩
end
def K6 (K:W.Frag)(a b:Addr):It:=⟨fun i H=>∃xs B x y,SqT K H a xs/\SqL K H b B/\xs[i]?=some x/\B[i]?=some y,fun i H v H'=>∃T x y,v=.ref T/\H T=none/\(∀xs,SqT K H a xs->xs[i]?=some x)/\(∀B,SqL K H b B->B[i]?=some y)/\H'=ak H T (.tup [x,y]),fun i H=>∃xs,SqT K H a xs/\xs.length=i⟩
theorem S2 {k:Nat}{pos:Pos}(a b z TI TO j r:Addr)(D:ZipApart z TI TO j r a b):cA P w K (.Tuple C k pos) (K6 K a b) [z,TI,TO,j,r] z (fun i h=>mQ h z TI TO j r a b i .none) where
 mem:=by simp
 obj:=fun i h st c hc=>by obtain⟨hz,j8,⟨p,q,hTO⟩,⟨o1,e1,_,d1⟩,⟨o2,e2,_,d2⟩⟩:=st;simp only [Xj,XO,Yo] at hc;rcases hc with rfl|rfl|rfl|rfl|rfl;exact⟨_,hz,fun v z=>by cases z⟩;exact⟨_,j8,fun v z=>by cases z⟩;exact⟨_,hTO,fun v z=>by cases z⟩;exact⟨_,e1,fun v z=>by rw[d1] at z;cases z⟩;exact⟨_,e2,fun v z=>by rw[d2] at z;cases z⟩
 keep:=fun i h h' st k=>by obtain⟨hz,j8,⟨p,q,hTO⟩,g1,g2⟩:=st;exact⟨k z (by simp) _ hz,k TI (by simp) _ j8,⟨p,q,k TO (by simp) _ hTO⟩,g1.at fun o e=>k j (by simp) o e,g2.at fun o e=>k r (by simp) o e⟩
 item:=by
  intro X hP hw hK hc i aa s σ H E I hf st hg;subst hP hw hK;obtain⟨xs,B,x,y,hq,uh,hx,hy⟩:=hg;obtain⟨ae,rv,p,hz⟩:=I.tuple hq;have p':s.heap.IsTuple a ae.toArray:=p;obtain⟨u,hu,ru⟩:=rv.get hx;obtain⟨its2,rv2,p2,hz2⟩:=I.list uh;obtain⟨u2,hu2,ru2⟩:=rv2.get hy;refine S5 D st p' p2.isList (x:=u) (y:=u2) (by simpa using hu) (by simpa using hu2) fun h' Z' hT hk=>?_;refine⟨_,rfl,wpAny_letOwnedTupleGo_zip Z'.z fun BN xx iI=>?_⟩;have dJ:H s.heap.objs.size=none:=I.hok.fresh (W9 _);have lt:∀{c o},s.heap.get? c=some o->s.heap.objs.size≠c:=fun e=>YE (Xi e);have nz:s.heap.objs.size≠z:=lt st.z;obtain⟨ta,tb,hTO⟩:=st.to;obtain⟨hz3,hTI3,⟨pa,pb,hTO3⟩,g13,g23⟩:=Z';refine⟨.ref s.heap.objs.size,_,I.turnedLaid (a:=s.heap.objs.size) (o:=.tup [x,y]) (ch:=[z,TI,TO,j,r]) (fun c o hc' q=>?_) hf (W9 _) ?_,rfl,⟨s.heap.objs.size,x,y,rfl,dJ,fun zs xw=>by rw[I.tuple_inj xw hq];exact hx,fun zs xw=>by rw[I.list_inj xw uh];exact hy,rfl⟩,?_,fun c hc'=>?_⟩;simp only [Xj,XO,Yo,not_or] at hc';exact iI.extBut _ _ hc'.1 (hk c o hc'.1 hc'.2.2.1 hc'.2.2.2.1 hc'.2.2.2.2 q);refine⟨by show 2<=sizeLine;decide,[u,u2],.cons ru (.cons ru2 .nil),?_⟩;exact⟨_,iI.extBut _ _ nz hT,rfl,_,rfl,rfl⟩;exact⟨xx,iI.extBut _ _ D.TIz hTI3,⟨pa,pb,iI.extBut _ _ D.TOz hTO3⟩,g13.extBut iI.extBut D.i1z,g23.extBut iI.extBut D.i2z⟩;have b9:c≠s.heap.objs.size:=by simp only [Xj,XO,Yo] at hc';rcases hc' with rfl|rfl|rfl|rfl|rfl;exact(lt st.z).symm;exact(lt st.ti).symm;exact(lt hTO).symm;obtain⟨o,e,_⟩:=st.g1;exact(lt e).symm;obtain⟨o,e,_⟩:=st.g2;exact(lt e).symm
  rw[ay b9];exact(hf c hc').1
 done:=by intro X hP hw hK hc i aa s σ H E I hf st hg;subst hP hw hK;obtain⟨xs,hq,hx⟩:=hg;obtain⟨ae,rv,p,hz⟩:=I.tuple hq;have p':s.heap.IsTuple a ae.toArray:=p;have hl:=rv.length;refine Uh (I.ok.hd hc) D st p' (by rw[Array.getElem?_eq_none];rw[Xf];lia) fun h' hk=>⟨rfl,I.turnedL (t':=s.toks) (ch:=[z,TI,TO,j,r]) (fun c o hc' q=>?_) hf⟩;simp only [Xj,XO,Yo,not_or] at hc';exact hk c o hc'.1 hc'.2.2.1 hc'.2.2.2.1 hc'.2.2.2.2 q
 self:=by intro A i s Q E st h;exact wpAny_pyIter_zip st.z h
section
def iZip (K:W.Frag)(d:TA):TI:=fun e H R=>d e H fun f c=>∃a b,f=[.ref a,.ref b]/\(∃xs,SqT K c a xs)/\(∃B,SqL K c b B)/\R (K6 K a b) c
theorem pi_zip {a b:Expr}{i:TA}{pos q:Pos}{kn:Nat}(t:Gl X "zip")(u:X.mg "zip"=none)(v:PA X [a,b] i)(he:starEach [a,b] X.env=(false,eval a X.env)::starEach [b] X.env:=by rfl)
  (d:(backTo pos (starEach [b] X.env)).any (·.1)=false:=by rfl):
  PI X (.Tuple C kn q) (.Call (.Name "zip" p) [a,b] [] pos) (iZip X.K i):=by
 intro k s w H R I h;refine Yy (mZ I t u (by decide+kernel:bootBuiltins "zip"=some (.type "zip")) ?_);refine Yh (aw (v pos k s w H _ I h) fun Q e ⟨S,l,c,A,E⟩=>?_) he d;obtain⟨x,y,rfl,⟨xs,F⟩,⟨B,G⟩,J⟩:=E
 cases A with
 |cons r f=>
  cases f with
  |cons L f=>
   cases f;cases r;cases L;obtain⟨M,T,pl,hz⟩:=c.tuple F;obtain⟨m,U,g,N⟩:=c.list G;refine S3 (show e.heap.IsTuple x M.toArray from pl) g.isList fun h' Z D O=>?_;refine wpAny_pyIter_zip Z.z ?_;refine⟨_,_,_,_,l,rfl,c.kept (t':=e.toks) O,S2 x y _ _ _ _ _ D,Z,fun b n=>?_,J⟩;have P:∀j,e.heap.objs.size<=j->bW X k l j:=fun j o=>c.fpOk o (c.hok.fresh o);simp only [Xj,XO,Yo] at n;rcases n with rfl|rfl|rfl|rfl|rfl
   all_goals exact P _ (by lia)
end
end Ztl
section
open PySem.Builtin PySem.AutoSeq1
variable {w:World}{it l:Addr}{Q:Value->Shared->Prop}{prog:Program}{c:Array Value}
theorem UR:typeLookup (.type "tuple") "__reversed__"=pure none:=by rw[YT,Yl];kernel_rfl
theorem Vx:Slot "reversed" "__init__" "object.__init__":=.of (owner:="object") (n:="__init__") (by rw[YT,Yl];kernel_rfl) (by decide+kernel) (by decide+kernel) (by decide+kernel)
  (by first|exact .inl (by decide+kernel)|exact .inr (by decide+kernel)) (by rw[Yz];kernel_rfl)
theorem Ug:TypeCalled "reversed" "reversed.__new__" "object.__init__":=⟨by decide+kernel,by decide+kernel,⟨_,_,Aw⟩,Jo,by decide+kernel,by rw[Yz];kernel_rfl,Vx⟩
theorem Vb:isSubtype (.type "tuple") (.type "dict")=pure false:=by rw[Yz];kernel_rfl
def IsRvT (h:Heap)(it t:Addr)(k:Int):Prop:=∃o,h.get? it=some o/\o.cls=.type "reversed"/\o.data=.fields #[.ref t,.int k 0]
section
variable {A:Around}{E:Value->Shared->Prop}{s:Shared}
theorem IsRvT.typeIs {k:Int}(x:IsRvT s.heap it l k):s.TypeIs (.ref it) "reversed":=let ⟨o,a,b,_⟩:=x;⟨o,a,b⟩
end
theorem Vw (t:Addr)(c:Array Value)(hsz:(c.size:Int)<2 ^ 63):Meets (Builtin.«reversed.__new__» ⟨[.type "reversed", .ref t], []⟩) (fun _ R s => IsTup s.heap t c ∧R (.ok (.ret (Value.ref s.heap.objs.size))) { s with heap:=s.heap.push { cls:=Value.type "reversed",data:=.fields #[.ref t,rawInt ((c.size:Int)-1)] },toks:=s.toks+1+1 }):=.of_wp fun prog w A R s h=>by
 obtain⟨e,g,d,tk,os⟩:=s;obtain⟨a,h⟩:=h;have b:=IP;have i:Shared.TypeIs ⟨e,g,d,tk,os⟩ (.ref t) "tuple":=a.typeIs;have f:=UR;have j:=F.slot_tuple_getitem.lookup;have hd:=Vb;wp_walk using len_tuple a hsz
 exact⟨_,rfl,h⟩
theorem slot_rvt_next:Slot "reversed" "__next__" "reversed.__next__":=.of (owner:="reversed") (n:="__next__") (by rw[YT,Yl];kernel_rfl) (by decide+kernel) (by decide+kernel) (by decide+kernel)
  (by first|exact .inl (by decide+kernel)|exact .inr (by decide+kernel)) (by rw[Yz];kernel_rfl)
theorem Jl:Slot "reversed" "__iter__" "reversed.__iter__":=.of (owner:="reversed") (n:="__iter__") (by rw[YT,Yl];kernel_rfl) (by decide+kernel) (by decide+kernel) (by decide+kernel)
  (by first|exact .inl (by decide+kernel)|exact .inr (by decide+kernel)) (by rw[Yz];kernel_rfl)
theorem JC : entryFor table "reversed.__next__"=some Builtin.«reversed.__next__» := entryFor_of_tree (by kernel_rfl)
theorem VF : entryFor table "reversed.__iter__"=some Builtin.«dict_keyiterator.__iter__» :=entryFor_alias (id':="dict_keyiterator.__iter__") (by kernel_rfl) (by first|rfl|decide+kernel | (unfold String.splitOn;simp +decide [String.splitOnAux])) (by decide+kernel) (by kernel_rfl)
theorem Jk (a:Value):argsOk "reversed.__next__" ⟨[a],[]⟩:=by unfold argsOk;kernel_rfl
theorem Vv (a:Value):argsOk "reversed.__iter__" ⟨[a],[]⟩:=by unfold argsOk;kernel_rfl
section
variable {A:Around}{E:Value->Shared->Prop}{s:Shared}
theorem HL {k:Int}(hz:IsRvT s.heap it l k)(h:Q (.ref it) s):wpAny (model prog w) A (pyIter (.ref it)) Q E s:=by refine wpAny_pyIter_slot hz.typeIs Jl (Xz Jl hz.typeIs VF ?_ (Vv _));show wpAny _ _ (ret (.ref it)) _ _ s;exact Xb ⟨_,rfl,"reversed",_,hz.typeIs,slot_rvt_next.lookup,h⟩
theorem Vu {k:Nat}{x:Value}{Q:Option Value->Shared->Prop}(b:IsRvT s.heap it l k)(d:IsTup s.heap l c)(e:c[k]?=some x)(f:(k:Int)<2 ^ 63)
  (g:∀h' tk,IsRvT h' it l ((k:Int)-1)->Heap.SameBut it s.heap h'->Q (some x) { s with heap:=h',toks:=tk }):wpAny (model prog w) A (pyNext (.ref it)) Q E s:=by
 obtain⟨o,a,h,hd⟩:=id b;have hsz:k<c.size:=(Array.getElem?_eq_some_iff.mp e).1;unfold pyNext
 refine W3 (YG (XC (name:=Str.ofString "__next__") b.typeIs slot_rvt_next
  (Xz slot_rvt_next b.typeIs JC ?_ (Jk _))))
 show wpAny _ _ (field (.ref it) 0 >>= _) _ _ s;refine W3 (XB a hd (x:=.ref l) rfl ?_);show wpAny _ _ (field (.ref it) 1 >>= _) _ _ s;refine W3 (XB a hd (x:=.int k 0) rfl ?_);show wpAny _ _ (if ((k:Int)<0) then _ else _) _ _ s;rw[Xh (by lia)];show wpAny _ _ (specialOf (.ref l) (Str.ofString "__getitem__") >>= _) _ _ s;refine W3 (Zd d.typeIs slot_tuple_getitem.lookup ?_);show wpAny _ _ (if false=true then _ else _) _ _ s;rw[Xh (by decide)];refine W3 (wpAny_mkInt ?_);refine W3 (YG (getItem_tuple (j:=k) (x:=x) d (by lia) f (by unfold seqIndex?;simp;lia) e ?_));show wpAny _ _ (field (.ref it) 1 >>= _) _ _ _;refine W3 (XB a hd (x:=.int k 0) rfl ?_);refine W3 (YI a hd (by simp) (Xb ⟨x,rfl,Xb (g _ _ ?_ (X9 ..))⟩))
 exact⟨_,Ym _ a (YW (X4 hd _)),(Obj.cls_mapFields ..).trans h,by
  rw[X4 hd];simp [rawInt]⟩
theorem Va {Q:Option Value->Shared->Prop}(h:A.handled=none)(d:IsRvT s.heap it l (-1))
  (i:∀h',(∀b o,b≠it->s.heap.get? b=some o->h'.get? b=some o)->Q none { s with heap:=h' }):wpAny (model prog w) A (pyNext (.ref it)) Q E s:=by
 obtain⟨o,c,j,hd⟩:=id d;unfold pyNext
 refine W3 (YG (XC (name:=Str.ofString "__next__") d.typeIs slot_rvt_next
  (Xz slot_rvt_next d.typeIs JC ?_ (Jk _))))
 show wpAny _ _ (field (.ref it) 0 >>= _) _ _ s;refine W3 (XB c hd (x:=.ref l) rfl ?_);show wpAny _ _ (field (.ref it) 1 >>= _) _ _ s;refine W3 (XB c hd (x:=.int (-1) 0) rfl ?_);show wpAny _ _ (if ((-1:Int)<0) then _ else _) _ _ s;rw[Xk (by decide)];refine W3 (Y0 ?_);refine W3 ?_;show wpAny _ _ (setField (.ref it) 1 (rawInt (-1)) >>= fun _=>setField (.ref it) 0 .none) _ _ s;refine W3 (YI c hd (by simp) ?_);have hz:=YW (X4 hd fun x=>x.setIfInBounds 1 (rawInt (-1)));have f:=Ym (Obj.mapFields fun x=>x.setIfInBounds 1 (rawInt (-1))) c hz;refine YI f (X4 hd _) (by simp) ?_;refine W3 ?_;show wpAny _ _ (newExc (.type "StopIteration") [] >>= _) _ _ _;refine W3 ?_;simp only [newExc,newTuple];refine W3 (Xo ?_ (by size_fits));refine W3 (m:=firstArgMember _ _) (Zl (a:=Value.none) (by first|rfl | (simp only [firstArgMember];rfl)) ?_);refine Xo ?_ (by size_fits)
 delta raiseNew
 refine W3 (wpAny_handled ?_);rw[show A.in1.handled=none from h];refine W3 (Xb (wpAny_throw ?_));refine W3 (wpAny_isInstance (T:="StopIteration") (b:=true) ⟨_,Xg _ rfl,rfl⟩ isSubtype_stop ?_);exact Xb (i _ fun b o' g e=>W5 _ (W5 _ ((Heap.get?_update_other _ _ (Ne.symm g)).trans ((Heap.get?_update_other _ _ (Ne.symm g)).trans e))))
end
end
section
variable {x y:Str}{H H' G j:Hp}{P prog:Program}{w:World}{h' base:Heap}{q:Type}{F:Fr}{e B iter elt:Expr}{X:Cx}{L:List (Addr×Obj)}{O:St}{it C:Addr}{M I:Ms}{i:Nat}{t:Tv}{K:W.Frag}{st:Stmt}{c:Expr->Bool}{es ifs:List Expr}{u p:Pos}{body:List Stmt}{fp:List Addr}{U:TI}{r J:R2}{mg:Str->Option Value}{Y:FuncData}{ps N':List Str}{scope:Scope}{T:String}{env:Env}{src:List (Option Nat)}{cl:List (Str×Addr)}{S:Shared}{Z Q:TW}{psp:aK}{af:List Nat}
section
noncomputable def oq (l m:List Tv):List Tv:=(l.zip m).map fun p=>.tup [p.1,p.2]
def J7 (w:bU):bU:=fun M k=>w M fun ts M1=>match ts with
 |[.tup l,.lst m]=>l.length=m.length/\k (oq l m) M1
 |_=>False
theorem zy {l m:List Tv}(h:l.length=m.length):(oq l m).length=l.length:=by unfold oq;rw[Xa,length_zip];lia
theorem LI.zip {w:bU}{R:It->Hp->Prop}:LI X.K F (J7 w) O H R->Ztl.iZip X.K (LF X.K F 2 w) O H R:=fun⟨G,W,M,K0,Y,k,q⟩=>by
 refine⟨G,W,M,_,Y,k,fun ts M1 Z vs H1 g C s1 e1 l1=>?_⟩;cases e1 with
 |nil=>(cases l1)
 |cons c1 c2=>
  cases c2 with
  |nil=>(cases l1)
  |cons c3 c4=>
   cases c4 with|cons _ _=>exact absurd l1 (by simp)|nil=>
   cases c1 with
   | @tup a xs l r P=>
    cases c3 with
    | @lst b s m D Q=>
     obtain⟨f,g⟩:=g;have qT:∀{j H':Hp}{t u:Tv}{x y:V}{T:Addr},Same j H'->H' T=none->IsT X.K j x t->IsT X.K j y u->∃v,Same j v/\Same v (ak H' T (.tup [x,y]))/\Same H' (ak H' T (.tup [x,y]))/\(∀a o,v a=some o->j a=some o∨H' a=none∨mJ o)/\IsT X.K v (.ref T) (.tup [t,u]):=fun {j H' t u x y T} c h E S=>by
      have sH:Same H' (ak H' T (.tup [x,y])):=fun b y e=>by rw[ay (bL e h)];exact e
      have I:Same j (ak j T (.tup [x,y])):=fun b y e=>by rw[ay (bL e (c.free h))];exact e
      refine⟨ak j T (.tup [x,y]),I,fun b y e=>?_,sH,fun b y e=>?_,.tup aJ (.cons (E.mono I) (.cons (S.mono I) .nil))⟩;by_cases z:b=T;subst z;rw[aJ] at e ⊢;exact e;rw[ay z] at e ⊢;exact c _ _ e;by_cases z:b=T;subst z;exact .inr (.inl h);rw[ay z] at e;exact .inl e
     have E:=P.len;have S:=Q.len;refine⟨a,b,rfl,⟨xs,SqT.of (C.sub _ _ r)⟩,⟨s,SqL.of (C.sub _ _ D)⟩,q _ _ Z _ H1 g C s1 ⟨fun i j H' d c A=>?_,fun j H' d c=>⟨xs,SqT.of ((d.trans c) _ _ r),by rw[zy f,E]⟩,fun i u j H' x iU d c B J=>?_⟩⟩;rw[zy f] at A;exact⟨xs,s,xs[i],s[i],SqT.of ((d.trans c) _ _ r),SqL.of ((d.trans c) _ _ D),Xc (by omega),Xc (by omega)⟩;obtain⟨T,x',y',rfl,h,h1,h2,rfl⟩:=J;have A:i<l.length:=by have:=(Xe.mp B).1;rw[zy f] at this;exact this
     have e:(l.zip m)[i]?=some (l[i],m[i]):=List.getElem?_zip_eq_some.mpr ⟨Xc A,Xc (by omega)⟩;unfold oq at B;rw[XG,e] at B;cases B;obtain⟨w1,L,n⟩:=P.get (Xc A);obtain⟨w2,N,p⟩:=Q.get (Xc (by omega:i<m.length));have f1:=h1 xs (SqT.of ((d.trans c) _ _ r));have U:=h2 s (SqL.of ((d.trans c) _ _ D));rw[L] at f1;cases f1;rw[N] at U;cases U;exact qT c h (n.mono d) (p.mono d)
    |_=>exact g.elim
   |_=>exact g.elim
end
section
variable {A:Around}{E:Value->Shared->Prop}{R:Result->Shared->Prop}{s:Shared}
theorem Vt {kx vx a:Expr}{pos:Pos}{it:Value}{D:Addr}(I:Nat->Shared->Prop)
  (g:∀n s,I n s->wpAny (model prog w) A (pyNext it) (fun r b=>match r with
   |none=>R (.ok .next) b
   |some v=>wpAny (model prog w) A (letOwnedTupleGo a it v) (fun _ d=>wpAny (model prog w) A (assign a env v) (fun _ i=>
     wpAny (model prog w) A (forIn ifs true fun c r=>if r=true then do let ok ← isTrue c env (eval c env);pure (ForInStep.yield ok) else pure (ForInStep.yield r)) (fun ok s3=>
      if ok=true then wpAny (model prog w) A (eval kx env) (fun e S=>wpAny (model prog w) A (eval vx env) (fun f j=>
       wpAny (model prog w) A (dictSet D e f) (fun _ k=>∃m,m<n/\I m k) (fun _ _=>False) j) (fun _ _=>False) S) (fun _ _=>False) s3
      else ∃m,m<n/\I m s3) (fun _ _=>False) i) (fun _ _=>False) d) (fun _ _=>False) b) (fun _ _=>False) s)
  (n:Nat) (h:I n s):
  codeAny (model prog w) A (.compLoop (.DictComp kx vx [⟨a,iter,ifs,0⟩] scope pos) 0 it (.ref D) env) R s:=by
 refine codeAny_loop rfl I (fun n s l=>?_) n h;show wpAny _ A ((compTurn (.DictComp kx vx [⟨a,iter,ifs,0⟩] scope pos) 0 it (.ref D) env).onRaise (fun x=>do noteFrame x env;theTreesLotGoes x)) _ _ s;refine wpAny_noted ?_;rw[compTurn_dict];refine W3 (wpAny_standAt (W3 (XU (g n s l) (fun r s₁ h₁=>?_) fun _ _ h'=>h'.elim)))
 cases r with
 |none=>exact Xb h₁
 |some v=>
  refine W3 (XU h₁ (fun _ d o=>?_) fun _ _ h'=>h'.elim);refine W3 (XU o (fun _ s₂ h₂=>W3 (XU h₂ (fun ok s₃ h₃=>?_) fun _ _ h'=>h'.elim)) fun _ _ h'=>h'.elim)
  cases ok with
  |false=>exact Xb ⟨rfl,h₃⟩
  |true=>exact W3 (W3 (XU h₃ (fun e s₄ h₄=>W3 (Yu (XU h₄ (fun f s₅ h₅=>W3 (wpAny_standAt (Yu (XU h₅ (fun _ s₆ h₆=>Xb ⟨rfl,h₆⟩) fun _ _ h'=>h'.elim)))) fun _ _ h'=>h'.elim))) fun _ _ h'=>h'.elim))
end
def yX (src:List (Option Nat))(U:TI)(g:TG)(tt:TT)(tk tv:TE):TE:=fun O H Q=>U O H fun J f=>∃W:Nat->Nat->List (aj×V)->St->Hp->Prop,(∃m,W 0 m [] (mV src O) f)/\∀i m kvs c H,W i m kvs c H →(J.stop i H/\∀l,H l=none->Q (.ref l) (ak H l (.dK kvs))) ∨
 (J.go i H/\kvs.length<sizeLine/\∀x H',J.yld i H x H'->g x c H' fun a h=>tt a h fun b e=>
  if b=true then tk a e fun j k=>tv a k fun n o=>∃y:Str,j=.str y/\∃d,d<m/\W (i+1) d (cf kvs (Sum.inr y) n) a o else ∃d,d<m/\W (i+1) d kvs a e)
section
variable {kx vx:Expr}{pos:Pos}{g:TG}{tt:TT}{tk tv:TE}
theorem IH {D:Addr}{m:List (Addr×Obj)}{g:St}{s3:Shared}{kvs:List (aj×V)}{i:List (aj×Value)}(j:Inv X L O H s3)(k:C=s3.heap.objs.size)
  (c:∀b∈D::fp,bW X L H b) (h:∀b∈D::fp,b<s3.heap.objs.size) (d:Inv (bJ X N' scope cl C (D::fp) s3 H) m g H' S) (n:H' D=none) (p:S.heap.DictOf (bg X.prog X.w) D i) (q:KV kvs i) (hz:kvs.length<=sizeLine) (r:(D==sysModules)=false)
  (l:Heap.SameBut C S.heap h'):Inv X L O (ak H' D (.dK kvs)) { S with heap:=h' }:=by
 have J:Inv X L O H' S:=j.call' d.os d.base d.hok d.bare (ch:=D::fp) fun b a=>⟨(c b a).2.2.2.1,(c b a).2.1,(c b a).2.2.2.2.1,(c b a).2.2.2.2.2⟩;have f:bW X L H' C:=j.fpOk (Nat.le_of_eq k.symm) d.free;have s:Inv X L O H' { S with heap:=h' }:=J.turned (t':=S.toks) (fun b o a e=>(l.2 b a).trans e) f.1 f.2.1 f.2.2.2.1 f.2.2.2.2.1 f.2.2.2.2.2;have t:D≠C:=by rw[k];exact Xu (h D W8)
 have u:=c D W8;exact s.track ⟨n,u.2⟩ (sI hz r q (p.sameBut l t))
theorem GZ {D:Addr}{tn:Nat->Heap->Prop}{J:It}{M:St}{s3:Shared}{R:Result->Shared->Prop}{W:Nat->Nat->List (aj×V)->St->Hp->Prop}{m0:Nat}{Q:List (aj×V)->Hp->Prop}
  (hc:X.calm=true) (T:cA X.prog X.w X.K B J fp it tn) (I3:Inv X L O H s3) (hC:C=s3.heap.objs.size)
  (hf:∀b∈D::fp,bW X L H b) (N:∀b∈D::fp,b<s3.heap.objs.size) (iN:D∉fp) (IY:Inv (bJ X N' scope cl C (D::fp) s3 H) [] M H S) (st:tn 0 S.heap) (MN:S.heap.DictOf (bg X.prog X.w) D [])
  (hg:PG (bJ X N' scope cl C (D::fp) s3 H) B g) (ht:PTs (bJ X N' scope cl C (D::fp) s3 H) ifs tt) (hk:PE (bJ X N' scope cl C (D::fp) s3 H) kx tk) (he:PE (bJ X N' scope cl C (D::fp) s3 H) vx tv) (w0:W 0 m0 [] M H)
  (br:∀i m kvs a H,W i m kvs a H->(J.stop i H/\Q kvs H)∨(J.go i H/\kvs.length<sizeLine/\∀x H',J.yld i H x H'->g x a H' fun l H2=>tt l H2 fun b H3=>
   if b=true then tk l H3 fun kv H4=>tv l H4 fun vv I=>∃y:Str,kv=.str y/\∃s,s<m/\W (i+1) s (cf kvs (Sum.inr y) vv) l I else ∃s,s<m/\W (i+1) s kvs l H3))
  (a7:∀P a H' kvs t E,Inv (bJ X N' scope cl C (D::fp) s3 H) E a H' P->H' D=none->P.heap.DictOf (bg X.prog X.w) D t->KV kvs t->kvs.length<=sizeLine->Q kvs H'->R (.ok .next) P):
  codeAny (model X.prog X.w) X.A (.compLoop (.DictComp kx vx [⟨B,iter,ifs,0⟩] scope pos) 0 (.ref it) (.ref D) (compEnvC scope cl C X.env)) R S:=by
 have eY:(bJ X N' scope cl C (D::fp) s3 H).env=compEnvC scope cl C X.env:=rfl;generalize F:bJ X N' scope cl C (D::fp) s3 H=Y at *;have e1:Y.prog=X.prog:=by rw[<- F];rfl
 have e2:Y.w=X.w:=by rw[<- F];rfl
 have e3:Y.K=X.K:=by rw[<- F];rfl
 have e4:Y.A=X.A:=by rw[<- F];rfl
 have e5:Y.calm=true:=by rw[<- F];exact hc
 have e6:Y.xe=fun _ _=>False:=by rw[<- F];rfl
 have e7:Y.env.locals=C:=by rw[eY];rfl
 have e8:Y.ex=D::fp:=by rw[<- F];rfl
 have e9:Y.pn=[]:=by rw[<- F];rfl
 have MM:Y.fs=ig X.stack:=by rw[<- F];rfl
 have rV:∀x c,Y.env.cells.lookup x=some c->∀b∈D::fp,c≠b:=fun x c e b f=>(IY.ok.exf b (by rw[e8];exact f)).2 x c e;have nB:∀b∈D::fp,b∉Y.fs:=fun b f=>IY.ok.exfs b (by rw[e8];exact f)
 have rO:∀(E:List (Addr×Obj))(H':Hp),(∀p∈E,p.1=D)->∀b∈fp,H' b=none->bW Y E H' b:=fun E H' h b f hn=>
  ⟨hn,by rw[e7,hC];exact Xu (N b (W7 _ f)),nB b (W7 _ f),.inl (by rw[e8];exact W7 _ f),fun x c e=>rV x c e b (W7 _ f),fun p jE z=>by
   rw[e9,XM] at jE;have q:=h p jE;rw[z] at q;rw[q] at f
   exact iN f⟩
 have yk:∀(E:List (Addr×Obj))(H':Hp),(∀p∈E,p.1≠D)->H' D=none->bW Y E H' D:=fun E H' h hn=>
  ⟨hn,by rw[e7,hC];exact Xu (N D W8),nB D W8,.inl (by rw[e8];exact W8),fun x c e=>rV x c e D W8,fun p jE=>by
   rw[e9,XM] at jE
   exact h p jE⟩
 have T':cA Y.prog Y.w Y.K B J fp it tn:=by rw[e1,e2,e3];exact T
 rw[<- eY,<- e1,<- e2,<- e4]
 refine Vt (fun n s'=>∃i kvs t a H',Inv Y [] a H' s'/\tn i s'.heap/\(∀b∈fp,H' b=none)/\H' D=none/\s'.heap.DictOf (bg X.prog X.w) D t/\KV kvs t/\kvs.length<=sizeLine/\W i n kvs a H') ?_ m0
  ⟨0,[],[],M,H,IY,st,fun b f=>(hf b (W7 _ f)).1,(hf D W8).1,MN,.nil,Xw _,w0⟩
 rintro n P ⟨i,kvs,t,a,I,I5,st5,fr5,hD5,dd5,G,U,w5⟩;obtain⟨ob,hob,Z⟩:=Heap.dictOf_iff.mp dd5;have LY:∀v,ob.data ≠ .cell v:=fun v z=>by obtain⟨o',es,ep,h1,h2,h3,_⟩:=id dd5;rw[hob] at h1;cases h1;rw[h3] at z;cases z
 have I5':Inv Y [(D,ob)] a I P:=I5.pins_of fun p h=>by rw[XH] at h;subst h;exact⟨hob,hD5,by rw[e7,hC];exact Xu (N D W8),nB D W8,fun v z=>LY v z⟩
 have f5:∀b∈fp,bW Y [(D,ob)] I b:=fun b f=>rO _ _ (fun p h=>by rw[XH] at h;rw[h]) b f (fr5 b f);rcases br i n kvs a I w5 with ⟨stop,q⟩|⟨go,hz,step⟩
 .refine aw (T'.done Y rfl rfl rfl e5 i _ P a I (fun _ _=>False) I5' f5 st5 stop) fun r s6 z0=>?_;obtain⟨hr,I6⟩:=z0;subst hr;exact a7 s6 a I kvs t _ I6 hD5 (Heap.dictOf_iff.mpr ⟨ob,(I6.pin (D,_) (XE _ W8)).1,Z⟩) G U q
 .refine aw (T'.item Y rfl rfl rfl e5 i _ P a I (fun _ _=>False) I5' f5 st5 go) fun r s6 z1=>?_;obtain⟨u,hr,h6⟩:=z1
  subst hr;refine aw h6 fun _ s7 z2=>?_;obtain⟨x,H7,I7,r7,y7,st7,fr7⟩:=z2;have f7:∀b∈fp,bW Y [(D,ob)] H7 b:=fun b f=>rO _ _ (fun p h=>by rw[XH] at h;rw[h]) b f (fr7 b f);have I7':=I7.pinned f7 (T.obj _ _ st7);have hx:=hg _ s7 a H7 x u _ I7' r7 (step x H7 y7);rw[e6] at hx;refine aw hx fun _ s8 z3=>?_;obtain⟨j,H8,I8,q8⟩:=z3;have hx2:=ht _ s8 j H8 _ I8 q8;rw[e6] at hx2;have fV:∀{σ9:St}{H9:Hp}{s9:Shared},Inv Y ([(D,ob)]++qb fp s7.heap) σ9 H9 s9->tn (i+1) s9.heap/\(∀b∈fp,H9 b=none)/\H9 D=none/\s9.heap.get? D=some ob:=fun {σ9 H9 s9} I9=>by have pD:=I9.pin (D,_) (XE _ (X6 _ W8));refine⟨T.keep _ _ _ st7 fun b f o e=>(I9.pin (b,o) (XE _ (XE _ (qo f e)))).1,fun b f=>?_,pD.2.1,pD.1⟩;obtain⟨o,e,d⟩:=T.obj _ _ st7 b f;exact(I9.pin (b,o) (XE _ (XE _ (qo f e)))).2.1
  refine aw hx2 fun ok s9 z4=>?_;obtain⟨H9,I9,q9⟩:=z4
  cases ok with
  |false=>rw[Xh W6] at q9;rw[Xh W6];obtain⟨s,hm,w9⟩:=q9;obtain⟨k1,k2,k3,k4⟩:=fV I9;exact⟨s,hm,i+1,kvs,t,j,H9,I9.pins_of (fun p h=>nomatch h),k1,k2,k3,Heap.dictOf_iff.mpr ⟨ob,k4,Z⟩,G,U,w9⟩
  |true=>
   rw[Xk rfl] at q9;rw[Xk rfl];have hx3:=hk _ s9 j H9 _ I9 q9;rw[e6] at hx3;refine aw hx3 fun kv s10 z5=>?_;obtain⟨ky,H10,I10,rk,Bi⟩:=z5;have hx4:=he _ s10 j H10 _ I10 Bi;rw[e6] at hx4;refine aw hx4 fun vv s11 z6=>?_;obtain⟨vy,H11,wU,rvv,y,ey,s,hm,w11⟩:=z6;subst ey;obtain⟨k1,k2,k3,k4⟩:=fV wU;have hl:=G.length;rw[e1,e2];refine wpAny_dictSet_pairs (knd:=bg X.prog X.w) (k:=Sum.inr y) (ki rk) (Heap.dictOf_iff.mpr ⟨ob,k4,Z⟩) (fun h' fq sb=>?_) (by rw[<- hl];exact U);have fD:=yk [] H11 (fun p h=>nomatch h) k3;have Wu:Inv Y [] j H11 { s11 with heap:=h',toks:=s11.toks+1 }:=(wU.pins_of (pins':=[]) fun p h=>nomatch h).turned (t':=s11.toks+1) (fun b o f e=>(sb.2 b f).trans e) fD.1 fD.2.1 fD.2.2.2.1 fD.2.2.2.2.1 fD.2.2.2.2.2;refine⟨s,hm,i+1,cf kvs (Sum.inr y) vy,stored t (Sum.inr y) vv,j,H11,Wu,T.keep _ _ _ k1 (fun b f o e=>(sb.2 b ?_).trans e),k2,k3,fq,G.put (Sum.inr y) rvv,?_,w11⟩
   .intro z;rw[z] at f;exact iN f
   .have:=qp kvs (Sum.inr y) vy;lia
theorem UQ {j:Pos}(hc:X.calm=true)(hN:X.N.Nodup)(iK:X.N[i]?=some x)(hx:lI X.env.scope x)(S:aL X scope N' src)(hi:PI X B iter U)
  (p:∀cl C ex s0 H0,PG (bJ X N' scope cl C ex s0 H0) B g/\PTs (bJ X N' scope cl C ex s0 H0) ifs tt/\PE (bJ X N' scope cl C ex s0 H0) kx tk/\PE (bJ X N' scope cl C ex s0 H0) vx tv)
  (ib:swapsWith (.DictComp kx vx [⟨B,iter,ifs,0⟩] scope pos) (some (.Name x u)) j.line X.env=pure true:=by rfl)
  (hs:∀x,foldedSetIterable iter X.env x=pure x:=by intro _;rfl)
  (k8:lf X x:=by first|exact .inl rfl|exact .inr rfl|assumption):
  PS X (.Assign [.Name x u] (.DictComp kx vx [⟨B,iter,ifs,0⟩] scope pos) j) (oy (yX src U g tt tk tv) (pZ i)):=by
 intro L s O H D I h;obtain⟨cl,r,cF,dM⟩:=wH (scope:=scope) (env:=X.env) fun n Z=>I.ok.has n (S.fr n Z);rw[exec_Assign_Name_used _ _ _ _ ib];refine W3 (wpAny_standAt (W3 ?_));show wpAny _ _ (do let _ ← comprehension (.DictComp kx vx [⟨B,iter,ifs,0⟩] scope pos) scope X.env _ newDict false (eval iter X.env) (some (assign (.Name x u) X.env))) _ _ s;refine W3 (XU (Y8 (use:=some (assign (.Name x u) X.env)) (Q:=fun _ M=>SP X L D .next M) rfl hs r S.kind S.names ?_) (fun _ M hq=>Xb (Xb hq)) fun _ _ e=>e);refine aw (hi L s O H _ I h) fun v s1 h1=>aw h1 fun pf c h2=>?_;obtain⟨it,fp,tn,J,P,e,V,T,t,f2,W,⟨m0,w0⟩,br⟩:=h2;subst e;refine Xo (wpAny_newFunctionEnv S.cell (by intro y hy;simp at hy) (fun h₁ dZ₁ E₁=>?_) S.kind);dsimp only at dZ₁ E₁ ⊢;generalize f:c.heap.push { cls:=.type "dict",data:=.dict #[] }=d at dZ₁ E₁ ⊢;have hsz:d.objs.size=c.heap.objs.size+1:=by rw[<- f,YB]
 have Y:Inv X L O P { c with heap:=d }:=V.kept (t':=c.toks) fun b o e=>by rw[<- f];exact W5 _ e
 have fD:bW X L P c.heap.objs.size:=V.fpOk (W9 _) (V.hok.fresh (W9 _));have iN:c.heap.objs.size∉fp:=fun hm=>by obtain⟨o,e,_⟩:=T.obj 0 _ t _ hm;exact X7 _ (Xi e)
 have hf:∀b∈c.heap.objs.size::fp,bW X L P b:=fun b p=>by rcases Xj.mp p with z|z;rw[z];exact fD;exact f2 b z
 have F:∀b∈c.heap.objs.size::fp,b<d.objs.size:=fun b p=>by rcases Xj.mp p with z|z;rw[z,hsz];exact Yx _;obtain⟨o,e,_⟩:=T.obj 0 _ t b z;rw[hsz];exact Nat.lt_succ_of_lt (Xi e)
 have kp:∀b o,d.get? b=some o->h₁.get? b=some o:=fun b o e=>E₁.extBut b o (Xu (Xi e)) (W5 _ e);have nF:∀b o,c.heap.get? b=some o->h₁.get? b=some o:=fun b o e=>kp b o (by rw[<- f];exact W5 _ e)
 have dN:h₁.DictOf (bg X.prog X.w) c.heap.objs.size []:=by
  have h0:d.DictOf (bg X.prog X.w) c.heap.objs.size []:=by rw[<- f];exact Heap.DictOf.new c.heap
  exact h0.at fun o e=>kp _ o e
 have jo:tn 0 h₁:=T.keep _ _ _ t fun b _ o e=>nF b o e;have IY:=wG (N':=N') (src:=src) (scope:=scope) (cl:=cl) (C:=d.objs.size) (D:=c.heap.objs.size) (fp:=fp) (s3:={ c with heap:=d }) (h1:=h₁) (tk:=c.toks) S Y cF dM rfl hf F dZ₁ kp;obtain⟨hg,ht,hk,he⟩:=p cl d.objs.size (c.heap.objs.size::fp) { c with heap:=d } P
 have k:=GZ (R:=compPost (model X.prog X.w) X.A X.xe (some (assign (.Name x u) X.env)) (fun _ M=>SP X L D .next M) (.ref c.heap.objs.size) d.objs.size) (kx:=kx) (vx:=vx) (iter:=iter) (ifs:=ifs) (pos:=pos) (Q:=fun kvs H=>∀l,H l=none->D.nx (O.set i (some (.ref l))) (ak H l (.dK kvs)))
  hc T Y rfl hf F iN IY jo dN hg ht hk he w0 br (fun s5 σc H' kvs vs aA G hD dd rv hz q=>by
   have IX:Inv X L O (ak H' c.heap.objs.size (.dK kvs)) s5:=IH (h':=s5.heap) Y rfl hf F G hD dd rv hz (XX.mpr (Ne.symm (Xu V.big))) (.refl ..);show wpAny _ _ (assign (.Name x u) X.env (.ref c.heap.objs.size)) _ _ s5;refine wpAny_assign_Name (Ah (v:=.ref c.heap.objs.size) IX hN iK hx rfl (fun s6 I6 ⟨a,sb,ha⟩=>?_) k8);obtain⟨m,Z,_⟩:=G.loc
   have K:bW X L (ak H' c.heap.objs.size (.dK kvs)) d.objs.size:=Y.fpOk (W9 _) (by
    rw[ay (by rw[hsz];exact YE (Yx _))]
    exact G.free)
   have ya:d.objs.size≠a:=by rcases ha with z|z;rw[z];exact K.2.1;exact fun q=>K.2.2.2.2.1 x a z q.symm
   refine⟨m,Z.sameBut sb ya,fun h' hs'=>⟨_,_,I6.turned (t':=s6.toks) (fun b o p e=>(hs'.2 b p).trans e) K.1 K.2.1 K.2.2.2.1 K.2.2.2.2.1 K.2.2.2.2.2,q _ hD⟩⟩)
 exact codeAny_compStart_dict k (T.self _ 0 _ _ _ jo k)
theorem Ry (Y:X.calm=true)(S:aL X scope N' src)(Z:PI X B iter U)
  (r:∀cl C ex s0 H0,PG (bJ X N' scope cl C ex s0 H0) B g/\PTs (bJ X N' scope cl C ex s0 H0) ifs tt/\PE (bJ X N' scope cl C ex s0 H0) kx tk/\PE (bJ X N' scope cl C ex s0 H0) vx tv)
  (hs:∀x,foldedSetIterable iter X.env x=pure x:=by intro _;rfl):PE X (.DictComp kx vx [⟨B,iter,ifs,0⟩] scope pos) (yX src U g tt tk tv):=by
 intro L s O H Q I h;obtain⟨cl,i,cF,dM⟩:=wH (scope:=scope) (env:=X.env) fun n F=>I.ok.has n (S.fr n F);rw[arm_eval_DictComp];show wpAny _ _ (comprehension (.DictComp kx vx [⟨B,iter,ifs,0⟩] scope pos) scope X.env _ newDict false (eval iter X.env)) _ _ s;refine Y8 (use:=none) rfl hs i S.kind S.names ?_;refine aw (Z L s O H _ I h) fun v s1 h1=>aw h1 fun pf a h2=>?_;obtain⟨it,fp,tn,J,u,e,E,T,j,f2,W,⟨m0,w0⟩,br⟩:=h2;subst e;refine Xo (wpAny_newFunctionEnv S.cell (by intro y hy;simp at hy) (fun h₁ G₁ k₁=>?_) S.kind);dsimp only at G₁ k₁ ⊢;generalize d:a.heap.push { cls:=.type "dict",data:=.dict #[] }=c at G₁ k₁ ⊢;have hsz:c.objs.size=a.heap.objs.size+1:=by rw[<- d,YB]
 have K:Inv X L O u { a with heap:=c }:=E.kept (t':=a.toks) fun b o e=>by rw[<- d];exact W5 _ e
 have fD:bW X L u a.heap.objs.size:=E.fpOk (W9 _) (E.hok.fresh (W9 _));have iN:a.heap.objs.size∉fp:=fun hm=>by obtain⟨o,e,_⟩:=T.obj 0 _ j _ hm;exact X7 _ (Xi e)
 have M:∀b∈a.heap.objs.size::fp,bW X L u b:=fun b r=>by rcases Xj.mp r with z|z;rw[z];exact fD;exact f2 b z
 have p:∀b∈a.heap.objs.size::fp,b<c.objs.size:=fun b r=>by rcases Xj.mp r with z|z;rw[z,hsz];exact Yx _;obtain⟨o,e,_⟩:=T.obj 0 _ j b z;rw[hsz];exact Nat.lt_succ_of_lt (Xi e)
 have kp:∀b o,c.get? b=some o->h₁.get? b=some o:=fun b o e=>k₁.extBut b o (Xu (Xi e)) (W5 _ e);have nF:∀b o,a.heap.get? b=some o->h₁.get? b=some o:=fun b o e=>kp b o (by rw[<- d];exact W5 _ e)
 have dN:h₁.DictOf (bg X.prog X.w) a.heap.objs.size []:=by
  have h0:c.DictOf (bg X.prog X.w) a.heap.objs.size []:=by rw[<- d];exact Heap.DictOf.new a.heap
  exact h0.at fun o e=>kp _ o e
 have P:tn 0 h₁:=T.keep _ _ _ j fun b _ o e=>nF b o e;have IY:=wG (N':=N') (src:=src) (scope:=scope) (cl:=cl) (C:=c.objs.size) (D:=a.heap.objs.size) (fp:=fp) (s3:={ a with heap:=c }) (h1:=h₁) (tk:=a.toks) S K cF dM rfl M p G₁ kp;obtain⟨hg,ht,hk,he⟩:=r cl c.objs.size (a.heap.objs.size::fp) { a with heap:=c } u
 have f:=GZ (R:=compPost (model X.prog X.w) X.A X.xe none (EP X L O Q) (.ref a.heap.objs.size) c.objs.size) (kx:=kx) (vx:=vx) (iter:=iter) (ifs:=ifs) (pos:=pos) (Q:=fun kvs H=>∀l,H l=none->Q (.ref l) (ak H l (.dK kvs)))
  Y T K rfl M p iN IY P dN hg ht hk he w0 br (fun s5 σc H' kvs vs aA t V dd rv hz q=>by
   obtain⟨m,F,_⟩:=t.loc;refine⟨m,F,fun h' N=>⟨.ref a.heap.objs.size,ak H' a.heap.objs.size (.dK kvs),?_,rfl,q _ V⟩⟩
   exact IH K rfl M p t V dd rv hz (XX.mpr (Ne.symm (Xu E.big))) N)
 exact codeAny_compStart_dict f (T.self _ 0 _ _ _ P f)
end
noncomputable def J6 (K:W.Frag)(a:Addr)(n:Nat):It:=⟨fun i H=>i<n/\∃xs x,SqT K H a xs/\xs[n-1-i]?=some x,fun i H x H'=>H'=H/\∀xs,SqT K H a xs->xs[n-1-i]?=some x,fun i H=>i=n⟩
theorem Rx (a it:Addr)(n:Nat):cA P w K B (J6 K a n) [it] it (fun i h=>IsRvT h it a ((n:Int)-1-i)) where
 mem:=by simp
 obj:=fun i h st b hb=>by
  have e:b=it:=by simpa using hb
  subst e;obtain⟨o,e,c,d⟩:=st;exact⟨o,e,fun v z=>by rw[d] at z;cases z⟩
 keep:=fun i h h' st k=>by obtain⟨o,e,c,d⟩:=st;exact⟨o,k it (by simp) o e,c,d⟩
 item:=by
  intro X hP hw hK hc i L s O H E I hf st hg;subst hP hw hK;obtain⟨mw,xs,x,hq,hx⟩:=hg;obtain⟨ae,rv,p,hz⟩:=I.tuple hq;obtain⟨u,hu,ru⟩:=rv.get hx;obtain⟨f0,f1,f2,f3,f4,f5⟩:=hf it (by simp);have ek:(n:Int)-1-i=((n-1-i:Nat):Int):=by lia
  have hlt:=(Xe.mp hx).1;have hz2:=XD;rw[ek] at st;refine Vu st p (x:=u) (by simpa using hu) (by lia) fun h' tk ed sb=>?_;have I1:Inv X L O H { s with heap:=h',toks:=tk }:=I.turned (t':=tk) (fun b o hb e=>(sb.2 b hb).trans e) f0 f1 f3 f4 f5;have e2:((n-1-i:Nat):Int)-1=(n:Int)-1-((i+1:Nat):Int):=by lia
  rw[e2] at ed;obtain⟨o,e,c,d⟩:=id ed;exact⟨u,rfl,pY (s:={ s with heap:=h',toks:=tk }) e c d (by decide) ⟨x,H,I1,ru,⟨rfl,fun ys hy=>by rw[I.tuple_inj hy hq];exact hx⟩,ed,fun b hb=>(hf b hb).1⟩⟩
 done:=by
  intro X hP hw hK hc i L s O H E I hf st hg;subst hP hw hK;have e:i=n:=hg;subst e;have ek:(i:Int)-1-i=-1:=by lia
  rw[ek] at st;obtain⟨f0,f1,f2,f3,f4,f5⟩:=hf it (by simp);exact Va (I.ok.hd hc) st fun h' kk=>⟨rfl,I.turned (t':=s.toks) kk f0 f1 f3 f4 f5⟩
 self:=fun _ _ _ _ _ st h=>HL st h
def Cm (K:W.Frag)(c:TA):TI:=fun O H R=>c O H fun d b=>∃a xs,d=[.ref a]/\SqT K b a xs/\R (J6 K a xs.length) b
section
theorem PN {a:Expr}{g:TA}{pos:Pos}(j:Gl X "reversed")(k:X.mg "reversed"=none)(l:PA X [a] g)(m:starEach [a] X.env=[(false,eval a X.env)]:=by rfl):PI X B (.Call (.Name "reversed" p) [a] [] pos) (Cm X.K g):=by
 intro L s O H R I h;refine Yy (mZ I j k (by decide+kernel:bootBuiltins "reversed"=some (.type "reversed")) ?_);refine Yh (aw (l pos L s O H _ I h) fun C c Z=>?_) m (by rfl);obtain⟨D,n,f,q,u⟩:=Z;obtain⟨t,xs,rfl,v,w⟩:=u;cases q with
 |cons r x=>
  cases x;cases r;obtain⟨i,y,pl,hz⟩:=f.tuple v;have d:=y.length;have z:=XD;refine callType_new Ug (by decide) (JR _) (JL _) (fun obj=>F.args_object_init_2 obj _) JS (Vw t i.toArray (by simp only [Xf];lia)) ⟨pl,?_⟩;refine⟨⟨_,Xg _ rfl,rfl⟩,?_⟩;have st:IsRvT (c.heap.push { cls:=Value.type "reversed",data:=.fields #[.ref t,rawInt ((i.toArray.size:Int)-1)] }) c.heap.objs.size t ((xs.length:Int)-1-((0:Nat):Int)):=by refine⟨_,Xg _ rfl,rfl,?_⟩;rw[Xf,<- d];simp [rawInt]
  refine HL st ?_;refine⟨c.heap.objs.size,[c.heap.objs.size],_,_,n,rfl,f.kept (t':=c.toks+1+1) fun b o e=>W5 _ e,Rx t _ xs.length,st,fun b A=>?_,w⟩;have e:b=c.heap.objs.size:=by simpa using A
  subst e;exact f.fpOk (W9 _) (f.hok.fresh (W9 _))
end
section
def wV:cg:=fun _ _=>False
theorem Wk:PS X st (LS X.K F wV):=fun L s O H D I ⟨_,_,_,_,k,_⟩=>k.elim
theorem NF {st:List Stmt}:PSs X st (LS X.K F wV):=fun L s O H D I ⟨_,_,_,_,k,_⟩=>k.elim
theorem Ue {t:TS}{b:ExceptHandler}{c:List ExceptHandler}{pos:Pos}(d:∀e s,X.xe e s->False)(g:PSs X body t):PS X (.Try body (b::c) [] [] pos) t:=by intro L s O H D I h;refine wpAny_Try_except (XU (g L s O H D I h) (fun f a q=>?_) (fun e a q=>(d e a q).elim));cases f with|next=>exact wpAny_execs_nil q|_=>exact q
def Cj (wo:TW)(wl:lH):cg:=fun P M=>wo M fun x M1=>wl M1 fun lo M2=>aG (sj x) fun r=>aG (az M2 r) fun o=>aG lo fun a=>match o with
 | .lst l=>(0<=a/\a<=l.length)/\P.nx ((gw M2 (.lst (l.take a.toNat)) r).cut 0)
 |_=>False
theorem LS.delt {wo:TW}{wl:lH}{D:bp}:LS X.K F (Cj wo wl) D O H->Gp (LE X.K F wo) (LO X.K F wl) D O H:=fun⟨G,M,P,R,k,ok⟩=>by refine⟨G,[],M,_,R,k,fun x M1 n p J L q s t u=>⟨n,p,M1,_,s,q,fun lo M2 v N w c R2 d=>?_⟩⟩;obtain⟨r,y,c⟩:=aE c;obtain⟨o,e,c⟩:=aE c;obtain⟨i,z,c⟩:=aE c;obtain⟨a,rfl,f⟩:=(u.stp d).adr y;obtain⟨b,h,A,Q⟩:=R2.ob r o e;rw[f] at h;cases h;cases o with|dic l=>exact c.elim|lst l=>obtain⟨j,B,m⟩:=A;obtain⟨⟨C,h1⟩,c⟩:=c;refine⟨a,j,i,rfl,z,B,C,by rw[m.len];exact h1,?_⟩;have E:=R2.chg (o':=.lst (l.take i.toNat)) e f (H':=ak w a (.lst (j.take i.toNat))) (fun b I=>ay I) ⟨_,aJ,m.take _⟩;exact ok.nx _ v O _ c (E.cut 0) (t.g.trans d.g)
def Ci (Z:TW):bU:=fun M k=>Z M fun a M1=>iu (dj M.tmp.length M1 a) fun t M2=>match t with
 | .tup l=>k l.reverse M2
 |_=>False
theorem LI.revT {R:It->Hp->Prop}:LI X.K F (Ci Z) O H R->Cm X.K (je (LE X.K F Z) gC) O H R:=fun⟨G,s,M,L,p,k,q⟩=>by
 refine⟨G,s,M,_,p,k,fun N M1 P Q v w f y z A=>?_⟩;obtain⟨t,M2,B,f⟩:=iz f;obtain⟨C,R2,D,S,E⟩:=y.frz p.lt z A B;cases E with
 | @tup a b l h r=>
  refine⟨a,b,rfl,.of (R2.sub _ _ h),q _ _ C _ w f R2 D.g ⟨fun i j H' c d m=>?_,fun j H' c d=>by rw[XQ,<- r.len];rfl,fun i u j H' x T c d n o=>?_⟩⟩;rw[XQ,<- r.len] at m;exact⟨m,b,b[b.length-1-i],.of ((c.trans d) _ _ h),Xc (by omega)⟩;obtain⟨rfl,o⟩:=o;have m:i<l.length:=by have:=(Xe.mp n).1;simpa using this
  rw[List.getElem?_reverse m] at n;obtain⟨U,I,J⟩:=r.get n;have:=o b (.of ((c.trans d) _ _ h));rw[r.len,I] at this;cases this;exact⟨j,Same.refl _,d,Same.refl _,fun _ _ e=>.inl e,J.mono c⟩
 |_=>exact f.elim
noncomputable def yF:Tv->Rz
 | .dic l=>.ex fun r=>∃a:List Str,l.map (·.1)=a.map Sum.inr/\(a.all fun x=>decide (x.length<=16777216))=true/\r=.v (.tup (a.map fun x=>.at (.str x)))
 |_=>.no
def qF:V->Hp->VK->Prop:=fun x H Q=>∃p kvs b,x=.ref p/\H p=some (.dK kvs)/\kvs.map (·.1)=(b:List Str).map Sum.inr/\∀a,H a=none->Q (.ref a) (ak H a (.tup (b.map V.str)))
theorem IsKs.keys {a:List (aj×V)}:∀{ts:List (aj×Tv)},IsKs K G a ts->a.map (·.1)=ts.map (·.1):=by induction a with|nil=>(intro ts h;cases h;rfl)|cons v a b=>intro ts h;cases h with|cons _ r=>rw[Xp,Xp,b r]
theorem Dy:∀a:List Str,(a.all fun x=>decide (x.length<=16777216))=true->IsTs K G (a.map V.str) (a.map fun x=>.at (.str x))
 |[],_=>.nil
 |x::a,h=>by rw[all_cons,W4] at h;exact .cons (.at h.1) (Dy a h.2)
theorem Rw:jd K yF qF:=fun G H x t s Q b h1 e q=>by
 unfold yF at e;split at e
 .next l=>
  cases e with|ex h=>
  obtain⟨c,d,hz,rfl⟩:=h;obtain⟨a,kvs,rfl,f,g⟩:=h1.dic b;exact⟨a,kvs,c,rfl,f,g.keys.trans d,vN b (Dy c hz) q⟩
 cases e
noncomputable def KW:Tv->Option Str
 | .at (.str x)=>some x
 |_=>none
theorem PM (h:KW t=some x):t=.at (.str x):=by cases t with| «at» v=>(cases v with|str i=>(cases h;rfl)|_=>cases h)|_=>cases h
def sA (p:Tv->Ms->Option Ms)(c:cP)(wk Q:TW)(k:List (aj×Tv)->Ms->Prop):List Tv->List (aj×Tv)->Ms->Prop
 |[],a,M=>k a M
 |t::ts,a,M=>aG (p t M) fun M1=>c M1 fun b M2=>if b=true then wk M2 fun e d=>aG (rd d e) fun kt=>aG (KW kt) fun x=>Q d fun f g=>iu (dj 0 g f) fun y h=>sA p c wk Q k ts (eU a (.inr x) y) h else sA p c wk Q k ts a M2
def Dw (af:List Nat)(own:Nat)(U:bU)(p:Tv->Ms->Option Ms)(b:cP)(wk Q:TW):TW:=fun M k=>U M fun ts M1=>ts.length<=16777216/\aG (p9 M1 af) fun c=>aG (oK M1.tmp.length M1 c) fun a=>lr a=true ∧sA p b wk Q (fun d e=>aG (eW (a.map (·.1)) e.out) fun f=>ow M1.tmp.length (wb M1 a f) k (.own (.dic d))) ts [] (aR (af.length+own) (a.map (·.1)))
theorem PL (l:List (aj×V))(k:aj)(t:V):(cf l k t).length<=l.length+1:=by unfold cf;split;rw[Xa];lia;simp
theorem LE.compD {m:Nat}{U:bU}{p:Tv->Ms->Option Ms}{V:cP}{wk:TW}(W:N'.length=af.length+m){O:St}{H:Hp}{a0:VK}:LE X.K F (Dw af m U p V wk Q) O H a0->yX (af.map some++List.replicate m none) (LI X.K F U) (oW X.K p) (oX X.K V) (lJ X.K wk) (lJ X.K Q) O H a0:=fun⟨G,j,M,K0,R,k,q⟩=>by
 refine⟨G,j,M,_,R,k,fun ts M1 A J H1 d r s1 Y=>?_⟩;obtain⟨hts,d⟩:=d;obtain⟨dR,h1,d⟩:=aE d;obtain⟨C,h2,ok,d⟩:=aE d;obtain⟨Z,e1,e2⟩:=r.vars h1;obtain⟨as,g1,g2,g3,g4⟩:=r.args e2 h2 ok;have s:Z.length=af.length:=by have:=Yd List.length e1;simpa using this.symm
 have hal:(C.map (·.1)).length=af.length:=by rw[<- g2.len,s]
 have st:mV (af.map some++List.replicate m none) O=f9 N' Z:=by rw[zW,e1,zV,W,s];congr 2;lia
 have E:=wx (N:=N') r.sub g2 g3 (by rw[hal,W];lia);rw[W] at E;rw[st];refine⟨fun i n c u H=>n+i=ts.length/\c.length<=i/\∃Gc f w,Rel X.K ⟨H1,A,as⟩ Gc [] f u H/\IsKs X.K Gc c w/\Same A Gc/\sA p V wk Q (fun c f=>aG (eW (C.map (·.1)) f.out) fun ss=>ow M1.tmp.length (wb M1 C ss) K0 (.own (.dic c))) (ts.drop i) w f,⟨ts.length,by lia,Xw _,A,_,[],E,.nil,Same.refl _,d⟩,?_⟩;rintro i n c u D ⟨hn,hyl,I,f,w,R2,hy,h,a⟩;rcases Nat.lt_or_ge i ts.length with L|L;right;refine⟨Y.go i I D h R2.sub L,by rw[XD];lia,fun x H' hx=>?_⟩;have ht:=Xc L;obtain⟨G3,y,z2,z3,z4,z5⟩:=Y.yld i _ I D x H' h R2.sub ht hx;have R3:=R2.more y z2 z3 z4;rw[v5 ht] at a;obtain⟨M3,e3,a⟩:=aE a;refine⟨_,G3,f,_,M3,R3,z5,e3,fun σ4 R4=>⟨_,G3,[],M3,_,R4,a,fun b P G5 H5 k5 S T=>?_⟩⟩;cases b with
 |true=>
  refine⟨_,G5,[],P,_,S,k5,fun kv M6 G6 t6 WD H6 z R6 s6 e6=>?_⟩;obtain⟨kt,hk,z⟩:=aE z;obtain⟨x',et,z⟩:=aE z;cases PM et;obtain⟨rfl,_⟩:=(R6.rd e6 hk).at;refine⟨_,G6,t6,M6,_,R6,z,fun ev M7 G7 t7 v H7 k7 R7 s7 e7=>?_⟩;obtain⟨t,M8,h8,k7⟩:=iz k7;have l5:P.tmp.length=0:=S.lt;have MA:dj P.tmp.length M7 ev=some (t,M8):=by rw[l5];exact h8
  obtain⟨G8,R8,s8,s8',t8⟩:=R7.frz S.lt (s6.trans s7) e7 MA;refine⟨x',rfl,n-1,by lia,by lia,?_,G8,M8,_,R8,(hy.mono (y.trans (T.trans s8.g))).put t8,h.trans (y.trans (T.trans s8.g)),k7⟩;have:=PL c (.inr x') v;lia
 |false=>exact⟨n-1,by lia,by lia,by lia,G5,P,w,S,hy.mono (y.trans T),h.trans (y.trans T),k5⟩
 left;have hi':i=ts.length:=by lia
 refine⟨by rw[hi'];exact Y.stop I D h R2.sub,fun l hl=>?_⟩;rw[YD L] at a;obtain⟨ss,e3,a⟩:=aE a;have nE:M1.tmp.length=j.length:=r.lt;rw[nE] at g4 a;have tD:Rel X.K F A (j++[]) M1 O H1:=by rw[Xm];exact r
 have rM:RAs F (j++[]) O M1 C Z as:=by rw[Xm];exact g1
 have B:=tD.back rM (R2.aps g2 e3) R2.post g4;have B2:=B.1.push (o:=.dic w) hl (H':=ak D l (.dK c)) (fun b x e=>by rw[ay (bL e hl)];exact e) ⟨c,aJ,hy⟩;refine q _ _ I (j++[l]) _ _ a (by rw[qa];exact B2) ⟨s1.trans h,[l],rfl⟩ ⟨l,?_,rfl⟩;rw[Xr (W9 _)];simp
end
def oo {q : Type}:List q -> (List q -> Prop)->Prop
 |[],k=>k []
 |a::l,k=>oo l fun b=>k (a::b)
def uI (M:Ms)(k:Ms->Prop):Prop:=match M with
 |⟨e,o,t⟩=>oo e fun a=>oo o fun o'=>oo t fun t'=>k ⟨a,o',t'⟩
theorem vK:∀{l:List q}{k:List q -> Prop},oo l k=k l
 |[],_=>rfl
 |a::l,k=>by unfold oo;rw[vK]
theorem zx {k:Ms->Prop}:uI M k=k M:=by cases M;show oo _ _=_;rw[vK,vK,vK]
def AI (w:bU):bU:=fun M k=>uI M fun I=>w I k
theorem PJ (w:bU):AI w=w:=by funext M k;exact zx
def AH (w:iB):iB:=fun M k=>uI M fun I=>w I k
theorem PH (w:iB):AH w=w:=by funext M k;exact zx
inductive O2 where
 |add|sub|mul|fdiv|mod|pow
inductive C2 where
 |eq|ne|lt|le|gt|ge|isin|notin
inductive F1 where
 |len|list|tuple|sum|all|int|dict|repr|tdic
inductive Mt where
 |app|pop|ext
inductive IE where
 |var (i:Nat)|cst (v:V)
 |bin (o:O2) (a b:IE)|cmp (o:C2) (a b:IE)|ix (a b:IE)|dg (a b:IE)|b1 (f:F1) (a:IE)
 |and (a b:IE)|or (a b:IE)|not (a:IE)
 |nil|cons (a r:IE)|tup (r:IE)|lst (r:IE)
 |call (j:Nat) (r:IE)|mth (m:Mt) (o r:IE)
 |comp (af:List Nat) (own:List Str) (p:Pt) (it c e:IE)
 |cmpv (af:List Nat) (own:List Str) (p:Pt) (i:Nat) (c e:IE)
 |compd (af:List Nat) (own:List Str) (p:Pt) (it c k e:IE)
 |tt|neg (a:IE)|isi (T:String) (a:IE)|slc (a lo hi:IE)|rng (a:IE)
 |chn (o o':C2) (a b c:IE)|dnew|dct (ks:List Str) (r:IE)|glb (j:Nat)|rvs (b:Bool) (a:IE)|idx (a r:IE)|rev (a:IE)|enu (a:IE)|get (d k z:IE)|zip (r:IE)|callv (j i:Nat) (r:IE)|rvt (a:IE)
noncomputable abbrev IE.v (i:Nat):IE:=.var i
noncomputable abbrev IE.s (x:Str):IE:=.cst (.str x)
noncomputable abbrev IE.n (i:Int):IE:=.cst (.int i)
noncomputable abbrev IE.k (a r:IE):IE:=.cons a r
noncomputable abbrev IE.o:IE:=.nil
noncomputable abbrev Pt.k (a r:Pt):Pt:=.cons a r
noncomputable abbrev Pt.o:Pt:=.nil
noncomputable def O2.op:O2->Operator
 | .add=>.Add | .sub=>.Sub | .mul=>.Mult | .fdiv=>.FloorDiv | .mod=>.Mod | .pow=>.Pow
def O2.f:O2->Tv->Tv->Rz
 | .add=>K5
 | .sub=>p4 fun i j=>.int (i-j)
 | .mul=>jz (sf CMul fun i j=>.int (i*j)) (jz KZ CU)
 | .fdiv=>sf yL fun i j=>.int (i / j)
 | .mod=>sf (fun _ j=>0<j) fun i j=>.int (i % j)
 | .pow=>sf KD fun i j=>.int (i ^ j.toNat)
noncomputable def C2.op:C2->CmpOp
 | .eq=>.Eq | .ne=>.NotEq | .lt=>.Lt | .le=>.LtE | .gt=>.Gt | .ge=>.GtE | .isin=>.In | .notin=>.NotIn
def C2.f:C2->Tv->Tv->Rz
 | .eq=>jz (pJ false) (jz (uy false) (uz false))
 | .ne=>jz (pJ true) (jz (uy true) (uz true))
 | .lt=>p4 fun i j=>.bl (decide (i<j))
 | .le=>jz (p4 fun i j=>.bl (decide (i<=j))) (yx fun i j => !decide (j.cps.toList<i.cps.toList))
 | .gt=>jz (p4 fun i j=>.bl (decide (j<i))) (yx fun i j=>decide (j.cps.toList<i.cps.toList))
 | .ge=>p4 fun i j=>.bl (decide (j<=i))
 | .isin=>xr false
 | .notin=>xr true
def F1.f:F1->Tv->Rz
 | .len=>K4
 | .list=>yI
 | .tuple=>y4
 | .sum=>AN
 | .all=>AM
 | .int=>yH
 | .dict=>yG
 | .repr=>Cn
 | .tdic=>yF
noncomputable def F1.nm:F1->Str
 | .len=>"len" | .list=>"list" | .tuple=>"tuple" | .sum=>"sum" | .all=>"all" | .int=>"int" | .dict=>"dict" | .repr=>"repr" | .tdic=>"tuple"
def Mt.f:Mt->Ob->List Tv->Option (Prop×Ob×Tv)
 | .app=>K3
 | .pop=>ou
 | .ext=>KY
noncomputable def Mt.nm:Mt->Str
 | .app=>"append" | .pop=>"pop" | .ext=>"extend"
structure Gm where
 bl:List Str
 fns:List (Str×aK)
 kt:List String:=[]
 gl:List (Str×Tv):=[]
 fv:List ((Addr->Prop)×(Addr->aK)):=[]
structure Sm where
 e:TW
 t:cP
 f:bU
 a:iB
 i:bU
 o:lH:=fun _ _=>False
def iY:TW:=fun _ _=>False
def kH:cP:=fun _ _=>False
def dY:bU:=fun _ _=>False
def fg:iB:=fun _ _=>False
def g9:lH:=fun _ _=>False
noncomputable def da (w:TW):Sm:=⟨w,Ku w,dY,fg,wW w,Ct w⟩
noncomputable def MO (w:TW):Sm:=⟨w,uK w,dY,fg,dY,g9⟩
def Gm.sp (a : Gm)(j:Nat):aK:=match a.fns[j]? with
 |some p=>p.2
 |none=>fun _ _=>False
def yW (i:Nat)(wr:iB)(p:(Addr->Prop)×(Addr->aK)):TW:=fun M k=>∃a,M.env[i]?=some (some (.fz (.fnv a)))/\p.1 a/\uW (p.2 a) wr M k
noncomputable def aq (g : Gm):IE->Sm
 | .var i=>da (pM i)
 | .cst v=>da (wC (.at v))
 | .bin o a b=>da (mI o.f (aq g a).e (aq g b).e)
 | .cmp o a b=>⟨mI o.f (aq g a).e (aq g b).e,uK (mI o.f (aq g a).e (aq g b).e),dY,fg,dY,g9⟩
 | .ix a b=>da (mI Br (aq g a).e (aq g b).e)
 | .dg a b=>da (mI yq (aq g a).e (aq g b).e)
 | .b1 f a=>da (lN f.f (aq g a).e)
 | .and a b=>⟨Cr (aq g a).e (aq g b).e,Kt (aq g a).t (aq g b).t,dY,fg,dY,g9⟩
 | .or a b=>⟨Kf (aq g a).e (aq g b).e,A8 (aq g a).t (aq g b).t,dY,fg,dY,g9⟩
 | .not a=>⟨Cq (aq g a).e,Ks (aq g a).t,dY,fg,dY,g9⟩
 | .nil=>⟨iY,kH,yK,Kx,dY,Ki⟩
 | .cons a r=>⟨iY,kH,sF (aq g a).e (AI (aq g r).f),uY (aq g a).e (AH (aq g r).a),dY,g9⟩
 | .tup r=>da (sk Kr (aq g r).f)
 | .lst r=>da (sk Kq (aq g r).f)
 | .call j r=>da (uW (g.sp j) (aq g r).a)
 | .mth m o r=>da (AR m.f (aq g o).e (aq g r).f)
 | .comp af own p it c e=>da (yJ af own.length (aq g it).i (bd p) (aq g c).t (aq g e).e)
 | .compd af own p it c k e=>da (Dw af own.length (aq g it).i (bd p) (aq g c).t (aq g k).e (aq g e).e)
 | .cmpv af own p i c e=>da (yY af own.length i (bd p) (aq g c).t (aq g e).e)
 | .tt=>⟨iY,fun M k=>k true M,dY,fg,dY,g9⟩
 | .neg a=>da (lN AL (aq g a).e)
 | .isi T a=>da (lN (AO T) (aq g a).e)
 | .slc a lo h=>da (Kh (aq g a).e (aq g lo).o (aq g h).o)
 | .rng a=>⟨iY,kH,dY,fg,Kg (aq g a).e,g9⟩
 | .chn o o' a b c=>MO (Ke o.f o'.f (aq g a).e (aq g b).e (aq g c).e)
 | .dnew=>da Co
 | .dct l r=>da (Kd l (aq g r).f)
 | .rvs b a=>da (lN (J9 b) (aq g a).e)
 | .idx a r=>da (J8 (aq g a).e (aq g r).f)
 | .glb j=>da (match g.gl[j]? with|some p=>wC p.2|none=>iY)
 | .rev a=>⟨iY,kH,dY,fg,Kc (aq g a).e,g9⟩
 | .rvt a=>⟨iY,kH,dY,fg,Ci (aq g a).e,g9⟩
 | .enu a=>⟨iY,kH,dY,fg,Kb (aq g a).e,g9⟩
 | .get d k z=>da (Ka (aq g d).e (aq g k).e (aq g z).e)
 | .zip r=>⟨iY,kH,dY,fg,J7 (aq g r).f,g9⟩
 | .callv j i r=>da (match g.fv[j]? with|some p=>yW i (aq g r).a p|none=>iY)
structure Cs where
 N:List Str
 names:List (Str×NameKind)
 fn:Bool
structure Ck where
 e:Expr->Bool
 t:Expr->Bool
 l:List Expr->Bool
 i:Expr->Expr->Bool
 ts:List Expr->Bool
 o:Option Expr->Bool:=fun _=>false
noncomputable def gj:List Expr->Bool:=fun _=>false
noncomputable def gk:Expr->Bool:=fun _=>false
noncomputable def qP:Expr->Expr->Bool:=fun _ _=>false
noncomputable def sy:Expr->Bool
 | .UnaryOp .Not _ _=>false
 | .BoolOp _ _ _=>false
 | .IfExp _ _ _ _=>false
 | .Compare _ _ _ _=>false
 |_=>true
noncomputable def bf:Expr->Bool
 | .Starred _ _=>false
 |_=>true
noncomputable def dW:Expr->Bool
 | .Set _ _ _=>false
 |_=>true
noncomputable def jU:Expr->Bool
 | .ListComp _ _ _ _=>false
 | .SetComp _ _ _ _=>false
 | .DictComp _ _ _ _ _=>false
 |_=>true
noncomputable def m4:Expr->Bool
 | .Slice _ _ _ _=>false
 |_=>true
noncomputable def Cs.gl (C:Cs)(x:Str):Bool:=C.names.lookup x==some .globalImplicit
noncomputable def Cs.vis (C:Cs)(x:Str):Bool:=match C.names.lookup x with
 |some .local=>true
 |some .cell=>true
 |some .free=>true
 |_=>false
noncomputable def Cs.loc (C:Cs)(x:Str):Bool:=match C.names.lookup x with
 |some .local=>true
 |some .cell=>C.fn
 |_=>false
noncomputable def gb (x:Str):Bool := !(x==("__debug__":Str)) && !(x==("__classdict__":Str)) && !(x==("__name__":Str))
noncomputable def ckP (C:Cs):Pt->Expr->Bool
 | .nm i,.Name x _=>C.N[i]? == some x&&C.loc x
 | .cons a b,.Tuple (e::es) _ _=>ckP C a e&&bf e&&ckPs C b es
 |_,_=>false
where ckPs (C:Cs):Pt->List Expr->Bool
 | .nil,[]=>true
 | .cons a b,e::es=>ckP C a e&&bf e&&ckPs C b es
 |_,_=>false
noncomputable def Cs.in (C:Cs)(scope:Scope)(N':List Str):Cs:=⟨N',scope.names.map fun(n,k)=>if (k==NameKind.free&&C.names.lookup n==some .cell) then (n,NameKind.cell) else (n,k),false⟩
noncomputable def ly:Expr->Bool
 | .Name _ _=>true
 | .Subscript _ _ _=>true
 |_=>false
noncomputable def AG:Mt->IE->List Expr->Bool
 | .app,_,[_]=>true
 | .ext,_,[_]=>true
 | .pop,.nil,[]=>true
 |_,_,_=>false
noncomputable def cx (c:Str->Bool):Expr->Bool
 | .Name x _=>c x
 |_=>false
noncomputable def J5 (c:Operator->Expr->Expr->Bool):Expr->Bool
 | .BinOp l op r _=>c op l r
 |_=>false
noncomputable def uH (c:CmpOp->Expr->Expr->Bool):Expr->Bool
 | .Compare l [op] [r] _=>c op l r
 |_=>false
noncomputable def ka (c:Expr->Expr->Bool):Expr->Bool
 | .Subscript a b _=>c a b
 |_=>false
noncomputable def iR (c:Expr->List Expr->Pos->Bool):Expr->Bool
 | .Call f es [] p=>c f es p
 |_=>false
noncomputable def oC (c:Expr->Str->Pos->Bool):Expr->Bool
 | .Attribute o x p=>c o x p
 |_=>false
noncomputable def fw (c:Expr->Bool):List Expr->Bool
 |[e]=>c e
 |_=>false
noncomputable def pR (c:List Expr->Bool):List Expr->Bool
 |[]=>false
 |e::es=>c (e::es)
noncomputable def sr (o:BoolOp)(a b:Expr->Bool):Expr->Bool
 | .BoolOp op s p=>match s with
  |l::r=>op==o&&a l&&(match r with | []=>false | [x]=>b x|x::y::z=>b (.BoolOp op (x::y::z) p))
  |_=>false
 |_=>false
noncomputable def AF (c:Expr->Bool):Expr->Bool
 | .UnaryOp .Not r _=>c r
 |_=>false
noncomputable def AE:List Expr->Bool
 |[]=>true
 |_=>false
def Cg (a:Expr->Bool)(r:List Expr->Bool):List Expr->Bool
 |e::es=>a e&&bf e&&r es
 |_=>false
noncomputable def J4 (c:List Expr->Bool):Expr->Bool
 | .Tuple es _ _=>c es&&decide (es.length<=1000)
 |_=>false
noncomputable def J3 (c:List Expr->Bool):Expr->Bool
 | .List es _=>c es&&decide (es.length<=1000)
 |_=>false
noncomputable def yE (c:Expr->Expr->Expr->List Expr->Scope->Bool):Expr->Bool
 | .ListComp elt [⟨B,iter,ifs,n⟩] scope _=>n==0&&c elt B iter ifs scope
 |_=>false
noncomputable def Dv (c:Expr->Expr->Expr->Expr->List Expr->Scope->Bool):Expr->Bool
 | .DictComp kx vx [⟨B,iter,ifs,n⟩] scope _=>n==0&&c kx vx B iter ifs scope
 |_=>false
noncomputable def yy (c:Expr->Bool):Option Expr->Bool
 |some e=>c e
 |none=>false
noncomputable def oa:Option Expr->Bool
 |some _=>false
 |none=>true
noncomputable def kI:Option Expr->Bool:=fun _=>false
def de (c:Expr->Bool):Ck:=⟨c,fun e=>c e&&sy e,gj,fun _ e=>c e,fw fun e=>c e&&sy e,yy c⟩
noncomputable def bu (C:Cs)(af:List Nat)(own:List Str):List Str:=(af.map fun j=>(C.N[j]?).getD ("":Str))++own
def rZ (e c:Expr->Bool):Ck:=⟨e,c,gj,qP,fw c,kI⟩
noncomputable def uG (c:CmpOp->CmpOp->Expr->Expr->Expr->Bool):Expr->Bool
 | .Compare l [op,a] [m,r] _=>c op a l m r
 |_=>false
noncomputable def Bq:Expr->Bool
 | .Dict [] [] _=>true
 |_=>false
noncomputable def Cf (c:List (Option Expr)->List Expr->Bool):Expr->Bool
 | .Dict a b _=>c a b
 |_=>false
noncomputable def oJ:List Str->List (Option Expr)->Bool
 |[],[]=>true
 |k::a,some e::es=>mR e==some (.str k)&&oJ a es
 |_,_=>false
noncomputable def wM (c:Expr->Bool):Expr->Bool
 | .UnaryOp .USub r _=>c r
 |_=>false
noncomputable def oz (c:Expr->Expr->Bool):List Expr->Bool
 |[a,b]=>c a b
 |_=>false
noncomputable def tW (c:Option Expr->Option Expr->Option Expr->Bool):Expr->Bool
 | .Slice u v d _=>c u v d
 |_=>false
def KU (a:Expr->Bool)(l h:Option Expr->Bool):Expr->Bool:=ka fun x s=>tW (fun u v d=>a x&&l u&&h v&&oa d) s
noncomputable def vg:Expr->Bool
 | .Tuple _ _ _=>false
 |_=>true
def KS (c:Expr->Bool):Expr->Bool:=ka fun x s=>tW (fun u v d=>oa u&&oa v&&yy (wM fun r=>mR r==some (.int 1)) d&&c x) s
noncomputable def pL (T:String):Bool:=["int","bool","str","tuple","list","dict"].contains T
noncomputable def ck (h : Gm):IE->Cs->Ck
 | .var i,C=>de (cx fun x=>C.N[i]? == some x&&C.vis x&&gb x)
 | .cst v,C=>de fun e=>mR e==some v&&mj v
 | .bin o a b,C=>de (J5 fun op l r=>op==o.op&&(ck h a C).e l&&(ck h b C).e r)
 | .cmp o a b,C=>⟨uH fun op l r=>op==o.op&&(ck h a C).e l&&(ck h b C).e r&&dW r,uH fun op l r=>op==o.op&&(ck h a C).e l&&(ck h b C).e r&&dW r,gj,qP,fw (uH fun op l r=>op==o.op&&(ck h a C).e l&&(ck h b C).e r&&dW r),kI⟩
 | .ix a b,C=>de (ka fun l r=>(ck h a C).e l&&(ck h b C).e r&&m4 r)
 | .dg a b,C=>de (ka fun l r=>(ck h a C).e l&&(ck h b C).e r&&m4 r)
 | .b1 f a,C=>de (iR fun g es _=>cx (fun x=>x==f.nm&&C.gl x && h.bl.contains x) g&&fw (fun r=>(ck h a C).e r&&bf r) es)
 | .and a b,C=>rZ (sr .And (ck h a C).e (ck h b C).e) (sr .And (ck h a C).t (ck h b C).t)
 | .or a b,C=>rZ (sr .Or (ck h a C).e (ck h b C).e) (sr .Or (ck h a C).t (ck h b C).t)
 | .not a,C=>rZ (AF (ck h a C).e) (AF (ck h a C).t)
 | .nil,_=>⟨gk,gk,AE,qP,gj,oa⟩
 | .cons a r,C=>⟨gk,gk,Cg (ck h a C).e (ck h r C).l,qP,gj,kI⟩
 | .tup r,C=>de (J4 (ck h r C).l)
 | .lst r,C=>de (J3 (ck h r C).l)
 | .call j r,C=>de (iR fun g es _=>cx (fun x=>(h.fns[j]?).map (·.1)==some x&&C.gl x&&gb x) g&&pR (ck h r C).l es)
 | .mth m o r,C=>de (iR fun g es n=>oC (fun l x q=>x==m.nm&&(ck h o C).e l&&ly l&&q.endLine==n.line) g&&(ck h r C).l es&&AG m r es)
 | .comp af own p it c e,C=>de (yE fun elt B iter ifs scope=>jX (fun x=>C.names.lookup x) C.N scope (bu C af own) (af.map some++List.replicate own.length none)&&(ck h it C).i B iter&&dW iter&&ckP (C.in scope (bu C af own)) p B&&(ck h c (C.in scope (bu C af own))).ts ifs&&(ck h e (C.in scope (bu C af own))).e elt&&decide (bu C af own).Nodup)
 | .compd af own p it c k e,C=>de (Dv fun kx vx B iter ifs scope=>jX (fun x=>C.names.lookup x) C.N scope (bu C af own) (af.map some++List.replicate own.length none)&&(ck h it C).i B iter&&dW iter&&ckP (C.in scope (bu C af own)) p B&&(ck h c (C.in scope (bu C af own))).ts ifs&&(ck h k (C.in scope (bu C af own))).e kx&&(ck h e (C.in scope (bu C af own))).e vx&&decide (bu C af own).Nodup)
 | .cmpv af own p i c e,C=>de (yE fun elt B iter ifs scope=>jX (fun x=>C.names.lookup x) C.N scope (bu C af own) (af.map some++List.replicate own.length none)&&cx (fun x=>C.N[i]? == some x&&C.vis x&&gb x) iter&&dW iter&&ckP (C.in scope (bu C af own)) p B&&(ck h c (C.in scope (bu C af own))).ts ifs&&(ck h e (C.in scope (bu C af own))).e elt&&decide (bu C af own).Nodup)
 | .tt,_=>⟨gk,gk,gj,qP,AE,kI⟩
 | .neg a,C=>de (wM (ck h a C).e)
 | .isi T a,C=>de (iR fun g es _=>cx (fun x=>x==("isinstance":Str)&&C.gl x && h.bl.contains x) g&&oz (fun r y=>(ck h a C).e r&&bf r&&cx (fun z=>z==Str.ofString T&&C.gl z && h.bl.contains z) y && h.kt.contains T&&pL T) es)
 | .slc a lo A,C=>de (KU (ck h a C).e (ck h lo C).o (ck h A C).o)
 | .rng a,C=>⟨gk,gk,gj,fun _=>iR fun g es _=>cx (fun x=>x==("range":Str)&&C.gl x && h.bl.contains x) g&&fw (fun r=>(ck h a C).e r&&bf r) es,gj,kI⟩
 | .chn o o' a b c,C=>rZ (uG fun op s l m r=>op==o.op&&s==o'.op&&(ck h a C).e l&&(ck h b C).e m&&(ck h c C).e r&&dW r) (uG fun op s l m r=>op==o.op&&s==o'.op&&(ck h a C).e l&&(ck h b C).e m&&(ck h c C).e r&&dW r)
 | .dnew,_=>de Bq
 | .dct u r,C=>de (Cf fun es w=>oJ u es&&(ck h r C).l w&&decide (u.length<=15) && !u.isEmpty&&es.length==w.length)
 | .rvs _ a,C=>de (KS (ck h a C).e)
 | .idx a r,C=>de (iR fun g es n=>oC (fun l x q=>x==("index":Str)&&(ck h a C).e l&&ly l&&q.endLine==n.line) g&&(ck h r C).l es&&fw (fun _=>true) es)
 | .zip r,C=>⟨gk,gk,gj,fun B=>iR fun g es _=>cx (fun x=>x==("zip":Str)&&C.gl x && h.bl.contains x) g&&(ck h r C).l es&&oz (fun _ _=>true) es && !vg B,gj,kI⟩
 | .glb j,C=>de (cx fun x=>(h.gl[j]?).map (·.1)==some x&&C.gl x&&gb x)
 | .rev a,C=>⟨gk,gk,gj,fun _=>iR fun g es _=>cx (fun x=>x==("reversed":Str)&&C.gl x && h.bl.contains x) g&&fw (fun r=>(ck h a C).e r&&bf r) es,gj,kI⟩
 | .rvt a,C=>⟨gk,gk,gj,fun _=>iR fun g es _=>cx (fun x=>x==("reversed":Str)&&C.gl x && h.bl.contains x) g&&fw (fun r=>(ck h a C).e r&&bf r) es,gj,kI⟩
 | .enu a,C=>⟨gk,gk,gj,fun B=>iR fun g es _=>cx (fun x=>x==("enumerate":Str)&&C.gl x && h.bl.contains x) g&&fw (fun r=>(ck h a C).e r&&bf r) es && !vg B,gj,kI⟩
 | .get d k z,C=>de (iR fun g es n=>oC (fun l x q=>x==("get":Str)&&(ck h d C).e l&&ly l&&q.endLine==n.line) g&&oz (fun a b=>(ck h k C).e a&&bf a&&(ck h z C).e b&&bf b) es)
 | .callv j i r,C=>de (iR fun g es _=>cx (fun x=>C.N[i]? == some x&&C.vis x&&gb x) g&&(h.fv[j]?).isSome&&pR (ck h r C).l es)
variable {R:Gm}
theorem PC {c:CmpOp->CmpOp->Expr->Expr->Expr->Bool}(h:uG c e=true):∃l op d m r p,e=.Compare l [op,d] [m,r] p/\c op d l m r=true:=by cases e with|Compare l a b p=>(rcases a with _|⟨o,_|⟨q,_|_⟩⟩ <;> rcases b with _|⟨m,_|⟨r,_|_⟩⟩ <;> first|exact⟨_,_,_,_,_,_,rfl,h⟩|exact(W6 h).elim)|_=>exact(W6 h).elim
theorem ND (h:Bq e=true):∃p,e=.Dict [] [] p:=by cases e with|Dict a b p=>(cases a <;> cases b <;> first|exact⟨_,rfl⟩|exact(W6 h).elim)|_=>exact(W6 h).elim
theorem Rv {c:List (Option Expr)->List Expr->Bool}(h:Cf c e=true):∃a b p,e=.Dict a b p/\c a b=true:=by cases e with|Dict a b p=>exact⟨_,_,_,rfl,h⟩|_=>exact(W6 h).elim
theorem DX {o:Option Expr}(h:yy c o=true):∃e,o=some e/\c e=true:=by cases o with|none=>cases h|some e=>exact⟨e,rfl,h⟩
theorem pQ {o:Option Expr}(h:oa o=true):o=none:=by cases o with|none=>rfl|some e=>cases h
theorem CT (h:wM c e=true):∃r p,e=.UnaryOp .USub r p/\c r=true:=by cases e with|UnaryOp o r p=>(cases o with|USub=>exact⟨_,_,rfl,h⟩|_=>exact(W6 h).elim)|_=>exact(W6 h).elim
theorem zw {c:Expr->Expr->Bool}(h:oz c es=true):∃a b,es=[a,b]/\c a b=true:=by rcases es with _|⟨a,_|⟨b,_|_⟩⟩ <;> first|exact⟨_,_,rfl,h⟩|exact(W6 h).elim
theorem gz {c:Str->Bool}(h:cx c e=true):∃x p,e=.Name x p/\c x=true:=by cases e with|Name x p=>exact⟨_,_,rfl,h⟩|_=>exact(W6 h).elim
theorem Pz {c:Operator->Expr->Expr->Bool}(h:J5 c e=true):∃l op r p,e=.BinOp l op r p/\c op l r=true:=by cases e with|BinOp l op r p=>exact⟨_,_,_,_,rfl,h⟩|_=>exact(W6 h).elim
theorem Py {c:CmpOp->Expr->Expr->Bool}(h:uH c e=true):∃l op r p,e=.Compare l [op] [r] p/\c op l r=true:=by cases e with|Compare l a b p=>(rcases a with _|⟨o,_|_⟩ <;> rcases b with _|⟨r,_|_⟩ <;> first|exact⟨_,_,_,_,rfl,h⟩|exact(W6 h).elim)|_=>exact(W6 h).elim
theorem oI {c:Expr->Expr->Bool}(h:ka c e=true):∃a b p,e=.Subscript a b p/\c a b=true:=by cases e with|Subscript a b p=>exact⟨_,_,_,rfl,h⟩|_=>exact(W6 h).elim
theorem nq {c:Option Expr->Option Expr->Option Expr->Bool}(h:tW c e=true):∃u v d p,e=.Slice u v d p/\c u v d=true:=by cases e with|Slice u v d p=>exact⟨_,_,_,_,rfl,h⟩|_=>exact(W6 h).elim
theorem PF (h:KS c e=true):∃x st a p,e=.Subscript x (.Slice none none (some st) a) p/\c x=true/\wM (fun r=>mR r==some (.int 1)) st=true:=by obtain⟨x,s,p,rfl,f⟩:=oI h;obtain⟨u,v,d,r,rfl,g⟩:=nq f;simp only [W4] at g;obtain rfl:=pQ g.1.1.1;obtain rfl:=pQ g.1.1.2;obtain⟨y,rfl,i⟩:=DX g.1.2;exact⟨_,_,_,_,rfl,g.2,i⟩
theorem PB {a:Expr->Bool}{l h:Option Expr->Bool}(q:KU a l h e=true):∃x lo b p c,e=.Subscript x (.Slice lo b none c) p/\a x=true/\l lo=true/\h b=true:=by obtain⟨x,s,p,rfl,f⟩:=oI q;obtain⟨u,v,d,r,rfl,g⟩:=nq f;simp only [W4] at g;obtain rfl:=pQ g.2;exact⟨_,_,_,_,_,rfl,g.1.1.1,g.1.1.2,g.1.2⟩
theorem jk {c:Expr->List Expr->Pos->Bool}(h:iR c e=true):∃f es p,e=.Call f es [] p/\c f es p=true:=by cases e with|Call f es a p=>(cases a with|nil=>exact⟨_,_,_,rfl,h⟩|cons _ _=>exact(W6 h).elim)|_=>exact(W6 h).elim
theorem zT {c:Expr->Str->Pos->Bool}(h:oC c e=true):∃o x p,e=.Attribute o x p/\c o x p=true:=by cases e with|Attribute o x p=>exact⟨_,_,_,rfl,h⟩|_=>exact(W6 h).elim
theorem kq (h:fw c es=true):∃e,es=[e]/\c e=true:=by unfold fw at h;split at h;exact⟨_,rfl,h⟩;cases h
theorem Gn {c:List Expr->Bool}(h:pR c es=true):∃e r,es=e::r/\c (e::r)=true:=by unfold pR at h;split at h;cases h;exact⟨_,_,rfl,h⟩
theorem vZ {o:BoolOp}{a b:Expr->Bool}(h:sr o a b e=true):∃l p,a l=true/\((∃x,e=.BoolOp o [l,x] p/\b x=true)∨∃x y z,e=.BoolOp o (l::x::y::z) p/\b (.BoolOp o (x::y::z) p)=true):=by cases e with|BoolOp op s p=>(cases s with|nil=>(cases h)|cons l r=>replace h:(_&&_&&_)=true:=h;simp only [W4,Xv] at h;obtain⟨⟨rfl,h1⟩,c⟩:=h;refine⟨l,p,h1,?_⟩;split at c;cases c;exact .inl ⟨_,rfl,c⟩;exact .inr ⟨_,_,_,rfl,c⟩)|_=>exact(W6 h).elim
theorem EY (h:AF c e=true):∃r p,e=.UnaryOp .Not r p/\c r=true:=by cases e with|UnaryOp o r p=>(cases o with|Not=>exact⟨_,_,rfl,h⟩|_=>exact(W6 h).elim)|_=>exact(W6 h).elim
theorem vJ (h:AE es=true):es=[]:=by cases es with|nil=>rfl|cons _ _=>cases h
theorem zS {a:Expr->Bool}{r:List Expr->Bool}(h:Cg a r es=true):∃x xs,es=x::xs/\a x=true/\bf x=true/\r xs=true:=by cases es with|nil=>(cases h)|cons x xs=>have h':(a x&&bf x&&r xs)=true:=h;simp only [W4] at h';exact⟨x,xs,rfl,h'.1.1,h'.1.2,h'.2⟩
theorem Px {c:List Expr->Bool}(h:J4 c e=true):∃es k p,e=.Tuple es k p/\c es=true/\es.length<=1000:=by cases e with|Tuple es k p=>have h:(_&&_)=true:=h;simp only [W4,Yq] at h;exact⟨_,_,_,rfl,h⟩|_=>exact(W6 h).elim
theorem Pw {c:List Expr->Bool}(h:J3 c e=true):∃es p,e=.List es p/\c es=true/\es.length<=1000:=by cases e with|List es p=>have h:(_&&_)=true:=h;simp only [W4,Yq] at h;exact⟨_,_,rfl,h⟩|_=>exact(W6 h).elim
theorem vY {c:Expr->Expr->Expr->List Expr->Scope->Bool}(h:yE c e=true):∃elt B iter ifs scope p,e=.ListComp elt [⟨B,iter,ifs,0⟩] scope p/\c elt B iter ifs scope=true:=by cases e with|ListComp elt a b p=>(rcases a with _|⟨⟨B,iter,ifs,n⟩,_|_⟩;exact(W6 h).elim;have h:(_&&_)=true:=h;simp only [W4,Xv] at h;obtain⟨rfl,h⟩:=h;exact⟨_,_,_,_,_,_,rfl,h⟩;exact(W6 h).elim)|_=>exact(W6 h).elim
theorem GY {c:Expr->Expr->Expr->Expr->List Expr->Scope->Bool}(h:Dv c e=true):∃kx vx B iter ifs scope p,e=.DictComp kx vx [⟨B,iter,ifs,0⟩] scope p/\c kx vx B iter ifs scope=true:=by cases e with|DictComp kx vx a b p=>(rcases a with _|⟨⟨B,iter,ifs,n⟩,_|_⟩;exact(W6 h).elim;have h:(_&&_)=true:=h;simp only [W4,Xv] at h;obtain⟨rfl,h⟩:=h;exact⟨_,_,_,_,_,_,_,rfl,h⟩;exact(W6 h).elim)|_=>exact(W6 h).elim
def Wv (X:Cx)(x:Str)(psp:aK):Prop:=∃k f Y ps,FnOk X.prog X.w X.K X.mg X.base dr k f Y ps (ff X.K psp)/\Room k X.A/\X.mg x=some (.ref f)/\PySem.W.keepIn X.K (.ref f)=true/\Binds X.K Y ps []
structure At (R : Gm)(C:Cs)(X:Cx):Prop where
 N:X.N=C.N
 nd:C.N.Nodup
 nm:X.env.scope.names=C.names
 kd:X.env.scope.kind=.function
 fn:C.fn=true->∀x,X.fn x=true
 calm:X.calm=true
 bl:∀x ∈ R.bl,X.mg x=none
 un:X.A.units+64<cLine
 gd:X.A.guards=some []
 kt:∀T ∈ R.kt,∀n ∈ ["NoneType","bool","int","str","tuple","list","dict"],PySem.W.kitOne X.K (.type n) (.type T)=some (nG n T)
 gl:∀p ∈ R.gl,∃v u,X.mg p.1=some u/\RelV v u/\∀G,IsT X.K G v p.2
 fns:∀p ∈ R.fns,Wv X p.1 p.2
 fv:∀p ∈ R.fv,∃k,Room k X.A/\∀a,p.1 a->∃Y ps,FnOk X.prog X.w X.K X.mg X.base dr k a Y ps (ff X.K (p.2 a))/\PySem.W.keepIn X.K (.ref a)=true/\Binds X.K Y ps []
section
variable {C:Cs}
structure j0 (R : Gm)(X:Cx)(F:Fr)(s:Sm)(c:Ck):Prop where
 e:∀e,c.e e=true->PE X e (LE X.K F s.e)
 t:∀e,c.t e=true->PT X e (LB X.K F s.t)
 l:∀es,c.l es=true->PA X es (LF X.K F es.length s.f)/\PA X es (LA X.K F s.a)
 i:∀B e,c.i B e=true->PI X B e (LI X.K F s.i)
 ts:∀es,c.ts es=true->PTs X es (LB X.K F s.t)
 o:∀e,c.o e=true->PO X e (LO X.K F s.o)
 p:∀ks es vs pos,oJ ks es=true->c.l vs=true->es.length=vs.length->∃d9,tE X pos es vs d9/\∀ O H Q,LP X.K F s.f ks O H Q->mX d9 O H Q
theorem Gk (h:sy e=true)(b:Sem Value):isTrue e env b=(do let v ← b;standAt e.pos;holding [v] (truthy v)):=by cases e with|UnaryOp op a p=>(cases op <;> first|rfl|cases h)|BoolOp _ _ _=>(cases h)|IfExp _ _ _ _=>(cases h)|Compare _ _ _ _=>(cases h)|_=>rfl
theorem b6 (h:bf e=true):starEach (e::es) env=(false,eval e env)::starEach es env:=by cases e <;> first|rfl|cases h
theorem oP (h:dW e=true)(x:Value):foldedSetIterable e env x=pure x:=by cases e <;> first|rfl|cases h
theorem HK (h:m4 e=true)(o i:Value):subscripted e false o i=operate [o,i] (getItem o i):=by cases e <;> first|rfl|cases h
theorem vf {op:CmpOp}(h:dW e=true):behindInMarks op e=false:=by cases e <;> first|rfl|cases h
theorem dm {w:TW}(h:∀e,c e=true->PE X e (LE X.K F w)):j0 R X F (da w) (de c) where
 e:=h
 t:=fun e he=>by have j6:(c e&&sy e)=true:=he;rw[W4] at j6;exact DB (zZ (h e j6.1) (Gk j6.2))
 l:=fun es z=>by cases z
 i:=fun B e he=>(y6 (h e he)).imp fun O H a0=>LI.seq
 ts:=fun es he=>by obtain⟨e,rfl,he⟩:=kq he;replace he:(c e&&sy e)=true:=he;rw[W4] at he;exact zC (DB (zZ (h e he.1) (Gk he.2)))
 o:=fun e he=>by obtain⟨e,rfl,he⟩:=DX he;exact P6 (h e he)
 p:=fun _ _ _ _ _ z=>by cases z
theorem At.var {pos:Pos}(A:At R C X)(h:(C.N[i]? == some x&&C.vis x&&gb x)=true):PE X (.Name x pos) (se i):=by
 simp only [W4,Xv] at h;obtain⟨⟨h1,a⟩,b⟩:=h;simp only [gb,W4,YZ] at b;refine DW (by rw[A.N];exact h1) ?_ b.1.1 b.1.2;unfold tq;rw[A.nm];unfold Cs.vis at a;split at a
 .next e=>exact .inl e
 .next e=>exact .inr (.inl e)
 .next e=>exact .inr (.inr e)
 cases a
theorem At.gl' (A:At R C X)(h:C.gl x=true):Gl X x:=by show X.env.scope.names.lookup x=_;rw[A.nm];exact eq_of_beq h
theorem qf:∀{r:IE}{es:List Expr},(ck R r C).l es=true->∀e∈es,bf e=true:=by intro r;induction r with|cons a r d c=>(intro es h x b;obtain⟨y,i,rfl,_,f,g⟩:=zS h;rcases Xj.mp b with rfl|b;exact f;exact c g x b)|nil=>(intro es h x b;rw[vJ h] at b;cases b)|_=>intro es h;cases h
theorem Gj {pos:Pos}(h:∀e∈es,bf e=true):(backTo pos (starEach es env)).any (·.1)=false:=by induction es with|nil=>rfl|cons e es a=>rw[b6 (h e W8)];show(false||(backTo pos (starEach es env)).any (·.1))=false;rw[a fun x b=>h x (W7 _ b)];rfl
theorem Pu {o:O2}{a b:Expr}{wb:TW}{pos:Pos}(c:PE X a (LE X.K F Z))(d:PE X b (LE X.K F wb)):PE X (.BinOp a o.op b pos) (LE X.K F (mI o.f Z wb)):=by cases o with|add=>exact lD (lB Qd c d) Qc|sub=>exact lD (lB ze c d) (sU fun _ _=>rfl)|mul=>exact lD (r:=oZ _ _) (lB (op_mul.or (op_rep.or Qk)) c d) (sC (vL fun _ _=>rfl) (sC PZ RD))|fdiv=>exact lD (lB RR c d) (vL fun _ _=>rfl)|mod=>exact lD (lB Om c d) (vL fun _ _=>rfl)|pow=>exact lD (lB Ol c d) (vL fun _ _=>rfl)
theorem ve {f g:Tv->Tv->Rz}{op:CmpOp}(h:OpR X (compareOp op) r/\dX X.K f r)(h':OpR X (compareOp op) J/\dX X.K g J):∃r,OpR X (compareOp op) r/\dX X.K (jz f g) r:=⟨oZ r J,h.1.or h'.1,sC h.2 h'.2⟩
theorem yV (b:X.A.units+64<cLine)(a:X.A.units<cLine):∀o:C2,∃r,OpR X (compareOp o.op) r/\dX X.K o.f r
 | .eq=>ve ⟨yO,NV⟩ ⟨(NH a).or (NS a),sC EZ E1⟩
 | .ne=>ve ⟨CG,NU⟩ ⟨(NG a).or (NR a),sC EZ E1⟩
 | .lt=>⟨_,MV,sU fun _ _=>rfl⟩
 | .le=>ve ⟨MU,sU fun _ _=>rfl⟩ ⟨Tp,E2⟩
 | .gt=>ve ⟨MT,sU fun _ _=>rfl⟩ ⟨To,E2⟩
 | .ge=>⟨_,MS,sU fun _ _=>rfl⟩
 | .isin=>⟨_,Tz,Dz⟩
 | .notin=>⟨_,Vm,Dz⟩
theorem NC {f:F1}{pos:Pos}(j:X.calm=true)(m:X.A.units+64<cLine)(n:X.A.guards=some [])(c:X.mg f.nm=none)(d:Gl X f.nm)(b:bf e=true)(o:PE X e (LE X.K F Z)):PE X (.Call (.Name f.nm p) [e] [] pos) (LE X.K F (lN f.f Z)):=by have g:PA X [e] (je (LE X.K F Z) gC):=fc o pa_nil (b6 b);cases f with|len=>exact kh ((sY Td d c PySem.boot_len g (he:=b6 b)).imp fun O H Q=>lC fun x H Q h=>⟨x,rfl,h⟩) Qb|list=>exact kh ((lG Vj d c (by decide+kernel) g (he:=b6 b)).imp fun O H Q=>lC fun x H Q z=>by obtain⟨p,l,e,h⟩:=z;exact ⟨p,l,by rw[e],h⟩) RF|tuple=>exact kh ((lG wL d c (by decide+kernel) g (he:=b6 b)).imp fun O H Q=>lC fun x H Q y=>by obtain⟨p,l,e,h⟩:=y;exact ⟨p,l,by rw[e],h⟩) Tc|sum=>exact kh ((sY (RN j) d c (by decide+kernel) g (he:=b6 b)).imp fun O H Q=>lC fun x H Q w=>by obtain⟨a,ns,e,h⟩:=w;exact ⟨a,ns,by rw[e],h⟩) P5|all=>exact kh ((sY (UW j) d c (by decide+kernel) g (he:=b6 b)).imp fun O H Q=>lC fun x H Q v=>by obtain⟨a,ns,e,h⟩:=v;exact ⟨a,ns,by rw[e],h⟩) P4|tdic=>exact kh ((lG (VI j) d c (by decide+kernel) g (he:=b6 b)).imp fun O H Q=>lC fun x H Q u=>by obtain⟨p,kvs,r,e,h⟩:=u;exact ⟨p,kvs,r,by rw[e],h⟩) Rw|repr=>exact kh ((sY (Tg n) d c (by decide+kernel) g (he:=b6 b)).imp fun O H Q=>lC fun x H Q s=>by obtain⟨a,t,e,h⟩:=s;exact ⟨a,t,by rw[e],h⟩) (RB m)|dict=>exact kh ((lG Vc d c (by decide+kernel) g (he:=b6 b)).imp fun O H Q=>lC fun x H Q Y=>by obtain⟨p,kvs,e,h⟩:=Y;exact ⟨p,kvs,by rw[e],h⟩) RE|int=>exact kh ((lG TH d c (by decide+kernel) g (he:=b6 b)).imp fun O H Q=>lC fun x H Q h=>h.elim (fun W=>by obtain⟨i,e,q⟩:=W;exact .inl ⟨i,by rw[e],q⟩) fun V=>by obtain⟨k,e,q⟩:=V;exact .inr ⟨k,by rw[e],q⟩) P2
theorem PW.imp {t t':TT}(h:PW X e t)(i:∀ O H Q,t' O H Q->t O H Q):PW X e t':=fun a L s O H Q I q=>h a L s O H Q I (i O H Q q)
theorem PT.pw {op:BoolOp}{a:List Expr}{t:TT}(h:PT X (.BoolOp op a p) t):PW X (.BoolOp op a p) t:=fun b L s O H Q I q=>h L s O H Q I q
theorem Cs.loc_is (A:At R C X)(h:C.loc x=true):lI X.env.scope x/\(X.fn x=true∨X.env.scope.names.lookup x=some .local):=by
 unfold lI;rw[A.nm];unfold Cs.loc at h;split at h
 .next e=>exact⟨.inl e,.inr e⟩
 .next e=>exact⟨.inr e,.inl (A.fn h x)⟩
 cases h
theorem HJ:∀{p:Pt}{es:List Expr}{env:Env},ckP.ckPs C p es=true->(assignEach es env).findIdx? (·.1)=none/\(∀e r,es=e::r->(assignEach (e::r) env).map (·.2)=assign e env::(assignEach r env).map (·.2)):=by
 intro p;induction p with
 |nm i=>(intro es env h;cases h)|nil=>(intro es env h;match es,h with|[],_=>exact⟨rfl,fun e r z=>by cases z⟩)
 |cons a b f c=>
  intro es env h;match es,h with
  |e::es,h=>
   have h':(ckP C a e&&bf e&&ckP.ckPs C b es)=true:=h;simp only [W4] at h';have d:assignEach (e::es) env=(false,assign e env)::assignEach es env:=by have:=h'.1.2;cases e <;> first|rfl|cases this
   refine⟨?_,fun g r z=>?_⟩;rw[d,List.findIdx?_cons];simp [(c (es:=es) (env:=env) h'.2).1];cases z;rw[d];rfl
theorem zu {a b:Pt}(h:bd (.cons a b) t M=some I):∃u r M1,(t=.tup (u::r)∨t=.ktp (u::r))/\bd a u M=some M1/\bd b (.tup r) M1=some I:=by
 have go:∀u r,(bd a u M).bind (fun M1=>bd b (.tup r) M1)=some I->∃M1,bd a u M=some M1/\bd b (.tup r) M1=some I:=fun u r h=>by cases q:bd a u M with|none=>(rw[q] at h;cases h)|some M1=>rw[q] at h;exact⟨M1,rfl,h⟩
 cases t with|tup l=>(cases l with|nil=>(cases h)|cons u r=>obtain⟨M1,h1,c⟩:=go u r h;exact⟨u,r,M1,.inl rfl,h1,c⟩)|ktp l=>(cases l with|nil=>(cases h)|cons u r=>obtain⟨M1,h1,c⟩:=go u r h;exact⟨u,r,M1,.inr rfl,h1,c⟩)|_=>cases h
theorem uT (A:At R C X):∀p:Pt,(∀e,ckP C p e=true->PG X e (LG X.K F (bd p)))/\(∀es,ckP.ckPs C p es=true->PGs X es (LGs X.K F fun ts M=>bd p (.tup ts) M)/\∀ts M I,bd p (.tup ts) M=some I->ts.length=es.length):=by
 intro p;induction p with
 |nm i=>(refine⟨fun e h=>?_,fun es h=>by cases h⟩;cases e with|Name x pos=>(have h':(C.N[i]? == some x&&C.loc x)=true:=h;simp only [W4,Xv] at h';obtain⟨h1,m⟩:=Cs.loc_is A h'.2;exact Qe (m9 (by rw[A.N];exact A.nd) (by rw[A.N];exact h'.1) h1 m))|_=>cases h)
 |nil=>
  refine⟨(fun e h=>by cases e <;> cases h),fun es h=>?_⟩;match es,h with
  |[],_=>
   refine⟨pgs_nil.imp fun v O H Q=>LGs.nil fun ts M I e=>?_,fun ts M I e=>?_⟩;cases ts with|nil=>(cases e;exact⟨rfl,rfl⟩)|cons _ _=>cases e
   cases ts with|nil=>rfl|cons _ _=>cases e
 |cons a b f g=>
  have rows:∀es,ckP.ckPs C (.cons a b) es=true->PGs X es (LGs X.K F fun ts M=>bd (.cons a b) (.tup ts) M)/\∀ts M I,bd (.cons a b) (.tup ts) M=some I->ts.length=es.length:=fun es h=>by have j:=HJ (env:=X.env) h;match es,h with|e::es,h=>have h':(ckP C a e&&bf e&&ckP.ckPs C b es)=true:=h;simp only [W4] at h';obtain⟨g1,g2⟩:=g.2 es h'.2;refine⟨(sZ (f.1 e h'.1.1) g1 (j.2 e es rfl)).imp fun v O H Q=>LGs.cons fun ts M I z=>?_,fun ts M I z=>?_⟩;obtain⟨u,r,M1,c,l,d⟩:=zu z;rcases c with c|c <;> cases c;exact⟨u,r,M1,rfl,l,d⟩;obtain⟨u,r,M1,c,l,d⟩:=zu z;rcases c with c|c <;> cases c;simp [g2 r M1 I d]
  refine⟨fun e h=>?_,rows⟩;cases e with
  |Tuple es k pos=>
   cases es with
   |nil=>(cases h)
   |cons e es=>
    have h':ckP.ckPs C (.cons a b) (e::es)=true:=h;obtain⟨g1,g2⟩:=rows _ h';have n:∀{p:Pt}{es:List Expr},ckP.ckPs C p es=true->(assignEach es X.env).length=es.length:=by
     intro p;induction p with
     |nm i=>(intro es h;cases h)|nil=>(intro es h;match es,h with|[],_=>rfl)
     |cons a b _ o=>
      intro es h;match es,h with
      |e::es,h=>
       have h':(ckP C a e&&bf e&&ckP.ckPs C b es)=true:=h;simp only [W4] at h';have c:assignEach (e::es) X.env=(false,assign e X.env)::assignEach es X.env:=by have:=h'.1.2;cases e <;> first|rfl|cases this
       rw[c];simp [o h'.2]
    refine(zf A.calm g1 (n h') (HJ h').1).imp fun v O H Q=>LG.tup fun t M I z=>?_;obtain⟨u,r,M1,c,l,d⟩:=zu z;rcases c with rfl|rfl;exact⟨u::r,.inl rfl,g2 _ M I z,z⟩;exact⟨u::r,.inr rfl,g2 (u::r) M I z,z⟩
  |_=>cases h
theorem At.inn {D:Addr}{ex:List Addr}{s0:Shared}{H0:Hp}(A:At R C X)(hk:scope.kind=.function)(hN:N'.Nodup):At R (C.in scope N') (bJ X N' scope cl D ex s0 H0) where
 N:=rfl
 nd:=hN
 nm:=by
  show(relabel scope X.env).names=_;unfold relabel Cs.in;simp only;congr 1;funext ⟨n,k⟩
  have e1:X.env.kindOf n=C.names.lookup n:=by show X.env.scope.names.lookup n=_;rw[A.nm]
  simp only [e1,A.kd];simp
 kd:=hk
 fn:=fun h=>by cases h
 calm:=A.calm
 bl:=A.bl
 un:=A.un
 gd:=A.gd
 kt:=A.kt
 gl:=A.gl
 fv:=A.fv
 fns:=fun p hp=>by obtain⟨k,f,Y,ps,h⟩:=A.fns p hp;exact⟨k,f,Y,ps,h⟩
theorem uS {s:Sm}{d:Expr->Bool}(hd:∀e,d e=true->PE X e (LE X.K F s.e))(h:∀e,c e=true->PT X e (LB X.K F s.t)):j0 R X F s (rZ d c) where
 e:=hd
 t:=h
 l:=fun e z=>by cases z
 i:=fun B e z=>by cases z
 ts:=fun es he=>by obtain⟨e,rfl,he⟩:=kq he;exact zC (h e he)
 o:=fun e z=>by cases z
 p:=fun _ _ _ _ _ z=>by cases z
theorem LE.callV {wr:iB}{p:(Addr->Prop)×(Addr->aK)}{E:XK}{Q:VK}:LE X.K F (yW i wr p) O H Q->DE p.1 (fun a=>ff X.K (p.2 a)) E (se i) (LA X.K F wr) O H Q:=fun z=>by obtain⟨G,b,M,c,R,⟨a,h1,d,k⟩,q⟩:=z;obtain⟨v,e,f⟩:=R.fz i _ h1;cases f;have h:=LE.call (E:=E) (X:=X) (psp:=p.2 a) (wr:=wr) ⟨G,b,M,c,R,k,q⟩;unfold yM at h;simp only [Xm] at h;exact⟨_,e,a,rfl,d,h⟩
theorem Pr {m:Mt}{r:IE}{o:Expr}{wo:TW}{g h:Pos}(a:AG m r es=true)(b:attributeBase o m.nm X.env (eval o X.env)=eval o X.env)(c:(g.endLine==h.line)=true)(i:∀e∈es,bf e=true)(d:PE X o (LE X.K F wo))(j:PA X es (LF X.K F es.length (aq R r).f)):PE X (.Call (.Attribute o m.nm g) es [] h) (LE X.K F (AR m.f wo (aq R r).f)):=by
 cases m with
 |app=>(match es,a with|[e],_=>have h1:bf e=true:=i e W8;exact(pX X0 Zc Zb wB d j b (by rw[b6 h1];rfl) c (b6 h1) rfl).imp fun O H Q=>LE.mut P9)|ext=>(match es,a with|[e],_=>have h1:bf e=true:=i e W8;exact(pX X0 PySem.F.slot_list_extend PySem.F.type_list_extend PX d j b (by rw[b6 h1];rfl) c (b6 h1) rfl).imp fun O H Q=>LE.mut PV)
 |pop=>
  have p:r=.nil:=by cases r with|nil=>rfl|_=>exact(W6 a).elim
  subst p;match es,a with|[],_=>refine(DI X0 PySem.F.slot_list_pop PySem.F.type_list_pop DH d b c).imp fun O H Q k=>?_;obtain⟨G,s,M,t,a0,k,q⟩:=LE.mut (n:=0) P8 k;refine⟨G,s,M,t,a0,k,fun x M1 u w v l y z A B=>?_⟩;obtain⟨h1,C,I,M2,J,R2,D,E⟩:=q x M1 u w v l y z A B;exact⟨h1,E [] M2 C [] l D R2 (Same.refl _) .nil rfl⟩
theorem Pq (h:pL T=true):bootBuiltins (Str.ofString T)=some (.type T)/\(Str.ofString T==("__debug__":Str))=false/\Str.ofString T≠"__name__":=by
 have h':T="int"∨T="bool"∨T="str"∨T="tuple"∨T="list"∨T="dict":=by simpa [pL] using h
 rcases h' with rfl|rfl|rfl|rfl|rfl|rfl <;> exact⟨by decide+kernel,by decide+kernel,by decide+kernel⟩
theorem Pp {n:String}(h:tQ t=some n):n ∈ ["NoneType","bool","int","str","tuple","list","dict"]:=by cases t with| «at» v=>(cases v <;> first | (cases h;decide)|cases h)|_=>first | (cases h;decide)|cases h
theorem Po {d pos:Pos}(kt:∀n ∈ ["NoneType","bool","int","str","tuple","list","dict"],PySem.W.kitOne X.K (.type n) (.type T)=some (nG n T))(f:X.mg "isinstance"=none)(g:Gl X "isinstance")(h:X.mg (Str.ofString T)=none)(i:Gl X (Str.ofString T))(j:pL T=true)(a:bf e=true)(l:PE X e (LE X.K F Z)):PE X (.Call (.Name "isinstance" p) [e,.Name (Str.ofString T) d] [] pos) (LE X.K F (lN (AO T) Z)):=by
 obtain⟨b1,m,o⟩:=Pq j;have r:PE X (.Name (Str.ofString T) d) (tC (.ty T)):=Qx i h b1 rfl o m;refine(sY UX g f (by decide+kernel) (fc l (fc r pa_nil) (b6 a)) (he:=b6 a)).imp fun O H Q ⟨G,u,M,B,R,k,q⟩=>?_;refine⟨G,u,M,_,R,k,fun x M1 C D v E b c w y=>?_⟩;obtain⟨t,z,b⟩:=aE b;obtain⟨s,a,b⟩:=lE b;have A:=c.rd y z;unfold AO at a;split at a
 .next n hn=>
  cases a;exact⟨v,T,.type n,nG n T,rfl,NM (A.up c.sub) hn,kt n (Pp hn),cN c.sub (.at rfl) (c.done R.lt w b q)⟩
 cases a
theorem wD {own:List Str}{p:Pt}{it c e:IE}(A:At R C X)(l:∀C X F,At R C X->j0 R X F (aq R it) (ck R it C))(m:∀C X F,At R C X->j0 R X F (aq R c) (ck R c C))(n:∀C X F,At R C X->j0 R X F (aq R e) (ck R e C))
  (h:(jX (fun x=>C.names.lookup x) C.N scope (bu C af own) (af.map some++List.replicate own.length none)&&(ck R it C).i B iter&&dW iter&&ckP (C.in scope (bu C af own)) p B&&(ck R c (C.in scope (bu C af own))).ts ifs&&(ck R e (C.in scope (bu C af own))).e elt&&decide (bu C af own).Nodup)=true):∃N':List Str,N'.length=af.length+own.length/\aL X scope N' (af.map some++List.replicate own.length none)/\PI X B iter (LI X.K F (aq R it).i)/\dW iter=true ∧∀cl D ex s0 H0,PG (bJ X N' scope cl D ex s0 H0) B (oW X.K (bd p))/\PTs (bJ X N' scope cl D ex s0 H0) ifs (oX X.K (aq R c).t)/\PE (bJ X N' scope cl D ex s0 H0) elt (lJ X.K (aq R e).e):=by
 simp only [W4,Yq] at h;obtain⟨⟨⟨⟨⟨⟨h1,o⟩,q⟩,d⟩,f⟩,g⟩,j⟩:=h;have k:(bu C af own).length=af.length+own.length:=by unfold bu;simp
 generalize bu C af own=N' at h1 d f g j k;have r:scope.kind=.function:=by unfold jX at h1;simp only [W4,Xv] at h1;exact h1.1.1.1
 refine⟨N',k,wK X.env.scope rfl X.N rfl (by rw[A.nm,A.N];exact h1),(l C X F A).i B iter o,q,fun cl D ex s0 H0=>?_⟩;have b:=A.inn (cl:=cl) (D:=D) (ex:=ex) (s0:=s0) (H0:=H0) r j;exact⟨PG.all fun a=>(uT b p).1 B d,PTs.all fun a=>(m _ _ a b).ts ifs f,PE.all fun a=>(n _ _ a b).e elt g⟩
theorem IG {own:List Str}{p:Pt}{it c k e:IE}{kx vx:Expr}(A:At R C X)(n:∀C X F,At R C X->j0 R X F (aq R it) (ck R it C))(o:∀C X F,At R C X->j0 R X F (aq R c) (ck R c C))(q:∀C X F,At R C X->j0 R X F (aq R k) (ck R k C))(r:∀C X F,At R C X->j0 R X F (aq R e) (ck R e C))
  (h:(jX (fun x=>C.names.lookup x) C.N scope (bu C af own) (af.map some++List.replicate own.length none)&&(ck R it C).i B iter&&dW iter&&ckP (C.in scope (bu C af own)) p B&&(ck R c (C.in scope (bu C af own))).ts ifs&&(ck R k (C.in scope (bu C af own))).e kx&&(ck R e (C.in scope (bu C af own))).e vx&&decide (bu C af own).Nodup)=true):∃N':List Str,N'.length=af.length+own.length/\aL X scope N' (af.map some++List.replicate own.length none)/\PI X B iter (LI X.K F (aq R it).i)/\dW iter=true ∧∀cl D ex s0 H0,PG (bJ X N' scope cl D ex s0 H0) B (oW X.K (bd p))/\PTs (bJ X N' scope cl D ex s0 H0) ifs (oX X.K (aq R c).t)/\PE (bJ X N' scope cl D ex s0 H0) kx (lJ X.K (aq R k).e)/\PE (bJ X N' scope cl D ex s0 H0) vx (lJ X.K (aq R e).e):=by
 simp only [W4,Yq] at h;obtain⟨⟨⟨⟨⟨⟨⟨h1,s⟩,u⟩,d⟩,f⟩,g⟩,j⟩,l⟩:=h;have m:(bu C af own).length=af.length+own.length:=by unfold bu;simp
 generalize bu C af own=N' at h1 d f g l j m;have v:scope.kind=.function:=by unfold jX at h1;simp only [W4,Xv] at h1;exact h1.1.1.1
 refine⟨N',m,wK X.env.scope rfl X.N rfl (by rw[A.nm,A.N];exact h1),(n C X F A).i B iter s,u,fun cl D ex s0 H0=>?_⟩;have b:=A.inn (cl:=cl) (D:=D) (ex:=ex) (s0:=s0) (H0:=H0) v l;exact⟨PG.all fun a=>(uT b p).1 B d,PTs.all fun a=>(o _ _ a b).ts ifs f,PE.all fun a=>(q _ _ a b).e kx g,PE.all fun a=>(r _ _ a b).e vx j⟩
theorem EX (R : Gm)(i:Nat):∀(C:Cs)(X:Cx)(F:Fr),At R C X->j0 R X F (aq R (.var i)) (ck R (.var i) C):=by intro C X F A;refine dm fun e h=>?_;obtain⟨x,p,rfl,h⟩:=gz h;exact vk (A.var h)
theorem snd (R : Gm):∀(ir:IE)(C:Cs)(X:Cx)(F:Fr),At R C X->j0 R X F (aq R ir) (ck R ir C):=by
 intro ir;induction ir with
 |var i=>(intro C X F A;refine dm fun e h=>?_;obtain⟨x,p,rfl,h⟩:=gz h;exact vk (A.var h))|cst v=>(intro C X F A;refine dm fun e h=>?_;replace h:(mR e==some v&&mj v)=true:=h;simp only [W4,Xv] at h;exact N2 (zg h.1) h.2)|bin o a b n E=>(intro C X F A;refine dm fun e h=>?_;obtain⟨l,op,r,p,rfl,h⟩:=Pz h;replace h:(op==o.op&&(ck R a C).e l&&(ck R b C).e r)=true:=h;simp only [W4,Xv] at h;obtain⟨⟨rfl,h1⟩,w⟩:=h;exact Pu ((n C X F A).e l h1) ((E C X F A).e r w))
 |cmp o a b n E=>
  intro C X F A;have go:∀e,(ck R (.cmp o a b) C).e e=true->∃l op r pos,e=.Compare l [op] [r] pos/\op=o.op/\(ck R a C).e l=true/\(ck R b C).e r=true/\dW r=true:=fun e h=>by obtain⟨l,op,r,p,rfl,h⟩:=Py h;replace h:(op==o.op&&(ck R a C).e l&&(ck R b C).e r&&dW r)=true:=h;simp only [W4,Xv] at h;exact⟨l,op,r,p,rfl,h.1.1.1,h.1.1.2,h.1.2,h.2⟩
  have hu:X.A.units<cLine:=by have:=A.un;lia
  obtain⟨r2,o1,o2⟩:=yV A.un hu o;have pt:∀e,(ck R (.cmp o a b) C).e e=true->PT X e (LB X.K F (uK (mI o.f (aq R a).e (aq R b).e))):=fun e h=>by obtain⟨l,op,r,pos,rfl,rfl,h1,w,D⟩:=go e h;have P:=vT (pos:=pos) o1 ((n C X F A).e l h1) ((E C X F A).e r w) (vf D);refine DC (P.imp fun O H Q z0=>?_);obtain⟨G,ta,M,K0,a0,k,q⟩:=z0;refine⟨G,ta,M,_,a0,k,fun x M1 G1 t1 v1 H1 k1 R1 s1 e1=>⟨G1,t1,M1,_,R1,k1,fun y M2 G2 t2 v2 H2 k2 R2 s2 e2=>?_⟩⟩;obtain⟨t,ht,k2⟩:=aE k2;obtain⟨u,hu,k2⟩:=aE k2;obtain⟨s,hs,k2⟩:=lE k2;exact o2 G2 H2 v1 v2 t u s _ R2.sub (R2.rd (e1.stp s2) ht) (R2.rd e2 hu) hs (R2.done a0.lt (s1.trans s2) k2 q)
  refine⟨fun e h=>?_,pt,(fun es z=>by cases z),(fun B e z=>by cases z),fun es he=>?_,(fun e z=>by cases z),(fun _ _ _ _ _ z=>by cases z)⟩;obtain⟨l,op,r,pos,rfl,rfl,h1,w,D⟩:=go e h;exact lD (Qu (pos:=pos) o1 ((n C X F A).e l h1) ((E C X F A).e r w) (vf D)) o2;obtain⟨e,rfl,he⟩:=kq he;exact zC (pt e he)
 |ix a b n E=>(intro C X F A;refine dm fun e h=>?_;obtain⟨l,r,p,rfl,h⟩:=oI h;replace h:((ck R a C).e l&&(ck R b C).e r&&m4 r)=true:=h;simp only [W4] at h;exact lD (oG Of ((n C X F A).e l h.1.1) ((E C X F A).e r h.1.2) (HK h.2)) NQ)|dg a b n E=>(intro C X F A;refine dm fun e h=>?_;obtain⟨l,r,p,rfl,h⟩:=oI h;replace h:((ck R a C).e l&&(ck R b C).e r&&m4 r)=true:=h;simp only [W4] at h;exact lD (r:=l7) (zE (by have:=A.un;lia) ((n C X F A).e l h.1.1) ((E C X F A).e r h.1.2) (HK h.2)) NO)|b1 f a n=>(intro C X F A;refine dm fun e h=>?_;obtain⟨g,es,p,rfl,h⟩:=jk h;replace h:(cx (fun x=>x==f.nm&&C.gl x && R.bl.contains x) g&&fw (fun r=>(ck R a C).e r&&bf r) es)=true:=h;rw[W4] at h;obtain⟨x,q,rfl,h1⟩:=gz h.1;obtain⟨r,rfl,w⟩:=kq h.2;replace h1:(x==f.nm&&C.gl x && R.bl.contains x)=true:=h1;replace w:((ck R a C).e r&&bf r)=true:=w;simp only [W4,Xv] at h1 w;obtain⟨⟨rfl,D⟩,U⟩:=h1;exact NC A.calm A.un A.gd (A.bl _ (Yg.mp U)) (A.gl' D) w.2 ((n C X F A).e r w.1))|and a b n E=>(intro C X F A;refine uS (fun e h=>?_) fun e h=>?_;obtain⟨l,p,h1,⟨x,rfl,w⟩|⟨x,y,z,rfl,w⟩⟩:=vZ h;exact(DQ ((n C X F A).e l h1) (DR ((E C X F A).e x w))).imp fun O H Q=>LE.andV;exact(DQ ((n C X F A).e l h1) ((E C X F A).e _ w)).imp fun O H Q=>LE.andV;obtain⟨l,p,h1,⟨x,rfl,w⟩|⟨x,y,z,rfl,w⟩⟩:=vZ h;exact((DT ((n C X F A).t l h1) (Qw ((E C X F A).t x w))).imp fun O H Q=>LB.and).pt;exact((DT ((n C X F A).t l h1) ((E C X F A).t _ w).pw).imp fun O H Q=>LB.and).pt)|or a b n E=>(intro C X F A;refine uS (fun e h=>?_) fun e h=>?_;obtain⟨l,p,h1,⟨x,rfl,w⟩|⟨x,y,z,rfl,w⟩⟩:=vZ h;exact(CK ((n C X F A).e l h1) (DR ((E C X F A).e x w))).imp fun O H Q=>LE.orV;exact(CK ((n C X F A).e l h1) ((E C X F A).e _ w)).imp fun O H Q=>LE.orV;obtain⟨l,p,h1,⟨x,rfl,w⟩|⟨x,y,z,rfl,w⟩⟩:=vZ h;exact((yP ((n C X F A).t l h1) (DU ((E C X F A).t x w))).imp fun O H Q=>LB.or).pt;exact((yP ((n C X F A).t l h1) ((E C X F A).t _ w).pw).imp fun O H Q=>LB.or).pt)|not a n=>(intro C X F A;refine uS (fun e h=>?_) fun e h=>?_;obtain⟨r,p,rfl,h⟩:=EY h;exact(Ov ((n C X F A).e r h)).imp fun O H Q=>LE.notV;obtain⟨r,p,rfl,h⟩:=EY h;exact(DS ((n C X F A).t r h)).imp fun O H Q=>LB.not)
 |chn o o' a b c n E jD=>
  intro C X F A;have hu:X.A.units<cLine:=by have:=A.un;lia
  obtain⟨r2,o1,o2⟩:=yV A.un hu o;obtain⟨r3,o3,o4⟩:=yV A.un hu o';have go:∀e,uG (fun op eo l m r=>op==o.op&&eo==o'.op&&(ck R a C).e l&&(ck R b C).e m&&(ck R c C).e r&&dW r) e=true->∃l m r p,e=.Compare l [o.op,o'.op] [m,r] p/\PE X l (LE X.K F (aq R a).e)/\PE X m (LE X.K F (aq R b).e)/\PE X r (LE X.K F (aq R c).e)/\dW r=true:=fun e h=>by obtain⟨l,op,eo,m,r,p,rfl,h⟩:=PC h;replace h:(op==o.op&&eo==o'.op&&(ck R a C).e l&&(ck R b C).e m&&(ck R c C).e r&&dW r)=true:=h;simp only [W4,Xv] at h;obtain⟨⟨⟨⟨⟨rfl,rfl⟩,h1⟩,w⟩,D⟩,U⟩:=h;exact⟨l,m,r,p,rfl,(n C X F A).e l h1,(E C X F A).e m w,(jD C X F A).e r D,U⟩
  refine uS (fun e h=>?_) fun e h=>?_;obtain⟨l,m,r,p,rfl,h1,w,D,U⟩:=go e h;exact(Sb o1 o3 h1 w D (vf U)).imp fun O H Q=>LE.chn o2 o4;obtain⟨l,m,r,p,rfl,h1,w,D,U⟩:=go e h;exact DC ((Sa o1 o3 h1 w D (vf U)).imp fun O H Q k=>LE.chn o2 o4 k)
 |dnew=>(intro C X F A;refine dm fun e h=>?_;obtain⟨p,rfl⟩:=ND h;exact P0)
 |dct V r J=>
  intro C X F A;refine dm fun e h=>?_;obtain⟨es,vs,p,rfl,h⟩:=Rv h;replace h:(oJ V es&&(ck R r C).l vs&&decide (V.length<=15) && !V.isEmpty&&es.length==vs.length)=true:=h;simp only [W4,Yq,Xv,YZ] at h;obtain⟨⟨⟨⟨h1,w⟩,D⟩,U⟩,h5⟩:=h;obtain⟨d9,g1,g2⟩:=(J C X F A).p V es vs p h1 w h5;have ko:∀(V:List Str)(es:List (Option Expr)),oJ V es=true->V.length=es.length/\es.all (·.isSome)=true:=by intro V;induction V with|nil=>(intro es h;cases es with|nil=>exact⟨rfl,rfl⟩|cons _ _=>cases h)|cons k V ih=>intro es h;match es,h with|some e::es,h=>have h':(mR e==some (.str k)&&oJ V es)=true:=h;rw[W4] at h';obtain⟨a1,a2⟩:=ih es h'.2;exact⟨by simp [a1],by simpa using a2⟩
  obtain⟨k1,k2⟩:=ko V es h1;exact(Qn g1 k2 h5 (fun z=>by rw[z] at k1;cases V with|nil=>cases U|cons _ _=>cases k1) (by lia)).imp fun O H Q=>LE.dct D g2
 |nil=>(intro C X F A;refine⟨(fun e z=>by cases z),(fun e z=>by cases z),fun es h=>?_,(fun B e z=>by cases z),(fun es z=>by cases z),(fun e h=>by rw[pQ h];exact P7),fun V es vs pos hk hv hl=>?_⟩;rw[vJ h];exact⟨N0,N1⟩;rw[vJ hv] at hl ⊢;have:es=[]:=Za hl;subst this;cases V with|nil=>exact⟨[],Qo,fun O H Q=>LP.nil⟩|cons _ _=>cases hk)
 |cons a r n J=>
  intro C X F A;have eS:aq R (.cons a r)=⟨iY,kH,sF (aq R a).e (aq R r).f,uY (aq R a).e (aq R r).a,dY,g9⟩:=by show Sm.mk iY kH (sF (aq R a).e (AI (aq R r).f)) (uY (aq R a).e (AH (aq R r).a)) dY g9=_;rw[PJ,PH]
  rw[eS];refine⟨(fun e z=>by cases z),(fun e z=>by cases z),fun es h=>?_,(fun B e z=>by cases z),(fun es z=>by cases z),(fun e z=>by cases z),fun V es vs pos hk hv hl=>?_⟩;obtain⟨x,xs,rfl,h1,w,D⟩:=zS h;have pe:=(n C X F A).e x h1;obtain⟨q1,q2⟩:=(J C X F A).l xs D;exact⟨(fc pe q1 (b6 w)).imp fun O H Q=>LF.cons,Qg (fc pe q2 (b6 w))⟩;obtain⟨x,xs,rfl,h1,w,D⟩:=zS hv;cases es with|nil=>(cases hl)|cons o es=>match V,o,hk with|k::V,some e,hk=>have hk':(mR e==some (.str k)&&oJ V es)=true:=hk;simp only [W4,Xv] at hk';obtain⟨d9,g1,g2⟩:=(J C X F A).p V es xs pos hk'.2 D (by simpa using hl);exact⟨_,RW (zg hk'.1) ((n C X F A).e x h1) g1,fun O H Q=>LP.cons g2⟩
 |tup r J=>(intro C X F A;refine dm fun e h=>?_;obtain⟨es,k,p,rfl,h1,w⟩:=Px h;exact NZ w ((J C X F A).l es h1).1)|lst r J=>(intro C X F A;refine dm fun e h=>?_;obtain⟨es,p,rfl,h1,w⟩:=Pw h;exact NY w ((J C X F A).l es h1).1)
 |call j r J=>
  intro C X F A;refine dm fun e h=>?_;obtain⟨g,es,p,rfl,h⟩:=jk h;replace h:(cx (fun x=>(R.fns[j]?).map (·.1)==some x&&C.gl x&&gb x) g&&pR (ck R r C).l es)=true:=h;rw[W4] at h;obtain⟨x,q,rfl,h1⟩:=gz h.1;obtain⟨a,es,rfl,U⟩:=Gn h.2;replace h1:((R.fns[j]?).map (·.1)==some x&&C.gl x&&gb x)=true:=h1;simp only [W4,Xv] at h1;obtain⟨⟨h1,w⟩,D⟩:=h1;have st:=qf U;simp only [gb,W4,YZ] at D;cases q : R.fns[j]? with
  |none=>(rw[q] at h1;cases h1)
  |some pr=>
   obtain⟨y,psp⟩:=pr;rw[q] at h1;cases h1;obtain⟨k,f,Y,ps,g1,g2,g3,g4,g5⟩:=A.fns _ (XT q);have e2 : R.sp j=psp:=by unfold Gm.sp;rw[q]
   show PE X _ (LE X.K F (uW (R.sp j) (aq R r).a));rw[e2];exact(kr g1 g2 (A.gl' w) g3 g4 g5 .nil jT ((J C X F A).l _ U).2 D.1.1 (b6 (st a W8)) (Gj fun z hz=>st z (W7 _ hz))).imp fun O H Q=>LE.call
 |callv j i r J=>(intro C X F A;refine dm fun e h=>?_;obtain⟨g,es,p,rfl,h⟩:=jk h;replace h:(cx (fun x=>C.N[i]? == some x&&C.vis x&&gb x) g&&(R.fv[j]?).isSome&&pR (ck R r C).l es)=true:=h;simp only [W4] at h;obtain⟨x,q,rfl,h1⟩:=gz h.1.1;obtain⟨a,es,rfl,U⟩:=Gn h.2;have st:=qf U;cases q : R.fv[j]? with|none=>rw[q] at h;exact(W6 h.1.2).elim|some pr=>obtain⟨k,hr,hF⟩:=A.fv _ (XT q);show PE X _ (LE X.K F (yW i (aq R r).a pr));exact(RP (CX:=dr) (sp:=fun a=>ff X.K (pr.2 a)) hF hr jT (A.var h1) ((J C X F A).l _ U).2 (b6 (st a W8)) (Gj fun z hz=>st z (W7 _ hz))).imp fun O H Q=>LE.callV)|mth m o r iho J=>(intro C X F A;refine dm fun e h=>?_;obtain⟨g,es,cp,rfl,h⟩:=jk h;replace h:(oC (fun l x W=>x==m.nm&&(ck R o C).e l&&ly l&&W.endLine==cp.line) g&&(ck R r C).l es&&AG m r es)=true:=h;simp only [W4] at h;obtain⟨l,x,W,rfl,h1⟩:=zT h.1.1;replace h1:(x==m.nm&&(ck R o C).e l&&ly l&&W.endLine==cp.line)=true:=h1;simp only [W4,Xv] at h1;obtain⟨⟨⟨rfl,w⟩,D⟩,U⟩:=h1;refine Pr h.2 ?_ (Xv.mpr U) (qf h.1.2) ((iho C X F A).e l w) ((J C X F A).l es h.1.2).1;cases l <;> first|rfl|cases D)|comp af own p it c e nH jD kO=>(intro C X F A;refine dm fun x h=>?_;obtain⟨elt,B,iter,ifs,scope,pos,rfl,h⟩:=vY h;obtain⟨N',hN,S,hi,hs,Z⟩:=wD (F:=F) A nH jD kO h;exact(vP A.calm S hi Z (oP hs)).imp fun O H Q=>LE.comp hN)|compd af own p it c k e nH jD qW kO=>(intro C X F A;refine dm fun x h=>?_;obtain⟨kx,vx,B,iter,ifs,scope,pos,rfl,h⟩:=GY h;obtain⟨N',hN,S,hi,hs,Z⟩:=IG (F:=F) A nH jD qW kO h;exact(Ry A.calm S hi Z (oP hs)).imp fun O H Q=>LE.compD hN)
 |cmpv af own p i c e jD kO=>
  intro C X F A;refine dm fun x h=>?_;obtain⟨elt,B,iter,ifs,scope,pos,rfl,h⟩:=vY h;have hv:cx (fun x=>C.N[i]? == some x&&C.vis x&&gb x) iter=true:=by replace h:(jX (fun x=>C.names.lookup x) C.N scope (bu C af own) (af.map some++List.replicate own.length none)&&cx (fun x=>C.N[i]? == some x&&C.vis x&&gb x) iter&&dW iter&&ckP (C.in scope (bu C af own)) p B&&(ck R c (C.in scope (bu C af own))).ts ifs&&(ck R e (C.in scope (bu C af own))).e elt&&decide (bu C af own).Nodup)=true:=h;simp only [W4] at h;exact h.1.1.1.1.1.2
  obtain⟨N',hN,S,hi,hs,Z⟩:=wD (F:=F) (it:=.var i) A (EX R i) jD kO h;obtain⟨x,q,rfl,hv⟩:=gz hv;exact(vP A.calm S (y6 (vk (F:=F) (A.var hv))) Z (oP hs)).imp fun O H Q=>LE.compV hN
 |tt=>(intro C X F A;refine⟨(fun e z=>by cases z),(fun e z=>by cases z),(fun es z=>by cases z),(fun B e z=>by cases z),fun es h=>?_,(fun e z=>by cases z),(fun _ _ _ _ _ z=>by cases z)⟩;rw[vJ h];exact fun L s O H Q I z1=>by obtain⟨G,ta,M,K0,a0,k,q⟩:=z1;exact zD L s O H Q I (q _ _ G H k a0 (Same.refl _)))|neg a n=>(intro C X F A;refine dm fun e h=>?_;obtain⟨r,p,rfl,h⟩:=CT h;exact kh (u4 vw ((n C X F A).e r h)) P1)|isi T a n=>(intro C X F A;refine dm fun e h=>?_;obtain⟨g,es,p,rfl,h⟩:=jk h;replace h:(cx (fun x=>x==("isinstance":Str)&&C.gl x && R.bl.contains x) g&&oz (fun r y=>(ck R a C).e r&&bf r&&cx (fun z=>z==Str.ofString T&&C.gl z && R.bl.contains z) y && R.kt.contains T&&pL T) es)=true:=h;rw[W4] at h;obtain⟨x,q,rfl,h1⟩:=gz h.1;obtain⟨r,y,rfl,w⟩:=zw h.2;replace h1:(x==("isinstance":Str)&&C.gl x && R.bl.contains x)=true:=h1;replace w:((ck R a C).e r&&bf r&&cx (fun z=>z==Str.ofString T&&C.gl z && R.bl.contains z) y && R.kt.contains T&&pL T)=true:=w;simp only [W4,Xv] at h1 w;obtain⟨⟨⟨⟨D,U⟩,h5⟩,h6⟩,h7⟩:=w;obtain⟨z,q',rfl,h8⟩:=gz h5;replace h8:(z==Str.ofString T&&C.gl z && R.bl.contains z)=true:=h8;simp only [W4,Xv] at h8;obtain⟨⟨rfl,h9⟩,h10⟩:=h8;obtain⟨⟨rfl,BM⟩,h12⟩:=h1;exact Po (A.kt T (Yg.mp h6)) (A.bl _ (Yg.mp h12)) (A.gl' BM) (A.bl _ (Yg.mp h10)) (A.gl' h9) h7 U ((n C X F A).e r D))|slc a lo hi n ihl ihh=>(intro C X F A;refine dm fun e h=>?_;obtain⟨x,lo,hi,p,p2,rfl,h1,w,D⟩:=PB h;exact(RZ VY ((n C X F A).e x h1) ((ihl C X F A).o lo w) ((ihh C X F A).o hi D)).imp fun O H Q=>LE.slc)|rng a n=>(intro C X F A;refine⟨(fun e z=>by cases z),(fun e z=>by cases z),(fun es z=>by cases z),fun B e h=>?_,(fun es z=>by cases z),(fun e z=>by cases z),(fun _ _ _ _ _ z=>by cases z)⟩;obtain⟨g,es,p,rfl,h⟩:=jk h;replace h:(cx (fun x=>x==("range":Str)&&C.gl x && R.bl.contains x) g&&fw (fun r=>(ck R a C).e r&&bf r) es)=true:=h;rw[W4] at h;obtain⟨x,q,rfl,h1⟩:=gz h.1;obtain⟨r,rfl,w⟩:=kq h.2;replace h1:(x==("range":Str)&&C.gl x && R.bl.contains x)=true:=h1;replace w:((ck R a C).e r&&bf r)=true:=w;simp only [W4,Xv] at h1 w;obtain⟨⟨rfl,D⟩,U⟩:=h1;exact(TK (A.gl' D) (A.bl _ (Yg.mp U)) (fc ((n C X F A).e r w.1) pa_nil (b6 w.2)) (b6 w.2)).imp fun O H a0=>LI.rng)|rev a n=>(intro C X F A;refine⟨(fun e z=>by cases z),(fun e z=>by cases z),(fun es z=>by cases z),fun B e h=>?_,(fun es z=>by cases z),(fun e z=>by cases z),(fun _ _ _ _ _ z=>by cases z)⟩;obtain⟨g,es,p,rfl,h⟩:=jk h;replace h:(cx (fun x=>x==("reversed":Str)&&C.gl x && R.bl.contains x) g&&fw (fun r=>(ck R a C).e r&&bf r) es)=true:=h;rw[W4] at h;obtain⟨x,q,rfl,h1⟩:=gz h.1;obtain⟨r,rfl,w⟩:=kq h.2;replace h1:(x==("reversed":Str)&&C.gl x && R.bl.contains x)=true:=h1;replace w:((ck R a C).e r&&bf r)=true:=w;simp only [W4,Xv] at h1 w;obtain⟨⟨rfl,D⟩,U⟩:=h1;exact(N3 (A.gl' D) (A.bl _ (Yg.mp U)) (fc ((n C X F A).e r w.1) pa_nil (b6 w.2)) (b6 w.2)).imp fun O H a0=>LI.rev)|rvt a n=>(intro C X F A;refine⟨(fun e z=>by cases z),(fun e z=>by cases z),(fun es z=>by cases z),fun B e h=>?_,(fun es z=>by cases z),(fun e z=>by cases z),(fun _ _ _ _ _ z=>by cases z)⟩;obtain⟨g,es,p,rfl,h⟩:=jk h;replace h:(cx (fun x=>x==("reversed":Str)&&C.gl x && R.bl.contains x) g&&fw (fun r=>(ck R a C).e r&&bf r) es)=true:=h;rw[W4] at h;obtain⟨x,q,rfl,h1⟩:=gz h.1;obtain⟨r,rfl,w⟩:=kq h.2;replace h1:(x==("reversed":Str)&&C.gl x && R.bl.contains x)=true:=h1;replace w:((ck R a C).e r&&bf r)=true:=w;simp only [W4,Xv] at h1 w;obtain⟨⟨rfl,D⟩,U⟩:=h1;exact(PN (A.gl' D) (A.bl _ (Yg.mp U)) (fc ((n C X F A).e r w.1) pa_nil (b6 w.2)) (b6 w.2)).imp fun O H a0=>LI.revT)
 |enu a n=>
  intro C X F A;refine⟨(fun e z=>by cases z),(fun e z=>by cases z),(fun es z=>by cases z),fun B e h=>?_,(fun es z=>by cases z),(fun e z=>by cases z),(fun _ _ _ _ _ z=>by cases z)⟩;obtain⟨g,es,p,rfl,h⟩:=jk h;replace h:(cx (fun x=>x==("enumerate":Str)&&C.gl x && R.bl.contains x) g&&fw (fun r=>(ck R a C).e r&&bf r) es && !vg B)=true:=h;rw[W4,W4] at h;obtain⟨⟨ha,Z⟩,hT⟩:=h;obtain⟨bQ,kn,qq,rfl⟩:∃bQ kn qq,B=.Tuple bQ kn qq:=by cases B with|Tuple bQ kn qq=>exact⟨_,_,_,rfl⟩|_=>cases hT
  obtain⟨x,q,rfl,h1⟩:=gz ha;obtain⟨r,rfl,w⟩:=kq Z;replace h1:(x==("enumerate":Str)&&C.gl x && R.bl.contains x)=true:=h1;replace w:((ck R a C).e r&&bf r)=true:=w;simp only [W4,Xv] at h1 w;obtain⟨⟨rfl,D⟩,U⟩:=h1;exact(Qi (A.gl' D) (A.bl _ (Yg.mp U)) (fc ((n C X F A).e r w.1) pa_nil (b6 w.2)) (b6 w.2)).imp fun O H a0=>LI.enu
 |rvs b a n=>(intro C X F A;refine dm fun e h=>?_;obtain⟨x,t,r,p,rfl,f,i⟩:=PF h;obtain⟨y,z,rfl,g⟩:=CT i;exact NJ ((n C X F A).e x f) (u4 vw (zg (eq_of_beq g))))
 |idx a r n J=>
  intro C X F A;refine dm fun e h=>?_;obtain⟨g,es,cp,rfl,h⟩:=jk h;replace h:(oC (fun l x W=>x==("index":Str)&&(ck R a C).e l&&ly l&&W.endLine==cp.line) g&&(ck R r C).l es&&fw (fun _=>true) es)=true:=h;simp only [W4] at h;obtain⟨⟨h1,w⟩,D⟩:=h;obtain⟨l,x,W,rfl,h1⟩:=zT h1;obtain⟨e,rfl,_⟩:=kq D;replace h1:(x==("index":Str)&&(ck R a C).e l&&ly l&&W.endLine==cp.line)=true:=h1;simp only [W4,Xv] at h1;obtain⟨⟨⟨rfl,U⟩,h5⟩,h6⟩:=h1;have hs:bf e=true:=qf w e W8;have bs:attributeBase l "index" X.env (eval l X.env)=eval l X.env:=by cases l <;> first|rfl|cases h5
  exact(pX X0 PySem.F.slot_list_index PySem.F.type_list_index Tb ((n C X F A).e l U) ((J C X F A).l _ w).1 bs (by rw[b6 hs];rfl) (Xv.mpr h6) (b6 hs) rfl).imp fun O H Q=>LE.idx
 |zip r J=>
  intro C X F A;refine⟨(fun e z=>by cases z),(fun e z=>by cases z),(fun es z=>by cases z),fun B e h=>?_,(fun es z=>by cases z),(fun e z=>by cases z),(fun _ _ _ _ _ z=>by cases z)⟩;obtain⟨g,es,p,rfl,h⟩:=jk h;replace h:(cx (fun x=>x==("zip":Str)&&C.gl x && R.bl.contains x) g&&(ck R r C).l es&&oz (fun _ _=>true) es && !vg B)=true:=h;simp only [W4] at h;obtain⟨⟨⟨ha,Z⟩,hc⟩,hT⟩:=h;obtain⟨bQ,kn,qq,rfl⟩:∃bQ kn qq,B=.Tuple bQ kn qq:=by cases B with|Tuple bQ kn qq=>exact⟨_,_,_,rfl⟩|_=>cases hT
  obtain⟨x,q,rfl,h1⟩:=gz ha;obtain⟨y,z,rfl,_⟩:=zw hc;replace h1:(x==("zip":Str)&&C.gl x && R.bl.contains x)=true:=h1;simp only [W4,Xv] at h1;obtain⟨⟨rfl,D⟩,U⟩:=h1;have s1:bf y=true:=qf Z y W8;have s2:bf z=true:=qf Z z (W7 _ W8);exact(Ztl.pi_zip (A.gl' D) (A.bl _ (Yg.mp U)) ((J C X F A).l _ Z).1 (b6 s1) (by rw[b6 s2];rfl)).imp fun O H a0=>LI.zip
 |glb j=>(intro C X F A;refine dm fun e h=>?_;obtain⟨x,p,rfl,h⟩:=gz h;replace h:((R.gl[j]?).map (·.1)==some x&&C.gl x&&gb x)=true:=h;simp only [W4,Xv] at h;obtain⟨⟨h1,w⟩,D⟩:=h;simp only [gb,W4,YZ] at D;cases q : R.gl[j]? with|none=>(rw[q] at h1;cases h1)|some pr=>obtain⟨y,t⟩:=pr;rw[q] at h1;cases h1;obtain⟨v,u,g1,g2,g3⟩:=A.gl _ (XT q);exact(zG (A.gl' w) g1 g2 D.1.1).imp fun O H Q z2=>by obtain⟨G,ta,M,K0,a0,k,q⟩:=z2;exact q _ _ G ta v H k a0 .refl (g3 G))
 |get d k z ihd qW ihz=>
  intro C X F A;refine dm fun e h=>?_;obtain⟨g,es,cp,rfl,h⟩:=jk h;replace h:(oC (fun l x W=>x==("get":Str)&&(ck R d C).e l&&ly l&&W.endLine==cp.line) g&&oz (fun a b=>(ck R k C).e a&&bf a&&(ck R z C).e b&&bf b) es)=true:=h;rw[W4] at h;obtain⟨l,x,W,rfl,h1⟩:=zT h.1;obtain⟨a,b,rfl,w⟩:=zw h.2;replace h1:(x==("get":Str)&&(ck R d C).e l&&ly l&&W.endLine==cp.line)=true:=h1;replace w:((ck R k C).e a&&bf a&&(ck R z C).e b&&bf b)=true:=w;simp only [W4,Xv] at h1 w;obtain⟨⟨⟨rfl,D⟩,U⟩,h5⟩:=h1;obtain⟨⟨⟨h6,h7⟩,h8⟩,h9⟩:=w;have st:starEach [a,b] X.env=[(false,eval a X.env),(false,eval b X.env)]:=by rw[b6 h7,b6 h9];rfl
  have bs:attributeBase l "get" X.env (eval l X.env)=eval l X.env:=by cases l <;> first|rfl|cases U
  have m:M2 X l "get" W a b cp:=⟨bs,(by rw[st];rfl),Xv.mpr h5,(by rw[st];rfl)⟩;exact(RU (by have:=A.un;lia) ((ihd C X F A).e l D) ((qW C X F A).e a h6) ((ihz C X F A).e b h8) m).imp fun O H Q=>LE.get
end
inductive IS where
 |skip
 |seq (a b:IS)|cut (a b:IS)
 |ret (e:IE)|exp (e:IE)|set (i:Nat) (e:IE)|asg (p:Pt) (e:IE)
 |ife (c:IE) (a b:IS)|for (p:Pt) (it:IE) (b:IS)|whl (c:IE) (b:IS)
 |dput (v d k:IE)|lput (v o i:IE)
 |no|trp (b:IS)|dtl (e lo:IE)
def J1 (a b:cg):cg:=fun P M=>∃c:Ms->Prop,a { P with nx:=c } M/\∀I,c I->b P I
def aD (w:cg):cg:=fun P M=>uI M (w P)
theorem mT (w:cg):aD w=w:=by funext P M;exact zx
def aB (R : Gm):IS->cg
 | .skip=>Cy
 | .seq a b=>Kp (aB R a) (aD (aB R b))
 | .cut a b=>J1 (aB R a) (aD (aB R b))
 | .ret e=>Ko (aq R e).e
 | .exp e=>Kn (aq R e).e
 | .set i e=>AV i (aq R e).e
 | .asg p e=>Kj (bd p) (aq R e).e
 | .ife c a b=>A9 (aq R c).t (aD (aB R a)) (aD (aB R b))
 | .for p it b=>Kk (aq R it).i (bd p) (aD (aB R b))
 | .whl c b=>Km (aq R c).t (aD (aB R b))
 | .dput v d k=>Cu (aq R v).e (aq R d).e (aq R k).e
 | .lput v o i=>Cp (aq R v).e (aq R o).e (aq R i).e
 | .no=>wV
 | .trp b=>aB R b
 | .dtl e lo=>Cj (aq R e).e (aq R lo).o
noncomputable def yD:Expr->Bool
 | .Tuple _ _ _=>false
 |_=>true
structure Sk where
 s:Stmt->Bool
 b:List Stmt->Bool
noncomputable def i9 (s:Stmt->Bool):Sk:=⟨s,fun a=>match a with | [st]=>s st|_=>false⟩
noncomputable def yC:Stmt->Bool
 | .Pass _=>true
 |_=>false
def Wj:List Stmt->Bool
 |[]=>true
 |[st]=>yC st
 |_=>false
noncomputable def J0 (a:Stmt->Bool)(b:List Stmt->Bool):List Stmt->Bool
 |st::r=>a st&&b r
 |_=>false
noncomputable def JZ (c:Expr->Bool):Stmt->Bool
 | .Return (some x) _=>c x
 |_=>false
def JY (c:Expr->Bool):Stmt->Bool
 | .Expr x _=>c x&&jU x
 |_=>false
noncomputable def si (c:Expr->Expr->Bool):Stmt->Bool
 | .Assign [B] v _=>c B v
 |_=>false
noncomputable def Bp (c:Expr->Bool)(a b:List Stmt->Bool):Stmt->Bool
 | .If t x y _=>c t&&a x&&b y
 |_=>false
def JX (p:Expr->Bool)(i:Expr->Expr->Bool)(b:List Stmt->Bool):Stmt->Bool
 | .For B x y [] _=>p B&&i B x&&dW x&&b y
 |_=>false
noncomputable def JW (c:Expr->Bool)(b:List Stmt->Bool):Stmt->Bool
 | .While t x [] _=>c t&&b x
 |_=>false
noncomputable def JV (c:List Stmt->Bool):Stmt->Bool
 | .Try b (_::_) [] [] _=>c b
 |_=>false
theorem Pn {c:List Stmt->Bool}(h:JV c st=true):∃b d a p,st=.Try b (d::a) [] [] p/\c b=true:=by cases st with|Try b a e fi p=>(cases a with|nil=>exact(W6 h).elim|cons d a=>cases e with|cons _ _=>exact(W6 h).elim|nil=>cases fi with|cons _ _=>exact(W6 h).elim|nil=>exact⟨_,_,_,_,rfl,h⟩)|_=>exact(W6 h).elim
def CS (c:Expr->Option Expr->Bool):Stmt->Bool
 | .Delete ts _=>fw (ka fun o s=>tW (fun u v d=>c o u&&oa v&&oa d) s) ts
 |_=>false
theorem Ru {c:Expr->Option Expr->Bool}(h:CS c st=true):∃o lo p q r,st=.Delete [.Subscript o (.Slice lo none none p) q] r/\c o lo=true:=by cases st with|Delete ts q=>(obtain⟨e,rfl,f⟩:=kq h;obtain⟨o,s,p,rfl,g⟩:=oI f;obtain⟨u,v,d,r,rfl,b⟩:=nq g;simp only [W4] at b;obtain rfl:=pQ b.1.2;obtain rfl:=pQ b.2;exact⟨_,_,_,_,_,rfl,b.1.1⟩)|_=>exact(W6 h).elim
noncomputable def gp (R : Gm):IS->Cs->Sk
 | .skip,_=>⟨yC,Wj⟩
 | .seq a b,C=>⟨fun _=>false,J0 (gp R a C).s (gp R b C).b⟩
 | .cut a b,C=>⟨fun _=>false,J0 (gp R a C).s (gp R b C).b⟩
 | .ret e,C=>i9 (JZ (ck R e C).e)
 | .exp e,C=>i9 (JY (ck R e C).e)
 | .set i e,C=>i9 (si fun B v=>cx (fun x=>C.N[i]? == some x&&C.loc x) B&&(ck R e C).e v)
 | .asg p e,C=>i9 (si fun B v=>ckP C p B&&(ck R e C).e v&&jU v&&yD v&&bf B)
 | .ife c a b,C=>i9 (Bp (ck R c C).t (gp R a C).b (gp R b C).b)
 | .for p it b,C=>i9 (JX (ckP C p) (ck R it C).i (gp R b C).b)
 | .whl c b,C=>i9 (JW (ck R c C).t (gp R b C).b)
 | .dput v d k,C=>i9 (si fun B x=>ka (fun o i=>(ck R d C).e o&&(ck R k C).e i) B&&(ck R v C).e x&&jU x)
 | .lput v o i,C=>i9 (si fun B x=>ka (fun a b=>(ck R o C).e a&&(ck R i C).e b&&m4 b) B&&(ck R v C).e x&&jU x)
 | .no,_=>⟨fun _=>true,fun _=>true⟩
 | .trp b,C=>i9 (JV (gp R b C).b)
 | .dtl e lo,C=>i9 (CS fun o l=>(ck R e C).e o&&(ck R lo C).o l)
theorem Gi (h:yC st=true):∃p,st=.Pass p:=by cases st <;> first|exact⟨_,rfl⟩|cases h
theorem Pm (h:JZ c st=true):∃x p,st=.Return (some x) p/\c x=true:=by cases st with|Return o p=>(cases o with|none=>exact(W6 h).elim|some x=>exact⟨_,_,rfl,h⟩)|_=>exact(W6 h).elim
theorem Pl (h:JY c st=true):∃x p,st=.Expr x p/\c x=true/\jU x=true:=by cases st with|Expr x p=>have h:(_&&_)=true:=h;simp only [W4] at h;exact⟨_,_,rfl,h⟩|_=>exact(W6 h).elim
theorem vX {c:Expr->Expr->Bool}(h:si c st=true):∃B v p,st=.Assign [B] v p/\c B v=true:=by cases st with|Assign l v p=>(rcases l with _|⟨t,_|_⟩ <;> first|exact⟨_,_,_,rfl,h⟩|exact(W6 h).elim)|_=>exact(W6 h).elim
theorem NB {a b:List Stmt->Bool}(h:Bp c a b st=true):∃t x y p,st=.If t x y p/\c t=true/\a x=true/\b y=true:=by cases st with|If t x y p=>have h:(_&&_&&_)=true:=h;simp only [W4] at h;exact⟨_,_,_,_,rfl,h.1.1,h.1.2,h.2⟩|_=>exact(W6 h).elim
theorem Pk {p:Expr->Bool}{i:Expr->Expr->Bool}{b:List Stmt->Bool}(h:JX p i b st=true):∃B x y q,st=.For B x y [] q/\p B=true/\i B x=true/\dW x=true/\b y=true:=by cases st with|For t x y z q=>(cases z with|nil=>have h:(_&&_&&_&&_)=true:=h;simp only [W4] at h;exact⟨_,_,_,_,rfl,h.1.1.1,h.1.1.2,h.1.2,h.2⟩|cons _ _=>exact(W6 h).elim)|_=>exact(W6 h).elim
theorem Pj {b:List Stmt->Bool}(h:JW c b st=true):∃t x q,st=.While t x [] q/\c t=true/\b x=true:=by cases st with|While t x z q=>(cases z with|nil=>have h:(_&&_)=true:=h;simp only [W4] at h;exact⟨_,_,_,rfl,h.1,h.2⟩|cons _ _=>exact(W6 h).elim)|_=>exact(W6 h).elim
section
variable {C:Cs}
theorem Rt (h:yD e=true):swappedStores [B] e env=pure none:=by cases e <;> first | (cases B <;> rfl)|cases h
theorem S1 {a b:Expr}:swappedStores [.Subscript a b p] e env=pure none:=by cases e <;> rfl
theorem Du (h:bf B=true):(assignEach [B] env).map (·.2)=[assign B env]:=by cases B <;> first|rfl|cases h
structure tu (R : Gm)(X:Cx)(F:Fr)(w:cg)(c:Sk):Prop where
 s:∀st,c.s st=true->PS X st (LS X.K F w)
 b:∀iE,c.b iE=true->PSs X iE (LS X.K F w)
theorem jW {w:cg}{c:Stmt->Bool}(h:∀st,c st=true->PS X st (LS X.K F w)):tu R X F w (i9 c) where
 s:=h
 b:=fun iE hs=>by match iE,hs with|[st],hs=>exact gM (h st hs)
theorem Ae {B:Option Expr}{n:Nat}(h:jU e=true):swapsWith e B n env=pure false:=by cases e <;> first|rfl|cases h
theorem HI {n:Nat}(h:jU e=true):swapsWithSole [B] e n env=pure false:=by cases e <;> first|rfl|cases h
theorem PE.swp {d:Pos}{v:Expr}{e:IE}(A:At R C X)(P:C.N[i]?=some x)(Q:C.loc x=true)(l:(ck R e C).e v=true):PS X (.Assign [.Name x p] v d) (LS X.K F (AV i (aq R e).e)):=by
 obtain⟨l1,l2⟩:=Cs.loc_is A Q;have m:X.N.Nodup:=by rw[A.N];exact A.nd
 have n:X.N[i]?=some x:=by rw[A.N];exact P
 have E:=(snd R e C X F A).e v l;by_cases L:jU v=true;exact(jV m n l1 E (Ae L) l2).imp fun D O H=>LS.set;cases v with
 |ListComp elt gens scope pos=>
  have g:∃b,swapsWith (.ListComp elt gens scope pos) (some (.Name x p)) d.line X.env=pure b:=⟨_,rfl⟩;obtain⟨b,g⟩:=g;cases b with
  |false=>(exact(jV m n l1 E g l2).imp fun D O H=>LS.set)
  |true=>
   cases e with
   |comp af own I it c e=>(obtain⟨o,B,iter,ifs,a,u,r,h⟩:=vY l;cases r;obtain⟨N',f,S,h1,s,t⟩:=wD (F:=F) A (snd R it) (snd R c) (snd R e) h;exact(HS A.calm m n l1 S h1 t g (oP s) l2).imp fun D O H k=>by obtain⟨G,w,M,z,a0,k,q⟩:=LS.set k;exact LE.comp f ⟨G,w,M,z,a0,k,q⟩)
   |cmpv af own I j c e=>
    obtain⟨o,B,iter,ifs,a,u,r,h⟩:=vY l;cases r;have J:cx (fun x=>C.N[j]? == some x&&C.vis x&&gb x) iter=true:=by replace h:(jX (fun x=>C.names.lookup x) C.N scope (bu C af own) (af.map some++List.replicate own.length none)&&cx (fun x=>C.N[j]? == some x&&C.vis x&&gb x) iter&&dW iter&&ckP (C.in scope (bu C af own)) I B&&(ck R c (C.in scope (bu C af own))).ts ifs&&(ck R e (C.in scope (bu C af own))).e elt&&decide (bu C af own).Nodup)=true:=h;simp only [W4] at h;exact h.1.1.1.1.1.2
    obtain⟨N',f,S,h1,s,t⟩:=wD (F:=F) (it:=.var j) A (EX R j) (snd R c) (snd R e) h;obtain⟨y,q,rfl,J⟩:=gz J;exact(HS A.calm m n l1 S (y6 (vk (F:=F) (A.var J))) t g (oP s) l2).imp fun D O H k=>by obtain⟨G,w,M,z,a0,k,q⟩:=LS.set k;exact LE.compV f ⟨G,w,M,z,a0,k,q⟩
   |_=>cases l
 |SetComp _ _ _ _=>(cases e <;> cases l)|DictComp kx vx gens scope pos=>(have g:∃b,swapsWith (.DictComp kx vx gens scope pos) (some (.Name x p)) d.line X.env=pure b:=⟨_,rfl⟩;obtain⟨b,g⟩:=g;cases b with|false=>(exact(jV m n l1 E g l2).imp fun D O H=>LS.set)|true=>cases e with|compd af own I it c k e=>(obtain⟨T,U,B,iter,ifs,a,u,r,h⟩:=GY l;cases r;obtain⟨N',f,S,h1,s,t⟩:=IG (F:=F) A (snd R it) (snd R c) (snd R k) (snd R e) h;exact(UQ A.calm m n l1 S h1 t g (oP s) l2).imp fun D O H k=>by obtain⟨G,w,M,z,a0,k,q⟩:=LS.set k;exact LE.compD f ⟨G,w,M,z,a0,k,q⟩)|_=>cases l)|_=>exact absurd rfl L
theorem LS.cut {a b:cg}{D:bp}:LS X.K F (J1 a b) D O H->yw (LS X.K F a) (LS X.K F b) D O H:=fun⟨G,M,P,R,⟨h,k,c⟩,ok⟩=>
 ⟨G,M,_,R,k,fun M1 d e i p f g=>⟨d,M1,P,f,c M1 p,ok.up g⟩,ok.rt,ok.bk,ok.ct⟩
theorem VW (R : Gm)(C:Cs)(X:Cx)(F:Fr)(A:At R C X)(L:∀e s,X.xe e s->False):∀E:IS,tu R X F (aB R E) (gp R E C):=by have Q:PassesOwn (model X.prog X.w) X.A X.env X.xe:=fun e s h=>(L e s h).elim;have I:∀D O H,LS X.K F Cy D O H->jn D O H:=fun D O H Z=>(by obtain⟨G,M,P,a0,k,ok⟩:=Z;exact ok.nx M G O H k a0 (Same.refl _));intro E;induction E with|skip=>(refine⟨fun st h=>?_,fun n h=>?_⟩;obtain⟨p,rfl⟩:=Gi h;exact ps_pass.imp I;match n,h with|[],_=>exact pss_nil.imp I|[st],h=>obtain⟨p,rfl⟩:=Gi h;exact gM (ps_pass.imp I))|seq a b j g=>(refine⟨(fun st h=>by cases h),fun n h=>?_⟩;match n,h with|st::r,h=>have h':((gp R a C).s st&&(gp R b C).b r)=true:=h;simp only [W4] at h';exact(gA (j.s st h'.1) (g.b r h'.2)).imp fun D O H z=>LS.seq (by rw[<- mT (aB R b)];exact z))|cut a b j g=>(refine⟨(fun st h=>by cases h),fun n h=>?_⟩;match n,h with|st::r,h=>have h':((gp R a C).s st&&(gp R b C).b r)=true:=h;simp only [W4] at h';exact(gA (j.s st h'.1) (g.b r h'.2)).imp fun D O H z=>LS.cut (by rw[<- mT (aB R b)];exact z))|ret e=>(exact jW fun st h=>by obtain⟨x,p,rfl,h⟩:=Pm h;exact(oN ((snd R e C X F A).e x h)).imp fun D O H=>LS.ret)|exp e=>(exact jW fun st h=>by obtain⟨x,p,rfl,h,m⟩:=Pl h;exact(sR ((snd R e C X F A).e x h) (Ae m)).imp fun D O H=>LS.exp)|set i e=>(exact jW fun st h=>by obtain⟨B,v,p,rfl,h⟩:=vX h;replace h:(cx (fun x=>C.N[i]? == some x&&C.loc x) B&&(ck R e C).e v)=true:=h;simp only [W4] at h;obtain⟨x,q,rfl,h1⟩:=gz h.1;replace h1:(C.N[i]? == some x&&C.loc x)=true:=h1;simp only [W4,Xv] at h1;exact PE.swp A h1.1 h1.2 h.2)|asg p e=>(exact jW fun st h=>by obtain⟨B,v,q,rfl,h⟩:=vX h;replace h:(ckP C p B&&(ck R e C).e v&&jU v&&yD v&&bf B)=true:=h;simp only [W4] at h;obtain⟨⟨⟨⟨h1,m⟩,u⟩,J⟩,S⟩:=h;exact(DP ((snd R e C X F A).e v m) ((uT A p).1 B h1) (HI u) (Rt J) (Du S)).imp fun D O H=>LS.asgP)|ife c a b j g=>(exact jW fun st h=>by obtain⟨t,x,y,q,rfl,h1,m,u⟩:=NB h;exact(u5 ((snd R c C X F A).t t h1) (j.b x m) (g.b y u)).imp fun D O H z=>LS.ite (by rw[<- mT (aB R a),<- mT (aB R b)];exact z))| «for» p it b g =>(exact jW fun st h=>by obtain⟨B,x,y,q,rfl,h1,m,u,J⟩:=Pk h;exact(vz Q A.calm ((snd R it C X F A).i B x m) ((uT A p).1 B h1) (g.b y J) (oP u)).imp fun D O H z=>LS.for (by rw[<- mT (aB R b)];exact z))|whl c b g=>(exact jW fun st h=>by obtain⟨t,x,q,rfl,h1,m⟩:=Pj h;exact(Se Q ((snd R c C X F A).t t h1) (g.b x m)).imp fun D O H z=>LS.whl (by rw[<- mT (aB R b)];exact z))|no=>exact⟨fun st _=>Wk,fun n _=>NF⟩|trp b g=>(exact jW fun st h=>by obtain⟨T,U,V,p,rfl,h⟩:=Pn h;exact Ue L (g.b T h))|dtl e lo=>(exact jW fun st h=>by obtain⟨o,l,p,q,r,rfl,f⟩:=Ru h;replace h:((ck R e C).e o&&(ck R lo C).o l)=true:=f;simp only [W4] at h;exact(Uk ((snd R e C X F A).e o h.1) ((snd R lo C X F A).o l h.2)).imp fun D O H=>LS.delt)|dput v d k=>(exact jW fun st h=>by obtain⟨B,x,q,rfl,h⟩:=vX h;replace h:(ka (fun o i=>(ck R d C).e o&&(ck R k C).e i) B&&(ck R v C).e x&&jU x)=true:=h;simp only [W4] at h;obtain⟨o,i,p,rfl,h1⟩:=oI h.1.1;replace h1:((ck R d C).e o&&(ck R k C).e i)=true:=h1;simp only [W4] at h1;exact(Qp (by have:=A.un;lia) ((snd R d C X F A).e o h1.1) ((snd R k C X F A).e i h1.2) ((snd R v C X F A).e x h.1.2) (Ae h.2)).imp fun D O H=>LS.dput)|lput v o i=>exact jW fun st h=>by obtain⟨B,x,q,rfl,h⟩:=vX h;replace h:(ka (fun a b=>(ck R o C).e a&&(ck R i C).e b&&m4 b) B&&(ck R v C).e x&&jU x)=true:=h;simp only [W4] at h;obtain⟨a,b,p,rfl,h1⟩:=oI h.1.1;replace h1:((ck R o C).e a&&(ck R i C).e b&&m4 b)=true:=h1;simp only [W4] at h1;exact(DP ((snd R v C X F A).e x h.1.2) (Ou ((snd R o C X F A).e a h1.1.1) ((snd R i C X F A).e b h1.1.2) RX (fun v=>by have:=h1.2;cases b <;> first|rfl|cases this)) (HI h.2) S1 (Du rfl)).imp fun D O H=>LS.lput
end
section
def Fk (P:Program)(w:World)(K:W.Frag)(mg:Str->Option Value)(base:Heap)(k:Nat)(p:Str×aK):Prop:=∃j f Y ps,FnOk P w K mg base dr j f Y ps (ff K p.2)/\j<=k/\mg p.1=some (.ref f)/\PySem.W.keepIn K (.ref f)=true/\Binds K Y ps []
theorem Fun.okI {f:Addr}{N:List Str}{k:Nat}(R : Gm)(c:IS)(F:Fun K x y st f Y)(S:aO N ps (cO st))(len:∀args k,psp args k->args.length=ps.length)
  (i:(gp R c ⟨N,(cO st).names,true⟩).b (iT st)=true) (bl:∀x ∈ R.bl,mg x=none) (kt:∀T ∈ R.kt,∀n ∈ ["NoneType","bool","int","str","tuple","list","dict"],PySem.W.kitOne K (.type n) (.type T)=some (nG n T)) (gl:∀p ∈ R.gl,∃v u,mg p.1=some u/\RelV v u/\∀G,IsT K G v p.2) (fns:∀p ∈ R.fns,Fk P w K mg base k p) (fv:∀p ∈ R.fv,∃j,j<=k/\∀a,p.1 a->∃Y ps,FnOk P w K mg base dr j a Y ps (ff K (p.2 a))/\PySem.W.keepIn K (.ref a)=true/\Binds K Y ps [])
  (h:∀args k,psp args k->aD (aB R c) (aW args k) (aR N.length args)):FnOk P w K mg base dr (k+1) f Y ps (ff K psp):=
 F.okW S len (fun m A outer s H E Fr d=>(VW R ⟨N,(cO st).names,true⟩ _ Fr ⟨rfl,S.nd,rfl,S.kind,fun _ _=>rfl,rfl,bl,d.units,d.gd,kt,gl,fun p e=>by
  obtain⟨j,f,Y,ps,h1,g,l⟩:=fns p e
  exact⟨j,f,Y,ps,h1,d.mono g,l⟩,fun p e=>by
  obtain⟨j,h1,g⟩:=fv p e
  exact⟨j,d.mono h1,g⟩⟩ (fun _ _ h=>h) c).b _ i) (fun args k q=>by rw[<- mT (aB R c)];exact h args k q)
end
end
section
variable {t:Tv}
theorem bx {o:Option Tv}{f:Rs->Prop}(h:o=some t)(k:f (.v t)):bz (ofO o) f:=by rw[h];exact k
theorem iS {i j:Int}(h : -(2 ^ 64)<i)(h':i<2 ^ 64):CMul i j:=.inl ⟨h,h'⟩
theorem sx {i j:Int}(h : -(2 ^ 64)<j)(h':j<2 ^ 64):CMul i j:=.inr ⟨h,h'⟩
end
section
variable {c:Type}
theorem jj {l:List c}{i:Int}(b:0<=i)(h1:i<l.length):∃t,d6 l i=some t/\t∈l:=by
 obtain⟨j,rfl⟩:=YN b;have a:j<l.length:=by lia
 exact⟨l[j],Xc a,YC a⟩
end
section
variable {P:Program}{w:World}{K:W.Frag}{mg:Str->Option Value}{base:Heap}{ps:List Str}{psp:aK}
theorem Rr {k:Nat}{f:Addr}{d:FuncData}(h:∀args k,¬psp args k):FnOk P w K mg base dr k f d ps (ff K psp):=⟨fun c H Q E z=>by obtain⟨G,args,g,e,_,_,_,b,_⟩:=z;exact (h _ _ b).elim,fun A outer s H args i c Q E j l m r y=>by obtain⟨_,a,_,e,_,_,_,b,_⟩:=y;exact (h _ _ b).elim⟩
end
section
noncomputable def yr:List Str:=["range","list","repr","isinstance","bool","len","tuple","int","sum","dict","zip","reversed","all","any","enumerate","str","set"]
noncomputable def xp:List String:=["tuple","bool","int","str"]
abbrev gm (f:List (Str×aK))(g:List (Str×Tv)):Gm:=⟨yr,f,xp,g,[]⟩
abbrev pK (K:W.Frag)(T:String):Prop:=∀n ∈ ["NoneType","bool","int","str","tuple","list","dict"],PySem.W.kitOne K (.type n) (.type T)=some (nG n T)
structure Tx (K:W.Frag)(mg:Str->Option Value):Prop where
 bl:∀x∈yr,mg x=none
 kt:∀T∈xp,pK K T
structure Fn (K:W.Frag)(mg:Str->Option Value)(x:Str)(st:Stmt)(ps:List Str)(f:Addr)(d:FuncData):Prop where
 F:Fun K x x st f d
 b:Binds K d ps []
 m:mg x=some (.ref f)
def A7 (K:W.Frag)(mg:Str->Option Value)(x:Str)(st:Stmt)(ps:List Str):Prop:=∃f d,Fn K mg x st ps f d
def VU (st:Stmt):List Str:=((cO st).names.filter fun y=>y.2 == .local||y.2 == .cell).map (·.1)
def kc (st:Stmt):List Str:=(ku st).args.map (·.arg)
noncomputable def xb (N P:List Str)(a:Scope):Bool:=decide (a.kind=.function) && !a.isCoroutine && !a.isGenerator&&decide N.Nodup&&decide (N.take P.length=P)&&P.all (fun x=>decide (a.names.lookup x=some .local∨a.names.lookup x=some .cell))&&a.names.all (fun y=>decide (y.2 ≠ .free))
variable {x:Str}{P:Program}{w:World}{K:W.Frag}{st:Stmt}{j:Nat}{mg:Str->Option Value}{base:Heap}{ps:List Str}{psp:aK}
theorem NA {N P:List Str}{i:Scope}(h:xb N P i=true):aO N P i:=by simp only [xb,W4,Yq,YZ,Yp] at h;obtain⟨⟨⟨⟨⟨⟨a,b⟩,c⟩,d⟩,e⟩,f⟩,g⟩:=h;exact⟨a,b,c,d,e,f,g⟩
def tZ (a : Gm)(c:IS)(N:List Str)(n m:Nat)(st:Stmt):Bool:=xb N (kc st) (cO st)&&(gp a c ⟨N,(cO st).names,true⟩).b (iT st)&&N.length==n&&(kc st).length==m
abbrev bC (a : Gm)(b:IS)(n m:Nat)(st:Stmt):Prop:=tZ a b (VU st) n m st=true
def W2:aK:=fun _ _=>True
section
def AllF (P:Program)(w:World)(K:W.Frag)(mg:Str->Option Value)(base:Heap)(k:Nat):List (Str×aK)->Prop
 |[]=>True
 |p::r=>Fk P w K mg base k p/\AllF P w K mg base k r
theorem AllF.mem {k:Nat}{l:List (Str×aK)}(h:AllF P w K mg base k l):∀p∈l,Fk P w K mg base k p:=by induction l with|nil=>(intro p b;cases b)|cons a r c=>intro p b;cases b with|head=>exact h.1|tail _ b=>exact c h.2 p b
def AllG (K:W.Frag)(mg:Str->Option Value):List (Str×Tv)->Prop
 |[]=>True
 |p::r=>(∃v u,mg p.1=some u/\RelV v u/\∀G,IsT K G v p.2)/\AllG K mg r
theorem AllG.mem {l:List (Str×Tv)}(h:AllG K mg l):∀p∈l,∃v u,mg p.1=some u/\RelV v u/\∀G,IsT K G v p.2:=by induction l with|nil=>(intro p b;cases b)|cons a r c=>intro p b;cases b with|head=>exact h.1|tail _ b=>exact c h.2 p b
theorem Fk.up {k:Nat}{p:Str×aK}(h:Fk P w K mg base j p)(e:j<=k:=by decide):Fk P w K mg base k p:=by obtain⟨i,f,d,ps,a,b,c⟩:=h;exact⟨i,f,d,ps,a,XZ b e,c⟩
def Fs (P:Program)(w:World)(K:W.Frag)(mg:Str->Option Value)(base:Heap)(k:Nat)(x:Str)(st:Stmt)(psp:aK):Prop:=∃f d,Fn K mg x st (kc st) f d/\FnOk P w K mg base dr k f d (kc st) (ff K psp)
theorem Fs.up {k:Nat}(h:Fs P w K mg base j x st psp)(e:j<=k:=by decide):Fk P w K mg base k (x,psp):=by obtain⟨f,d,F,h⟩:=h;exact⟨j,f,d,_,h,e,F.m,F.F.kp,F.b⟩
theorem Fs.lift {k:Nat}(h:Fs P w K mg base j x st psp)(e:j<=k):Fs P w K mg base k x st psp:=by obtain⟨f,d,F,h⟩:=h;exact⟨f,d,F,h.mono e⟩
theorem bj {N:List Str}{n m k:Nat}{f:List (Str×aK)}{g:List (Str×Tv)}{b:IS}(T:Tx K mg)(h:A7 K mg x st (kc st))(c:tZ (gm f g) b N n m st=true)(e:∀a q,psp a q->aD (aB (gm f g) b) (aW a q) (aR n a))(fns:AllF P w K mg base k f)(gl:AllG K mg g:=by exact trivial)(len:∀a q,psp a q->a.length=m:=by intro _ _ h;cases h;subst_vars;rfl):Fs P w K mg base (k+1) x st psp:=by obtain⟨a,d,F⟩:=h;simp only [tZ,W4,Xv] at c;obtain⟨⟨⟨i,j⟩,rfl⟩,rfl⟩:=c;exact⟨a,d,F,Fun.okI (gm f g) b F.F (NA i) len j T.bl T.kt gl.mem fns.mem (fun p l=>by cases l) e⟩
theorem mm {k:Nat}(h:A7 K mg x st (kc st))(b:∀a q,¬psp a q):Fs P w K mg base k x st psp:=by obtain⟨a,d,F⟩:=h;exact⟨a,d,F,Rr b⟩
theorem Fn.same {c:List Str}{f a:Addr}{d d':FuncData}(F:Fn K mg x st ps f d)(b:Fn K mg x st c a d'):a=f/\d'=d:=by have e:=F.m.symm.trans b.m;cases e;obtain⟨_,_,_,_,_,_,_,_,_,_,l,_⟩:=F.F.ex;obtain⟨_,_,_,_,_,_,_,_,_,_,g,_⟩:=b.F.ex;have e:=l.symm.trans g;cases e;exact⟨rfl,rfl⟩
theorem Fs.any {k:Nat}{ι:Type}{sp:ι -> aK}(i : ι)(h:∀i,Fs P w K mg base j x st (sp i))(e:∀a q,psp a q->∃i,sp i a q)(t:j<=k:=by decide):Fk P w K mg base k (x,psp):=by
 obtain⟨f,d,F,_⟩:=h i;have g:∀i,FnOk P w K mg base dr j f d (kc st) (ff K (sp i)):=fun i=>by obtain⟨I,d',u,h'⟩:=h i;obtain⟨rfl,rfl⟩:=F.same u;exact h'
 refine⟨j,f,d,_,⟨fun l H Q E ⟨G,args,n,o,a,b,c,p,z⟩=>?_,fun A outer s H args v l Q E y he B C ⟨G,D,n,o,a,b,c,p,z⟩=>?_⟩,t,F.m,F.F.kp,F.b⟩;obtain⟨i,r⟩:=e _ _ p;exact(g i).len l H Q E ⟨G,args,n,o,a,b,c,r,z⟩;obtain⟨i,r⟩:=e _ _ p;exact(g i).run A outer s H args v l Q E y he B C ⟨G,D,n,o,a,b,c,r,z⟩
end
end
section
def Ji:IS:=.ret (.and (.isi "int" (.v 0)) (.not (.isi "bool" (.v 0))))
abbrev Jh:Gm:=gm [] []
variable {x:Str}{H H' G:Hp}{a:Addr}{P:Program}{w:World}{c u:Type}{N i j:Nat}{t:Tv}{I:List Sl}{K:W.Frag}{C:List V}{lo J:Option Int}{mg:Str->Option Value}{base:Heap}{L:FuncData}{m:Int}{U s3 s0 Y:aK}{ws:List (aj×Tv)}{ns:List Int}{r:TW}{B:Gm}{a0:Sl}{q:List Str}
theorem UP:bC (Jh) Ji 1 1 (av 7):=by kernel_rfl
abbrev Ph:IE:=.v 0
def EW:IS:=.ret (.b1 .tuple (.comp [] ["field"] (.nm 0) (.v 0) (.not (.isi "tuple" (.v 0))) Ph))
abbrev EV:Gm:=gm [] []
theorem Pg:bC (EV) EW 1 1 (av 8):=by kernel_rfl
abbrev Rq:IE:=.v 0
def GJ:IS:=.ret (.b1 .tuple (.comp [] ["part"] (.nm 0) (.v 0) (.isi "tuple" (.v 0)) Rq))
abbrev GI:Gm:=gm [] []
theorem Ro:bC (GI) GJ 1 1 (av 9):=by kernel_rfl
abbrev Gh:IE:=.tup (.k (.glb 0) (.k (.v 0) .o))
abbrev Rn:IS:=.seq (.asg (.k (.nm 3) (.k (.nm 4) .o)) (.mth .pop (.v 2) .o)) (.seq (.exp (.mth .app (.v 1) (.k (.tup (.k (.v 3) (.k (.v 4) .o))) .o))) (.ife (.cmp .eq (.v 3) (.glb 0)) (.seq (.set 5 (.comp [] ["part"] (.nm 0) (.call 0 (.k (.v 4) .o)) .tt Gh)) (.cut (.ife (.cmp .eq (.ix (.v 4) (.n 0)) (.s "let")) (.set 5 (.lst (.k (.ix (.v 5) (.n 0)) (.k (.tup (.k (.glb 2) (.k (.v 4) .o))) (.k (.ix (.v 5) (.n 1)) (.k (.tup (.k (.glb 1) (.k (.v 4) .o))) .o)))))) .skip) (.exp (.mth .ext (.v 2) (.k (.rvs false (.v 5)) .o))))) .skip))
def GH:IS:=.seq (.set 1 (.lst .o)) (.seq (.set 2 (.lst (.k (.tup (.k (.glb 0) (.k (.v 0) .o))) .o))) (.cut (.whl (.v 2) Rn) (.ret (.v 1))))
abbrev GF (s0:aK):Gm:=gm [("parts",s0)] [("NODE",.at (.str "node")),("CLOSED",.at (.str "closed")),("OPENED",.at (.str "opened"))]
theorem Rm:bC (GF s0) GH 6 1 (av 10):=by kernel_rfl
abbrev EU:IE:=.tup (.k (.call 2 (.k (.v 1) .o)) (.k (.b1 .len (.call 1 (.k (.v 1) .o))) .o))
def ET:IS:=.ret (.comp [] ["deed","node"] (.k (.nm 0) (.k (.nm 1) .o)) (.call 0 (.k (.v 0) .o)) (.cmp .eq (.v 0) (.glb 0)) EU)
abbrev ES (s0 U Y:aK):Gm:=gm [("steps",s0),("parts",U),("head",Y)] [("NODE",.at (.str "node"))]
theorem Pe:bC (ES s0 U Y) ET 1 1 (av 11):=by kernel_rfl
abbrev Gg:IS:=.seq (.set 4 (.bin .sub (.b1 .len (.v 1)) (.v 3))) (.seq (.set 5 (.slc (.v 1) (.v 4) .o)) (.seq (.dtl (.v 1) (.v 4)) (.exp (.mth .app (.v 1) (.k (.bin .add (.v 2) (.b1 .tuple (.rvs false (.v 5)))) .o)))))
def GD:IS:=.seq (.set 1 (.lst .o)) (.cut (.for (.k (.nm 2) (.k (.nm 3) .o)) (.rvt (.v 0)) Gg) (.ret (.ix (.v 1) (.n 0))))
abbrev zR:Gm:=gm [] []
theorem Rk:bC (zR) GD 6 1 (av 12):=by kernel_rfl
abbrev Gf:IE:=.tup (.k (.v 2) (.k (.bin .add (.v 0) (.tup (.k (.v 1) .o))) .o))
abbrev Rj:IS:=.seq (.asg (.k (.nm 3) (.k (.nm 4) .o)) (.mth .pop (.v 2) .o)) (.seq (.exp (.mth .app (.v 1) (.k (.v 4) .o))) (.seq (.set 5 (.comp [4] ["at","part"] (.k (.nm 1) (.k (.nm 2) .o)) (.enu (.call 0 (.k (.v 3) .o))) .tt Gf)) (.exp (.mth .ext (.v 2) (.k (.rvs false (.v 5)) .o)))))
def GC:IS:=.seq (.set 1 (.lst .o)) (.seq (.set 2 (.lst (.k (.tup (.k (.v 0) (.k (.tup .o) .o))) .o))) (.cut (.whl (.v 2) Rj) (.ret (.b1 .tuple (.v 1)))))
abbrev Gz (s0:aK):Gm:=gm [("parts",s0)] []
theorem Ri:bC (Gz s0) GC 6 1 (av 13):=by kernel_rfl
abbrev Dt:IS:=.seq (.set 4 (.call 0 (.k (.ix (.v 2) (.neg (.n 1))) .o))) (.seq (.ife (.or (.not (.call 1 (.k (.v 3) .o))) (.not (.chn .le .lt (.n 0) (.v 3) (.b1 .len (.v 4))))) .no .skip) (.exp (.mth .app (.v 2) (.k (.ix (.v 4) (.v 3)) .o))))
def CQ:IS:=.seq (.set 2 (.lst (.k (.v 0) .o))) (.cut (.for (.nm 3) (.v 1) Dt) (.ret (.v 2)))
abbrev CP (s0 U:aK):Gm:=gm [("parts",s0),("is_whole",U)] []
theorem Nz:bC (CP s0 U) CQ 5 2 (av 14):=by kernel_rfl
abbrev AA:IS:=.ife (.or (.cmp .eq (.ix (.v 2) (.n 0)) (.s "set")) (.and (.cmp .eq (.ix (.v 2) (.n 0)) (.s "name")) (.cmp .lt (.v 3) (.n 0)))) (.dput (.cst (.bl true)) (.v 1) (.ix (.v 2) (.n 1))) .skip
def JK:IS:=.seq (.set 1 .dnew) (.cut (.for (.k (.nm 2) (.k (.nm 3) .o)) (.call 0 (.k (.v 0) .o)) AA) (.ret (.b1 .tdic (.v 1))))
abbrev JJ (s0:aK):Gm:=gm [("owned",s0)] []
theorem Vs:bC (JJ s0) JK 4 1 (av 18):=by kernel_rfl
def Jy:IS:=.seq (.ife (.cmp .eq (.ix (.v 0) (.n 0)) (.s "let")) (.ret (.tup (.k (.s "let") .o))) .skip) (.seq (.ife (.cmp .ge (.v 1) (.n 0)) (.ret (.tup (.k (.s "own") (.k (.v 1) .o)))) .skip) (.ret (.call 0 (.k (.v 0) .o))))
abbrev Jx (s0:aK):Gm:=gm [("head",s0)] []
theorem U9:bC (Jx s0) Jy 2 2 (av 20):=by kernel_rfl
def JI:IS:=.seq (.ife (.cmp .eq (.ix (.v 0) (.n 0)) (.s "set")) (.ret (.tup (.k (.s "set") (.k (.dg (.v 2) (.ix (.v 0) (.n 1))) .o)))) .skip) (.seq (.ife (.and (.cmp .eq (.ix (.v 0) (.n 0)) (.s "name")) (.cmp .lt (.v 1) (.n 0))) (.ret (.tup (.k (.s "free") (.k (.dg (.v 2) (.ix (.v 0) (.n 1))) .o)))) .skip) (.ret (.call 0 (.k (.v 0) (.k (.v 1) .o)))))
abbrev JH (s0:aK):Gm:=gm [("bare_head",s0)] []
theorem Vr:bC (JH s0) JI 3 3 (av 22):=by kernel_rfl
abbrev Jj:IE:=.tup (.k (.call 3 (.k (.v 1) (.k (.v 2) (.k (.v 0) .o)))) (.k (.b1 .len (.call 2 (.k (.v 1) .o))) .o))
def JG:IS:=.seq (.set 1 (.compd [] ["at","name"] (.k (.nm 0) (.k (.nm 1) .o)) (.enu (.call 0 (.k (.v 0) .o))) .tt (.v 1) (.v 0))) (.ret (.comp [1] ["node","own"] (.k (.nm 1) (.k (.nm 2) .o)) (.call 1 (.k (.v 0) .o)) .tt Jj))
abbrev JF (s0 U Y s3:aK):Gm:=gm [("free_names",s0),("owned",U),("parts",Y),("shape_head",s3)] []
theorem Vq:bC (JF s0 U Y s3) JG 2 1 (av 23):=by kernel_rfl
abbrev GX:IE:=.v 2
def Hw:IS:=.seq (.asg (.k (.nm 1) (.k (.nm 2) .o)) (.v 0)) (.ret (.b1 .tuple (.bin .add (.comp [] ["name","params","body"] (.k (.nm 0) (.k (.nm 1) (.k (.nm 2) .o))) (.v 1) .tt GX) (.lst (.k (.v 2) .o)))))
abbrev Hv:Gm:=gm [] []
theorem S0:bC (Hv) Hw 3 1 (av 25):=by kernel_rfl
def Jw:IS:=.seq (.ife (.or (.not (.isi "tuple" (.v 1))) (.cmp .ne (.b1 .len (.v 1)) (.n 2))) .no .skip) (.seq (.asg (.k (.nm 2) (.k (.nm 3) .o)) (.v 1)) (.seq (.set 4 (.call 0 (.k (.v 0) .o))) (.seq (.ife (.or (.not (.call 1 (.k (.v 2) .o))) (.or (.not (.chn .le .lt (.n 0) (.v 2) (.b1 .len (.v 4)))) (.not (.isi "tuple" (.v 3))))) .no .skip) (.trp (.ret (.call 2 (.k (.ix (.v 4) (.v 2)) (.k (.v 3) .o))))))))
abbrev Jv (s0 U Y:aK):Gm:=gm [("bodies",s0),("is_whole",U),("way",Y)] []
theorem U8:bC (Jv s0 U Y) Jw 5 2 (av 27):=by kernel_rfl
def Jg:IS:=.ret (.ix (.call 0 (.k (.v 0) (.k (.v 1) .o))) (.neg (.n 1)))
abbrev Jf (s0:aK):Gm:=gm [("place_way",s0)] []
theorem UO:bC (Jf s0) Jg 2 2 (av 28):=by kernel_rfl
abbrev JB:IS:=.seq (.set 5 (.bin .sub (.b1 .len (.v 2)) (.v 4))) (.seq (.set 6 (.bin .add (.n 1) (.b1 .sum (.slc (.v 2) (.v 5) .o)))) (.seq (.dtl (.v 2) (.v 5)) (.seq (.exp (.mth .app (.v 2) (.k (.v 6) .o))) (.exp (.mth .app (.v 1) (.k (.v 6) .o))))))
def JQ:IS:=.seq (.set 1 (.lst .o)) (.seq (.set 2 (.lst .o)) (.cut (.for (.k (.nm 3) (.k (.nm 4) .o)) (.rev (.call 0 (.k (.v 0) .o))) JB) (.ret (.rvs false (.v 1)))))
abbrev JP (s0:aK):Gm:=gm [("flat",s0)] []
theorem VE:bC (JP s0) JQ 7 1 (av 29):=by kernel_rfl
abbrev IM:IE:=.tup (.k (.v 0) (.k (.v 2) .o))
abbrev IL:IS:=.seq (.set 5 (.call 1 (.k (.v 4) .o))) (.exp (.mth .ext (.v 2) (.k (.comp [3,1] ["path","many"] (.k (.nm 2) (.k (.nm 3) .o)) (.zip (.k (.call 2 (.k (.v 4) .o)) (.k (.v 5) .o))) (.cmp .ge (.v 3) (.v 1)) IM) .o)))
def Ju:IS:=.seq (.set 2 (.lst .o)) (.cut (.for (.k (.nm 3) (.k (.nm 4) .o)) (.enu (.call 0 (.k (.v 0) .o))) IL) (.ret (.b1 .tuple (.v 2))))
abbrev Jt (s0 U Y:aK):Gm:=gm [("bodies",s0),("node_counts",U),("paths",Y)] []
theorem U7:bC (Jt s0 U Y) Ju 6 2 (av 30):=by kernel_rfl
def Hu:IS:=.ret (.dct ["cells","at","left"] (.k (.b1 .list (.slc (.v 0) .o (.n 63))) (.k (.n 0) (.k (.n 0) .o))))
abbrev Ht:Gm:=gm [] []
theorem SY:bC (Ht) Hu 1 1 (av 35):=by kernel_rfl
def Hs:IS:=.seq (.ife (.cmp .gt (.dg (.v 0) (.s "left")) (.n 0)) (.seq (.set 2 (.bin .mod (.dg (.v 0) (.s "left")) (.v 1))) (.seq (.dput (.bin .fdiv (.dg (.v 0) (.s "left")) (.v 1)) (.v 0) (.s "left")) (.ret (.v 2)))) .skip) (.seq (.set 3 (.dg (.v 0) (.s "at"))) (.seq (.dput (.bin .add (.v 3) (.n 1)) (.v 0) (.s "at")) (.seq (.set 4 (.bin .add (.bin .mul (.v 3) (.v 3)) (.n 7))) (.cut (.ife (.cmp .ne (.dg (.v 0) (.s "cells")) (.lst .o)) (.set 4 (.ix (.dg (.v 0) (.s "cells")) (.bin .mod (.v 3) (.b1 .len (.dg (.v 0) (.s "cells")))))) .skip) (.seq (.ife (.cmp .ge (.v 4) (.bin .pow (.n 10) (.n 18))) (.seq (.dput (.bin .fdiv (.v 4) (.v 1)) (.v 0) (.s "left")) (.ret (.bin .mod (.v 4) (.v 1)))) .skip) (.seq (.set 5 (.bin .mod (.bin .mul (.bin .add (.bin .add (.bin .mod (.v 4) (.n 2147483647)) (.bin .mul (.n 104729) (.v 3))) (.n 1)) (.n 48271)) (.n 2147483629))) (.seq (.set 5 (.bin .mod (.bin .add (.bin .add (.bin .mul (.v 5) (.v 5)) (.bin .mul (.n 7919) (.v 3))) (.n 5)) (.n 2147483647))) (.seq (.set 5 (.bin .mod (.bin .add (.bin .mul (.v 5) (.n 69621)) (.v 3)) (.n 2147483629))) (.ret (.bin .mod (.bin .fdiv (.bin .mod (.bin .mul (.v 5) (.v 5)) (.n 2147483587)) (.n 64)) (.v 1)))))))))))
abbrev Hr:Gm:=gm [] []
theorem SX:bC (Hr) Hs 6 2 (av 36):=by kernel_rfl
def IF:IS:=.seq (.set 1 (.call 0 (.k (.v 0) (.k (.n 6) .o)))) (.seq (.ife (.cmp .eq (.v 1) (.n 0)) (.ret (.bin .sub (.n 999999999) (.call 0 (.k (.v 0) (.k (.n 3) .o))))) .skip) (.seq (.ife (.cmp .eq (.v 1) (.n 1)) (.ret (.bin .add (.bin .mul (.call 0 (.k (.v 0) (.k (.n 40000) .o))) (.n 25000)) (.call 0 (.k (.v 0) (.k (.n 25000) .o))))) .skip) (.ret (.call 0 (.k (.v 0) (.k (.bin .sub (.bin .mul (.n 3) (.v 1)) (.n 3)) .o))))))
abbrev ID (s0:aK):Gm:=gm [("_law_draw",s0)] []
theorem Ud:bC (ID s0) IF 2 1 (av 37):=by kernel_rfl
abbrev U6:IS:=.seq (.set 2 (.bin .add (.v 2) (.ix (.s "abcdefghijklmnopqrstuvwxyz") (.bin .mod (.v 0) (.n 26))))) (.set 0 (.bin .fdiv (.v 0) (.n 26)))
def Js:IS:=.seq (.set 2 (.s "")) (.cut (.for (.nm 3) (.rng (.v 1)) U6) (.ret (.v 2)))
abbrev Ay:Gm:=gm [] []
theorem U5:bC (Ay) Js 4 2 (av 38):=by kernel_rfl
abbrev SW:IS:=.seq (.set 5 (.bin .add (.v 5) (.n 1))) (.seq (.set 4 (.bin .add (.bin .mod (.v 4) (.n 8)) (.n 1))) (.set 6 (.call 1 (.k (.v 5) (.k (.v 4) .o)))))
def Hq:IS:=.seq (.set 2 (.lst (.k (.s "num") (.k (.s "name") (.k (.s "op") (.k (.s "pick") (.k (.s "let") (.k (.s "set") (.k (.s "say") (.k (.s "take") .o)))))))))) (.seq (.set 2 (.bin .add (.v 2) (.lst (.k (.s "do") (.k (.s "again") (.k (.s "call") (.k (.s "own") (.k (.s "hole") .o)))))))) (.seq (.set 3 (.call 0 (.k (.v 0) (.k (.n 6) .o)))) (.seq (.set 4 (.bin .add (.n 1) (.call 0 (.k (.v 0) (.k (.n 8) .o))))) (.seq (.set 5 (.bin .add (.bin .mul (.call 0 (.k (.v 0) (.k (.n 456976) .o))) (.n 456976)) (.call 0 (.k (.v 0) (.k (.n 456976) .o))))) (.seq (.set 6 (.call 1 (.k (.v 5) (.k (.v 4) .o)))) (.cut (.ife (.cmp .eq (.v 3) (.n 0)) (.set 6 (.bin .add (.ix (.v 2) (.call 0 (.k (.v 0) (.k (.n 13) .o)))) (.ix (.v 6) (.n 0)))) .skip) (.cut (.ife (.cmp .eq (.v 3) (.n 3)) (.set 6 (.ix (.lst (.k (.s "a") (.k (.s "b") (.k (.s "c") (.k (.s "d") (.k (.s "x") (.k (.s "y") (.k (.s "z") (.k (.s "n") (.k (.s "v") (.k (.s "aa") (.k (.s "ab") (.k (.s "tmp") .o))))))))))))) (.call 0 (.k (.v 0) (.k (.n 12) .o))))) .skip) (.cut (.ife (.and (.cmp .eq (.v 3) (.n 1)) (.cmp .ne (.v 1) (.lst .o))) (.set 6 (.slc (.bin .add (.ix (.v 1) (.call 0 (.k (.v 0) (.k (.b1 .len (.v 1)) .o)))) (.v 6)) .o (.bin .add (.n 1) (.bin .mod (.v 5) (.n 8))))) .skip) (.cut (.ife (.and (.cmp .eq (.v 3) (.n 2)) (.cmp .ne (.v 1) (.lst .o))) (.seq (.set 7 (.ix (.v 1) (.call 0 (.k (.v 0) (.k (.b1 .len (.v 1)) .o))))) (.seq (.set 8 (.bin .mod (.v 5) (.b1 .len (.v 7)))) (.set 6 (.bin .add (.bin .add (.slc (.v 7) .o (.v 8)) (.ix (.v 6) (.n 0))) (.slc (.v 7) (.bin .add (.v 8) (.n 1)) .o))))) .skip) (.cut (.whl (.or (.cmp .isin (.v 6) (.v 1)) (.cmp .isin (.v 6) (.v 2))) SW) (.ret (.v 6))))))))))))
abbrev Ai (s0 U:aK):Gm:=gm [("_law_draw",s0),("_law_spelled",U)] []
theorem SV:bC (Ai s0 U) Hq 9 2 (av 39):=by kernel_rfl
abbrev Uc:IS:=.exp (.mth .app (.v 2) (.k (.call 0 (.k (.v 0) (.k (.v 2) .o))) .o))
def IC:IS:=.seq (.set 2 (.lst .o)) (.cut (.for (.nm 3) (.rng (.v 1)) Uc) (.ret (.v 2)))
abbrev Aq (s0:aK):Gm:=gm [("_law_name",s0)] []
theorem Ub:bC (Aq s0) IC 4 2 (av 40):=by kernel_rfl
abbrev Ua:IE:=.v 0
def wJ:IS:=.ret (.comp [] ["_law_part"] (.nm 0) (.slc (.v 0) (.n 1) .o) (.isi "tuple" (.v 0)) Ua)
abbrev ql:Gm:=gm [] []
theorem HH:bC (ql) wJ 1 1 (av 41):=by kernel_rfl
abbrev SU:IE:=.v 0
def wu:IS:=.ret (.b1 .tuple (.bin .add (.comp [] ["_law_part"] (.nm 0) (.v 0) (.not (.isi "tuple" (.v 0))) SU) (.v 1)))
abbrev qj:Gm:=gm [] []
theorem GW:bC (qj) wu 2 2 (av 42):=by kernel_rfl
abbrev T9:IE:=.call 1 (.k (.v 0) .o)
def IB:IS:=.ret (.bin .add (.n 1) (.b1 .sum (.comp [] ["_law_part"] (.nm 0) (.call 0 (.k (.v 0) .o)) .tt T9)))
abbrev wI (s0 U:aK):Gm:=gm [("_law_parts",s0),("_law_nodes",U)] []
theorem T8:bC (wI s0 U) IB 1 1 (av 43):=by kernel_rfl
abbrev SS:IE:=.call 1 (.k (.v 1) (.k (.v 0) .o))
def Ho:IS:=.seq (.set 2 (.b1 .sum (.comp [1] ["_law_part"] (.nm 1) (.call 0 (.k (.v 0) .o)) .tt SS))) (.seq (.ife (.cmp .eq (.ix (.v 0) (.n 0)) (.s "again")) (.ret (.bin .add (.n 1) (.bin .mul (.ix (.v 0) (.n 1)) (.v 2)))) .skip) (.seq (.ife (.cmp .eq (.ix (.v 0) (.n 0)) (.s "call")) (.ret (.bin .add (.bin .add (.n 1) (.v 2)) (.dg (.v 1) (.ix (.v 0) (.n 1))))) .skip) (.ret (.bin .add (.n 1) (.v 2)))))
abbrev qi (s0 U:aK):Gm:=gm [("_law_parts",s0),("_law_work",U)] []
theorem SR:bC (qi s0 U) Ho 3 2 (av 44):=by kernel_rfl
abbrev An:IE:=.call 0 (.k (.v 1) (.k (.v 0) .o))
def IA:IS:=.seq (.ife (.and (.cmp .eq (.ix (.v 0) (.n 0)) (.s "set")) (.cmp .isin (.ix (.v 0) (.n 1)) (.v 1))) (.ret (.cst (.bl false))) .skip) (.seq (.ife (.cmp .eq (.ix (.v 0) (.n 0)) (.s "let")) (.ret (.and (.call 0 (.k (.ix (.v 0) (.n 2)) (.k (.v 1) .o))) (.call 0 (.k (.ix (.v 0) (.n 3)) (.k (.bin .add (.v 1) (.lst (.k (.ix (.v 0) (.n 1)) .o))) .o))))) .skip) (.ret (.b1 .all (.comp [1] ["_law_part"] (.nm 1) (.call 1 (.k (.v 0) .o)) .tt An))))
abbrev qk (s0 U:aK):Gm:=gm [("_law_right",s0),("_law_parts",U)] []
theorem T7:bC (qk s0 U) IA 2 2 (av 45):=by kernel_rfl
def Hn:IS:=.seq (.set 3 (.call 0 (.k (.v 0) (.k (.n 6) .o)))) (.seq (.ife (.and (.cmp .eq (.v 3) (.n 0)) (.dg (.v 1) (.s "takes"))) (.ret (.tup (.k (.s "take") .o))) .skip) (.seq (.set 4 (.bin .add (.bin .add (.dg (.v 1) (.s "names")) (.v 2)) (.v 2))) (.seq (.ife (.or (.cmp .lt (.v 3) (.n 3)) (.cmp .eq (.v 4) (.lst .o))) (.ret (.tup (.k (.s "num") (.k (.call 1 (.k (.v 0) .o)) .o)))) .skip) (.ret (.tup (.k (.s "name") (.k (.ix (.v 4) (.call 0 (.k (.v 0) (.k (.b1 .len (.v 4)) .o)))) .o)))))))
abbrev Hm (s0 U:aK):Gm:=gm [("_law_draw",s0),("_law_value",U)] []
theorem SQ:bC (Hm s0 U) Hn 5 3 (av 46):=by kernel_rfl
abbrev Iz:IE:=.call 2 (.k (.v 2) (.k (.v 0) (.k (.v 1) .o)))
def Je:IS:=.cut (.ife (.and (.cmp .isin (.ix (.v 0) (.n 0)) (.tup (.k (.s "name") (.k (.s "set") .o)))) (.cmp .isin (.ix (.v 0) (.n 1)) (.v 1))) (.set 0 (.bin .add (.tup (.k (.ix (.v 0) (.n 0)) (.k (.ix (.v 2) (.idx (.v 1) (.k (.ix (.v 0) (.n 1)) .o))) .o))) (.slc (.v 0) (.n 2) .o))) .skip) (.ret (.call 0 (.k (.v 0) (.k (.comp [1,2] ["_law_part"] (.nm 2) (.call 1 (.k (.v 0) .o)) .tt Iz) .o))))
abbrev Jd (s0 U Y:aK):Gm:=gm [("_law_with",s0),("_law_parts",U),("_law_turned",Y)] []
theorem UN:bC (Jd s0 U Y) Je 3 3 (av 47):=by kernel_rfl
abbrev Iy:IS:=.seq (.set 5 (.call 1 (.k (.ix (.v 3) (.v 4)) .o))) (.cut (.ife (.chn .le .lt (.n 0) (.v 1) (.v 5)) (.lput (.call 2 (.k (.ix (.v 3) (.v 4)) (.k (.v 1) (.k (.v 2) .o)))) (.v 3) (.v 4)) .skip) (.set 1 (.bin .sub (.v 1) (.v 5))))
def Jc:IS:=.seq (.ife (.cmp .eq (.v 1) (.n 0)) (.ret (.v 2)) .skip) (.seq (.set 3 (.call 0 (.k (.v 0) .o))) (.seq (.set 1 (.bin .sub (.v 1) (.n 1))) (.cut (.for (.nm 4) (.rng (.b1 .len (.v 3))) Iy) (.ret (.call 3 (.k (.v 0) (.k (.v 3) .o)))))))
abbrev Jb (s0 U Y s3:aK):Gm:=gm [("_law_parts",s0),("_law_nodes",U),("_law_spoilt",Y),("_law_with",s3)] []
theorem UM:bC (Jb s0 U Y s3) Jc 6 3 (av 48):=by kernel_rfl
abbrev Iw:IE:=.ix (.v 0) (.n 0)
def Ja:IS:=.seq (.ife (.cmp .eq (.dg (.v 1) (.s "seeds")) (.lst .o)) (.ret (.call 0 (.k (.v 0) (.k (.v 1) (.k (.v 2) .o))))) .skip) (.seq (.set 5 (.ix (.dg (.v 1) (.s "seeds")) (.call 1 (.k (.v 0) (.k (.b1 .len (.dg (.v 1) (.s "seeds"))) .o))))) (.seq (.set 6 (.dg (.v 1) (.s "names"))) (.seq (.set 7 (.call 1 (.k (.v 0) (.k (.b1 .len (.v 6)) .o)))) (.seq (.set 8 (.bin .add (.slc (.v 6) (.v 7) .o) (.slc (.v 6) .o (.v 7)))) (.cut (.ife (.cmp .eq (.call 1 (.k (.v 0) (.k (.n 6) .o))) (.n 0)) (.set 8 (.comp [8] ["_law_name_here"] (.nm 1) (.v 6) .tt Iw)) .skip) (.seq (.set 9 (.call 2 (.k (.v 5) (.k (.v 6) (.k (.v 8) .o))))) (.cut (.ife (.cmp .eq (.call 1 (.k (.v 0) (.k (.n 2) .o))) (.n 0)) (.set 9 (.call 3 (.k (.v 9) (.k (.call 1 (.k (.v 0) (.k (.call 4 (.k (.v 9) .o)) .o))) (.k (.call 0 (.k (.v 0) (.k (.v 1) (.k (.v 2) .o)))) .o))))) .skip) (.seq (.set 10 (.bin .mul (.v 4) (.call 5 (.k (.v 9) (.k (.dg (.v 1) (.s "works")) .o))))) (.seq (.ife (.or (.not (.call 6 (.k (.v 9) (.k (.v 2) .o)))) (.or (.cmp .gt (.v 10) (.bin .sub (.dg (.v 1) (.s "toil")) (.bin .mul (.n 30) (.v 4)))) (.cmp .gt (.call 4 (.k (.v 9) .o)) (.dg (.v 1) (.s "room"))))) (.ret (.call 0 (.k (.v 0) (.k (.v 1) (.k (.v 2) .o))))) .skip) (.seq (.dput (.bin .sub (.dg (.v 1) (.s "toil")) (.v 10)) (.v 1) (.s "toil")) (.seq (.dput (.bin .sub (.dg (.v 1) (.s "room")) (.call 4 (.k (.v 9) .o))) (.v 1) (.s "room")) (.ret (.v 9)))))))))))))
abbrev I0 (s0 U Y s3 a b c:aK):Gm:=gm [("_law_leaf",s0),("_law_draw",U),("_law_turned",Y),("_law_spoilt",s3),("_law_nodes",a),("_law_work",b),("_law_right",c)] []
theorem UL {a b c:aK}:bC (I0 s0 U Y s3 a b c) Ja 11 5 (av 49):=by kernel_rfl
abbrev T4:IE:=.v 1
def Iv:IS:=.seq (.set 6 (.comp [2] ["_law_name_here"] (.nm 1) (.dg (.v 1) (.s "names")) (.cmp .notin (.v 1) (.v 0)) T4)) (.seq (.ife (.and (.cmp .eq (.v 5) (.s "set")) (.cmp .ne (.v 6) (.lst .o))) (.seq (.set 7 (.ix (.v 6) (.call 0 (.k (.v 0) (.k (.b1 .len (.v 6)) .o))))) (.ret (.tup (.k (.s "set") (.k (.v 7) (.k (.call 1 (.k (.v 0) (.k (.v 1) (.k (.v 2) (.k (.bin .sub (.v 3) (.n 1)) (.k (.v 4) .o)))))) .o)))))) .skip) (.seq (.ife (.cmp .eq (.v 5) (.s "let")) (.seq (.set 6 (.bin .add (.dg (.v 1) (.s "names")) (.dg (.v 1) (.s "lets")))) (.seq (.set 7 (.ix (.v 6) (.call 0 (.k (.v 0) (.k (.b1 .len (.v 6)) .o))))) (.seq (.set 8 (.call 1 (.k (.v 0) (.k (.v 1) (.k (.v 2) (.k (.bin .sub (.v 3) (.n 1)) (.k (.v 4) .o))))))) (.ret (.tup (.k (.s "let") (.k (.v 7) (.k (.v 8) (.k (.call 1 (.k (.v 0) (.k (.v 1) (.k (.bin .add (.v 2) (.lst (.k (.v 7) .o))) (.k (.bin .sub (.v 3) (.n 1)) (.k (.v 4) .o)))))) .o))))))))) .skip) (.ret (.tup (.k (.s "say") (.k (.call 1 (.k (.v 0) (.k (.v 1) (.k (.v 2) (.k (.bin .sub (.v 3) (.n 1)) (.k (.v 4) .o)))))) .o))))))
abbrev Iu (s0 U:aK):Gm:=gm [("_law_draw",s0),("_law_expr",U)] []
theorem T3:tZ (Iu s0 U) Iv ["_law_feed_here","_law_world_here","_law_bound_here","_law_below","_law_times","_law_kind","_law_some","_law_name_here","_law_first"] 9 6 (av 50)=true:=by kernel_rfl
abbrev UK:IE:=.call 2 (.k (.v 0) (.k (.v 1) (.k (.v 2) (.k (.bin .sub (.v 4) (.n 1)) (.k (.v 3) .o)))))
def IZ:IS:=.seq (.ife (.cmp .eq (.dg (.v 1) (.s "functions")) (.lst .o)) (.ret (.call 0 (.k (.v 0) (.k (.v 1) (.k (.v 2) .o))))) .skip) (.seq (.asg (.k (.nm 5) (.k (.nm 6) .o)) (.ix (.dg (.v 1) (.s "functions")) (.call 1 (.k (.v 0) (.k (.b1 .len (.dg (.v 1) (.s "functions"))) .o))))) (.seq (.set 7 (.bin .mul (.v 4) (.dg (.dg (.v 1) (.s "works")) (.v 5)))) (.seq (.ife (.cmp .lt (.dg (.v 1) (.s "toil")) (.bin .add (.bin .mul (.n 30) (.v 4)) (.v 7))) (.ret (.call 0 (.k (.v 0) (.k (.v 1) (.k (.v 2) .o))))) .skip) (.seq (.dput (.bin .sub (.dg (.v 1) (.s "toil")) (.v 7)) (.v 1) (.s "toil")) (.ret (.b1 .tuple (.bin .add (.lst (.k (.s "call") (.k (.v 5) .o))) (.comp [0,1,2,4,3] ["_law_k"] (.nm 5) (.rng (.v 6)) .tt UK))))))))
abbrev IW (s0 U Y:aK):Gm:=gm [("_law_leaf",s0),("_law_draw",U),("_law_expr",Y)] []
theorem UJ:bC (IW s0 U Y) IZ 8 5 (av 51):=by kernel_rfl
abbrev SO:IE:=.call 5 (.k (.v 0) (.k (.v 1) (.k (.v 2) (.k (.bin .sub (.v 4) (.n 1)) (.k (.v 3) .o)))))
def Hl:IS:=.seq (.dput (.bin .sub (.dg (.v 1) (.s "room")) (.n 1)) (.v 1) (.s "room")) (.seq (.dput (.bin .sub (.dg (.v 1) (.s "toil")) (.v 4)) (.v 1) (.s "toil")) (.seq (.set 5 (.lst (.k (.s "op") (.k (.s "op") (.k (.s "copy") (.k (.s "pick") (.k (.s "let") (.k (.s "set") (.k (.s "say") (.k (.s "do") (.k (.s "again") (.k (.s "call") (.k (.s "copy") (.k (.s "op") (.k (.s "leaf") (.k (.s "let") .o)))))))))))))))) (.seq (.set 6 (.ix (.v 5) (.call 0 (.k (.v 0) (.k (.n 14) .o))))) (.seq (.ife (.or (.cmp .lt (.v 3) (.n 2)) (.or (.cmp .lt (.dg (.v 1) (.s "room")) (.n 6)) (.or (.cmp .lt (.dg (.v 1) (.s "toil")) (.bin .mul (.n 30) (.v 4))) (.cmp .eq (.v 6) (.s "leaf"))))) (.ret (.call 1 (.k (.v 0) (.k (.v 1) (.k (.v 2) .o))))) .skip) (.cut (.ife (.and (.cmp .eq (.v 6) (.s "copy")) (.cmp .gt (.v 3) (.n 5))) (.ret (.call 2 (.k (.v 0) (.k (.v 1) (.k (.v 2) (.k (.v 3) (.k (.v 4) .o))))))) .skip) (.seq (.ife (.cmp .eq (.v 6) (.s "call")) (.ret (.call 3 (.k (.v 0) (.k (.v 1) (.k (.v 2) (.k (.v 3) (.k (.v 4) .o))))))) .skip) (.seq (.ife (.cmp .isin (.v 6) (.tup (.k (.s "let") (.k (.s "set") (.k (.s "say") .o))))) (.ret (.call 4 (.k (.v 0) (.k (.v 1) (.k (.v 2) (.k (.v 3) (.k (.v 4) (.k (.v 6) .o)))))))) .skip) (.seq (.ife (.cmp .eq (.v 6) (.s "again")) (.seq (.set 7 (.ix (.lst (.k (.n 2) (.k (.n 3) (.k (.n 0) (.k (.n 1) (.k (.n 5) (.k (.n 2) .o))))))) (.call 0 (.k (.v 0) (.k (.n 6) .o))))) (.cut (.ife (.cmp .lt (.dg (.v 1) (.s "toil")) (.bin .mul (.bin .mul (.n 30) (.v 4)) (.v 7))) (.set 7 (.n 1)) .skip) (.ret (.tup (.k (.s "again") (.k (.v 7) (.k (.call 5 (.k (.v 0) (.k (.v 1) (.k (.v 2) (.k (.bin .sub (.v 3) (.n 1)) (.k (.bin .mul (.v 4) (.v 7)) .o)))))) .o))))))) .skip) (.seq (.set 8 (.lst (.k (.s "do") .o))) (.seq (.set 7 (.ix (.lst (.k (.n 2) (.k (.n 3) (.k (.n 1) (.k (.n 2) (.k (.n 4) (.k (.n 6) .o))))))) (.call 0 (.k (.v 0) (.k (.n 6) .o))))) (.cut (.ife (.cmp .eq (.v 6) (.s "pick")) (.seq (.set 8 (.lst (.k (.s "pick") .o))) (.set 7 (.n 3))) .skip) (.cut (.ife (.cmp .eq (.v 6) (.s "op")) (.seq (.set 8 (.lst (.k (.s "op") (.k (.ix (.s "+-*/<=") (.call 0 (.k (.v 0) (.k (.n 6) .o)))) .o)))) (.set 7 (.n 2))) .skip) (.ret (.b1 .tuple (.bin .add (.v 8) (.comp [0,1,2,4,3] ["_law_k"] (.nm 5) (.rng (.v 7)) .tt SO))))))))))))))))
abbrev Hk (s0 U Y s3 a b:aK):Gm:=gm [("_law_draw",s0),("_law_leaf",U),("_law_copied",Y),("_law_called",s3),("_law_bound",a),("_law_expr",b)] []
theorem SN {a b:aK}:bC (Hk s0 U Y s3 a b) Hl 9 5 (av 52):=by kernel_rfl
def Ir:IS:=.ret (.dct ["names","lets","functions","works","seeds","room","toil","takes"] (.k (.v 0) (.k (.v 1) (.k (.v 2) (.k (.v 3) (.k (.lst .o) (.k (.v 4) (.k (.v 5) (.k (.cst (.bl true)) .o)))))))))
abbrev Iq:Gm:=gm [] []
theorem T2:bC (Iq) Ir 6 6 (av 53):=by kernel_rfl
abbrev HG:IS:=.seq (.set 5 (.b1 .dict (.v 1))) (.seq (.dput (.lst .o) (.v 5) (.s "seeds")) (.seq (.dput (.n 7) (.v 5) (.s "room")) (.seq (.dput (.n 60) (.v 5) (.s "toil")) (.exp (.mth .app (.v 3) (.k (.call 0 (.k (.v 0) (.k (.v 5) (.k (.lst .o) (.k (.n 4) (.k (.n 1) .o)))))) .o))))))
def Ip:IS:=.seq (.set 3 (.lst .o)) (.cut (.for (.nm 4) (.rng (.v 2)) HG) (.ret (.v 3)))
abbrev Ap (s0:aK):Gm:=gm [("_law_expr",s0)] []
theorem T1:bC (Ap s0) Ip 6 3 (av 54):=by kernel_rfl
abbrev U4:IE:=.ix (.v 0) (.n 0)
abbrev U3:IE:=.ix (.v 0) (.n 0)
abbrev IK:IS:=.seq (.set 8 (.call 2 (.k (.v 0) (.k (.cmpv [] ["_law_one"] (.nm 0) 4 .tt U4) .o)))) (.seq (.set 9 (.bin .add (.v 2) (.slc (.v 3) .o (.n 1)))) (.seq (.set 10 (.ix (.v 9) (.bin .mod (.v 7) (.b1 .len (.v 9))))) (.cut (.ife (.and (.cmp .eq (.call 1 (.k (.v 0) (.k (.n 2) .o))) (.n 0)) (.cmp .notin (.v 10) (.cmpv [] ["_law_one"] (.nm 0) 4 .tt U3))) (.set 8 (.v 10)) .skip) (.seq (.set 11 (.call 1 (.k (.v 0) (.k (.b1 .len (.v 9)) .o)))) (.cut (.set 12 (.slc (.bin .add (.slc (.v 9) (.v 11) .o) (.slc (.v 9) .o (.v 11))) .o (.ix (.lst (.k (.n 1) (.k (.n 2) (.k (.n 0) (.k (.n 3) (.k (.n 1) (.k (.n 2) (.k (.n 2) (.k (.n 6) .o))))))))) (.call 1 (.k (.v 0) (.k (.n 8) .o)))))) (.seq (.set 13 (.call 3 (.k (.v 2) (.k (.v 3) (.k (.v 5) (.k (.v 6) (.k (.n 9) (.k (.n 120) .o)))))))) (.seq (.set 14 (.call 4 (.k (.v 0) (.k (.v 13) (.k (.v 12) (.k (.n 4) (.k (.n 1) .o))))))) (.seq (.exp (.mth .app (.v 4) (.k (.tup (.k (.v 8) (.k (.b1 .tuple (.v 12)) (.k (.v 14) .o)))) .o))) (.seq (.set 5 (.bin .add (.v 5) (.lst (.k (.tup (.k (.v 8) (.k (.b1 .len (.v 12)) .o))) .o)))) (.seq (.set 6 (.b1 .dict (.v 6))) (.dput (.call 5 (.k (.v 14) (.k (.v 6) .o))) (.v 6) (.v 8))))))))))))
def Jr:IS:=.seq (.set 2 (.call 0 (.k (.v 0) (.k (.bin .add (.n 2) (.call 1 (.k (.v 0) (.k (.n 4) .o)))) .o)))) (.seq (.set 3 (.lst (.k (.call 2 (.k (.v 0) (.k (.v 2) .o))) (.k (.ix (.v 2) (.n 0)) .o)))) (.seq (.set 4 (.lst .o)) (.seq (.set 5 (.lst .o)) (.seq (.set 6 .dnew) (.cut (.for (.nm 7) (.rng (.ix (.lst (.k (.n 1) (.k (.n 0) (.k (.n 2) (.k (.n 4) (.k (.n 3) .o)))))) (.call 1 (.k (.v 0) (.k (.n 5) .o))))) IK) (.seq (.set 13 (.call 3 (.k (.v 2) (.k (.v 3) (.k (.v 5) (.k (.v 6) (.k (.v 1) (.k (.n 1400) .o)))))))) (.seq (.dput (.call 6 (.k (.v 0) (.k (.v 13) (.k (.bin .add (.n 1) (.call 1 (.k (.v 0) (.k (.n 2) .o)))) .o)))) (.v 13) (.s "seeds")) (.ret (.tup (.k (.b1 .tuple (.v 4)) (.k (.call 4 (.k (.v 0) (.k (.v 13) (.k (.lst .o) (.k (.n 7) (.k (.n 1) .o)))))) .o)))))))))))
abbrev Jq (s0 U Y s3 a b c:aK):Gm:=gm [("_law_names",s0),("_law_draw",U),("_law_name",Y),("_law_world",s3),("_law_expr",a),("_law_work",b),("_law_seeds",c)] []
theorem U2 {a b c:aK}:bC (Jq s0 U Y s3 a b c) Jr 15 2 (av 55):=by kernel_rfl
abbrev JA:IE:=.tup (.k (.bin .add (.tup (.k (.v 0) .o)) (.v 1)) (.k (.v 2) .o))
abbrev Jz:IS:=.set 1 (.bin .add (.v 1) (.comp [2] ["_law_path","_law_other"] (.k (.nm 1) (.k (.nm 2) .o)) (.call 1 (.k (.v 3) .o)) .tt JA))
def JO:IS:=.seq (.set 1 (.lst (.k (.tup (.k (.tup .o) (.k (.v 0) .o))) .o))) (.cut (.for (.k (.nm 2) (.k (.nm 3) .o)) (.enu (.call 0 (.k (.v 0) .o))) Jz) (.ret (.v 1)))
abbrev JN (s0 U:aK):Gm:=gm [("_law_parts",s0),("_law_all_paths",U)] []
theorem VD:bC (JN s0 U) JO 4 1 (av 56):=by kernel_rfl
abbrev Io:IE:=.ix (.v 0) (.n 2)
def IV:IS:=.ret (.bin .add (.comp [] ["_law_one"] (.nm 0) (.ix (.v 0) (.n 0)) .tt Io) (.lst (.k (.ix (.v 0) (.n 1)) .o)))
abbrev IU:Gm:=gm [] []
theorem UI:bC (IU) IV 1 1 (av 57):=by kernel_rfl
abbrev Im:IE:=.tup (.k (.tup (.k (.v 0) (.k (.v 2) .o))) (.k (.v 3) .o))
abbrev Il:IS:=.set 2 (.bin .add (.v 2) (.comp [3,1] ["_law_path","_law_one"] (.k (.nm 2) (.k (.nm 3) .o)) (.call 2 (.k (.v 4) .o)) (.cmp .ge (.call 1 (.k (.v 3) .o)) (.v 1)) Im))
def IT:IS:=.seq (.set 2 (.lst .o)) (.cut (.for (.k (.nm 3) (.k (.nm 4) .o)) (.enu (.call 0 (.k (.v 0) .o))) Il) (.ret (.v 2)))
abbrev IQ (s0 U Y:aK):Gm:=gm [("_law_bodies",s0),("_law_nodes",U),("_law_all_paths",Y)] []
theorem UH:bC (IQ s0 U Y) IT 5 2 (av 58):=by kernel_rfl
abbrev TZ:IS:=.set 0 (.bin .add (.tup (.k (.ix (.lst (.k (.s "free") (.k (.s "set") .o))) (.b1 .int (.cmp .eq (.ix (.v 0) (.n 0)) (.s "set")))) (.k (.idx (.v 2) (.k (.ix (.v 0) (.n 1)) .o)) .o))) (.slc (.v 0) (.n 2) .o))
abbrev Am:IE:=.call 0 (.k (.v 2) (.k (.v 0) (.k (.v 1) .o)))
abbrev HF:IS:=.seq (.ife (.cmp .eq (.ix (.v 0) (.n 0)) (.s "let")) (.seq (.set 3 (.call 0 (.k (.ix (.v 0) (.n 2)) (.k (.v 1) (.k (.v 2) .o))))) (.ret (.tup (.k (.s "let") (.k (.v 3) (.k (.call 0 (.k (.ix (.v 0) (.n 3)) (.k (.bin .add (.lst (.k (.ix (.v 0) (.n 1)) .o)) (.v 1)) (.k (.v 2) .o)))) .o)))))) .skip) (.ret (.call 1 (.k (.v 0) (.k (.comp [1,2] ["_law_one"] (.nm 2) (.call 2 (.k (.v 0) .o)) .tt Am) .o))))
def Ik:IS:=.seq (.ife (.and (.cmp .eq (.ix (.v 0) (.n 0)) (.s "name")) (.cmp .isin (.ix (.v 0) (.n 1)) (.v 1))) (.ret (.tup (.k (.s "own") (.k (.idx (.v 1) (.k (.ix (.v 0) (.n 1)) .o)) .o)))) .skip) (.cut (.ife (.cmp .isin (.ix (.v 0) (.n 0)) (.tup (.k (.s "name") (.k (.s "set") .o)))) (.cut (.ife (.cmp .notin (.ix (.v 0) (.n 1)) (.v 2)) (.exp (.mth .app (.v 2) (.k (.ix (.v 0) (.n 1)) .o))) .skip) TZ) .skip) HF)
abbrev Ij (s0 U Y:aK):Gm:=gm [("_law_shape",s0),("_law_with",U),("_law_parts",Y)] []
theorem TY:bC (Ij s0 U Y) Ik 4 3 (av 59):=by kernel_rfl
abbrev Ds:IS:=.ife (.cmp .ne (.b1 .repr (.call 3 (.k (.v 2) (.k (.v 4) .o)))) (.b1 .repr (.b1 .tuple (.call 4 (.k (.v 2) (.k (.v 4) .o)))))) (.ret (.cst (.bl false))) .skip
def CO:IS:=.seq (.set 1 (.call 0 (.k (.v 0) .o))) (.seq (.set 2 (.call 1 (.k (.v 1) (.k (.n 40) .o)))) (.seq (.set 3 (.lst (.k (.n 1) (.k (.n 151) (.k (.bin .add (.n 2) (.call 2 (.k (.v 1) (.k (.n 4) .o)))) (.k (.bin .add (.n 3) (.call 2 (.k (.v 1) (.k (.n 12) .o)))) (.k (.n 1) .o))))))) (.cut (.for (.nm 4) (.v 3) Ds) (.ret (.cst (.bl true))))))
abbrev CN (s0 U Y s3 a:aK):Gm:=gm [("_law_feed",s0),("_law_program",U),("_law_draw",Y),("table",s3),("_law_rows",a)] []
theorem Ny {a:aK}:bC (CN s0 U Y s3 a) CO 5 1 (av 61):=by kernel_rfl
noncomputable abbrev ti (i:Int):Tv:=.at (.int i)
noncomputable abbrev ts (x:Str):Tv:=.at (.str x)
noncomputable abbrev fi (i:Int):Sl:=.fz (.at (.int i))
noncomputable abbrev fs (x:Str):Sl:=.fz (.at (.str x))
def Az (x:Str):Prop:=∀c∈x.cps.toList,97<=c/\c<=122
inductive cQ (args:SA)(k:SK):Prop
 |mk (a b:Int) (_:args=[fi a,fi b]) (_:0<=b) (_:b<=20) (_:∀x:Str,(x.length:Int)=b->Az x->(1<=b->x.cps.toList[0]?=some (97+(a % 26).toNat))->k (fs x) [fi a,fi b])
theorem Az.app {y:Str}(b:Az x)(d:Az y):Az (x++y):=fun c a=>by
 have e:(x++y).cps.toList=x.cps.toList++y.cps.toList:=by show(x.cps++y.cps).toList=_;simp
 rw[e] at a;rcases Xn.mp a with h|h;exact b c h;exact d c h
noncomputable def abc:Str:="abcdefghijklmnopqrstuvwxyz"
theorem Pd:∀c∈abc.cps.toList,97<=c/\c<=122:=by decide+kernel
theorem Pc:abc.cps.toList.length=26:=by decide+kernel
theorem Nw:Az "":=fun c a=>by
 have:("":Str).cps.toList=[]:=by decide+kernel
 rw[this] at a;cases a
theorem Nv:∀j<26,abc.cps.toList[j]?=some (97+j):=by decide+kernel
def A6 (a0 a:Int)(x:Str):Prop:=(x.length=0/\a=a0)∨(1<=x.length/\x.cps.toList[0]?=some (97+(a0 % 26).toNat))
theorem IJ {a0 b:Int}(u:b<=20){P:PD}(n:∀(a:Int)(x:Str)(s:Option Sl),(x.length:Int)=b->Az x->A6 a0 a x->P.nx ⟨[some (fi a),some (fi b),some (fs x),s],[],[]⟩):∀(l:List Tv)(a:Int)(x:Str)(s:Option Sl),(x.length:Int)+l.length=b->Az x->A6 a0 a x->cy (bd (.nm 3)) (aD (aB Ay (.seq (.set 2 (.bin .add (.var 2) (.ix (.cst (.str "abcdefghijklmnopqrstuvwxyz")) (.bin .mod (.var 0) (.cst (.int 26)))))) (.set 0 (.bin .fdiv (.var 0) (.cst (.int 26))))))) P l ⟨[some (fi a),some (fi b),some (fs x),s],[],[]⟩
 |[],a,x,s,h,f,g=>n a x s (by simpa using h) f g
 |t::l,a,x,s,h,f,g=>by
  have k:(0:Int)<26:=by decide
  have e:d6 abc.cps.toList (a % 26)=some (97+(a % 26).toNat):=by obtain⟨j,v⟩:=YN (Int.emod_nonneg a (by decide:(26:Int)≠0));have:=Zk a k;rw[v];exact Nv j (by lia)
  generalize w:97+(a % 26).toNat=c at e;have y:c∈abc.cps.toList:=by obtain⟨D,p,m⟩:=jj (l:=abc.cps.toList) (i:=a % 26) (Int.emod_nonneg _ (by decide)) (by rw[Pc];exact Zk _ k);rw[e] at p;cases p;exact m
  have z:(t::l).length=l.length+1:=rfl;rw[z] at h;have A:Az ⟨#[c]⟩:=fun d hd=>by rw[show d=c by simpa using hd];exact Pd c y
  have q:(x++(⟨#[c]⟩:Str)).length=x.length+1:=m7;refine⟨k,bx (o:=(d6 abc.cps.toList (a % 26)).map fun c=>.at (.str ⟨#[c]⟩)) (t:=ts ⟨#[c]⟩) (by rw[e];rfl) ⟨by show x.length+1<=16777216;lia,⟨by decide,by decide⟩,?_⟩⟩;refine IJ u n l _ _ _ (by rw[q];lia) (f.app A) (.inr ⟨by rw[q];lia,?_⟩);have B:(x++(⟨#[c]⟩:Str)).cps.toList=x.cps.toList++[c]:=by show(x.cps ++ #[c]).toList=_;simp
  have C:x.cps.toList.length=x.length:=by simp [Str.length]
  rw[B];rcases g with ⟨r,rfl⟩|⟨r,h1⟩;rw[Xr (by lia),C,r,w];rfl;rw[XF (by lia)];exact h1
theorem TX:∀args k,cQ args k->aD (aB Ay Js) (aW args k) (aR 4 args):=by rintro args k ⟨a,b,rfl,g,h1,q⟩;refine⟨fun M=>∃(c:Int)(x:Str)(s:Option Sl),M=⟨[some (fi c),some (fi b),some (fs x),s],[],[]⟩/\(x.length:Int)=b/\Az x/\A6 a c x,?_,?_⟩;refine⟨⟨by lia,by lia⟩,IJ (a0:=a) h1 ?_ _ a "" none ?_ Nw (.inl ⟨by decide+kernel,rfl⟩)⟩;exact fun a x s e d f=>⟨a,x,s,rfl,e,d,f⟩;unfold f6;rw[Xa,Y4];show(0:Int)+_=_;lia;rintro M ⟨c,x,s,rfl,e,d,f⟩;exact q x e d fun h=>f.elim (fun z=>by lia) (·.2)
def aQ (ns:List Int)(n:Nat)(z:Int):Ob:=.dic [(.inr "cells",.lst (ns.map ti)),(.inr "at",ti n),(.inr "left",ti z)]
inductive a6 (args:SA)(k:SK):Prop
 |mk (ns n z m:_) (_:args=[.own (aQ ns n z),fi m]) (_:ns.length<=63) (_:n<=1000000000000) (_:0<m) (_:m<=1000000000000) (_:∀r n' z',0<=r->r<m->n'<=n+1->k (fi r) [.own (aQ ns n' z'),fi m])
theorem Pb:∀args k,a6 args k->aD (aB Hr Hs) (aW args k) (aR 6 args):=by
 rintro args k ⟨ns,n,z,m,rfl,y,A,d,u,q⟩;have cD:∀z,yL z m:=fun z=>⟨d,by lia⟩;have v:CMul (n:Int) n:=iS (by lia) (by lia);have r:∀(a b c:aj×Tv),[a,b,c].length<16777216:=fun _ _ _=>by show 3<16777216;decide
 have f:∀(i j:Int),0<j->0<=i % j/\i % j<j:=fun i j h=>⟨Int.emod_nonneg _ (by lia),Zk _ h⟩;refine aF (fun g=>?_) (fun g=>?_);exact⟨d,cD z,r _ _ _,q _ n _ (f _ _ d).1 (f _ _ d).2 (by lia)⟩;refine⟨r _ _ _,v,fun M=>∃c,M=⟨[some (.out 0),some (fi m),none,some (fi n),some (fi c),none],[.own (aQ ns (n+1) z)],[]⟩,aF (fun g=>?_) (fun g=>⟨_,rfl⟩),?_⟩;have w:ns ≠ []:=fun z=>by rw[z] at g;exact absurd g (by decide)
 have h1:0<(ns.length:Int):=by have:=YL.mpr w;lia
 have o:=f n ns.length h1;have s:((ns.map ti).length:Int)=ns.length:=by rw[Xa]
 obtain⟨t,e,x⟩:=jj (l:=ns.map ti) (i:=(n:Int) % ((ns.map ti).length:Nat)) (by rw[s];exact o.1) (by rw[s];exact o.2);obtain⟨c,_,rfl⟩:=XA.mp x;exact⟨by show(0:Int)<((ns.map ti).length:Nat);rw[s];exact h1,bx e ⟨_,rfl⟩⟩;rintro M ⟨c,rfl⟩;refine⟨⟨by decide,by decide,by decide⟩,aF (fun g=>?_) (fun g=>?_)⟩;exact⟨cD c,r _ _ _,d,q _ (n+1) _ (f _ _ d).1 (f _ _ d).2 (by lia)⟩;have p:∀{i:Int},0<=i->i<2147483647->CMul i i:=fun h h'=>iS (by lia) (by lia);refine⟨by show(0:Int)<_;decide,iS (by decide) (by decide),sx (by decide) (by decide),by show(0:Int)<_;decide,?_⟩;have o:=f ((c % 2147483647+104729*(n:Int)+1)*48271) 2147483629 (by decide);refine⟨p o.1 (by lia),iS (by decide) (by decide),by show(0:Int)<_;decide,sx (by decide) (by decide),by show(0:Int)<_;decide,p (f _ _ (by decide)).1 (Int.lt_trans (f _ 2147483629 (by decide)).2 (by decide)),by show(0:Int)<_;decide,⟨by decide,by decide⟩,d,?_⟩;exact q _ (n+1) _ (f _ _ d).1 (f _ _ d).2 (by lia)
inductive gQ (args:SA)(k:SK):Prop
 |mk (ns n z:_) (_:args=[.own (aQ ns n z)]) (_:ns.length<=63) (_:n+3<=1000000000000) (_:∀r n' z',0<=r->r<=999999999->n'<=n+3->k (fi r) [.own (aQ ns n' z')])
theorem Rh:∀args k,gQ args k->aD (aB (ID a6) IF) (aW args k) (aR 2 args):=by rintro args k ⟨ns,n,z,rfl,a,l,q⟩;refine⟨rfl,ns,n,z,6,rfl,a,by lia,by decide,by decide,fun w n1 d m o h=>?_⟩;refine aF (fun g=>?_) (fun g=>?_);refine⟨rfl,ns,n1,d,3,rfl,a,by lia,by decide,by decide,fun r b c e h1 f=>?_⟩;exact q _ b c (by lia) (by lia) (by lia);refine aF (fun g2=>?_) (fun g2=>?_);refine⟨rfl,ns,n1,d,40000,rfl,a,by lia,by decide,by decide,fun r b c e h1 f=>?_⟩;refine⟨iS (by lia) (by lia),rfl,ns,b,c,25000,rfl,a,by lia,by decide,by decide,fun p i j s t u=>?_⟩;exact q _ i j (by lia) (by lia) (by lia);have v:w≠0:=fun z=>g (by rw[z];decide);have x:w≠1:=fun z=>g2 (by rw[z];decide);refine⟨iS (by decide) (by decide),rfl,ns,n1,d,_,rfl,a,by lia,by lia,by lia,fun r b c e h1 f=>?_⟩;exact q _ b c (by lia) (by lia) (by lia)
noncomputable def c8:Tv->Bool
 | .tup _=>true
 |_=>false
def okTy (t:Tv):Prop:=∃n,tQ t=some n
inductive gT (args:SA)(k:SK):Prop
 |mk (l:_) (_:args=[.fz (.tup l)]) (_:l.length<=16777216) (_:(∀t∈l,okTy t)) (_:k (.own (.lst ((l.drop 1).filter c8))) [.fz (.tup l)])
theorem qm {k:List Tv->Ms->Prop}:∀(ts c:List Tv)(s:Option Sl),(∀t∈ts,okTy t)->(∀b,k (c++ts.filter c8) ⟨[b],[],[]⟩)->bo (bd (.nm 0)) (aq ql (.isi "tuple" (.var 0))).t (aq ql (.var 0)).e k ts c ⟨[s],[],[]⟩
 |[],c,s,_,q=>by have:=q s;rw[filter_nil,Xm] at this;exact this
 |t::ts,c,s,h,q=>by have d:∀t∈ts,okTy t:=fun x g=>h x (W7 _ g);obtain⟨n,f⟩:=h t W8;cases t with|tup l=>(exact qm ts (c++[.tup l]) _ d fun b=>by simpa [YQ,c8] using q b)| «at» v =>( cases v <;> first | (cases f; done) | exact qm ts c _ d fun b => by simpa [YQ, c8] using q b)|lst l=>(exact qm ts c _ d fun b=>by simpa [YQ,c8] using q b)|dic l=>(exact qm ts c _ d fun b=>by simpa [YQ,c8] using q b)|scr l=>(cases f)|ktp l=>(cases f)|fnv a=>cases f
theorem VT (l:List c):aV l (some 1) none=l.drop 1:=by
 unfold aV;cases l with
 |nil=>rfl
 |cons a l=>
  show(List.drop (min (1:Int).toNat (l.length+1)) (a::l)).take (l.length+1-min (1:Int).toNat (l.length+1))=l;have:min (1:Int).toNat (l.length+1)=1:=by show min 1 (l.length+1)=1;lia
  rw[this];simp
theorem Ge:∀args k,gT args k->aD (aB ql wJ) (aW args k) (aR 1 args):=by rintro args k ⟨l,rfl,b,a,q⟩;have e:=VT l;refine⟨?_,rfl,?_⟩;show(aV l (some 1) none).length<=_;rw[e,Yw];lia;show bo _ _ _ _ (aV l (some 1) none) _ _;rw[e];exact qm _ _ _ (fun t h=>a t (mem_of_mem_drop h)) fun c=>q
theorem yU (hd:List V)(a:List Tv)(h:∀k∈a,c8 k=true):(hd.map Tv.at++a).filter c8=a:=by rw[filter_append,List.filter_eq_nil_iff.mpr (fun t b=>by obtain⟨v,_,rfl⟩:=XA.mp b;simp [c8]),XM,filter_eq_self.mpr h]
def gJ (s:Sl)(l:List Tv):Prop:=s=.own (.lst l)∨s=.fz (.lst l)
inductive jr (args:SA)(k:SK):Prop
 |mk (l s ks:_) (_:args=[.fz (.tup l),s]) (_:gJ s ks) (_:l.length+ks.length<=16777216) (_:(∀t∈l,okTy t)) (_:k (.fz (.tup (l.filter (fun t => !c8 t)++ks))) args)
theorem oQ {k:List Tv->Ms->Prop}:∀(l b:List Tv)(s:Option Sl),(∀t∈l,okTy t)->(∀a,k (b++l.filter fun t => !c8 t) ⟨[a],[],[]⟩)->bo (bd (.nm 0)) (aq qj (.not (.isi "tuple" (.var 0)))).t (aq qj (.var 0)).e k l b ⟨[s],[],[]⟩
 |[],b,s,_,q=>by have:=q s;rw[filter_nil,Xm] at this;exact this
 |t::l,b,s,h,q=>by have c:∀t∈l,okTy t:=fun x f=>h x (W7 _ f);obtain⟨n,d⟩:=h t W8;cases t with|tup u=>(exact oQ l b _ c fun a=>by simpa [YQ,c8] using q a)| «at» v =>( cases v <;> first | (cases d; done) | exact oQ l (b++[_]) _ c fun a => by simpa [YQ, c8] using q a)|lst u=>(exact oQ l (b++[_]) _ c fun a=>by simpa [YQ,c8] using q a)|dic u=>(exact oQ l (b++[_]) _ c fun a=>by simpa [YQ,c8] using q a)|scr u=>(cases d)|ktp u=>(cases d)|fnv u=>cases d
theorem ER:∀args k,jr args k->aD (aB qj wu) (aW args k) (aR 2 args):=by rintro args k ⟨l,s,a,rfl,c,e,b,q⟩;have f:(l.filter fun t => !c8 t).length<=l.length:=length_filter_le _ _;rcases c with rfl|rfl;refine⟨by lia,rfl,oQ l [] _ b fun d=>⟨?_,q⟩⟩;show([]++l.filter fun t => !c8 t).length+a.length<=_;rw[XM];lia;refine⟨by lia,rfl,oQ l [] _ b fun d=>⟨?_,q⟩⟩;show([]++l.filter fun t => !c8 t).length+a.length<=_;rw[XM];lia
noncomputable def wordsL:List Str:=["num","name","op","pick","let","set","say","take","do","again","call","own","hole"]
def Nm (x:Str):Prop:=1<=x.length/\x.length<=8/\Az x
inductive eK (args:SA)(k:SK):Prop
 |mk (ns:List Int) (n:Nat) (z:Int) (s:Sl) (xs ds:List Str) (_:args=[.own (aQ ns n z),s]) (_:gJ s (xs.map ts)) (_:ns.length<=63) (_:n+10<=1000000000000) (_:xs.length<=16777216) (_:ds.length<=40) (_:(∀x∈xs,x∈ds)) (_:(∀x∈xs,Nm x)) (_:∀x n' z',Nm x->x∉xs->x∉wordsL->n'<=n+10->k (fs x) [.own (aQ ns n' z'),s])
inductive gU (args:SA)(k:SK):Prop
 |mk (ns n z m:_) (_:args=[.own (aQ ns n z),fi m]) (_:ns.length<=63) (_:0<=m) (_:m<=40) (_:n+1000<=1000000000000) (_:∀(xs:List Str) n' z',(xs.length:Int)=m->xs.Nodup->(∀x∈xs,Nm x/\x∉wordsL)->n'<=n+1000->k (.own (.lst (xs.map ts))) [.own (aQ ns n' z'),fi m])
theorem HE {n0:Nat}(f:ns.length<=63)(k:m<=40)(o:n0+1000<=1000000000000){P:PD}(g:∀(xs:List Str)(n:Nat)(z:Int)(s:Option Sl),(xs.length:Int)=m->xs.Nodup->(∀x∈xs,Nm x/\x∉wordsL)->n<=n0+10*xs.length->P.nx ⟨[some (.out 0),some (fi m),some (.own (.lst (xs.map ts))),s],[.own (aQ ns n z)],[]⟩):∀(l:List Tv)(xs:List Str)(n:Nat)(z:Int)(s:Option Sl),(xs.length:Int)+l.length=m->xs.Nodup->(∀x∈xs,Nm x/\x∉wordsL)->n<=n0+10*xs.length →cy (bd (.nm 3)) (aD (aB (Aq eK) (.exp (.mth .app (.var 2) (.cons (.call 0 (.cons (.var 0) (.cons (.var 2) .nil))) .nil))))) P l ⟨[some (.out 0),some (fi m),some (.own (.lst (xs.map ts))),s],[.own (aQ ns n z)],[]⟩
 |[],xs,n,z,s,h,nd,c,i=>g xs n z s (by simpa using h) nd c i
 |t::l,xs,n,z,s,h,nd,c,i=>by
  have h':(xs.length:Int)+(l.length+1:Nat)=m:=h;refine⟨rfl,rfl,ns,n,z,_,xs,xs,rfl,.inl rfl,f,by lia,by lia,by lia,fun _ h=>h,fun x d=>(c x d).1,fun x p r u v w C=>⟨?_,?_⟩⟩;show(xs.map ts).length<16777216;rw[Xa];lia;have e:xs.map ts++[ts x]=(xs++[x]).map ts:=by simp
  show cy _ _ _ l ⟨[_,_,some (.own (.lst (xs.map ts++[ts x]))),_],_,_⟩;rw[e];refine HE f k o g l (xs++[x]) p r _ (by simp;lia) (Y2.mpr ⟨nd,by simp,fun a A b j=>by simp at j;rw[j];exact fun z=>v (z▸A)⟩) (fun y B=>?_) (by simp;lia);rcases Xn.mp B with q|q;exact c y q;simp at q;rw[q];exact⟨u,w⟩
theorem Rg:∀args k,gU args k->aD (aB (Aq eK) IC) (aW args k) (aR 4 args):=by rintro args k ⟨ns,n,z,m,rfl,g,j,h1,h,q⟩;refine⟨fun M=>∃(xs:List Str)(e:Nat)(f:Int)(s:Option Sl),M=⟨[some (.out 0),some (fi m),some (.own (.lst (xs.map ts))),s],[.own (aQ ns e f)],[]⟩/\(xs.length:Int)=m/\xs.Nodup/\(∀x∈xs,Nm x/\x∉wordsL)/\e<=n+10*xs.length,?_,?_⟩;refine⟨⟨by lia,by lia⟩,HE g h1 h ?_ _ [] n z none ?_ nodup_nil (fun x i=>by cases i) (by simp)⟩;exact fun xs e f s a b c d=>⟨xs,e,f,s,rfl,a,b,c,d⟩;unfold f6;rw[Xa,Y4];show(0:Int)+_=_;lia;rintro M ⟨xs,e,f,s,rfl,a,b,c,d⟩;exact q xs e f a b c (by lia)
inductive Tree (c : Type) where
 |nd (a : c) (ks:List (Tree c))
mutual
noncomputable def Tree.tv {c : Type}(f : c -> List V):Tree c -> Tv
 | .nd a b=>.tup ((f a).map Tv.at++Tree.tvL f b)
noncomputable def Tree.tvL {c : Type}(f : c -> List V):List (Tree c)->List Tv
 |[]=>[]
 |k::a=>Tree.tv f k::Tree.tvL f a
end
mutual
noncomputable def Tree.cnt {c : Type}:Tree c -> Nat
 | .nd _ a=>1+Tree.cntL a
noncomputable def Tree.cntL {c : Type}:List (Tree c)->Nat
 |[]=>0
 |k::a=>Tree.cnt k+Tree.cntL a
end
mutual
noncomputable def Tree.all {c : Type}:Tree c -> List (Tree c)
 | .nd a b=>.nd a b::Tree.allL b
noncomputable def Tree.allL {c : Type}:List (Tree c)->List (Tree c)
 |[]=>[]
 |k::a=>Tree.all k++Tree.allL a
end
theorem eZ (f : c -> List V):∀a:List (Tree c),Tree.tvL f a=a.map (Tree.tv f)
 |[]=>rfl
 |k::a=>by rw[Tree.tvL,eZ f a];rfl
mutual
theorem Tree.all_len {c : Type}:∀t:Tree c,t.all.length=t.cnt
 | .nd a b=>by rw[Tree.all,Tree.cnt,Xl,Tree.allL_len b];lia
theorem Tree.allL_len {c : Type}:∀a:List (Tree c),(Tree.allL a).length=Tree.cntL a
 |[]=>rfl
 |k::a=>by rw[Tree.allL,Tree.cntL,Xd,Tree.all_len k,Tree.allL_len a]
end
inductive Wd where
 |num (i:Int)|name (x:Str)|take|op (s:Str)|pick|lt (x:Str)|st (x:Str)|say|do|again (m:Int)|call (f:Str)
noncomputable def Wd.hd:Wd->List V
 | .num i=>[.str "num",.int i]
 | .name x=>[.str "name",.str x]
 | .take=>[.str "take"]
 | .op s=>[.str "op",.str s]
 | .pick=>[.str "pick"]
 | .lt x=>[.str "let",.str x]
 | .st x=>[.str "set",.str x]
 | .say=>[.str "say"]
 | .do=>[.str "do"]
 | .again m=>[.str "again",.int m]
 | .call f=>[.str "call",.str f]
abbrev E:=Tree Wd
abbrev E.tv (e:E):Tv:=Tree.tv Wd.hd e
abbrev E.tvL (a:List E):List Tv:=Tree.tvL Wd.hd a
noncomputable def eM:List Str:=["+","-","*","/","<","="]
structure Rl where
 X:Str->Prop
 A:Str->Nat->Prop
def Ar (R:Rl):Wd->Nat->Prop
 | .num i,m=>m=0/\0<=i/\i<=999999999
 | .name x,m=>m=0/\R.X x
 | .take,m=>m=0
 | .op s,m=>m=2/\s∈eM
 | .pick,m=>m=3
 | .lt x,m=>m=2/\R.X x
 | .st x,m=>m=1/\R.X x
 | .say,m=>m=1
 | .do,m=>1<=m/\m<=6
 | .again j,m=>m=1/\0<=j/\j<=5
 | .call f,m=>m<=7/\Nm f/\R.A f m
inductive Ex (R:Rl):Nat->E->Prop where
 |mk {n:Nat} {w:Wd} {ks:List E} (h:Ar R w ks.length) (hk:∀k∈ks,Ex R n k):Ex R (n+1) (.nd w ks)
variable {R:Rl}{Z:List E}
theorem Ar.mono {R':Rl}(a:∀x,R.X x->R'.X x)(b:∀f m,R.A f m->R'.A f m){w:Wd}{m:Nat}(h:Ar R w m):Ar R' w m:=by cases w with|name x=>exact⟨h.1,a _ h.2⟩|lt x=>exact⟨h.1,a _ h.2⟩|st x=>exact⟨h.1,a _ h.2⟩|call f=>exact⟨h.1,h.2.1,b _ _ h.2.2⟩|_=>exact h
theorem Ex.mono {R':Rl}(a:∀x,R.X x->R'.X x)(b:∀f m,R.A f m->R'.A f m){n:Nat}{e:E}(h:Ex R n e):Ex R' n e:=by induction h with|mk h d c=>exact .mk (h.mono a b) c
theorem Ex.up {n:Nat}{e:E}(h:Ex R n e):∀{m:Nat},n<=m->Ex R m e:=by induction h with|mk h b a=>intro m c;obtain⟨j,rfl⟩:∃j,m=j+1:=⟨m-1,by lia⟩;exact .mk h fun k z=>a k z (by lia)
theorem Ar.le {w:Wd}{m:Nat}(h:Ar R w m):m<=7:=by cases w with|num i=>have:=h.1;lia|name x=>have:=h.1;lia|take=>have:m=0:=h;lia|op s=>have:=h.1;lia|pick=>have:m=3:=h;lia|lt x=>have:=h.1;lia|st x=>have:=h.1;lia|say=>have:m=1:=h;lia| «do» => have := h.2; lia|again j=>have:=h.1;lia|call f=>exact h.1
theorem uF {l:List c}(h:l.length=2):∃a b,l=[a,b]:=by match l,h with|[a,b],_=>exact⟨a,b,rfl⟩
theorem E.tp (e:E):c8 e.tv=true:=by cases e;rfl
theorem E.okTy (e:E):okTy e.tv:=by cases e;exact⟨_,rfl⟩
theorem jS (w:Wd):(∀v∈w.hd,okTy (.at v))/\1<=w.hd.length/\w.hd.length<=2:=by
 cases w <;> exact⟨fun v a=>by
  simp only [Wd.hd,Xj,XO,Yo] at a
  first
   | (rcases a with rfl|rfl <;> exact⟨_,rfl⟩)
   | (subst a;exact⟨_,rfl⟩),by simp [Wd.hd],by simp [Wd.hd]⟩
theorem EO (Z:List E):(E.tvL Z).filter (fun t => !c8 t)=[]:=by rw[E.tvL,eZ];exact List.filter_eq_nil_iff.mpr fun t a=>by obtain⟨k,_,rfl⟩:=XA.mp a;simp [E.tp k]
theorem cm (Z:List E):(E.tvL Z).length=Z.length:=by rw[E.tvL,eZ,Xa]
theorem Rc (w:Wd)(Z:List E):((w.hd.map Tv.at++E.tvL Z).drop 1).filter c8=E.tvL Z:=by
 have h:=(jS w).2.1;have e:(w.hd.map Tv.at++E.tvL Z).drop 1=(w.hd.drop 1).map Tv.at++E.tvL Z:=by rw[List.drop_append_of_le_length (by rw[Xa];exact h),map_drop]
 rw[e];exact yU _ _ fun k a=>by rw[E.tvL,eZ] at a;obtain⟨k,_,rfl⟩:=XA.mp a;exact E.tp k
theorem Ce (w:Wd)(Z:List E):(w.hd.map Tv.at++E.tvL Z).filter (fun t => !c8 t)=w.hd.map Tv.at:=by rw[filter_append,EO,Xm];exact filter_eq_self.mpr fun t a=>by obtain⟨k,_,rfl⟩:=XA.mp a;rfl
theorem uR (w:Wd)(Z:List E):∀t∈w.hd.map Tv.at++E.tvL Z,okTy t:=fun t a=>by rcases Xn.mp a with h|h;obtain⟨v,b,rfl⟩:=XA.mp h;exact(jS w).1 v b;rw[E.tvL,eZ] at h;obtain⟨k,_,rfl⟩:=XA.mp h;exact E.okTy k
inductive au (args:SA)(k:SK):Prop
 |mk (w:Wd) (Z:List E) (_:args=[.fz (Tree.tv Wd.hd (.nd w Z))]) (_:Z.length<=1000) (_:k (.own (.lst (E.tvL Z))) [.fz (Tree.tv Wd.hd (.nd w Z))])
theorem Nu {args:List Sl}{k:Sl->List Sl->Prop}(h:au args k):gT args k:=by obtain⟨w,Z,rfl,a,q⟩:=h;have b:=(jS w).2.2;refine⟨w.hd.map Tv.at++E.tvL Z,rfl,?_,uR w Z,?_⟩;rw[Xd,Xa,cm];lia;rw[Rc];exact q
theorem SM:∀args k,au args k->aD (aB ql wJ) (aW args k) (aR 1 args):=fun args k h=>Ge args k (Nu h)
inductive b8 (args:SA)(k:SK):Prop
 |mk (w:Wd) (Z:List E) (s:Sl) (js:List Tv) (_:args=[.fz (Tree.tv Wd.hd (.nd w Z)),s]) (_:gJ s js) (_:Z.length<=1000) (_:js.length<=1000) (_:k (.fz (.tup (w.hd.map Tv.at++js))) [.fz (Tree.tv Wd.hd (.nd w Z)),s])
theorem Wi {args:List Sl}{k:Sl->List Sl->Prop}(h:b8 args k):jr args k:=by obtain⟨w,Z,s,a,rfl,b,c,d,q⟩:=h;have e:=(jS w).2.2;refine⟨w.hd.map Tv.at++E.tvL Z,s,a,rfl,b,?_,uR w Z,?_⟩;rw[Xd,Xa,cm];lia;rw[Ce];exact q
theorem Rb:∀args k,b8 args k->aD (aB qj wu) (aW args k) (aR 2 args):=fun args k h=>ER args k (Wi h)
inductive aN (R:Rl)(N:Nat)(args:SA)(k:SK):Prop
 |mk (e:E) (_:args=[.fz e.tv]) (_:Ex R N e) (_:k (fi e.cnt) [.fz e.tv])
theorem Ii {k:List Tv->Ms->Prop}:∀(Z:List E)(a:List Tv)(s:Option Sl),(∀t∈Z,Ex R N t)->(∀b,k (a++Z.map fun t=>ti t.cnt) ⟨[b],[],[]⟩)->bo (bd (.nm 0)) (aq (wI au (aN R N)) .tt).t (aq (wI au (aN R N)) (.call 1 (.cons (.var 0) .nil))).e k (E.tvL Z) a ⟨[s],[],[]⟩
 |[],a,s,_,q=>by have:=q s;rw[Y3,Xm] at this;exact this
 |t::Z,a,s,h,q=>⟨rfl,t,rfl,h t W8,Ii Z (a++[ti t.cnt]) _ (fun x c=>h x (W7 _ c)) fun b=>by simpa using q b⟩
theorem Ra (Z:List E):((Z.map fun t=>ti t.cnt).map ni).sum=(Tree.cntL Z:Nat):=by induction Z with|nil=>rfl|cons t ts a=>rw[Xp,Xp,sum_cons,a];show(t.cnt:Int)+_=((t.cnt+Tree.cntL ts:Nat):Int);lia
theorem SJ (R:Rl)(N:Nat):∀args k,aN R (N+1) args k->aD (aB (wI au (aN R N)) IB) (aW args k) (aR 1 args):=by
 rintro args k ⟨e,rfl,h,q⟩;cases h with
 | @mk _ w Z h a=>
  have d:=h.le;refine⟨rfl,w,Z,rfl,by lia,?_⟩;refine⟨by rw[cm];lia,rfl,Ii Z [] _ a fun f=>?_⟩;refine⟨fun t b=>by obtain⟨u,_,rfl⟩:=XA.mp b;exact⟨_,rfl⟩,?_⟩;have c:∀i:Int,i=1+(Tree.cntL Z:Nat)->k (fi i) _:=fun i J=>by
   have:((Tree.cnt (.nd w Z):Nat):Int)=i:=by rw[J,Tree.cnt];lia
   rw[<- this];exact q
  exact c _ (by rw[XM,Ra])
noncomputable def mi (m:Int)(i:Nat):Int:=(m-1+i) % 8+1
def jR (x m:Int)(u:Str)(j:Nat):Prop:=(u.length:Int)=mi m j/\u.cps.toList[0]?=some (97+((x+j) % 26).toNat)
instance (x m:Int)(u:Str)(j:Nat):Decidable (jR x m u j):=by unfold jR;exact inferInstance
theorem SI {x:Int}{u:Str}(J:i<=60)(f:j<i)(a:jR x m u i)(b:jR x m u j):False:=by
 obtain⟨d,e⟩:=a;obtain⟨b1,c⟩:=b;unfold mi at d b1;rw[e] at c;have g:=Xt c;have h1:0<=(x+i) % 26:=by omega
 have h:0<=(x+j) % 26:=by omega
 omega
structure Left (x m:Int)(ex R:List Str)(i:Nat):Prop where
 few:R.length+i<=54
 all:∀u∈ex,u∈R∨∃j,j<i/\jR x m u j
theorem Left.zero {x:Int}{ex:List Str}(h:ex.length<=53):Left x m ex ex 0:=⟨by lia,fun u a=>.inl a⟩
theorem Left.one {x:Int}{ex:List Str}(h:ex.length<=53):Left x m ex ex 1:=⟨by lia,fun u a=>.inl a⟩
theorem Left.next {x:Int}{ex R:List Str}{t:Str}(h:Left x m ex R i)(c:t∈ex)(k:jR x m t i):Left x m ex (R.filter fun u => !decide (jR x m u i)) (i+1):=by
 have d:t∈R:=by rcases h.all t c with z|⟨j,b,a⟩;exact z;exact(SI (by have:=h.few;lia) b k a).elim
 have e:(R.filter fun u => !decide (jR x m u i)).length<R.length:=by rw[List.length_filter_lt_length_iff_exists];exact⟨t,d,by simp [k]⟩
 refine⟨by have:=h.few;lia,fun u f=>?_⟩;rcases h.all u f with z|⟨j,b,a⟩;by_cases q:jR x m u i;exact .inr ⟨i,Yx _,q⟩;exact .inl (mem_filter.mpr ⟨z,by simp [q]⟩);exact .inr ⟨j,by lia,a⟩
theorem iw (t:Str)(xs:List Str):ia (.str t) ((xs.map ts).map gB)=true↔t∈xs:=by
 have e:(xs.map ts).map gB=xs.map V.str:=by rw[Ze];rfl
 rw[e];unfold ia;rw[List.any_map,any_eq_true];constructor;rintro⟨y,a,e⟩;have b:(y==t)=true:=e;rw[<- Xv.mp b];exact a;intro h;exact⟨t,h,beq_self_eq_true t⟩
theorem eX (xs:List Str):flatL (xs.map ts):=fun t h=>by obtain⟨i,_,rfl⟩:=XA.mp h;exact⟨_,rfl,rfl⟩
theorem zt {xs:List Str}(h:(true ^^ (xs.map ts).isEmpty)=true):xs ≠ []:=fun z=>by rw[z] at h;exact absurd h (by decide)
theorem Nm.ch {c:Nat}(a:Az x)(h:c∈x.cps.toList):Az ⟨#[c]⟩:=fun d hd=>by
 have:d=c:=by simpa using hd
 rw[this];exact a c h
theorem zQ (h:Az x):Az (Txt.slice x lo J):=by unfold Txt.slice;split;exact h;intro c b;have a:=b;simp only [mem_filterMap] at a;obtain⟨i,_,e⟩:=a;exact h c (Array.mem_toList_iff.mpr (Array.mem_of_getElem? e))
theorem F9 {t:Str}(h:1<=t.length):∃c,d6 t.cps.toList 0=some c/\c∈t.cps.toList:=jj (by decide) (by
  have a:t.cps.toList.length=t.length:=by simp [Str.length]
  rw[a];lia)
instance (x:Str):Decidable (Az x):=by unfold Az;exact inferInstance
theorem Q9:∀w∈wordsL,1<=w.length/\w.length<=5/\Az w:=by decide+kernel
noncomputable def smallL:List Str:=["a","b","c","d","x","y","z","n","v","aa","ab","tmp"]
theorem Q7:∀w∈smallL,1<=w.length/\w.length<=8/\Az w:=by decide+kernel
theorem Nm.app {y:Str}(h1:Az x)(a:Az y)(b:1<=x.length+y.length)(c:x.length+y.length<=8):Nm (x++y):=⟨by rw[m7];exact b,by rw[m7];exact c,h1.app a⟩
def uQ (b:Sl)(I:List Sl)(ns:List Int)(n:Nat)(c m u:Int)(M:Ms):Prop:=∃(x:Str)(a:Nat)(d:Int)(e f:Option Sl),M=⟨[some (.out 0),some b,some (.own (.lst (wordsL.map ts))),some (fi c),some (fi m),some (fi u),some (fs x),e,f],.own (aQ ns a d)::I,[]⟩/\Nm x/\a<=n
def Dr (a:Sl)(I:List Sl)(ns:List Int)(n:Nat)(z b m U:Int)(c d:Option Sl)(ex:List Str)(j:Nat)(M:Ms):Prop:=∃(i:Nat)(R:List Str)(t:Str),j+i=100/\M=⟨[some (.out 0),some a,some (.own (.lst (wordsL.map ts))),some (fi b),some (fi (mi m i)),some (fi (U+i)),some (fs t),c,d],.own (aQ ns n z)::I,[]⟩/\Nm t/\Left U m ex R i/\(0<i->jR U m t i)
theorem Q6 {n a:Nat}{c e U:Int}{s:Sl}{xs d:List Str}{k:Sl->List Sl->Prop}{b:Sl}{f h:Option Sl}{F:Ob}
  (T:n+10<=1000000000000) (hd:d.length<=40) (G:∀x∈xs,x∈d) (H:Nm x) (V:a<=n+9) (W:1<=m/\m<=8)
  (w:(b=.out 1/\I=[.own (.lst (xs.map ts))]/\s=.own (.lst (xs.map ts)))∨(b=.fz (.lst (xs.map ts))/\I=[]/\s=.fz (.lst (xs.map ts))))
  (q:∀x A K,Nm x->x∉xs->x∉wordsL->A<=n+10->k (fs x) [.own (aQ ns A K),s]):
  aD (aB (Ai a6 cQ) (.cut (.whl (.or (.cmp .isin (.var 6) (.var 1)) (.cmp .isin (.var 6) (.var 2))) (.seq (.set 5 (.bin .add (.var 5) (.cst (.int 1)))) (.seq (.set 4 (.bin .add (.bin .mod (.var 4) (.cst (.int 8))) (.cst (.int 1)))) (.set 6 (.call 1 (.cons (.var 5) (.cons (.var 4) .nil))))))) (.ret (.var 6)))) (aW [.own F,s] k) ⟨[some (.out 0),some b,some (.own (.lst (wordsL.map ts))),some (fi e),some (fi m),some (fi U),some (fs x),f,h],.own (aQ ns a c)::I,[]⟩:=by
 have hex:(d++wordsL).length<=53:=by
  rw[Xd];have:wordsL.length=13:=by decide+kernel
  lia
 rw[mT];refine⟨fun M=>∃(y:Str)(o p:Option Sl),M=⟨[some (.out 0),some b,some (.own (.lst (wordsL.map ts))),some (fi e),o,p,some (fs y),f,h],.own (aQ ns a c)::I,[]⟩/\Nm y/\y∉xs/\y∉wordsL,?_,?_⟩
 .refine⟨Dr b I ns a c e m U f h (d++wordsL),⟨100,0,_,x,rfl,?_,H,Left.zero hex,fun z=>absurd z (X7 _)⟩,?_⟩
  .have r:mi m 0=m:=by unfold mi;lia
   have u:U+((0:Nat):Int)=U:=by lia
   rw[r,u]
  .rintro j M ⟨i,R,t,X,rfl,L,B,N⟩
   have J:i<=54:=by have:=B.few;lia
   have r:mi m i % 8+1=mi m (i+1):=by unfold mi;lia
   have u:U+(i:Int)+1=U+((i+1:Nat):Int):=by lia
   have Y:1<=mi m (i+1)/\mi m (i+1)<=8:=by unfold mi;lia
   have C:t∈d++wordsL->∀t':Str,(t'.length:Int)=mi m i % 8+1->Az t'->(1<=mi m i % 8+1->t'.cps.toList[0]?=some (97+((U+i+1) % 26).toNat)) →∃D,D<j/\Dr b I ns a c e m U f h (d++wordsL) D ⟨[some (.out 0),some b,some (.own (.lst (wordsL.map ts))),some (fi e),some (fi (mi m i % 8+1)),some (fi (U+i+1)),some (fs t'),f,h],.own (aQ ns a c)::I,[]⟩:=by intro O t' h1 v l;rw[r] at h1 l;rw[u] at l;have E:jR U m t' (i+1):=⟨h1,l (by lia)⟩;rw[r,u];by_cases hz:i=0;subst hz;exact⟨j-1,by lia,1,_,t',by lia,rfl,⟨by lia,by lia,v⟩,Left.one hex,fun _=>E⟩;exact⟨j-1,by lia,i+1,_,t',by lia,rfl,⟨by lia,by lia,v⟩,B.next O (N (by lia)),fun _=>E⟩
   have P:¬ (false ^^ ia (.str t) ((xs.map ts).map gB))=true->¬ (false ^^ ia (.str t) ((wordsL.map ts).map gB))=true->∃(y:Str)(o p:Option Sl),(⟨[some (.out 0),some b,some (.own (.lst (wordsL.map ts))),some (fi e),some (fi (mi m i)),some (fi (U+i)),some (fs t),f,h],.own (aQ ns a c)::I,[]⟩:Ms)=⟨[some (.out 0),some b,some (.own (.lst (wordsL.map ts))),some (fi e),o,p,some (fs y),f,h],.own (aQ ns a c)::I,[]⟩/\Nm y/\y∉xs/\y∉wordsL:=fun g g2=>
    ⟨t,_,_,rfl,L,fun z=>g (by rw[(iw t xs).mpr z];rfl),fun z=>g2 (by rw[(iw t wordsL).mpr z];rfl)⟩
   have Q:(false ^^ ia (.str t) ((xs.map ts).map gB))=true->t∈d++wordsL:=fun g=>Xn.mpr (.inl (G t ((iw t xs).mp (by simpa using g))));have S:(false ^^ ia (.str t) ((wordsL.map ts).map gB))=true->t∈d++wordsL:=fun g=>Xn.mpr (.inr ((iw t wordsL).mp (by simpa using g)));rcases w with ⟨rfl,rfl,rfl⟩|⟨rfl,rfl,rfl⟩
   all_goals
    refine⟨⟨eX xs,rfl⟩,aF (fun g=>?_) (fun g=>⟨⟨eX wordsL,rfl⟩,aF (fun g2=>?_) (fun g2=>P g g2)⟩)⟩
    .exact⟨by show(0:Int)<8;decide,rfl,_,_,rfl,by lia,by lia,C (Q g)⟩
    .exact⟨by show(0:Int)<8;decide,rfl,_,_,rfl,by lia,by lia,C (S g2)⟩
 .rintro M ⟨y,o,p,rfl,h1,v,l⟩;rcases w with ⟨rfl,rfl,rfl⟩|⟨rfl,rfl,rfl⟩ <;> exact q y a c h1 v l (by lia)
theorem Pa:∀args k,eK args k->aD (aB (Ai a6 cQ) Hq) (aW args k) (aR 9 args):=by
 rintro args k ⟨ns,n,z,s,xs,ds,rfl,hs,A,hn,Q,hd,x3,R,q⟩;rcases hs with rfl|rfl;all_goals
  refine⟨by decide,rfl,ns,n,z,6,rfl,A,by lia,by decide,by decide,fun K n1 z1 w0 w1 hn1=>?_⟩;refine⟨rfl,ns,n1,z1,8,rfl,A,by lia,by decide,by decide,fun m n2 z2 m0 m1 i4=>?_⟩;refine⟨rfl,ns,n2,z2,456976,rfl,A,by lia,by decide,by decide,fun u n3 z3 u0 u1 kU=>?_⟩;refine⟨sx (by decide) (by decide),rfl,ns,n3,z3,456976,rfl,A,by lia,by decide,by decide,fun v S T v0 v1 nP=>?_⟩;refine⟨rfl,_,_,rfl,by lia,by lia,fun x ud V WH=>?_⟩;have b:Nm x:=⟨by lia,by lia,V⟩;generalize hU:u*456976+v=U;have WW:0<=U:=by lia
  refine⟨uQ _ _ ns (n+6) K (1+m) U,aF (fun g=>?_) (fun g=>⟨x,S,T,none,none,rfl,b,by lia⟩),?_⟩
  .refine⟨rfl,ns,S,T,13,rfl,A,by lia,by decide,by decide,fun r L N p w mv=>?_⟩;obtain⟨t,e,C⟩:=jj (l:=wordsL.map ts) (i:=r) p w;obtain⟨wd,O,rfl⟩:=XA.mp C;obtain⟨c,P,B⟩:=F9 b.1;have D:=Q9 wd O;have W:(⟨#[c]⟩:Str).length=1:=rfl;refine bx e (bx (o:=(d6 x.cps.toList 0).map fun c=>.at (.str ⟨#[c]⟩)) (t:=ts ⟨#[c]⟩) (by rw[P];rfl) ⟨?_,_,L,N,none,none,rfl,Nm.app D.2.2 (Nm.ch V B) (by lia) (by lia),by lia⟩);show wd.length+1<=16777216;lia
  rintro M ⟨x,L,N,d,f,rfl,b,mv⟩;refine⟨uQ _ _ ns (n+7) K (1+m) U,aF (fun g=>?_) (fun g=>⟨x,L,N,d,f,rfl,b,by lia⟩),?_⟩
  .refine⟨rfl,ns,L,N,12,rfl,A,by lia,by decide,by decide,fun r E F p w uo=>?_⟩;obtain⟨t,e,C⟩:=jj (l:=smallL.map ts) (i:=r) p w;obtain⟨wd,O,rfl⟩:=XA.mp C;have D:=Q7 wd O;exact bx e ⟨_,E,F,d,f,rfl,⟨D.1,D.2.1,D.2.2⟩,by lia⟩
  rintro M ⟨x,E,F,d,f,rfl,b,uo⟩;have tk:xs ≠ []->∀{r:Int},0<=r->r<((xs.map ts).length:Nat)->∃y,d6 (xs.map ts) r=some (ts y)/\y∈xs:=fun _ r p w=>by obtain⟨t,e,C⟩:=jj (l:=xs.map ts) (i:=r) p w;obtain⟨y,G,rfl⟩:=XA.mp C;exact⟨y,e,G⟩
  have tl:xs ≠ []->(0:Int)<((xs.map ts).length:Nat):=fun h=>by rw[Xa];have:=YL.mpr h;lia
  refine⟨uQ _ _ ns (n+8) K (1+m) U,aF (fun g=>aF (fun g2=>?_) (fun g2=>⟨x,E,F,d,f,rfl,b,by lia⟩)) (fun g=>⟨x,E,F,d,f,rfl,b,by lia⟩),?_⟩
  .have ne:=zt g2
   refine⟨rfl,ns,E,F,_,rfl,A,by lia,tl ne,by rw[Xa];lia,fun r H I p w xI=>?_⟩;obtain⟨y,e,G⟩:=tk ne p w;have a:=R y G;have h8:0<=U % 8/\U % 8<8:=⟨by lia,by lia⟩;have W:=Ql (x:=y++x) (j:=1+U % 8) (by rw[m7];have:=a.1;lia) (by lia);have c2:=DF (x:=y++x) (j:=1+U % 8) (by lia);have l1:=a.2.1;have l2:=b.2.1;refine bx e ⟨?_,by show(0:Int)<8;decide,?_,_,H,I,d,f,rfl,⟨by lia,by lia,zQ (a.2.2.app b.2.2)⟩,by lia⟩
   .show y.length+x.length<=16777216;lia
   .show(Txt.slice (y++x) none (some (1+U % 8))).length<=16777216;lia
  rintro M ⟨x,H,I,d,f,rfl,b,xI⟩;refine⟨uQ _ _ ns (n+9) K (1+m) U,aF (fun g=>aF (fun g2=>?_) (fun g2=>⟨x,H,I,d,f,rfl,b,by lia⟩)) (fun g=>⟨x,H,I,d,f,rfl,b,by lia⟩),?_⟩
  .have ne:=zt g2
   refine⟨rfl,ns,H,I,_,rfl,A,by lia,tl ne,by rw[Xa];lia,fun r X Y p w Z=>?_⟩;obtain⟨y,e,G⟩:=tk ne p w;have a:=R y G;have l1:=a.2.1;have l0:=a.1;obtain⟨c,P,B⟩:=F9 b.1;have Bu:(0:Int)<(y.length:Nat):=by lia
   have h9:0<=U % (y.length:Nat)/\U % (y.length:Nat)<(y.length:Nat):=⟨Int.emod_nonneg _ (by lia),Zk _ Bu⟩;generalize hJ:U % (y.length:Nat)=J at h9;have W:=DF (x:=y) (j:=J) h9.1;have c3:=RQ (x:=y) (i:=J+1) (by lia) (by lia);have hs1:=Txt.slice_le y none (some J);have c4:(⟨#[c]⟩:Str).length=1:=rfl;refine bx e ⟨Bu,?_⟩;subst hJ;refine⟨?_,bx (o:=(d6 x.cps.toList 0).map fun c=>.at (.str ⟨#[c]⟩)) (t:=ts ⟨#[c]⟩) (by rw[P];rfl) ⟨?_,?_,?_,_,X,Y,_,_,rfl,Nm.app ((zQ a.2.2).app (Nm.ch b.2.2 B)) (zQ a.2.2) ?_ ?_,by lia⟩⟩
   .show(Txt.slice y none (some (U % (y.length:Nat)))).length<=16777216;lia
   .show(Txt.slice y none (some (U % (y.length:Nat)))).length+1<=16777216;lia
   .show(Txt.slice y (some (U % (y.length:Nat)+1)) none).length<=16777216;lia
   .show(Txt.slice y none (some (U % (y.length:Nat)))++(⟨#[c]⟩:Str)).length+(Txt.slice y (some (U % (y.length:Nat)+1)) none).length<=16777216;rw[m7];lia
   .rw[m7];lia
   .rw[m7];lia
  rintro M ⟨x,X,Y,d,f,rfl,b,Z⟩;exact Q6 hn hd x3 b Z ⟨by lia,by lia⟩ (by simp) q
theorem Ex.one {e:E}(h:Ex R 1 e):e.cnt=1:=by cases h with| @mk _ w Z h a=>cases Z with|nil=>simp [Tree.cnt,Tree.cntL]|cons k Z=>cases a k W8
noncomputable def bV (r:Int):Nat:=(r-6).toNat
structure Wo where
 names:List Str
 lets:List Str
 fs:List (Str×Nat)
 ws:List (aj×Tv)
 sd:List E
 room:Int
 toil:Int
def ik (p:Str×Nat):Tv:=.tup [ts p.1,ti p.2]
def cz (W:Wo):Ob:=.dic [(.inr "names",.lst (W.names.map ts)),(.inr "lets",.lst (W.lets.map ts)),(.inr "functions",.lst (W.fs.map ik)),(.inr "works",.dic W.ws),(.inr "seeds",.lst (E.tvL W.sd)),(.inr "room",ti W.room),(.inr "toil",ti W.toil),(.inr "takes",.at (.bl true))]
structure WoOk (R:Rl)(W:Wo):Prop where
 n0:W.names ≠ []
 n1:W.names.length<=40
 l1:W.lets.length<=40
 f1:W.fs.length<=40
 nX:∀x∈W.names,R.X x
 lX:∀x∈W.lets,R.X x
 sX:W.sd.length<=40/\∀e∈W.sd,Ex R 4 e/\e.cnt<=8
 wA:∀(f:Str)(m:Nat),R.A f m->∃i,cb W.ws (.inr f)=some (ti i)
 fA:∀p∈W.fs,R.A p.1 p.2/\Nm p.1/\p.2<=6/\∃i,cb W.ws (.inr p.1)=some (ti i)
noncomputable def Wo.at (W:Wo)(r t:Int):Wo:={ W with room:=r,toil:=t }
theorem WoOk.at {W:Wo}(h:WoOk R W)(r t:Int):WoOk R (W.at r t):=⟨h.n0,h.n1,h.l1,h.f1,h.nX,h.lX,h.sX,h.wA,h.fA⟩
theorem sv {xs:List Str}{r:Int}(a:0<=r)(b:r<((xs.map ts).length:Nat)):∃y,d6 (xs.map ts) r=some (ts y)/\y∈xs:=by obtain⟨t,e,c⟩:=jj (l:=xs.map ts) (i:=r) a b;obtain⟨y,d,rfl⟩:=XA.mp c;exact⟨y,e,d⟩
theorem O9 {xs:List Str}(h:¬ (false ^^ (xs.map ts).isEmpty)=true):xs ≠ []:=fun z=>h (by rw[z];rfl)
theorem vd {xs:List Str}(h:xs ≠ []):(0:Int)<((xs.map ts).length:Nat):=by rw[Xa];have:=YL.mpr h;lia
inductive cR (R:Rl)(args:SA)(k:SK):Prop
 |mk (ns:List Int) (n:Nat) (z:Int) (W:Wo) (s:Sl) (bs:List Str) (_:args=[.own (aQ ns n z),.own (cz W),s]) (_:gJ s (bs.map ts)) (_:ns.length<=63) (_:n+10<=1000000000000) (_:WoOk R W) (_:bs.length<=1000) (_:(∀x∈bs,R.X x)) (_:∀(e:E) n' z',Ex R 1 e->n'<=n+10->k (.fz (E.tv e)) [.own (aQ ns n' z'),.own (cz W),s])
theorem O8 (R:Rl):∀args k,cR R args k->aD (aB (Hm a6 gQ) Hn) (aW args k) (aR 5 args):=by
 rintro args k ⟨ns,n,z,W,s,bs,rfl,C,o,H,A,I,f,q⟩;have u:=A.n1;have app:∀(a b c:List Str),a.map ts++b.map ts++c.map ts=(a++b++c).map ts:=fun a b c=>by simp
 have D:∀x∈W.names++bs++bs,R.X x:=fun x B=>by simp only [Xn] at B;rcases B with (h|h)|h;exact A.nX x h;exact f x h;exact f x h
 have v:∀(w:Wd),Ar R w 0->Ex R 1 (.nd w []):=fun w h=>.mk h fun k E=>by cases E
 rcases C with rfl|rfl;all_goals
  refine⟨rfl,ns,n,z,6,rfl,o,by lia,by decide,by decide,fun J n1 p K L u=>?_⟩;refine aF (fun g=>q (.nd .take []) n1 p (v _ rfl) (by lia)) (fun g=>?_);refine⟨by show(W.names.map ts).length+(bs.map ts).length<=_;rw[Xa,Xa];lia,by show(W.names.map ts++bs.map ts).length+(bs.map ts).length<=_;rw[Xd,Xa,Xa];lia,?_⟩;have num:∀{d:Nat}{j:Int}(i:Int),0<=i->i<=999999999->d<=n+10->k (.fz (.tup [ts "num",ti i])) [.own (aQ ns d j),.own (cz W),_]:=fun i F h1 t=>q (.nd (.num i) []) _ _ (v _ ⟨rfl,F,h1⟩) t;rw[app];refine aF (fun g=>?_) (fun g=>aF (fun g2=>?_) (fun g2=>?_))
  .exact⟨rfl,ns,n1,p,rfl,o,by lia,fun r d j l m t=>num r l m (by lia)⟩
  .exact⟨rfl,ns,n1,p,rfl,o,by lia,fun r d j l m t=>num r l m (by lia)⟩
  .have ne:=O9 g2;refine⟨rfl,ns,n1,p,_,rfl,o,by lia,vd ne,by rw[Xa];simp only [Xd];lia,fun r d j l m t=>?_⟩;obtain⟨y,e,G⟩:=sv l m;exact bx e (q (.nd (.name y) []) d j (v _ ⟨rfl,D y G⟩) (by lia))
noncomputable def D (b:Nat):Nat:=20*8 ^ b
theorem Nt (b:Nat):D (b+1)=8*D b:=by unfold D;rw[Nat.pow_succ];lia
theorem yB (b:Nat):20<=D b:=by unfold D;have:0<8 ^ b:=Nat.pos_of_ne_zero (by simp);lia
inductive bX (R:Rl)(b:Nat)(args:SA)(k:SK):Prop
 |mk (ns:List Int) (n:Nat) (z:Int) (W:Wo) (s:Sl) (bs:List Str) (u tm:Int) (_:args=[.own (aQ ns n z),.own (cz W),s,fi u,fi tm]) (_:gJ s (bs.map ts)) (_:ns.length<=63) (_ : u=b) (_:1<=b) (_:n+D b<=1000000000000) (_:WoOk R W) (_:bs.length+b<=1000) (_:(∀x∈bs,R.X x)) (_:0<=tm) (_:tm*5 ^ b<=1000000000) (_:∀(e:E) n' z' r t,Ex R b e->e.cnt+7*bV r<=1+7*bV W.room->n'<=n+D b->k (.fz (E.tv e)) [.own (aQ ns n' z'),.own (cz (W.at r t)),s,fi u,fi tm])
noncomputable def dH:List Str:=["let","set","say"]
inductive gY (R:Rl)(b:Nat)(args:SA)(k:SK):Prop
 |mk (ns:List Int) (n:Nat) (z:Int) (W:Wo) (s:Sl) (bs:List Str) (u tm:Int) (kd:Str) (_:args=[.own (aQ ns n z),.own (cz W),s,fi u,fi tm,fs kd]) (_:gJ s (bs.map ts)) (_:kd∈dH) (_:ns.length<=63) (_ : u - 1=b) (_:1<=b) (_:n+10+2*D b<=1000000000000) (_:WoOk R W) (_:bs.length+b+1<=1000) (_:(∀x∈bs,R.X x)) (_:0<=tm) (_:tm*5 ^ b<=1000000000) (_:∀(e:E) n' z' r t,Ex R (b+1) e->e.cnt+7*bV r<=7+7*bV W.room->n'<=n+10+2*D b->k (.fz (E.tv e)) [.own (aQ ns n' z'),.own (cz (W.at r t)),s,fi u,fi tm,fs kd])
theorem Ad {bs:List Str}{k:List Tv->Ms->Prop}(d:(a0=.out 0/\I=[.own (.lst (bs.map ts))])∨(a0=.fz (.lst (bs.map ts))/\I=[])):∀(l a:List Str)(s:Option Sl),(∀(b:List Str) c,(∀y∈b,y∈a∨y∈l)->b.length<=a.length+l.length->k (b.map ts) ⟨[some a0,c],I,[]⟩)->bo (bd (.nm 1)) (aq B (.cmp .notin (.var 1) (.var 0))).t (aq B (.var 1)).e k (l.map ts) (a.map ts) ⟨[some a0,s],I,[]⟩
 |[],a,s,q=>q a s (fun y h=>.inl h) (by simp)
 |x::l,a,s,q=>by
  have h1:∀s,bo (bd (.nm 1)) (aq B (.cmp .notin (.var 1) (.var 0))).t (aq B (.var 1)).e k (l.map ts) (a.map ts++[ts x]) ⟨[some a0,s],I,[]⟩:=fun s=>by
   have e:a.map ts++[ts x]=(a++[x]).map ts:=by simp
   rw[e];refine Ad d l (a++[x]) s fun b c h f=>q b c (fun y i=>?_) (by simp at f ⊢;lia);rcases h y i with z|z;rcases Xn.mp z with z|z;exact .inl z;simp at z;exact .inr (z▸W8);exact .inr (W7 _ z)
  have j:∀s,bo (bd (.nm 1)) (aq B (.cmp .notin (.var 1) (.var 0))).t (aq B (.var 1)).e k (l.map ts) (a.map ts) ⟨[some a0,s],I,[]⟩:=fun s=>
   Ad d l a s fun b c h f=>q b c (fun y i=>(h y i).elim .inl fun z=>.inr (W7 _ z)) (by simp at f ⊢;lia)
  rcases d with ⟨rfl,rfl⟩|⟨rfl,rfl⟩;exact⟨⟨eX bs,rfl⟩,aF (fun g=>h1 _) (fun g=>j _)⟩;exact⟨⟨eX bs,rfl⟩,aF (fun g=>h1 _) (fun g=>j _)⟩
theorem Cd (bs:List Str)(y:Str):gJ (.own (.lst (bs.map ts++[ts y]))) ((bs++[y]).map ts):=.inl (by rw[Xq];rfl)
theorem Q5 (R:Rl)(b:Nat):∀args k,gY R b args k->aD (aB (Iu a6 (bX R b)) Iv) (aW args k) (aR 9 args):=by
 rintro args k ⟨ns,n,z,W,s,bs,u,tm,kd,rfl,T,G,o,c,C,hn,d,U,f,i,j,q⟩;have V:=d.n1;have Y:=d.l1;have D0:=yB b;have app:∀(a b:List Str),a.map ts++b.map ts=(a++b).map ts:=fun a b=>by simp
 have O:∀x∈W.names++W.lets,R.X x:=fun x H=>(Xn.mp H).elim (d.nX x) (d.lX x);have D:∀{w:Wd}{e:E},Ar R w 1->Ex R b e->Ex R (b+1) (.nd w [e]):=fun h he=>.mk h fun k F=>by simp at F;subst F;exact he
 have Z:∀{w:Wd}{e P:E},Ar R w 2->Ex R b e->Ex R b P->Ex R (b+1) (.nd w [e,P]):=fun h he j6=>.mk h fun k F=>by simp at F;rcases F with rfl|rfl <;> assumption
 have xP:kd="let"∨kd="set"∨kd="say":=by simpa [dH] using G
 rcases T with rfl|rfl;all_goals
  refine⟨by rw[Xa];lia,rfl,Ad (bs:=bs) (by first|exact .inl ⟨rfl,rfl⟩|exact .inr ⟨rfl,rfl⟩) W.names [] none fun Q s' B I=>?_⟩
  have xy:∀y∈Q,R.X y:=fun y h=>by
   rcases B y h with z|z
   .cases z
   .exact d.nX y z
  have LH:Q.length<=40:=by simp at I;lia
  rcases xP with rfl|rfl|rfl
  .refine⟨by show(W.names.map ts).length+(W.lets.map ts).length<=_;rw[Xa,Xa];lia,?_⟩;rw[app];have ne:W.names++W.lets ≠ []:=fun h=>d.n0 (List.append_eq_nil_iff.mp h).1;refine⟨rfl,ns,n,z,_,rfl,o,by lia,vd ne,by rw[Xa,Xd];lia,fun r n1 J K L i4=>?_⟩;obtain⟨y,e,B⟩:=sv K L;refine bx e ⟨rfl,ns,n1,J,W,_,bs,_,tm,rfl,by first|exact .inl rfl|exact .inr rfl,o,c,C,by lia,d,by lia,f,i,j,fun D p t l v A M N=>?_⟩;refine⟨by show(bs.map ts).length+1<=_;rw[Xa];lia,rfl,ns,p,t,W.at l v,_,bs++[y],_,tm,rfl,Cd bs y,o,c,C,by lia,d.at _ _,by rw[Xd];show bs.length+1+b<=_;lia,fun x H=>(Xn.mp H).elim (f x) fun h=>by simp at h;exact h▸O y B,i,j,fun m n3 z3 S t3 Mk Me nP=>?_⟩;exact q (.nd (.lt y) [D,m]) n3 z3 S t3 (Z ⟨rfl,O y B⟩ A Mk) (by have Md:m.cnt+7*bV S<=1+7*bV l:=Me;simp only [Tree.cnt,Tree.cntL];lia) (by lia)
  .refine aF (fun g=>?_) (fun g=>?_)
   .have ne:=zt g;refine⟨rfl,ns,n,z,_,rfl,o,by lia,vd ne,by rw[Xa];lia,fun r n1 J K L i4=>?_⟩;obtain⟨y,e,B⟩:=sv K L;refine bx e ⟨rfl,ns,n1,J,W,_,bs,_,tm,rfl,by first|exact .inl rfl|exact .inr rfl,o,c,C,by lia,d,by lia,f,i,j,fun m p t l v A M N=>?_⟩;exact q (.nd (.st y) [m]) p t l v (D ⟨rfl,xy y B⟩ A) (by simp only [Tree.cnt,Tree.cntL];lia) (by lia)
   .refine⟨rfl,ns,n,z,W,_,bs,_,tm,rfl,by first|exact .inl rfl|exact .inr rfl,o,c,C,by lia,d,by lia,f,i,j,fun m p t l v A M N=>?_⟩;exact q (.nd .say [m]) p t l v (D rfl A) (by simp only [Tree.cnt,Tree.cntL];lia) (by lia)
  .refine⟨rfl,ns,n,z,W,_,bs,_,tm,rfl,by first|exact .inl rfl|exact .inr rfl,o,c,C,by lia,d,by lia,f,i,j,fun m p t l v A M N=>?_⟩;exact q (.nd .say [m]) p t l v (D rfl A) (by simp only [Tree.cnt,Tree.cntL];lia) (by lia)
theorem vW:∀a b:List E,Tree.cntL (a++b)=Tree.cntL a+Tree.cntL b
 |[],b=>by simp [Tree.cntL]
 |k::a,b=>by rw[XR,Tree.cntL,vW a b,Tree.cntL];lia
theorem Ac {b:Nat}{g:Sl}{tm bl:Sl}{k:List Tv->Ms->Prop}
  (m:∀(n:Nat)(z:Int)(W:Wo)(s:Option Sl)(o:Ev->Ms->Prop),n+D b<=1000000000000->WoOk R W->(∀(e:E) c f a t',Ex R b e->e.cnt+7*bV a<=1+7*bV W.room->c<=n+D b->o (.fz (E.tv e)) ⟨[some (.out 0),some (.out 1),some g,some tm,some bl,s],.own (aQ ns c f) :: .own (cz (W.at a t'))::I,[]⟩)->r ⟨[some (.out 0),some (.out 1),some g,some tm,some bl,s],.own (aQ ns n z) :: .own (cz W)::I,[]⟩ o):
  ∀(l:List Tv)(es:List E)(n:Nat)(z:Int)(W:Wo)(s:Option Sl),n+l.length*D b<=1000000000000->WoOk R W->(∀e∈es,Ex R b e) →(∀(d:List E) c f a t' y,d.length=es.length+l.length->(∀e∈d,Ex R b e)->Tree.cntL d+7*bV a<=Tree.cntL es+l.length+7*bV W.room->c<=n+l.length*D b->k (E.tvL d) ⟨[some (.out 0),some (.out 1),some g,some tm,some bl,y],.own (aQ ns c f) :: .own (cz (W.at a t'))::I,[]⟩) →bo (bd (.nm 5)) (fun M k=>k true M) r k l (E.tvL es) ⟨[some (.out 0),some (.out 1),some g,some tm,some bl,s],.own (aQ ns n z) :: .own (cz W)::I,[]⟩
 |[],es,n,z,W,s,p,i,he,q=>q es n z W.room W.toil s rfl he (W9 _) (by simp)
 |t::l,es,n,z,W,s,p,i,he,q=>by
  have u:(t::l).length*D b=l.length*D b+D b:=by rw[Xl,Nat.succ_mul]
  rw[u] at p;refine m n z W _ _ (by lia) i fun e c f a t' h1 J L=>?_;have A:E.tvL es++[E.tv e]=E.tvL (es++[e]):=by simp only [E.tvL,eZ,Xq];rfl
  show bo _ _ _ _ l (E.tvL es++[E.tv e]) _;rw[A];refine Ac m l (es++[e]) c f (W.at a t') _ (by lia) (i.at _ _) (fun x B=>(Xn.mp B).elim (he x) fun h=>by simp at h;exact h▸h1) fun d C F v G Y j H K N=>q d C F v G Y (by rw[j,Xd,Xl];simp;lia) H (by have w:Tree.cntL d+7*bV v<=Tree.cntL (es++[e])+l.length+7*bV a:=K;rw[vW] at w;simp only [Tree.cntL] at w;rw[Xl];lia) (by rw[u];lia)
inductive fM (R:Rl)(b:Nat)(args:SA)(k:SK):Prop
 |mk (ns:List Int) (n:Nat) (z:Int) (W:Wo) (s:Sl) (bs:List Str) (u tm:Int) (_:args=[.own (aQ ns n z),.own (cz W),s,fi u,fi tm]) (_:gJ s (bs.map ts)) (_:ns.length<=63) (_ : u - 1=b) (_:1<=b) (_:n+20+6*D b<=1000000000000) (_:WoOk R W) (_:bs.length+b+1<=1000) (_:(∀x∈bs,R.X x)) (_:0<=tm) (_:tm*5 ^ b<=1000000000) (_:∀(e:E) n' z' r t,Ex R (b+1) e->e.cnt+7*bV r<=7+7*bV W.room->n'<=n+20+6*D b->k (.fz (E.tv e)) [.own (aQ ns n' z'),.own (cz (W.at r t)),s,fi u,fi tm])
theorem Cc {tm:Int}{b:Nat}(a:0<=tm)(h:tm*5 ^ b<=1000000000):tm<=1000000000:=by
 have c:(1:Int)<=5 ^ b:=by
  have:0<5 ^ b:=Nat.pos_of_ne_zero (by simp);have e:((5 ^ b:Nat):Int)=(5:Int) ^ b:=by simp
  lia
 have:=Int.mul_le_mul_of_nonneg_left c a;lia
theorem SH (R:Rl)(b:Nat):∀args k,fM R b args k->aD (aB (IW (cR R) a6 (bX R b)) IZ) (aW args k) (aR 8 args):=by
 rintro args k ⟨ns,n,z,W,s,bs,u,tm,rfl,G,o,x,H,A,a,I,c,d,f,q⟩;have D0:=yB b;have J:=Cc d f;have K:=a.f1;rcases G with rfl|rfl;all_goals
  have B:∀(n1:Nat)(j:Int),n1<=n+1->∀(e:E) v y,Ex R 1 e->v<=n1+10->k (.fz (E.tv e)) [.own (aQ ns v y),.own (cz W),_,fi u,fi tm]:=fun n1 j h1 e v y he i5=>q e v y W.room W.toil (he.up (by lia)) (by rw[he.one];lia) (by lia);refine aF (fun g=>?_) (fun g=>?_)
  .exact⟨rfl,ns,n,z,W,_,bs,rfl,by first|exact .inl rfl|exact .inr rfl,o,by lia,a,by lia,c,B n z (by lia)⟩
  have ne:W.fs ≠ []:=fun h=>g (by rw[h];rfl);have MH:((W.fs.map ik).length:Int)=W.fs.length:=by rw[Xa]
  have C:=YL.mpr ne;refine⟨rfl,ns,n,z,_,rfl,o,by lia,by lia,by lia,fun r n1 j L M N=>?_⟩;obtain⟨t,e,O⟩:=jj (l:=W.fs.map ik) (i:=r) L M;obtain⟨p,P,rfl⟩:=XA.mp O;obtain⟨Q,S,T,i,U⟩:=a.fA p P;refine bx e (bx U ⟨iS (by lia) (by lia),⟨iS (by decide) (by decide),aF (fun g=>?_) (fun g=>?_)⟩⟩)
  .exact⟨rfl,ns,n1,j,W,_,bs,rfl,by first|exact .inl rfl|exact .inr rfl,o,by lia,a,by lia,c,B n1 j (by lia)⟩
  have w:(f6 (((p.2:Nat):Int).toNat)).length=p.2:=by unfold f6;rw[Xa,Y4];lia
  have e6:p.2*D b<=6*D b:=Nat.mul_le_mul_right _ T;refine⟨by show 8<16777216;decide,⟨by lia,by lia⟩,by rw[w];lia,rfl,Ac (R:=R) (b:=b) (ns:=ns) (tm:=fi tm) (bl:=fi u) (fun n z W s k' A a V=>?_) _ [] n1 j (W.at W.room (W.toil-tm*i)) none (by rw[w];lia) (a.at _ _) (fun e h=>by cases h) (fun es X Z F t2 Y m he kZ i4=>?_)⟩
  .exact⟨rfl,ns,n,z,W,_,bs,_,tm,rfl,by first|exact .inl rfl|exact .inr rfl,o,x,H,A,a,by lia,c,d,f,V⟩
  .rw[w] at m i4
   have xO:es.length=p.2:=by simpa using m
   refine⟨by show 2+(E.tvL es).length<=_;rw[cm];lia,?_⟩;exact q (.nd (.call p.1) es) X Z F t2 (.mk ⟨by lia,S,by rw[xO];exact Q⟩ he) (by have kY:Tree.cntL es+7*bV F<=0+_+7*bV W.room:=kZ;rw[w] at kY;rw[Tree.cnt];lia) (by lia)
def VS (s:Sl)(l:List (aj×Tv)):Prop:=s=.own (.dic l)∨s=.fz (.dic l)
inductive bM (R:Rl)(N:Nat)(args:SA)(k:SK):Prop
 |mk (e:E) (s:Sl) (ws:List (aj×Tv)) (_:args=[.fz (E.tv e),s]) (_:VS s ws) (_:Ex R N e) (_:(∀(f:Str)(m:Nat),R.A f m->∃i,cb ws (.inr f)=some (ti i))) (_:∀i,k (fi i) [.fz (E.tv e),s])
theorem GV {k:List Tv->Ms->Prop}(c:(a0=.out 0/\I=[.own (.dic ws)])∨(a0=.fz (.dic ws)/\I=[]))(b:∀(f:Str)(m:Nat),R.A f m->∃i,cb ws (.inr f)=some (ti i)):∀(Z:List E)(a:List Int)(s:Option Sl),(∀e∈Z,Ex R N e)->(∀(is:List Int)(d:Option Sl),k (is.map ti) ⟨[some a0,d],I,[]⟩)->bo (bd (.nm 1)) (aq (qi au (bM R N)) .tt).t (aq (qi au (bM R N)) (.call 1 (.cons (.var 1) (.cons (.var 0) .nil)))).e k (E.tvL Z) (a.map ti) ⟨[some a0,s],I,[]⟩
 |[],a,s,_,q=>q a s
 |e::Z,a,s,h,q=>by
  have h1:∀i s,bo (bd (.nm 1)) (aq (qi au (bM R N)) .tt).t (aq (qi au (bM R N)) (.call 1 (.cons (.var 1) (.cons (.var 0) .nil)))).e k (E.tvL Z) (a.map ti++[ti i]) ⟨[some a0,s],I,[]⟩:=fun i s=>by
   have g:a.map ti++[ti i]=(a++[i]).map ti:=by simp
   rw[g];exact GV c b Z (a++[i]) s (fun x j=>h x (W7 _ j)) q
  have he:=h e W8;rcases c with ⟨rfl,rfl⟩|⟨rfl,rfl⟩;exact⟨rfl,e,_,ws,rfl,.inl rfl,he,b,fun i=>h1 i _⟩;exact⟨rfl,e,_,ws,rfl,.inr rfl,he,b,fun i=>h1 i _⟩
theorem O7 (R:Rl)(N:Nat):∀args k,bM R (N+1) args k->aD (aB (qi au (bM R N)) Ho) (aW args k) (aR 3 args):=by
 rintro args k ⟨e,s,ws,rfl,b,he,a,q⟩;cases he with
 | @mk _ w Z h c=>
  have g:=h.le;rcases b with rfl|rfl;all_goals
   refine⟨rfl,w,Z,rfl,by lia,by rw[cm];lia,rfl,GV (ws:=ws) (by first|exact .inl ⟨rfl,rfl⟩|exact .inr ⟨rfl,rfl⟩) a Z [] none c fun is j=>?_⟩;refine⟨fun t d=>by obtain⟨u,_,rfl⟩:=XA.mp d;exact⟨_,rfl⟩,?_⟩
   cases w with
   |again m=>exact⟨iS (by have:=h.2.1;lia) (by have:=h.2.2;lia),q _⟩
   |call f=>obtain⟨i,J⟩:=a f _ h.2.2;exact bx J (q _)
   |_=>exact q _
noncomputable abbrev fb (b:Bool):Sl:=.fz (.at (.bl b))
noncomputable abbrev tb (b:Bool):Tv:=.at (.bl b)
inductive bq (R:Rl)(N:Nat)(args:SA)(k:SK):Prop
 |mk (e:E) (s:Sl) (bs:List Str) (_:args=[.fz (E.tv e),s]) (_:gJ s (bs.map ts)) (_:bs.length+N<=1000) (_:Ex R N e) (_:∀b,k (fb b) [.fz (E.tv e),s])
theorem Al {bs:List Str}{k:List Tv->Ms->Prop}(c:(a0=.out 0/\I=[.own (.lst (bs.map ts))])∨(a0=.fz (.lst (bs.map ts))/\I=[]))(b:bs.length+N<=1000):∀(Z:List E)(a:List Bool)(s:Option Sl),(∀e∈Z,Ex R N e)->(∀(bl:List Bool)(d:Option Sl),k (bl.map tb) ⟨[some a0,d],I,[]⟩)->bo (bd (.nm 1)) (aq (qk (bq R N) au) .tt).t (aq (qk (bq R N) au) An).e k (E.tvL Z) (a.map tb) ⟨[some a0,s],I,[]⟩
 |[],a,s,_,q=>q a s
 |e::Z,a,s,h,q=>by
  have h1:∀i s,bo (bd (.nm 1)) (aq (qk (bq R N) au) .tt).t (aq (qk (bq R N) au) An).e k (E.tvL Z) (a.map tb++[tb i]) ⟨[some a0,s],I,[]⟩:=fun i s=>by
   have f:a.map tb++[tb i]=(a++[i]).map tb:=by simp
   rw[f];exact Al c b Z (a++[i]) s (fun x g=>h x (W7 _ g)) q
  have he:=h e W8;rcases c with ⟨rfl,rfl⟩|⟨rfl,rfl⟩;exact⟨rfl,e,_,bs,rfl,.inl rfl,b,he,fun i=>h1 i _⟩;exact⟨rfl,e,_,bs,rfl,.inr rfl,b,he,fun i=>h1 i _⟩
theorem EN (bl:List Bool):blL (bl.map tb):=fun t a=>by obtain⟨b,_,rfl⟩:=XA.mp a;exact⟨b,rfl⟩
theorem Q4 (R:Rl)(N:Nat):∀args k,bq R (N+1) args k->aD (aB (qk (bq R N) au) IA) (aW args k) (aR 2 args):=by
 rintro args k ⟨e,s,bs,rfl,f,i,he,q⟩;cases he with
 | @mk _ w Z h d=>
  have j:=h.le;rcases f with rfl|rfl;all_goals
   cases w with
   |lt x=>obtain⟨a,c,rfl⟩:=uF h.1;refine⟨rfl,a,_,bs,rfl,by first|exact .inl rfl|exact .inr rfl,by lia,d a (by simp),fun b=>aF (fun _=>?_) (fun _=>q _)⟩;exact⟨by show(bs.map ts).length+1<=_;rw[Xa];lia,rfl,c,_,bs++[x],rfl,Cd bs x,by rw[Xd];show bs.length+1+N<=_;lia,d c (by simp),fun b=>q b⟩
   |st x=>refine⟨⟨eX bs,rfl⟩,aF (fun _=>q false) (fun _=>?_)⟩;exact⟨rfl,.st x,Z,rfl,by lia,by rw[cm];lia,rfl,Al (bs:=bs) (by first|exact .inl ⟨rfl,rfl⟩|exact .inr ⟨rfl,rfl⟩) (by lia) Z [] none d fun bl g=>⟨EN bl,q _⟩⟩
   |_=>exact⟨rfl,_,Z,rfl,by lia,by rw[cm];lia,rfl,Al (bs:=bs) (by first|exact .inl ⟨rfl,rfl⟩|exact .inr ⟨rfl,rfl⟩) (by lia) Z [] none d fun bl g=>⟨EN bl,q _⟩⟩
noncomputable def rf:Nat->Nat->List Tv
 |_,0=>[]
 |i,j+1=>ti i::rf (i+1) j
theorem Dq:∀(j i:Nat),(List.range' i j).map (fun(a:Nat)=>ti (a:Int))=rf i j
 | 0,i=>rfl
 |j+1,i=>by rw[List.range'_succ,Xp,Dq j (i+1)];rfl
theorem EM (n:Nat):f6 n=rf 0 n:=by unfold f6;rw[List.range_eq_range'];exact Dq n 0
inductive cC (R:Rl)(m N:Nat)(args:SA)(k:SK):Prop
 |mk (e l:E) (i:Int) (_:args=[.fz (E.tv e),fi i,.fz (E.tv l)]) (_:Ex R N e) (_:Ex R m l) (_:∀e',Ex R (N+m) e'->e'.cnt<=e.cnt+l.cnt->k (.fz (E.tv e')) [.fz (E.tv e),fi i,.fz (E.tv l)])
abbrev gS (R:Rl)(m N:Nat):Gm:=Jb au (aN R N) (cC R m N) b8
theorem O6 (a b:List E)(t:E):d6 (E.tvL (a++t::b)) (a.length:Int)=some (E.tv t):=by show(E.tvL (a++t::b))[a.length]?=_;rw[E.tvL,eZ,Xq,Xr (by rw[Xa];exact W9 _),Xa,Nat.sub_self];rfl
theorem O5 (a b:List E)(t u:E):(E.tvL (a++t::b)).set a.length (E.tv u)=E.tvL (a++u::b):=by rw[E.tvL,E.tvL,eZ,eZ,Xq,Xq];have h:=List.set_append_right (s:=a.map (Tree.tv Wd.hd)) (t:=(t::b).map (Tree.tv Wd.hd)) a.length (E.tv u) (by rw[Xa];exact W9 _);rw[h,Xa,Nat.sub_self];rfl
theorem O4 (a b:List E)(t:E):hZ (E.tvL (a++t::b)).length (a.length:Int)=some a.length:=by rw[cm,Xd,Xl];unfold hZ;rw[Xk (by lia),Xk (by lia)];simp
theorem Ih {m:Nat}{e l:E}{P:PD}(d:Ex R m l):∀(I done:List E)(i:Int)(a b:Option Sl),(∀e∈I,Ex R N e)->(∀e∈done,Ex R (N+m) e) →(∀(es:List E)(g:Int) a b,es.length=done.length+I.length->(∀e∈es,Ex R (N+m) e)->Tree.cntL es<=Tree.cntL done+Tree.cntL I+(if 0<=i then l.cnt else 0)->P.nx ⟨[some (.fz (E.tv e)),some (fi g),some (.fz (E.tv l)),some (.own (.lst (E.tvL es))),a,b],[],[]⟩) →cy (bd (.nm 4)) (aD (aB (gS R m N) Iy)) P (rf done.length I.length) ⟨[some (.fz (E.tv e)),some (fi i),some (.fz (E.tv l)),some (.own (.lst (E.tvL (done++I)))),a,b],[],[]⟩
 |[],done,i,a,b,_,hd,q=>by rw[Xm];exact q done i a b rfl hd (by simp only [Tree.cntL];lia)
 |t::I,done,i,a,b,j,hd,q=>by
  have f:=j t W8;have k:=O6 done I t;refine bx k ⟨rfl,t,rfl,f,?_⟩;refine⟨fun M=>∃t',Ex R (N+m) t'/\(t'=t∨(t'.cnt<=t.cnt+l.cnt/\0<=i/\i<t.cnt))/\M=⟨[some (.fz (E.tv e)),some (fi i),some (.fz (E.tv l)),some (.own (.lst (E.tvL (done++t'::I)))),some (fi done.length),some (fi t.cnt)],[],[]⟩,aF (fun g1=>aF (fun g2=>?_) (fun _=>⟨t,f.up (by lia),.inl rfl,rfl⟩)) (fun _=>⟨t,f.up (by lia),.inl rfl,rfl⟩),?_⟩;refine bx k ⟨rfl,t,l,i,rfl,f,d,fun n o c=>⟨_,O4 done I t,n,o,.inr ⟨c,XY g1,XY g2⟩,?_⟩⟩;rw[<- O5 done I t n];rfl;rintro M ⟨t',p,h,rfl⟩;have r:done++t'::I=(done++[t'])++I:=by simp
  have s:done.length+1=(done++[t']).length:=by simp
  have tp:1<=t.cnt:=by cases t;rw[Tree.cnt];lia
  have:=Ih d I (done++[t']) (i-t.cnt) (some (fi done.length)) (some (fi t.cnt)) (fun e he=>j e (W7 _ he)) (fun e he=>(Xn.mp he).elim (hd e) fun z=>by simp at z;exact z▸p) fun es g a b d u c=>q es g a b (by rw[d,Xd,Xl];simp;lia) u (by
    rw[vW] at c;simp only [Tree.cntL] at c ⊢;rcases h with rfl|⟨x,v,y⟩
    .by_cases w:0<=i
     .rw[Xk w]
      split at c <;> lia
     .rw[Xh (by lia)] at c ⊢;lia
    .rw[Xh (by lia)] at c
     rw[Xk v];lia)
  rw[<- r,<- s] at this;exact this
theorem SG (R:Rl)(m N:Nat):∀args k,cC R m (N+1) args k->aD (aB (gS R m N) Jc) (aW args k) (aR 6 args):=by rintro args k ⟨e,l,i,rfl,he,a,q⟩;refine aF (fun g=>q l (a.up (by lia)) (by lia)) (fun g=>?_);cases he with| @mk _ w Z h j=>have n:=h.le;refine⟨rfl,w,Z,rfl,by lia,fun M=>∃(es:List E)(i:Int)(b c:Option Sl),es.length=Z.length/\(∀e∈es,Ex R (N+m) e)/\Tree.cntL es<=Tree.cntL Z+l.cnt/\M=⟨[some (.fz (E.tv (.nd w Z))),some (fi i),some (.fz (E.tv l)),some (.own (.lst (E.tvL es))),b,c],[],[]⟩,?_,?_⟩;have tl:=cm Z;refine⟨⟨by lia,by lia⟩,?_⟩;show cy _ _ _ (f6 (E.tvL Z).length) _;rw[tl,EM];exact Ih a Z [] _ none none j (fun e he=>by cases he) fun es i b c a d f=>⟨es,i,b,c,by simpa using a,d,by simp only [Tree.cntL] at f;split at f <;> lia,rfl⟩;rintro M ⟨es,o,b,c,d,he,f,rfl⟩;refine⟨rfl,w,Z,_,E.tvL es,rfl,.inl rfl,by lia,by rw[cm];lia,?_⟩;exact q (.nd w es) (by rw[Nat.add_right_comm];exact .mk (by rw[d];exact h) he) (by rw[Tree.cnt,Tree.cnt];lia)
theorem lF (l:List c)(a:Nat):aV l (some (a:Int)) none=l.drop a:=by unfold aV;rw[sIx_nat];show(l.drop (min a l.length)).take (l.length-min a l.length)=l.drop a;rcases Nat.le_total a l.length with h|h;rw[Nat.min_eq_left h,YX (by rw[Yw];exact W9 _)];rw[Nat.min_eq_right h,YD h];simp
theorem sP (l:List c)(a:Nat):aV l none (some (a:Int))=l.take a:=by unfold aV;rw[sIx_nat];show(l.drop 0).take (min a l.length-0)=l.take a;rw[drop_zero,Nat.sub_zero];rcases Nat.le_total a l.length with h|h;rw[Nat.min_eq_left h];rw[Nat.min_eq_right h,YX (W9 _),YX h]
theorem xf {b:Bool}(h:(false ^^ b)=true):b=true:=by simpa using h
theorem zP {c : Type}[DecidableEq c]{x : c}:∀{xs:List c},x∈xs->∃j:Nat,xs[j]?=some x/\∀m:Nat,m<j->xs[m]? ≠ some x
 |[],h=>by cases h
 |y::xs,h=>by by_cases e:y=x;exact⟨0,by rw[e];rfl,fun m a=>by lia⟩;obtain⟨j,h1,b⟩:=zP (xs:=xs) ((Xj.mp h).resolve_left fun z=>e z.symm);refine⟨j+1,h1,fun m a=>?_⟩;cases m with|zero=>(exact fun z=>e (by injection z))|succ m=>exact b m (by lia)
inductive cB (R:Rl)(N:Nat)(args:SA)(k:SK):Prop
 |mk (e:E) (xs ys:List Str) (_:args=[.fz (E.tv e),.fz (.lst (xs.map ts)),.own (.lst (ys.map ts))]) (_:xs.length<=1000) (_:ys.length=xs.length) (_:(∀y∈ys,R.X y)) (_:Ex R N e) (_:∀e',Ex R N e'->e'.cnt=e.cnt->k (.fz (E.tv e')) [.fz (E.tv e),.fz (.lst (xs.map ts)),.own (.lst (ys.map ts))])
abbrev ye (R:Rl)(N:Nat):Gm:=Jd b8 au (cB R N)
theorem Ig {xs b:List Str}{k:List Tv->Ms->Prop}(f:xs.length<=1000)(g:b.length=xs.length)(i:∀y∈b,R.X y):∀(Z es:List E)(s:Option Sl),(∀e∈Z,Ex R N e)->(∀e∈es,Ex R N e)->(∀(a:List E)(d:Option Sl),a.length=es.length+Z.length->(∀e∈a,Ex R N e)->Tree.cntL a=Tree.cntL es+Tree.cntL Z->k (E.tvL a) ⟨[some (.fz (.lst (xs.map ts))),some (.out 0),d],[.own (.lst (b.map ts))],[]⟩) →bo (bd (.nm 2)) (aq (ye R N) .tt).t (aq (ye R N) Iz).e k (E.tvL Z) (E.tvL es) ⟨[some (.fz (.lst (xs.map ts))),some (.out 0),s],[.own (.lst (b.map ts))],[]⟩
 |[],es,s,_,he,q=>q es s rfl he (by simp [Tree.cntL])
 |e::Z,es,s,j,he,q=>by
  refine⟨rfl,e,xs,b,rfl,f,g,i,j e W8,fun c l p=>?_⟩;have m:E.tvL es++[E.tv c]=E.tvL (es++[c]):=by simp only [E.tvL,eZ,Xq];rfl
  show bo _ _ _ _ (E.tvL Z) (E.tvL es++[E.tv c]) _;rw[m];exact Ig f g i Z (es++[c]) _ (fun x h=>j x (W7 _ h)) (fun x h=>(Xn.mp h).elim (he x) fun z=>by rw[XH.mp z];exact l) fun a d h1 n o=>q a d (by rw[h1,Xd,Xl];simp;lia) n (by rw[o,vW];simp only [Tree.cntL];lia)
theorem SF (R:Rl)(N:Nat):∀args k,cB R (N+1) args k->aD (aB (ye R N) Je) (aW args k) (aR 3 args):=by
 rintro args k ⟨e,xs,a,rfl,n,o,l,he,q⟩;cases he with
 | @mk _ w Z h p=>
  have u:=h.le;refine⟨fun M=>∃c,Ar R c Z.length/\M=⟨[some (.fz (E.tv (.nd c Z))),some (.fz (.lst (xs.map ts))),some (.out 0)],[.own (.lst (a.map ts))],[]⟩,?_,?_⟩;cases w with
  |name x=>
   refine⟨⟨eX ["name","set"],rfl⟩,⟨eX xs,rfl⟩,aF (fun g=>?_) (fun _=>⟨_,h,rfl⟩)⟩;obtain⟨j,d,b⟩:=zP ((iw x xs).mp (xf g));have f:j<a.length:=by have:=(Xe.mp d).1;lia
   have m:d6 (a.map ts) (j:Int)=some (ts a[j]):=by show(a.map ts)[j]?=_;rw[XG,Xc f];rfl
   refine⟨rfl,xs,x,j,rfl,rfl,d,b,bx m ?_⟩;have i:aV ([ts "name",ts x]++E.tvL Z) (some 2) none=E.tvL Z:=lF _ 2;refine⟨by show 2+(aV ([ts "name",ts x]++E.tvL Z) (some 2) none).length<=_;rw[i,cm];lia,.name a[j],⟨h.1,l _ (YC f)⟩,?_⟩;show(⟨[some (.fz (.tup ([ts "name",ts a[j]]++aV ([ts "name",ts x]++E.tvL Z) (some 2) none))),_,_],_,_⟩:Ms)=_;rw[i];rfl
  |st x=>
   refine⟨⟨eX ["name","set"],rfl⟩,⟨eX xs,rfl⟩,aF (fun g=>?_) (fun _=>⟨_,h,rfl⟩)⟩;obtain⟨j,d,b⟩:=zP ((iw x xs).mp (xf g));have f:j<a.length:=by have:=(Xe.mp d).1;lia
   have m:d6 (a.map ts) (j:Int)=some (ts a[j]):=by show(a.map ts)[j]?=_;rw[XG,Xc f];rfl
   refine⟨rfl,xs,x,j,rfl,rfl,d,b,bx m ?_⟩;have i:aV ([ts "set",ts x]++E.tvL Z) (some 2) none=E.tvL Z:=lF _ 2;refine⟨by show 2+(aV ([ts "set",ts x]++E.tvL Z) (some 2) none).length<=_;rw[i,cm];lia,.st a[j],⟨h.1,l _ (YC f)⟩,?_⟩;show(⟨[some (.fz (.tup ([ts "set",ts a[j]]++aV ([ts "set",ts x]++E.tvL Z) (some 2) none))),_,_],_,_⟩:Ms)=_;rw[i];rfl
  |_=>exact⟨⟨eX ["name","set"],rfl⟩,_,h,rfl⟩
  rintro M ⟨c,h',rfl⟩;refine⟨rfl,c,Z,rfl,by lia,by rw[cm];lia,rfl,Ig n o l Z [] none p (fun e h=>by cases h) fun es v h1 r s=>?_⟩;have t:es.length=Z.length:=by simpa using h1
  refine⟨rfl,c,Z,_,E.tvL es,rfl,.inl rfl,by lia,by rw[cm];lia,?_⟩;exact q (.nd c es) (.mk (by rw[t];exact h') r) (by rw[Tree.cnt,Tree.cnt,s];simp [Tree.cntL])
inductive cE (R:Rl)(args:SA)(k:SK):Prop
 |mk (ns:List Int) (n:Nat) (z:Int) (W:Wo) (s:Sl) (bs:List Str) (a b:Int) (_:args=[.own (aQ ns n z),.own (cz W),s,fi a,fi b]) (_:gJ s (bs.map ts)) (_:ns.length<=63) (_:n+40<=1000000000000) (_:WoOk R W) (_:bs.length<=994) (_:(∀x∈bs,R.X x)) (_:0<=b) (_:b<=1000000000) (_:∀(e:E) n' z' r t,Ex R 5 e->(e.cnt=1/\r=W.room∨(e.cnt:Int)<=W.room/\r=W.room-e.cnt)->n'<=n+40->k (.fz (E.tv e)) [.own (aQ ns n' z'),.own (cz (W.at r t)),s,fi a,fi b])
abbrev ME (R:Rl):Gm:=I0 (cR R) a6 (cB R 4) (cC R 1 4) (aN R 5) (bM R 5) (bq R 5)
theorem Nr {es:List E}{r:Int}(b:0<=r)(c:r<((E.tvL es).length:Nat)):∃t,d6 (E.tvL es) r=some t/\∃e,e∈es/\t=E.tv e:=by obtain⟨t,e,a⟩:=jj (l:=E.tvL es) (i:=r) b c;rw[E.tvL,eZ] at a;obtain⟨x,d,rfl⟩:=XA.mp a;exact⟨_,e,x,d,rfl⟩
theorem GU {y:Str}{d:List Str}{k:List Tv->Ms->Prop}:∀(l:List Str)(a:List Str)(s:Option Sl),(∀(b:List Str)(c:Option Sl),b.length=a.length+l.length->(∀z∈b,z∈a∨z=y)->k (b.map ts) ⟨[some (.out 0),c],[.own (.lst ((y::d).map ts))],[]⟩)->bo (bd (.nm 1)) (aq B .tt).t (aq B Iw).e k (l.map ts) (a.map ts) ⟨[some (.out 0),s],[.own (.lst ((y::d).map ts))],[]⟩
 |[],a,s,q=>q a s rfl fun z h=>.inl h
 |x::l,a,s,q=>by
  have f:a.map ts++[ts y]=(a++[y]).map ts:=by simp
  show bo _ _ _ _ (l.map ts) (a.map ts++[ts y]) _;rw[f];exact GU l (a++[y]) _ fun b c h1 g=>q b c (by rw[h1,Xd,Xl];simp;lia) fun z hz=>by rcases g z hz with h|h;rcases Xn.mp h with h|h;exact .inl h;exact .inr (XH.mp h);exact .inr h
theorem SE (R:Rl):∀args k,cE R args k->aD (aB (ME R) Ja) (aW args k) (aR 11 args):=by
 rintro args k ⟨ns,n,z,W,s,bs,a,b,rfl,Y,m,hn,f,hb,j,b0,b1,q⟩;have Z:=f.n1;have hnp:=YL.mpr f.n0;have WN:(W.names.map ts).length=W.names.length:=Xa ..;have WK:(E.tvL W.sd).length=W.sd.length:=cm _;rcases Y with rfl|rfl;all_goals
  have Q:∀(n1:Nat)(F:Int),n1<=n+30->∀(e:E) d o,Ex R 1 e->d<=n1+10->k (.fz (E.tv e)) [.own (aQ ns d o),.own (cz W),_,fi a,fi b]:=fun n1 F h1 e d o he i5=>q e d o W.room W.toil (he.up (by lia)) (.inl ⟨he.one,rfl⟩) (by lia);refine aF (fun g=>?_) (fun g=>?_)
  .exact⟨rfl,ns,n,z,W,_,bs,rfl,by first|exact .inl rfl|exact .inr rfl,m,by lia,f,by lia,j,Q n z (by lia)⟩
  have Le:W.sd ≠ []:=fun h=>g (by rw[h];rfl);have S:=YL.mpr Le;refine⟨rfl,ns,n,z,_,rfl,m,by lia,by lia,by have:=f.sX.1;lia,fun r n1 F r0 r1 i4=>?_⟩;obtain⟨t,e1,sd,G,rfl⟩:=Nr r0 r1;obtain⟨G,BA⟩:=f.sX.2 sd G;refine bx e1 ?_;refine⟨rfl,ns,n1,F,_,rfl,m,by lia,by lia,by lia,fun r2 n2 z2 T tX kU=>?_⟩;have hs1:0<=r2:=T;obtain⟨c,rfl⟩:=YN T;have pq:c<W.names.length:=by lia
  have H:aV (W.names.map ts) (some (c:Int)) none=(W.names.drop c).map ts:=by rw[lF,map_drop]
  have I:aV (W.names.map ts) none (some (c:Int))=(W.names.take c).map ts:=by rw[sP,map_take]
  refine⟨by show(aV _ _ _).length+(aV _ _ _).length<=_;rw[H,I,Xa,Xa,Yw,XJ];lia,?_⟩;refine⟨fun M=>∃(L:List Tv)(d:Nat)(o:Int),M=⟨[some (.out 0),some (.out 1),_,some (fi a),some (fi b),some (.fz (E.tv sd)),some (.fz (.lst (W.names.map ts))),some (fi c),some (.own (.lst L)),none,none],.own (aQ ns d o) :: .own (cz W)::_,[]⟩/\(∃w:List Str,L=w.map ts/\w.length=W.names.length/\∀y∈w,R.X y)/\d<=n+3,⟨rfl,ns,n2,z2,6,rfl,m,by lia,by decide,by decide,fun r3 A B xj xh nP=>aF (fun g2=>?_) (fun _=>⟨_,A,B,rfl,⟨W.names.drop c++W.names.take c,?_,?_,?_⟩,?_⟩)⟩,?_⟩
  .refine⟨by lia,rfl,?_⟩
   have ne:aV (W.names.map ts) (some (c:Int)) none++aV (W.names.map ts) none (some (c:Int))=(W.names.drop c++W.names.take c).map ts:=by rw[H,I,Xq]
   generalize hL:aV (W.names.map ts) (some (c:Int)) none++aV (W.names.map ts) none (some (c:Int))=L at ne ⊢;have U:(W.names.drop c++W.names.take c).length=W.names.length:=by rw[Xd,Yw,XJ];lia
   have V:∀y∈W.names.drop c++W.names.take c,R.X y:=fun y J=>f.nX y ((Xn.mp J).elim (mem_of_mem_drop ·) (mem_of_mem_take ·));generalize W.names.drop c++W.names.take c=K at ne U V
   cases K with
   |nil=>simp at U;lia
   |cons y w=>
    rw[ne]
    exact GU W.names [] none fun zs s' h1 h2=>⟨_,A,B,rfl,⟨zs,rfl,by simpa using h1,fun v hv=>by
     rcases h2 v hv with h|h
     .cases h
     .rw[h];exact V y W8⟩,by lia⟩
  .rw[H,I,Xq]
  .rw[Xd,Yw,XJ];lia
  .exact fun y J=>f.nX y ((Xn.mp J).elim (mem_of_mem_drop ·) (mem_of_mem_take ·))
  .lia
  rintro M ⟨_,A,B,rfl,⟨w,rfl,N,xy⟩,nP⟩;refine⟨rfl,sd,W.names,w,rfl,by lia,N,xy,G,fun C O WV=>?_⟩;refine⟨fun M=>∃(e:E)(d:Nat)(o:Int),M=⟨[some (.out 0),some (.out 1),_,some (fi a),some (fi b),some (.fz (E.tv sd)),some (.fz (.lst (W.names.map ts))),some (fi c),some (.own (.lst (w.map ts))),some (.fz (E.tv e)),none],.own (aQ ns d o) :: .own (cz W)::_,[]⟩/\Ex R 5 e/\e.cnt<=9/\d<=n+20,⟨rfl,ns,A,B,2,rfl,m,by lia,by decide,by decide,fun r3 p u xj xh mv=>aF (fun g2=>?_) (fun _=>⟨C,p,u,rfl,O.up (by lia),by lia,by lia⟩)⟩,?_⟩
  .refine⟨rfl,C,rfl,O.up (by lia),⟨rfl,ns,p,u,_,rfl,m,by lia,by cases C;rw[Tree.cnt];lia,by lia,fun r4 n5 z5 Ll Lk uo=>?_⟩⟩;refine⟨rfl,ns,n5,z5,W,_,bs,rfl,by first|exact .inl rfl|exact .inr rfl,m,by lia,f,by lia,j,fun l n6 z6 x xI=>?_⟩;exact⟨rfl,C,l,r4,rfl,O,x,fun D j6 P=>⟨D,n6,z6,rfl,j6,by rw[x.one] at P;lia,by lia⟩⟩
  rintro M ⟨e,p,u,rfl,he,hec,mv⟩;refine⟨rfl,e,_,W.ws,rfl,.inr rfl,he,f.wA,fun i=>⟨iS (by lia) (by lia),?_⟩⟩;have out:∀D d o,Ex R 1 D->d<=p+10->k (.fz (E.tv D)) [.own (aQ ns d o),.own (cz W),_,fi a,fi b]:=Q p u (by lia);refine⟨rfl,e,_,bs,rfl,by first|exact .inl rfl|exact .inr rfl,by lia,he,fun rb=>aF (fun _=>?_) (fun _=>⟨iS (by decide) (by decide),aF (fun _=>?_) (fun _=>⟨rfl,e,rfl,he,aF (fun _=>?_) (fun g5=>?_)⟩)⟩)⟩
  .exact⟨rfl,ns,p,u,W,_,bs,rfl,by first|exact .inl rfl|exact .inr rfl,m,by lia,f,by lia,j,out⟩
  .exact⟨rfl,ns,p,u,W,_,bs,rfl,by first|exact .inl rfl|exact .inr rfl,m,by lia,f,by lia,j,out⟩
  .exact⟨rfl,ns,p,u,W,_,bs,rfl,by first|exact .inl rfl|exact .inr rfl,m,by lia,f,by lia,j,out⟩
  .have g6:¬W.room<e.cnt:=fun h=>g5 (Xs h);refine⟨by show 8<16777216;decide,rfl,e,rfl,he,by show 8<16777216;decide,?_⟩;exact q e p u (W.room-e.cnt) (W.toil-b*i) he (.inr ⟨by lia,rfl⟩) (by lia)
noncomputable def kindsL:List Str:=["op","op","copy","pick","let","set","say","do","again","call","copy","op","leaf","let"]
noncomputable def signS:Str:="+-*/<="
theorem SD:∀c∈signS.cps.toList,(⟨#[c]⟩:Str)∈eM:=by decide+kernel
theorem Sz:signS.cps.toList.length=6:=by decide+kernel
theorem vb {l:List Tv}{r:Int}{P:Tv->Prop}(h:∀t∈l,P t)(a:0<=r)(b:r<l.length):∃t,d6 l r=some t/\P t:=by obtain⟨t,e,c⟩:=jj a b;exact⟨t,e,h t c⟩
def JU (R:Rl)(b:Sl)(I:List Sl)(ns:List Int)(n:Nat)(u tm:Int)(kd:Str)(W:Wo)(M:Ms):Prop:=∃(w:Wd)(m a:Nat)(c:Int),M=⟨[some (.out 0),some (.out 1),some b,some (fi u),some (fi tm),some (.own (.lst (kindsL.map ts))),some (fs kd),some (fi m),some (.own (.lst (w.hd.map Tv.at)))],.own (aQ ns a c) :: .own (cz W)::I,[]⟩/\Ar R w m/\m<=6/\a<=n
theorem O3 (R:Rl)(b:Nat):∀args k,bX R (b+1) args k->aD (aB (Hk a6 (cR R) (cE R) (fM R b) (gY R b) (bX R b)) Hl) (aW args k) (aR 9 args):=by
 rintro args k ⟨ns,n,z,W,s,bs,u,tm,rfl,hs,f,hβ,hb,hn,O,hbs,a,d,Q,q⟩;have D0:=yB b;have D1:=Nt b;have S:=Cc d Q;have T:tm*5 ^ b<=1000000000:=by
  have U:(0:Int)<=5 ^ b:=by
   have e:((5 ^ b:Nat):Int)=(5:Int) ^ b:=by simp
   rw[<- e];exact Int.natCast_nonneg _
  have:=Int.mul_nonneg d U;have e:tm*5 ^ (b+1)=5*(tm*5 ^ b):=by rw[Int.pow_succ];rw[<- Int.mul_assoc];lia
  lia
 have x:=O.at (W.room-1) (W.toil-tm);rcases hs with rfl|rfl;all_goals
  refine⟨by show 8<16777216;decide,by show 8<16777216;decide,rfl,ns,n,z,14,rfl,f,by lia,by decide,by decide,fun r n1 v r0 r1 hn1=>?_⟩;obtain⟨t,e,y⟩:=jj (l:=kindsL.map ts) (i:=r) r0 r1;obtain⟨kd,hkd,rfl⟩:=XA.mp y;refine bx e ?_;have H:∀(e:E) j p,Ex R 1 e->j<=n1+10->k (.fz (E.tv e)) [.own (aQ ns j p),.own (cz (W.at (W.room-1) (W.toil-tm))),_,fi u,fi tm]:=fun e j p he I=>q e j p _ _ (he.up (by lia)) (by rw[he.one];unfold bV;lia) (by lia);refine aF (fun g=>?_) (fun g=>aF (fun _=>?_) (fun gr=>⟨iS (by decide) (by decide),aF (fun _=>?_) (fun _=>aF (fun _=>?_) (fun gl=>?_))⟩))
  .exact⟨rfl,ns,n1,v,W.at (W.room-1) (W.toil-tm),_,bs,rfl,by first|exact .inl rfl|exact .inr rfl,f,by lia,x,by lia,a,H⟩
  .exact⟨rfl,ns,n1,v,W.at (W.room-1) (W.toil-tm),_,bs,rfl,by first|exact .inl rfl|exact .inr rfl,f,by lia,x,by lia,a,H⟩
  .exact⟨rfl,ns,n1,v,W.at (W.room-1) (W.toil-tm),_,bs,rfl,by first|exact .inl rfl|exact .inr rfl,f,by lia,x,by lia,a,H⟩
  .exact⟨rfl,ns,n1,v,W.at (W.room-1) (W.toil-tm),_,bs,rfl,by first|exact .inl rfl|exact .inr rfl,f,by lia,x,by lia,a,H⟩
  have WM:¬W.room-1<6:=fun h=>gr (Xs h);have cl:bV W.room=1+bV (W.room-1):=by unfold bV;lia
  have b1:1<=b:=by
   rcases Nat.eq_zero_or_pos b with h|h
   .exact absurd (by simp;lia) g
   .exact h
  refine⟨fun M=>M=⟨[some (.out 0),some (.out 1),_,some (fi u),some (fi tm),some (.own (.lst (kindsL.map ts))),some (fs kd),none,none],.own (aQ ns n1 v) :: .own (cz (W.at (W.room-1) (W.toil-tm)))::_,[]⟩,aF (fun _=>aF (fun g5=>?_) (fun _=>rfl)) (fun _=>rfl),?_⟩
  .have g6:5 < u := XY g5;refine⟨rfl,ns,n1,v,W.at (W.room-1) (W.toil-tm),_,bs,u,tm,rfl,by first|exact .inl rfl|exact .inr rfl,f,by lia,x,by lia,a,d,S,fun e j p r t he V I=>?_⟩;have hc':e.cnt=1/\r=W.room-1∨(e.cnt:Int)<=W.room-1/\r=W.room-1-e.cnt:=V;exact q e j p r t (he.up (by lia)) (by rw[cl];unfold bV;lia) (by lia)
  rintro M rfl;refine aF (fun _=>?_) (fun _=>⟨⟨eX dH,rfl⟩,aF (fun g3=>?_) (fun _=>aF (fun _=>?_) (fun _=>?_))⟩)
  .exact⟨rfl,ns,n1,v,W.at (W.room-1) (W.toil-tm),_,bs,u,tm,rfl,by first|exact .inl rfl|exact .inr rfl,f,by lia,b1,by lia,x,by lia,a,d,T,fun e j p r t he J I=>q e j p r t he (by have C:e.cnt+7*bV r<=7+7*bV (W.room-1):=J;lia) (by lia)⟩
  .have h3:kd∈dH:=(iw kd dH).mp (xf g3);exact⟨rfl,ns,n1,v,W.at (W.room-1) (W.toil-tm),_,bs,u,tm,kd,rfl,by first|exact .inl rfl|exact .inr rfl,h3,f,by lia,b1,by lia,x,by lia,a,d,T,fun e j p r t he J I=>q e j p r t he (by have C:e.cnt+7*bV r<=7+7*bV (W.room-1):=J;lia) (by lia)⟩
  ·
   refine⟨rfl,ns,n1,v,6,rfl,f,by lia,by decide,by decide,fun r2 F G X Y i4=>?_⟩
   obtain⟨t,e,m,rfl,K,L⟩:=vb (l:=[ti 2,ti 3,ti 0,ti 1,ti 5,ti 2]) (P:=fun t=>∃m:Int,t=ti m/\0<=m/\m<=5) (by
    intro t y;simp only [Xj,XO,Yo] at y
    rcases y with rfl|rfl|rfl|rfl|rfl|rfl <;> exact⟨_,rfl,by decide,by decide⟩) X Y
   refine bx e ⟨fun M=>∃m:Int,0<=m/\m<=5/\M=⟨[some (.out 0),some (.out 1),_,some (fi u),some (fi tm),some (.own (.lst (kindsL.map ts))),some (fs kd),some (fi m),none],.own (aQ ns F G) :: .own (cz (W.at (W.room-1) (W.toil-tm)))::_,[]⟩,⟨iS (by decide) (by decide),sx (by lia) (by lia),aF (fun _=>⟨1,by decide,by decide,rfl⟩) (fun _=>⟨m,K,L,rfl⟩)⟩,?_⟩;rintro M ⟨m,K,L,rfl⟩;have t0:0<=tm*m:=Int.mul_nonneg d K
   have Z:tm*m*5 ^ b<=1000000000:=by
    have U:(0:Int)<=5 ^ b:=by
     have e:((5 ^ b:Nat):Int)=(5:Int) ^ b:=by simp
     rw[<- e];exact Int.natCast_nonneg _
    have h1:tm*m<=tm*5:=Int.mul_le_mul_of_nonneg_left L d;have h2:=Int.mul_le_mul_of_nonneg_right h1 U;have e:tm*5 ^ (b+1)=tm*5*5 ^ b:=by rw[Int.pow_succ,Int.mul_assoc,Int.mul_comm 5 (5 ^ b)]
    lia
   refine⟨sx (by lia) (by lia),rfl,ns,F,G,W.at (W.room-1) (W.toil-tm),_,bs,u - 1,tm*m,rfl,by first|exact .inl rfl|exact .inr rfl,f,by lia,b1,by lia,x,by lia,a,t0,Z,fun e j p r t he J I=>?_⟩;exact q (.nd (.again m) [e]) j p r t (.mk ⟨rfl,K,L⟩ fun k hk=>by simp at hk;subst hk;exact he) (by have C:e.cnt+7*bV r<=1+7*bV (W.room-1):=J;simp only [Tree.cnt,Tree.cntL];lia) (by lia)
  .refine⟨rfl,ns,n1,v,6,rfl,f,by lia,by decide,by decide,fun r2 F G X Y i4=>?_⟩
   obtain⟨t,e,m,rfl,m1,m6⟩:=vb (l:=[ti 2,ti 3,ti 1,ti 2,ti 4,ti 6]) (P:=fun t=>∃m:Nat,t=ti m/\1<=m/\m<=6) (by
    intro t y;simp only [Xj,XO,Yo] at y;rcases y with rfl|rfl|rfl|rfl|rfl|rfl
    .exact⟨2,rfl,by decide,by decide⟩
    .exact⟨3,rfl,by decide,by decide⟩
    .exact⟨1,rfl,by decide,by decide⟩
    .exact⟨2,rfl,by decide,by decide⟩
    .exact⟨4,rfl,by decide,by decide⟩
    .exact⟨6,rfl,by decide,by decide⟩) X Y
   refine bx e ⟨JU R _ _ ns (n+2) u tm kd (W.at (W.room-1) (W.toil-tm)),aF (fun _=>⟨.pick,3,F,G,rfl,rfl,by decide,by lia⟩) (fun _=>⟨.do,m,F,G,rfl,⟨m1,m6⟩,m6,by lia⟩),?_⟩;rintro M ⟨w,m,n3,z3,rfl,A,B,kU⟩;refine⟨JU R _ _ ns (n+3) u tm kd (W.at (W.room-1) (W.toil-tm)),aF (fun _=>?_) (fun _=>⟨w,m,n3,z3,rfl,A,B,by lia⟩),?_⟩
   .refine⟨rfl,ns,n3,z3,6,rfl,f,by lia,by decide,by decide,fun r3 n4 z4 xj xh nP=>?_⟩;obtain⟨c,ec,V⟩:=jj (l:=signS.cps.toList) (i:=r3) xj (by rw[Sz];exact xh);exact bx (o:=(d6 signS.cps.toList r3).map fun c=>.at (.str ⟨#[c]⟩)) (t:=ts ⟨#[c]⟩) (by rw[ec];rfl) ⟨.op ⟨#[c]⟩,2,n4,z4,rfl,⟨rfl,SD c V⟩,by decide,by lia⟩
   rintro M ⟨w,m,n4,z4,rfl,A,B,nP⟩;have N:(f6 (((m:Nat):Int).toNat)).length=m:=by unfold f6;rw[Xa,Y4];lia
   have e6:m*D b<=6*D b:=Nat.mul_le_mul_right _ B;refine⟨⟨by lia,by lia⟩,by rw[N];lia,rfl,Ac (R:=R) (b:=b) (ns:=ns) (tm:=fi tm) (bl:=fi u) (fun n z W s k' hn O q'=>?_) _ [] n4 z4 (W.at (W.room-1) (W.toil-tm)) none (by rw[N];lia) x (fun e h=>by cases h) (fun es n5 z5 r5 Z s5 BI he Mc mv=>?_)⟩
   .exact⟨rfl,ns,n,z,W,_,bs,_,tm,rfl,by first|exact .inl rfl|exact .inr rfl,f,by lia,b1,hn,O,by lia,a,d,T,q'⟩
   .rw[N] at BI mv
    have xN:es.length=m:=by simpa using BI
    have h2:=(jS w).2.2;refine⟨by show(w.hd.map Tv.at).length+(E.tvL es).length<=_;rw[cm,Xa];lia,?_⟩;exact q (.nd w es) n5 z5 r5 Z (.mk (by rw[xN];exact A) he) (by have xS:Tree.cntL es+7*bV r5<=0+_+7*bV (W.room-1):=Mc;rw[N] at xS;rw[Tree.cnt];lia) (by lia)
inductive gO (args:SA)(k:SK):Prop
 |mk (U Y:Sl) (names lets:List Str) (fs:List (Str×Nat)) (ws:List (aj×Tv)) (r t:Int) (_:args=[U,Y,.own (.lst (fs.map ik)),.own (.dic ws),fi r,fi t]) (_:((U=.own (.lst (names.map ts))/\Y=.own (.lst (lets.map ts)))∨(U=.fz (.lst (names.map ts))/\Y=.fz (.lst (lets.map ts))))) (_:k (.own (cz ⟨names,lets,fs,ws,[],r,t⟩)) [.fz (.lst (names.map ts)),.fz (.lst (lets.map ts)),.fz (.lst (fs.map ik)),.fz (.dic ws),fi r,fi t])
theorem Q3:∀args k,gO args k->aD (aB Iq Ir) (aW args k) (aR 6 args):=by rintro args k ⟨U,Y,names,lets,fs,ws,r,t,rfl,h1,q⟩;rcases h1 with ⟨rfl,rfl⟩|⟨rfl,rfl⟩ <;> exact⟨rfl,q⟩
inductive gR (R:Rl)(args:SA)(k:SK):Prop
 |mk (ns:List Int) (n:Nat) (z:Int) (W:Wo) (m:Int) (_:args=[.own (aQ ns n z),.own (cz W),fi m]) (_:ns.length<=63) (_:n+10*D 4<=1000000000000) (_:0<=m) (_:m<=10) (_:WoOk R W) (_:∀(l:List E) n' z',l.length<=10->(∀e∈l,Ex R 4 e/\e.cnt<=8)->n'<=n+10*D 4->k (.own (.lst (E.tvL l))) [.own (aQ ns n' z'),.own (cz W),fi m])
theorem HD {n0:Nat}{W:Wo}(i:ns.length<=63)(k:m<=10)(o:n0+10*D 4<=1000000000000)(b:WoOk R W){P:PD}(j:∀(a:List E)(n:Nat)(z:Int)(c d:Option Sl),a.length<=10->(∀e∈a,Ex R 4 e/\e.cnt<=8)->n<=n0+10*D 4->P.nx ⟨[some (.out 0),some (.out 1),some (fi m),some (.own (.lst (E.tvL a))),c,d],[.own (aQ ns n z),.own (cz W)],[]⟩):∀(l:List Tv)(a:List E)(n:Nat)(z:Int)(c d:Option Sl),(a.length:Int)+l.length=m->(∀e∈a,Ex R 4 e/\e.cnt<=8)->n<=n0+a.length*D 4 →cy (bd (.nm 4)) (aD (aB (Ap (bX R 4)) HG)) P l ⟨[some (.out 0),some (.out 1),some (fi m),some (.own (.lst (E.tvL a))),c,d],[.own (aQ ns n z),.own (cz W)],[]⟩
 |[],a,n,z,c,d,h,f,p=>by have:a.length*D 4<=10*D 4:=Nat.mul_le_mul_right _ (by simp at h;lia);exact j a n z c d (by simp at h;lia) f (by lia)
 |t::l,a,n,z,c,d,h,f,p=>by
  have h':(a.length:Int)+(l.length+1:Nat)=m:=h;have q:(a.length+1)*D 4<=10*D 4:=Nat.mul_le_mul_right _ (by lia);rw[Nat.succ_mul] at q;refine⟨by show 8<16777216;decide,by show 8<16777216;decide,by show 8<16777216;decide,rfl,rfl,ns,n,z,⟨W.names,W.lets,W.fs,W.ws,[],7,60⟩,_,[],4,1,rfl,.inl rfl,i,rfl,by decide,by lia,⟨b.n0,b.n1,b.l1,b.f1,b.nX,b.lX,⟨Xw _,fun e h=>(by cases h)⟩,b.wA,b.fA⟩,by decide,fun x g=>(by cases g),by decide,by decide,fun e r s u t' he J A=>⟨by rw[cm];lia,?_⟩⟩;have v:E.tvL a++[E.tv e]=E.tvL (a++[e]):=by simp only [E.tvL,eZ,Xq];rfl
  have w:e.cnt<=8:=by
   have y:e.cnt+7*bV u<=1+7*bV 7:=J;have:bV 7=1:=by decide
   lia
  show cy _ _ _ l ⟨[_,_,_,some (.own (.lst (E.tvL a++[E.tv e]))),_,_],_,_⟩;rw[v];exact HD i k o b j l (a++[e]) r s _ _ (by simp;lia) (fun x g=>(Xn.mp g).elim (f x) fun z=>by rw[XH.mp z];exact⟨he,w⟩) (by simp [Nat.succ_mul];lia)
theorem Q2 (R:Rl):∀args k,gR R args k->aD (aB (Ap (bX R 4)) Ip) (aW args k) (aR 6 args):=by rintro args k ⟨ns,n,z,W,m,rfl,l,o,r,h1,p,q⟩;refine⟨fun M=>∃(d:List E)(f:Nat)(g:Int)(i j:Option Sl),M=⟨[some (.out 0),some (.out 1),some (fi m),some (.own (.lst (E.tvL d))),i,j],[.own (aQ ns f g),.own (cz W)],[]⟩/\d.length<=10/\(∀e∈d,Ex R 4 e/\e.cnt<=8)/\f<=n+10*D 4,?_,?_⟩;refine⟨⟨by lia,by lia⟩,HD l h1 o p ?_ _ [] n z none none ?_ (fun e h=>by cases h) (by simp)⟩;exact fun d f g i j a b c=>⟨d,f,g,i,j,rfl,a,b,c⟩;unfold f6;rw[Xa,Y4];show(0:Int)+_=_;lia;rintro M ⟨d,f,g,i,j,rfl,a,b,c⟩;exact q d f g a b c
structure Fd where
 nm:Str
 ps:List Str
 bd:E
def Fd.tv (f:Fd):Tv:=.tup [ts f.nm,.tup (f.ps.map ts),E.tv f.bd]
noncomputable def Rp (q:List Str)(fs:List Fd):Rl:=⟨fun x=>x∈q,fun g m=>∃f∈fs,f.nm=g/\f.ps.length=m⟩
structure FdOk (q:List Str)(fs:List Fd)(f:Fd):Prop where
 nm:Nm f.nm
 nd:f.ps.Nodup
 l6:f.ps.length<=6
 sub:∀x∈f.ps,x∈q
 bd:Ex (Rp q fs) 4 f.bd
 bc:f.bd.cnt<=30
theorem FdOk.up {fs a:List Fd}{f:Fd}(h:FdOk q fs f)(s:∀g∈fs,g∈a):FdOk q a f:=⟨h.nm,h.nd,h.l6,h.sub,h.bd.mono (R:=Rp q fs) (R':=Rp q a) (fun _ h=>h) fun g m ⟨f,b,e⟩=>⟨f,s f b,e⟩,h.bc⟩
structure PgOk (q:List Str)(fs:List Fd)(main:E):Prop where
 pl:q.length<=6
 pn:∀x∈q,Nm x
 fl:fs.length<=4
 fo:∀f∈fs,FdOk q fs f
 nd:(fs.map Fd.nm).Nodup
 mn:Ex (Rp q fs) 7 main
 mc:main.cnt<=240
def cv (fs:List Fd)(main:E):Tv:=.tup [.tup (fs.map Fd.tv),E.tv main]
noncomputable def kn (fs:List Fd):List (Str×Nat):=fs.map fun f=>(f.nm,f.ps.length)
def EL:aK:=fun args k=>∃R b,b<=7/\bX R b args k
def EK:aK:=fun args k=>∃R,bM R 4 args k
def F8:aK:=fun args k=>∃R,gR R args k
inductive jt (args:SA)(k:SK):Prop
 |mk (ns:List Int) (n:Nat) (z r:Int) (_:args=[.own (aQ ns n z),fi r]) (_:r<=40) (_:ns.length<=63) (_:n+100000000<=1000000000000) (_:∀q fs main n' z',PgOk q fs main->n'<=n+100000000->k (.fz (cv fs main)) [.own (aQ ns n' z'),fi r])
theorem Sy (l:List (aj×Tv))(k e:aj)(t:Tv):cb (eU l k t) e=if k=e then some t else cb l e:=by
 unfold eU;split
 .next h=>
  have:∀l:List (aj×Tv),l.any (fun p=>decide (p.1=k))=true->cb (l.map fun p=>if p.1=k then (p.1,t) else p) e=if k=e then some t else cb l e:=fun l=>by
   induction l with
   |nil=>(intro h;cases h)
   |cons p l i=>
    obtain⟨a,b⟩:=p;intro h;by_cases g:a=k;subst g;by_cases f:a=e;simp [cb,f];have:∀l:List (aj×Tv),cb (l.map fun p=>if p.1=a then (p.1,t) else p) e=cb l e:=fun l=>by induction l with|nil=>rfl|cons q l j=>obtain⟨c,d⟩:=q;by_cases m:c=a;subst m;simp [cb,f];exact j;simp only [Xp,m,Y9,cb];rw[j]
    simp only [Xp,Zf,cb,f,Y9];exact this l;have h':l.any (fun p=>decide (p.1=k))=true:=by simpa [g] using h
    simp only [Xp,g,Y9,cb];by_cases f:a=e;subst f;rw[Xk rfl,Xh (fun z=>g z.symm),Xk rfl];rw[Xh f,Xh f];exact i h'
  exact this l (by simpa using h)
 .next h=>
  have h':∀p∈l,p.1≠k:=fun p n z=>h (by simp only [any_eq_true];exact⟨p,n,by simp [z]⟩);clear h;induction l with|nil=>simp [cb]|cons p l i=>obtain⟨a,b⟩:=p;have g:=h' (a,b) W8;have i:=i fun q o=>h' q (W7 _ o);simp only [XR,cb];by_cases f:a=e;subst f;rw[Xk rfl,Xh (fun z=>g z.symm),Xk rfl];rw[Xh f,Xh f];exact i
theorem Sx {l:List Str}(h:l.Nodup)(a:Nat):(l.drop a++l.take a).Nodup:=by have e:(l.take a++l.drop a).Perm (l.drop a++l.take a):=List.perm_append_comm;rw[List.take_append_drop] at e;exact e.nodup_iff.mp h
theorem As {k:List Tv->Ms->Prop}:∀(l:List Fd)(a:List Str)(s:Option Sl),(∀b,k ((a++l.map Fd.nm).map ts) ⟨[b],[],[]⟩)->bo (bd (.nm 0)) (aq B .tt).t (aq B (.ix (.var 0) (.cst (.int 0)))).e k (l.map Fd.tv) (a.map ts) ⟨[s],[],[]⟩
 |[],a,s,q=>by have:=q s;rw[Y3,Xm] at this;exact this
 |f::l,a,s,q=>by
  have c:a.map ts++[ts f.nm]=(a++[f.nm]).map ts:=by simp
  show bo _ _ _ _ (l.map Fd.tv) (a.map ts++[ts f.nm]) _;rw[c];exact As l (a++[f.nm]) _ fun b=>by simpa using q b
structure PInv (P:List Str)(fs:List Fd)(ws:List (aj×Tv)):Prop where
 fo:∀f∈fs,FdOk P fs f
 nd:(fs.map Fd.nm).Nodup
 wk:∀f∈fs,∃i,cb ws (.inr f.nm)=some (ti i)
 wl:ws.length<=fs.length
theorem Q1 (l:List (aj×Tv))(k:aj)(t:Tv):(eU l k t).length<=l.length+1:=by unfold eU;split;rw[Xa];lia;rw[Xd];simp
theorem PInv.add {P:List Str}{fs:List Fd}{f:Fd}(h:PInv P fs ws)(hn:f.nm∉fs.map Fd.nm)(hf:FdOk P fs f)(i:Int):PInv P (fs++[f]) (eU ws (.inr f.nm) (ti i)) where
 fo:=fun g hg=>by rcases Xn.mp hg with z|z;exact(h.fo g z).up fun x hx=>X6 _ hx;simp at z;subst z;exact hf.up fun x hx=>X6 _ hx
 nd:=by rw[Xq];exact Y2.mpr ⟨h.nd,by simp,fun a ha b hb=>by simp at hb;rw[hb];exact fun z=>hn (z▸ha)⟩
 wk:=fun g hg=>by rw[Sy];by_cases e:(Sum.inr f.nm:aj)=.inr g.nm;rw[Xk e];exact⟨i,rfl⟩;rw[Xh e];rcases Xn.mp hg with z|z;exact h.wk g z;simp at z;subst z;exact absurd rfl e
 wl:=by have:=Q1 ws (.inr f.nm) (ti i);have:=h.wl;rw[Xd];simp;lia
theorem PInv.wo {P names lets:List Str}{fs:List Fd}{sd:List E}{r t:Int}(h:PInv P fs ws)(hf:fs.length<=4)(hn:names ≠ [])(hn1:names.length<=40)(hl1:lets.length<=40)(hN:∀x∈names,x∈P)(hL:∀x∈lets,x∈P)(nL:sd.length<=40/\∀e∈sd,Ex (Rp P fs) 4 e/\e.cnt<=8):WoOk (Rp P fs) ⟨names,lets,kn fs,ws,sd,r,t⟩ where
 n0:=hn
 n1:=hn1
 l1:=hl1
 f1:=by show(kn fs).length<=40;unfold kn;rw[Xa];lia
 nX:=hN
 lX:=hL
 sX:=nL
 wA:=fun f m ⟨g,hg,e,_⟩=>e▸h.wk g hg
 fA:=fun p hp=>by obtain⟨f,hf,rfl⟩:=XA.mp hp;have h2:=h.fo f hf;exact⟨⟨f,hf,rfl,rfl⟩,h2.nm,h2.l6,h.wk f hf⟩
theorem PInv.A {P:List Str}{fs:List Fd}(h:PInv P fs ws):∀(f:Str)(m:Nat),(Rp P fs).A f m->∃i,cb ws (.inr f)=some (ti i):=fun f m ⟨g,a,e,_⟩=>e▸h.wk g a
abbrev gP:Gm:=Jq gU a6 eK gO EL EK F8
theorem GQ {ns:List Int}{r:Int}{names:List Str}{y x0:Str}{n0:Nat}(F:ns.length<=63)(rp:n0+1000000<=1000000000000)(V:2<=names.length)(Mu:names.length<=5)(rK:∀x∈names++[y],Nm x)(uv:(names++[y]).Nodup)(nJ:x0∈names){Q:PD}
  (hQ:∀(fs:List Fd)(ws:List (aj×Tv))(n:Nat)(z:Int)(c k:Sl)(H I K L o B u v:Option Sl),PInv (names++[y]) fs ws->fs.length<=4->n<=n0+fs.length*100000->((c=.own (.lst (names.map ts))/\k=.own (.lst ([y,x0].map ts)))∨(c=.fz (.lst (names.map ts))/\k=.fz (.lst ([y,x0].map ts)))) →Q.nx ⟨[some (.out 0),some (fi r),some c,some k,some (.own (.lst (fs.map Fd.tv))),some (.own (.lst ((kn fs).map ik))),some (.own (.dic ws)),H,I,K,L,o,B,u,v],[.own (aQ ns n z)],[]⟩):
  ∀(j i:Nat)(fs:List Fd)(ws:List (aj×Tv))(n:Nat)(z:Int)(c k:Sl)(H I K L o B u v:Option Sl),i+j<=4->fs.length=i->PInv (names++[y]) fs ws->n<=n0+i*100000->((c=.own (.lst (names.map ts))/\k=.own (.lst ([y,x0].map ts)))∨(c=.fz (.lst (names.map ts))/\k=.fz (.lst ([y,x0].map ts)))) →cy (bd (.nm 7)) (aD (aB gP IK)) Q (rf i j) ⟨[some (.out 0),some (fi r),some c,some k,some (.own (.lst (fs.map Fd.tv))),some (.own (.lst ((kn fs).map ik))),some (.own (.dic ws)),H,I,K,L,o,B,u,v],[.own (aQ ns n z)],[]⟩
 | 0,i,fs,ws,n,z,c,k,H,I,K,L,o,B,u,v,h3,J,C,hn,X=>hQ fs ws n z c k H I K L o B u v C (by lia) (by rw[J];exact hn) X
 |j+1,i,fs,ws,n,z,c,k,H,I,K,L,o,B,u,v,h3,J,C,hn,X=>by
  have BG:(fs.map Fd.tv).length<=16777216:=by rw[Xa];lia
  have Lp:∀x∈fs.map Fd.nm,Nm x:=fun x b=>by obtain⟨f,hf,rfl⟩:=XA.mp b;exact(C.fo f hf).nm
  have i3:i*100000<=300000:=by lia
  have eP:names.map ts++aV ([y,x0].map ts) none (some 1)=(names++[y]).map ts:=by rw[show aV ([y,x0].map ts) none (some 1)=([y,x0].map ts).take 1 from sP _ 1];simp
  obtain⟨Y,O⟩:∃s,s=c:=⟨_,rfl⟩;obtain⟨Z,w⟩:∃s,s=k:=⟨_,rfl⟩;rcases X with ⟨rfl,rfl⟩|⟨rfl,rfl⟩;all_goals
   refine⟨BG,rfl,As fs [] none fun s'=>⟨rfl,ns,n,z,_,fs.map Fd.nm,fs.map Fd.nm,rfl,.inl rfl,F,by lia,by rw[Xa];lia,by rw[Xa];lia,fun _ h=>h,Lp,fun x n1 z1 b T WG hn1=>?_⟩⟩;refine⟨by rw[Xa];show names.length+1<=16777216;lia,?_⟩;rw[eP];have WC:((names++[y]).map ts).length=names.length+1:=by rw[Xa,Xd];rfl
   obtain⟨p,ep,hp⟩:=sv (xs:=names++[y]) (r:=(i:Int) % (((names++[y]).map ts).length:Nat)) (Int.emod_nonneg _ (by lia)) (Zk _ (by lia));refine⟨by lia,bx ep ?_⟩
   refine⟨fun M=>∃(x:Str)(n:Nat)(z:Int),M=⟨[some (.out 0),some (fi r),some _,some _,some (.own (.lst (fs.map Fd.tv))),some (.own (.lst ((kn fs).map ik))),some (.own (.dic ws)),some (fi i),some (Lake.fs x),some (.own (.lst ((names++[y]).map ts))),some (.fz (ts p)),o,B,u,v],[.own (aQ ns n z)],[]⟩/\Nm x/\x∉fs.map Fd.nm/\n<=n0+i*100000+20,⟨rfl,ns,n1,z1,2,rfl,F,by lia,by decide,by decide,fun d n2 z2 d0 d1 i4=>aF (fun g=>?_) (fun g=>⟨x,n2,z2,rfl,b,T,by lia⟩)⟩,?_⟩
   .refine⟨BG,rfl,As fs [] none fun s'=>⟨⟨eX _,rfl⟩,aF (fun g2=>⟨p,n2,z2,rfl,rK p hp,?_,by lia⟩) (fun g2=>⟨x,n2,z2,rfl,b,T,by lia⟩)⟩⟩;intro hm;rw[XM,(iw p _).mpr hm] at g2;exact absurd g2 (by decide)
   rintro M ⟨x,n3,z3,rfl,b,T,kU⟩;refine⟨rfl,ns,n3,z3,_,rfl,F,by lia,vd (by simp),by rw[Xa,Xd];simp;lia,fun a n4 z4 a0 a1 nP=>?_⟩;obtain⟨a,rfl⟩:=YN a0;have eR:aV ((names++[y]).map ts) (some (a:Int)) none++aV ((names++[y]).map ts) none (some (a:Int))=((names++[y]).drop a++(names++[y]).take a).map ts:=by rw[lF,sP,<- map_drop,<- map_take,<- Xq]
   have lR:(aV ((names++[y]).map ts) (some (a:Int)) none).length+(aV ((names++[y]).map ts) none (some (a:Int))).length<=16777216:=by rw[lF,sP,Yw,XJ,Xa,Xd];simp;lia
   refine⟨fun M=>∃(ps:List Str)(N:Nat)(R:Int)(o:Option Sl),M=⟨[some (.out 0),some (fi r),some Y,some Z,some (.own (.lst (fs.map Fd.tv))),some (.own (.lst ((kn fs).map ik))),some (.own (.dic ws)),some (fi i),some (Lake.fs x),some (.own (.lst ((names++[y]).map ts))),some (.fz (ts p)),o,some (.own (.lst (ps.map ts))),u,v],[.own (aQ ns N R)],[]⟩/\ps.Nodup/\ps.length<=6/\(∀x∈ps,x∈names++[y])/\N<=n0+i*100000+30,⟨lR,rfl,ns,n4,z4,8,rfl,F,by lia,by decide,by decide,fun r8 N R Lh Lg mv=>?_⟩,?_⟩
   .obtain⟨t,e8,m,rfl,m6⟩:=vb (l:=[ti 1,ti 2,ti 0,ti 3,ti 1,ti 2,ti 2,ti 6]) (P:=fun t=>∃m:Nat,t=ti m/\m<=6) (by
     intro t ht;simp only [Xj,XO,Yo] at ht;rcases ht with rfl|rfl|rfl|rfl|rfl|rfl|rfl|rfl
     .exact⟨1,rfl,by decide⟩
     .exact⟨2,rfl,by decide⟩
     .exact⟨0,rfl,by decide⟩
     .exact⟨3,rfl,by decide⟩
     .exact⟨1,rfl,by decide⟩
     .exact⟨2,rfl,by decide⟩
     .exact⟨2,rfl,by decide⟩
     .exact⟨6,rfl,by decide⟩) Lh Lg
    have eQ:aV (aV ((names++[y]).map ts) (some (a:Int)) none++aV ((names++[y]).map ts) none (some (a:Int))) none (some (m:Int))=(((names++[y]).drop a++(names++[y]).take a).take m).map ts:=by rw[eR,sP,<- map_take]
    have U:(((names++[y]).drop a++(names++[y]).take a).take m).Nodup:=(Sx uv a).sublist (List.take_sublist _ _);have q:(((names++[y]).drop a++(names++[y]).take a).take m).length<=6:=by rw[XJ];lia
    have S:∀x∈((names++[y]).drop a++(names++[y]).take a).take m,x∈names++[y]:=fun x b=>by
     rcases Xn.mp (mem_of_mem_take b) with h|h
     .exact mem_of_mem_drop h
     .exact mem_of_mem_take h
    generalize ((names++[y]).drop a++(names++[y]).take a).take m=ps at eQ U q S;exact bx e8 ⟨ps,N,R,_,(by rw[<- eQ];subst O;subst w;rfl),U,q,S,by lia⟩
   rintro M ⟨ps,N,R,o,rfl,U,q,S,mv⟩;rw[O,w];have hD:D 4=81920:=by decide
   have W:=C.wo (sd:=[]) (r:=9) (t:=120) (names:=names) (lets:=[y,x0]) (by lia) (fun h=>by rw[h] at V;simp at V) (by lia) (by simp) (fun x b=>X6 _ b) (fun x b=>by
    simp only [Xj,XO,Yo] at b;rcases b with rfl|rfl
    .simp
    .exact X6 _ nJ) ⟨Xw _,fun e h=>(by cases h)⟩
   refine⟨rfl,_,_,names,[y,x0],kn fs,ws,9,120,rfl,by first|exact .inl ⟨rfl,rfl⟩|exact .inr ⟨rfl,rfl⟩,?_⟩;refine⟨rfl,Rp (names++[y]) fs,4,by decide,ns,N,R,⟨names,[y,x0],kn fs,ws,[],9,120⟩,_,ps,4,1,rfl,.inl rfl,F,rfl,by decide,by lia,W,by lia,S,by decide,by decide,fun e n6 z6 r6 t6 he Ma uo=>?_⟩;have Lx:(fs.map Fd.tv).length<16777216:=by rw[Xa];lia
   have Lw:((kn fs).map ik).length+1<=16777216:=by rw[Xa];unfold kn;rw[Xa];lia
   have Lv:ws.length<16777216:=by have:=C.wl;lia
   refine⟨rfl,Lx,Lw,rfl,Rp (names++[y]) fs,e,_,ws,rfl,.inl rfl,he,C.A,fun i'=>⟨Lv,?_⟩⟩;have G:=GQ (r:=r) F rp V Mu rK uv nJ hQ j (i+1) (fs++[⟨x,ps,e⟩]) (eU ws (.inr x) (ti i')) n6 z6 (.fz (.lst (names.map ts))) (.fz (.lst ([y,x0].map ts))) (some (fi i)) (some (Lake.fs x)) (some (.own (.lst ((names++[y]).map ts)))) (some (.fz (ts p))) o (some (.own (.lst (ps.map ts)))) (some (.own (cz ((⟨names,[y,x0],kn fs,ws,[],9,120⟩:Wo).at r6 t6)))) (some (.fz (E.tv e))) (by lia) (by rw[Xd];simp;lia) (C.add (f:=⟨x,ps,e⟩) T ⟨b,U,q,S,he,by have h9:e.cnt+7*bV r6<=1+7*3:=Ma;show e.cnt<=30;lia⟩ i') (by lia) (.inr ⟨rfl,rfl⟩);have e1:(fs++[(⟨x,ps,e⟩:Fd)]).map Fd.tv=fs.map Fd.tv++[.tup [ts x,.tup (ps.map ts),E.tv e]]:=by simp [Fd.tv]
   have e2:(kn (fs++[(⟨x,ps,e⟩:Fd)])).map ik=(kn fs).map ik++[.tup [ts x,ti (ps.map ts).length]]:=by simp [kn,ik]
   rw[e1,e2] at G;exact G
theorem TV:∀args k,jt args k->aD (aB gP Jr) (aW args k) (aR 15 args):=by
 rintro args k ⟨ns,n,z,r,rfl,J,g,hn,q⟩;have WY:D 4=81920:=by decide
 have WX:D 7=41943040:=by decide
 refine⟨rfl,ns,n,z,4,rfl,g,by lia,by decide,by decide,fun r4 n1 S Ll Lk T=>?_⟩;refine⟨rfl,ns,n1,S,_,rfl,g,by lia,by lia,by lia,fun xs U V K X L i4=>?_⟩;refine⟨rfl,ns,U,V,_,xs,xs,rfl,.inl rfl,g,by lia,by lia,by lia,fun _ h=>h,fun x c=>(L x c).1,fun y Y Z hy LD WE kU=>?_⟩;obtain⟨x0,e0,p⟩:=sv (xs:=xs) (r:=0) (by decide) (by rw[Xa];lia);have uv:(xs++[y]).Nodup:=Y2.mpr ⟨X,by simp,fun a ha b N=>by simp at N;rw[N];exact fun z=>LD (z▸ha)⟩;have O:∀x∈xs++[y],Nm x:=fun x c=>by rcases Xn.mp c with h|h;exact(L x h).1;simp at h;exact h▸hy
 refine bx e0 ?_;refine⟨fun M=>∃(fs:List Fd)(ws:List (aj×Tv))(s:Nat)(z:Int)(i j:Sl)(u v w A B C F G:Option Sl),M=⟨[some (.out 0),some (fi r),some i,some j,some (.own (.lst (fs.map Fd.tv))),some (.own (.lst ((kn fs).map ik))),some (.own (.dic ws)),u,v,w,A,B,C,F,G],[.own (aQ ns s z)],[]⟩/\PInv (xs++[y]) fs ws/\fs.length<=4/\s<=n+500000/\((i=.own (.lst (xs.map ts))/\j=.own (.lst ([y,x0].map ts)))∨(i=.fz (.lst (xs.map ts))/\j=.fz (.lst ([y,x0].map ts)))),?_,?_⟩;refine⟨rfl,ns,Y,Z,5,rfl,g,by lia,by decide,by decide,fun r5 Q z4 Lj Li nP=>?_⟩;obtain⟨t,e,m,rfl,m3⟩:=vb (l:=[ti 1,ti 0,ti 2,ti 4,ti 3]) (P:=fun t=>∃m:Nat,t=ti m/\m<=4) (by
  intro t R;simp only [Xj,XO,Yo] at R;rcases R with rfl|rfl|rfl|rfl|rfl
  .exact⟨1,rfl,by decide⟩
  .exact⟨0,rfl,by decide⟩
  .exact⟨2,rfl,by decide⟩
  .exact⟨4,rfl,by decide⟩
  .exact⟨3,rfl,by decide⟩) Lj Li
 refine bx e ⟨⟨by lia,by lia⟩,?_⟩;show cy _ _ _ (f6 ((m:Int).toNat)) _;rw[show f6 ((m:Int).toNat)=rf 0 m from EM m];refine GQ (n0:=Q) (names:=xs) (y:=y) (x0:=x0) g (by lia) (by lia) (by lia) O uv p ?_ m 0 [] [] Q z4 _ _ none none none none none none none none (by lia) rfl ⟨fun f H=>(by cases H),nodup_nil,fun f H=>(by cases H),W9 _⟩ (by lia) (.inl ⟨rfl,rfl⟩);exact fun fs ws s z' i j u v w A B C F G h1 h2 h3 h4=>⟨fs,ws,s,z',i,j,u,v,w,A,B,C,F,G,rfl,h1,h2,by lia,h4⟩
 .rintro M ⟨fs,ws,n5,z5,i,j,u,v,w,A,B,C,F,G,rfl,I,o,mv,hA⟩;have W:=fun(sd:List E) nL=>I.wo (sd:=sd) (r:=r) (t:=1400) (names:=xs) (lets:=[y,x0]) o (fun h=>by rw[h] at p;cases p) (by lia) (by simp) (fun x c=>X6 _ c) (fun x c=>by
    simp only [Xj,XO,Yo] at c;rcases c with rfl|rfl
    .simp
    .exact X6 _ p) nL
  have pl:(xs++[y]).length<=6:=by rw[Xd];simp;lia
  rcases hA with ⟨rfl,rfl⟩|⟨rfl,rfl⟩;all_goals
   refine⟨rfl,_,_,xs,[y,x0],kn fs,ws,r,1400,rfl,by first|exact .inl ⟨rfl,rfl⟩|exact .inr ⟨rfl,rfl⟩,?_⟩;refine⟨rfl,ns,n5,z5,2,rfl,g,by lia,by decide,by decide,fun d n6 z6 d0 d1 uo=>?_⟩;refine⟨rfl,Rp (xs++[y]) fs,ns,n6,z6,⟨xs,[y,x0],kn fs,ws,[],r,1400⟩,_,rfl,g,by lia,by lia,by lia,W [] ⟨Xw _,fun e h=>(by cases h)⟩,fun l n7 z7 WQ My xI=>⟨by show 8<16777216;decide,?_⟩⟩;refine⟨rfl,Rp (xs++[y]) fs,7,by decide,ns,n7,z7,⟨xs,[y,x0],kn fs,ws,l,r,1400⟩,_,[],7,1,rfl,.inl rfl,g,rfl,by decide,by lia,W l ⟨by lia,My⟩,by decide,fun x c=>(by cases c),by decide,by decide,fun e n8 z8 r8 t8 he L9 um=>?_⟩;have h9:e.cnt+7*bV r8<=1+7*bV r:=L9;have BM:bV r<=34:=by unfold bV;lia
   exact q (xs++[y]) fs e n8 z8 ⟨pl,O,o,I.fo,I.nd,he,by lia⟩ (by lia)
abbrev tk (i:Nat):Tv:=ti (i:Int)
mutual
noncomputable def bK:E->List (List Nat×E)
 | .nd w Z=>([],.nd w Z)::d5 0 Z
noncomputable def d5 (i:Nat):List E->List (List Nat×E)
 |[]=>[]
 |k::Z=>(bK k).map (fun p=>(i::p.1,p.2))++d5 (i+1) Z
end
mutual
theorem oO:∀e:E,(bK e).length=e.cnt
 | .nd w Z=>by rw[bK,Xl,F7,Tree.cnt];lia
theorem F7:∀(i:Nat)(Z:List E),(d5 i Z).length=Tree.cntL Z
 |_,[]=>rfl
 |i,k::Z=>by rw[d5,Xd,Xa,oO k,F7 (i+1) Z,Tree.cntL]
end
mutual
theorem vH:∀e:E,(bK e).map (·.2)=e.all
 | .nd w Z=>by rw[bK,Xp,F6,Tree.all]
theorem F6:∀(i:Nat)(Z:List E),(d5 i Z).map (·.2)=Tree.allL Z
 |_,[]=>rfl
 |i,k::Z=>by rw[d5,Xq,Ze,F6 (i+1) Z,Tree.allL,<- vH k];rfl
end
theorem zO {e:E}(h:Ex R N e):∀p∈bK e,p.1.length<=N:=by
 induction h with
 | @mk n w Z h c f=>
  have go:∀(Z:List E)(i:Nat),(∀k∈Z,∀p∈bK k,p.1.length<=n)->∀p∈d5 i Z,p.1.length<=n+1:=by intro Z;induction Z with|nil=>(intro i _ p a;cases a)|cons k Z b=>intro i d p a;rw[d5] at a;rcases Xn.mp a with z|z;obtain⟨q,g,rfl⟩:=XA.mp z;have:=d k W8 q g;simp;lia;exact b (i+1) (fun k c=>d k (W7 _ c)) p z
  intro p a;rw[bK] at a;rcases Xj.mp a with rfl|z;simp;exact go Z 0 f p z
def cY (p:List Nat):Tv:=.tup (p.map tk)
def ej (p:List Nat×E):Tv:=.tup [cY p.1,E.tv p.2]
noncomputable def iO:Nat->List Tv->List Tv
 |_,[]=>[]
 |i,t::l=>.tup [ti i,t]::iO (i+1) l
theorem Cb:∀(l:List Tv)(i:Nat),(((List.range' i l.length).zip l).map fun p=>(.tup [.at (.int (p.1:Nat)),p.2]:Tv))=iO i l
 |[],i=>rfl
 |t::l,i=>by rw[Xl,List.range'_succ,List.zip_cons_cons,Xp,Cb l (i+1)];rfl
theorem om (l:List Tv):i6 l=iO 0 l:=by unfold i6;rw[List.range_eq_range'];exact Cb l 0
inductive dh (R:Rl)(N:Nat)(args:SA)(k:SK):Prop
 |mk (e:E) (_:args=[.fz (E.tv e)]) (_:Ex R N e) (_:N<=100) (_:e.cnt<=100000) (_:k (.own (.lst ((bK e).map ej))) [.fz (E.tv e)])
abbrev BR (R:Rl)(N:Nat):Gm:=JN au (dh R N)
theorem EJ {k:List Tv->Ms->Prop}:∀(l a:List (List Nat×E))(U Y:Option Sl),(∀p∈l,p.1.length<=1000)->(∀U Y,k ((a++l.map fun p=>(i::p.1,p.2)).map ej) ⟨[some (fi i),U,Y],[],[]⟩)->bo (bd (.cons (.nm 1) (.cons (.nm 2) .nil))) (aq B .tt).t (aq B JA).e k (l.map ej) (a.map ej) ⟨[some (fi i),U,Y],[],[]⟩
 |[],a,U,Y,_,q=>by have:=q U Y;rw[Y3,Xm] at this;exact this
 |p::l,a,U,Y,h,q=>by
  have d:=h p W8;refine⟨by show 1+(p.1.map tk).length<=_;rw[Xa];lia,?_⟩;have b:a.map ej++[ej (i::p.1,p.2)]=(a++[(i::p.1,p.2)]).map ej:=by simp
  show bo _ _ _ _ (l.map ej) (a.map ej++[ej (i::p.1,p.2)]) _;rw[b];exact EJ l _ _ _ (fun x c=>h x (W7 _ c)) fun U Y=>by simpa using q U Y
theorem HB {P:PD}{e:Sl}(b:N<=100):∀(Z:List E)(i:Nat)(a:List (List Nat×E))(Y s3:Option Sl),(∀k∈Z,Ex R N k)->a.length+Tree.cntL Z<=100000->(∀Y s3,P.nx ⟨[some e,some (.own (.lst ((a++d5 i Z).map ej))),Y,s3],[],[]⟩) →cy (bd (.cons (.nm 2) (.cons (.nm 3) .nil))) (aD (aB (BR R N) Jz)) P (iO i (E.tvL Z)) ⟨[some e,some (.own (.lst (a.map ej))),Y,s3],[],[]⟩
 |[],i,a,Y,s3,_,_,q=>by have:=q Y s3;rw[d5,Xm] at this;exact this
 |k::Z,i,a,Y,s3,c,d,q=>by
  rw[Tree.cntL] at d;have he:=c k W8;have pl:=oO k;refine⟨rfl,k,rfl,he,b,by lia,by rw[Xa];lia,rfl,EJ (bK k) [] none none (fun p f=>by have:=zO he p f;lia) fun j l=>?_⟩;rw[XM];refine⟨by rw[Xa,Xa,Xa];lia,?_⟩;have g:a.map ej++((bK k).map fun p=>(i::p.1,p.2)).map ej=(a++(bK k).map fun p=>(i::p.1,p.2)).map ej:=by rw[Xq]
  show cy _ _ _ (iO (i+1) (E.tvL Z)) ⟨[_,some (.own (.lst (a.map ej++((bK k).map fun p=>(i::p.1,p.2)).map ej))),_,_],_,_⟩;rw[g];refine HB b Z (i+1) _ _ _ (fun x h=>c x (W7 _ h)) (by rw[Xd,Xa];lia) fun Y s3=>?_;have:=q Y s3;rw[d5] at this;rw[Xy];exact this
theorem Q0 (R:Rl)(N:Nat):∀args k,dh R (N+1) args k->aD (aB (BR R N) JO) (aW args k) (aR 4 args):=by rintro args k ⟨e,rfl,he,c,a,q⟩;cases he with| @mk _ w Z h b=>have d:=h.le;rw[Tree.cnt] at a;refine⟨fun M=>∃Y s3,M=⟨[some (.fz (E.tv (.nd w Z))),some (.own (.lst ((bK (.nd w Z)).map ej))),Y,s3],[],[]⟩,?_,?_⟩;refine⟨rfl,w,Z,rfl,by lia,?_⟩;show cy _ _ _ (i6 (E.tvL Z)) _;rw[om];exact HB (R:=R) (N:=N) (by lia) Z 0 [([],.nd w Z)] none none b (by simp;lia) fun Y s3=>⟨Y,s3,rfl⟩;rintro M ⟨Y,s3,rfl⟩;exact q
noncomputable def aZ (fs:List Fd)(main:E):List E:=fs.map Fd.bd++[main]
theorem vG (a b:List E):E.tvL (a++b)=E.tvL a++E.tvL b:=by simp only [E.tvL,eZ,Xq]
theorem F5 {k:List Tv->Ms->Prop}:∀(l:List Fd)(a:List E)(s:Option Sl),(∀s,k (E.tvL (a++l.map Fd.bd)) ⟨[s],[],[]⟩)->bo (bd (.nm 0)) (aq B .tt).t (aq B Io).e k (l.map Fd.tv) (E.tvL a) ⟨[s],[],[]⟩
 |[],a,s,q=>by have:=q s;rw[Y3,Xm] at this;exact this
 |f::l,a,s,q=>by
  have b:E.tvL a++[E.tv f.bd]=E.tvL (a++[f.bd]):=by rw[vG];rfl
  show bo _ _ _ _ (l.map Fd.tv) (E.tvL a++[E.tv f.bd]) _;rw[b];exact F5 l _ _ fun s=>by simpa using q s
theorem Dp {e:E}(h:Ex R N e):∀x∈e.all,Ex R N x:=by
 induction h with
 | @mk n w Z h b f=>
  have go:∀Z:List E,(∀k∈Z,∀x∈k.all,Ex R n x)->∀x∈Tree.allL Z,Ex R n x:=by intro Z;induction Z with|nil=>(intro _ x a;cases a)|cons k Z c=>intro d x a;rw[Tree.allL] at a;rcases Xn.mp a with z|z;exact d k W8 x z;exact c (fun k b=>d k (W7 _ b)) x z
  intro x a;rw[Tree.all] at a;rcases Xj.mp a with rfl|z;exact .mk h b;exact(go Z f x z).up (Nat.le_succ _)
inductive ef (args:SA)(k:SK):Prop
 |mk (fs:List Fd) (main:E) (_:args=[.fz (cv fs main)]) (_:fs.length<=100) (_:k (.own (.lst (E.tvL (aZ fs main)))) [.fz (cv fs main)])
theorem TU:∀args k,ef args k->aD (aB IU IV) (aW args k) (aR 1 args):=by
 rintro args k ⟨fs,main,rfl,b,q⟩;refine⟨by rw[Xa];lia,rfl,F5 fs [] none fun s=>?_⟩;rw[XM];have a:E.tvL (fs.map Fd.bd)++[E.tv main]=E.tvL (aZ fs main):=by unfold aZ;rw[vG];rfl
 refine⟨by rw[cm,Xa];show fs.length+1<=_;lia,?_⟩;show k (.own (.lst (E.tvL (fs.map Fd.bd)++[E.tv main]))) _;rw[a];exact q
def bI (p:Nat×List Nat):Tv:=.tup [tk p.1,cY p.2]
def en (q:(Nat×List Nat)×E):Tv:=.tup [bI q.1,E.tv q.2]
def keep (m:Int)(e:E):List (List Nat×E):=(bK e).filter fun p=>decide (m<=(p.2.cnt:Int))
noncomputable def cj (m:Int)(i:Nat):List E->List ((Nat×List Nat)×E)
 |[]=>[]
 |b::bs=>(keep m b).map (fun p=>((i,p.1),p.2))++cj m (i+1) bs
theorem tj (m:Int):∀(bs:List E)(i:Nat),(cj m i bs).length<=Tree.cntL bs
 |[],_=>W9 _
 |b::bs,i=>by
  have h1:=tj m bs (i+1);have a:(keep m b).length<=b.cnt:=by rw[<- oO b];exact length_filter_le ..
  rw[cj,Xd,Xa,Tree.cntL];lia
inductive dz (R:Rl)(N:Nat)(args:SA)(k:SK):Prop
 |mk (fs:List Fd) (main:E) (m:Int) (_:args=[.fz (cv fs main),fi m]) (_:fs.length<=100) (_:N<=100) (_:(∀b∈aZ fs main,Ex R N b)) (_:Tree.cntL (aZ fs main)<=100000) (_:k (.own (.lst ((cj m 0 (aZ fs main)).map en))) [.fz (cv fs main),fi m])
abbrev ux (R:Rl)(N:Nat):Gm:=IQ ef (aN R N) (dh R N)
theorem zr {k:List Tv->Ms->Prop}:∀(l:List (List Nat×E))(a:List ((Nat×List Nat)×E))(Y s3:Option Sl),(∀p∈l,Ex R N p.2)->(∀Y s3,k ((a++(l.filter fun p=>decide (m<=(p.2.cnt:Int))).map fun p=>((i,p.1),p.2)).map en) ⟨[some (fi i),some (fi m),Y,s3],[],[]⟩)->bo (bd (.cons (.nm 2) (.cons (.nm 3) .nil))) (aq (ux R N) (.cmp .ge (.call 1 (.cons (.var 3) .nil)) (.var 1))).t (aq (ux R N) Im).e k (l.map ej) (a.map en) ⟨[some (fi i),some (fi m),Y,s3],[],[]⟩
 |[],a,Y,s3,_,q=>by have:=q Y s3;rw[filter_nil,Y3,Xm] at this;exact this
 |p::l,a,Y,s3,h,q=>by
  have h':=fun x b=>h x (W7 _ b);refine⟨rfl,p.2,rfl,h p W8,aF (fun g=>?_) (fun g=>?_)⟩;have c:a.map en++[en ((i,p.1),p.2)]=(a++[((i,p.1),p.2)]).map en:=by simp
  show bo _ _ _ _ (l.map ej) (a.map en++[en ((i,p.1),p.2)]) _;rw[c];refine zr l _ _ _ h' fun Y s3=>?_;have:=q Y s3;rw[List.filter_cons_of_pos (by exact g)] at this;simpa using this;refine zr l _ _ _ h' fun Y s3=>?_;have:=q Y s3;rwa [List.filter_cons_of_neg (by exact g)] at this
theorem Ie {P:PD}{e:Sl}(f:N<=100):∀(bs:List E)(i:Nat)(a:List ((Nat×List Nat)×E))(s3 c:Option Sl),(∀b∈bs,Ex R N b)->a.length+Tree.cntL bs<=100000->(∀s3 c,P.nx ⟨[some e,some (fi m),some (.own (.lst ((a++cj m i bs).map en))),s3,c],[],[]⟩) →cy (bd (.cons (.nm 3) (.cons (.nm 4) .nil))) (aD (aB (ux R N) Il)) P (iO i (E.tvL bs)) ⟨[some e,some (fi m),some (.own (.lst (a.map en))),s3,c],[],[]⟩
 |[],i,a,s3,c,_,_,q=>by have:=q s3 c;rw[cj,Xm] at this;exact this
 |b::bs,i,a,s3,c,g,h,q=>by
  rw[Tree.cntL] at h;have he:=g b W8;have pl:=oO b;have n:(keep m b).length<=b.cnt:=by rw[<- pl];exact length_filter_le ..
  have d:∀p∈bK b,Ex R N p.2:=fun p j=>by
   have k:p.2∈b.all:=by rw[<- vH b];exact YK j
   exact Dp he _ k
  refine⟨rfl,b,rfl,he,f,by lia,by rw[Xa];lia,rfl,zr (bK b) [] none none d fun o r=>?_⟩;rw[XM];refine⟨by rw[Xa,Xa,Xa];show a.length+(keep m b).length<=_;lia,?_⟩;have l:a.map en++((keep m b).map fun p=>((i,p.1),p.2)).map en=(a++(keep m b).map fun p=>((i,p.1),p.2)).map en:=by rw[Xq]
  show cy _ _ _ (iO (i+1) (E.tvL bs)) ⟨[_,_,some (.own (.lst (a.map en++((keep m b).map fun p=>((i,p.1),p.2)).map en))),_,_],_,_⟩;rw[l];refine Ie f bs (i+1) _ _ _ (fun x d=>g x (W7 _ d)) (by rw[Xd,Xa];lia) fun s3 c=>?_;have:=q s3 c;rw[cj] at this;rw[Xy];exact this
theorem Sv (R:Rl)(N:Nat):∀args k,dz R N args k->aD (aB (ux R N) IT) (aW args k) (aR 5 args):=by rintro args k ⟨fs,main,m,rfl,b,c,d,e,q⟩;refine⟨fun M=>∃s3 a,M=⟨[some (.fz (cv fs main)),some (fi m),some (.own (.lst ((cj m 0 (aZ fs main)).map en))),s3,a],[],[]⟩,?_,?_⟩;refine⟨rfl,fs,main,rfl,b,?_⟩;show cy _ _ _ (i6 (E.tvL (aZ fs main))) _;rw[om];exact Ie (R:=R) (N:=N) c (aZ fs main) 0 [] none none d (by simp;lia) fun s3 a=>⟨s3,a,rfl⟩;rintro M ⟨s3,a,rfl⟩;exact q
inductive Sw where
 |own (i:Nat)|free (i:Nat)|st (i:Nat)|lt|wd (w:Wd)
def Sw.hd:Sw->List V
 | .own i=>[.str "own",.int i]
 | .free i=>[.str "free",.int i]
 | .st i=>[.str "set",.int i]
 | .lt=>[.str "let"]
 | .wd w=>w.hd
abbrev ST:=Tree Sw
abbrev ST.tv (t:ST):Tv:=Tree.tv Sw.hd t
abbrev ST.tvL (ts:List ST):List Tv:=Tree.tvL Sw.hd ts
noncomputable def bE (x:Str):List Str->Nat
 |[]=>0
 |y::l=>if y=x then 0 else bE x l+1
theorem vF {x:Str}:∀{l:List Str},x∈l->l[bE x l]?=some x/\∀m:Nat,m<bE x l->l[m]? ≠ some x
 |[],h=>by cases h
 |y::l,h=>by unfold bE;by_cases e:y=x;rw[Xk e];exact⟨by rw[e];rfl,fun m a=>by lia⟩;rw[Xh e];obtain⟨h1,b⟩:=vF (l:=l) ((Xj.mp h).resolve_left fun z=>e z.symm);refine⟨h1,fun m a=>?_⟩;cases m with|zero=>(exact fun z=>e (by injection z))|succ m=>exact b m (by lia)
noncomputable def aY (x:Str)(l:List Str):List Str:=if x∈l then l else l++[x]
theorem qg (x:Str)(l:List Str):x∈aY x l:=by unfold aY;split;assumption;simp
theorem nc (x:Str)(l:List Str):(aY x l).length<=l.length+1:=by unfold aY;split;lia;simp
def aM (bs fr:List Str):Wd->Sw×List Str×List Str
 | .name x=>if x∈bs then (.own (bE x bs),fr,bs) else (.free (bE x (aY x fr)),aY x fr,bs)
 | .st x=>(.st (bE x (aY x fr)),aY x fr,bs)
 | .lt x=>(.lt,fr,x::bs)
 |w=>(.wd w,fr,bs)
theorem EI (bs fr:List Str)(w:Wd):(aM bs fr w).2.1.length<=fr.length+1:=by cases w with|name x=>show(if x∈bs then _ else _:Sw×List Str×List Str).2.1.length<=_;split;exact Nat.le_succ _;exact nc x fr|st x=>exact nc x fr|_=>exact Nat.le_succ _
mutual
noncomputable def aP (bs fr:List Str):E->ST×List Str
 | .nd w Z=>(.nd (aM bs fr w).1 (a5 bs (aM bs fr w).2.2 (aM bs fr w).2.1 Z).1,(a5 bs (aM bs fr w).2.2 (aM bs fr w).2.1 Z).2)
noncomputable def a5 (b c fr:List Str):List E->List ST×List Str
 |[]=>([],fr)
 |k::Z=>((aP b fr k).1::(a5 c c (aP b fr k).2 Z).1,(a5 c c (aP b fr k).2 Z).2)
end
mutual
theorem vE (bs fr:List Str):∀e:E,(aP bs fr e).2.length<=fr.length+e.cnt
 | .nd w Z=>by have h1:=EI bs fr w;have a:=F4 bs (aM bs fr w).2.2 (aM bs fr w).2.1 Z;rw[aP,Tree.cnt];simp only;lia
theorem F4 (b c fr:List Str):∀Z:List E,(a5 b c fr Z).2.length<=fr.length+Tree.cntL Z
 |[]=>by rw[a5];exact Nat.le_add_right _ _
 |k::Z=>by have h1:=vE b fr k;have a:=F4 c c (aP b fr k).2 Z;rw[a5,Tree.cntL];simp only;lia
end
theorem yT (b c fr:List Str):∀Z:List E,(a5 b c fr Z).1.length=Z.length
 |[]=>by rw[a5];rfl
 |k::Z=>by rw[a5,Xl,Xl,yT c c _ Z]
theorem sS (l:List ST):(ST.tvL l).length=l.length:=by rw[ST.tvL,eZ,Xa]
theorem QZ (a b:List ST):ST.tvL (a++b)=ST.tvL a++ST.tvL b:=by simp only [ST.tvL,eZ,Xq]
structure j1 (hd:List V):Prop where
 ty:∀v∈hd,okTy (.at v)
 l1:1<=hd.length
 l2:hd.length<=2
theorem Wh (w:Wd):j1 w.hd:=⟨(jS w).1,(jS w).2.1,(jS w).2.2⟩
inductive dC (args:SA)(k:SK):Prop
 |mk (hd:List V) (Z:List E) (_:args=[.fz (.tup (hd.map Tv.at++E.tvL Z))]) (_:j1 hd) (_:Z.length<=1000) (_:k (.own (.lst (E.tvL Z))) [.fz (.tup (hd.map Tv.at++E.tvL Z))])
theorem Dn {hd:List V}(h:j1 hd)(Z:List E):∀t∈hd.map Tv.at++E.tvL Z,okTy t:=fun t a=>by rcases Xn.mp a with z|z;obtain⟨v,b,rfl⟩:=XA.mp z;exact h.ty v b;rw[E.tvL,eZ] at z;obtain⟨k,_,rfl⟩:=XA.mp z;exact E.okTy k
theorem Su:∀args k,dC args k->aD (aB ql wJ) (aW args k) (aR 1 args):=fun args k ⟨hd,Z,e,h,c,q⟩=>Ge args k (by
 have d:=h.l2;refine⟨hd.map Tv.at++E.tvL Z,e,by rw[Xd,Xa,cm];lia,Dn h Z,?_⟩;have b:((hd.map Tv.at++E.tvL Z).drop 1).filter c8=E.tvL Z:=by rw[List.drop_append_of_le_length (by rw[Xa];exact h.l1),<- map_drop];exact yU _ _ fun k a=>by rw[E.tvL,eZ] at a;obtain⟨k,_,rfl⟩:=XA.mp a;exact E.tp k
 rw[b];exact q)
inductive eG (args:SA)(k:SK):Prop
 |mk (hd:List V) (Z:List E) (s:Sl) (js:List Tv) (_:args=[.fz (.tup (hd.map Tv.at++E.tvL Z)),s]) (_:j1 hd) (_:gJ s js) (_:Z.length<=1000) (_:js.length<=1000) (_:k (.fz (.tup (hd.map Tv.at++js))) [.fz (.tup (hd.map Tv.at++E.tvL Z)),s])
theorem QY:∀args k,eG args k->aD (aB qj wu) (aW args k) (aR 2 args):=fun args k ⟨hd,Z,s,a,e,h,b,f,g,q⟩=>ER args k (by
 have i:=h.l2;refine⟨hd.map Tv.at++E.tvL Z,s,a,e,b,by rw[Xd,Xa,cm];lia,Dn h Z,?_⟩;have c:(hd.map Tv.at++E.tvL Z).filter (fun t => !c8 t)=hd.map Tv.at:=by rw[filter_append,EO,Xm];exact filter_eq_self.mpr fun t d=>by obtain⟨v,_,rfl⟩:=XA.mp d;rfl
 rw[c,e];exact q)
inductive df (R:Rl)(N:Nat)(args:SA)(k:SK):Prop
 |mk (e:E) (s:Sl) (bs fr:List Str) (_:args=[.fz (E.tv e),s,.own (.lst (fr.map ts))]) (_:gJ s (bs.map ts)) (_:Ex R N e) (_:bs.length+N<=1000) (_:fr.length+e.cnt<=100000) (_:k (.fz (ST.tv (aP bs fr e).1)) [.fz (E.tv e),s,.own (.lst ((aP bs fr e).2.map ts))])
abbrev pH (R:Rl)(N:Nat):Gm:=Ij (df R N) eG dC
theorem zq {bs:List Str}{b:Sl}{pre:List Sl}{k:List Tv->Ms->Prop}(g:(a0=.out 0/\b=.out 1/\pre=[.own (.lst (bs.map ts))])∨(a0=.fz (.lst (bs.map ts))/\b=.out 0/\pre=[]))(d:bs.length+N<=1000):∀(Z:List E)(a:List ST)(fr:List Str)(s:Option Sl),(∀e∈Z,Ex R N e)->fr.length+Tree.cntL Z<=100000->(∀c,k (ST.tvL (a++(a5 bs bs fr Z).1)) ⟨[some a0,some b,c],pre++[.own (.lst ((a5 bs bs fr Z).2.map ts))],[]⟩) →bo (bd (.nm 2)) (aq (pH R N) .tt).t (aq (pH R N) Am).e k (E.tvL Z) (ST.tvL a) ⟨[some a0,some b,s],pre++[.own (.lst (fr.map ts))],[]⟩
 |[],a,fr,s,_,_,q=>by have:=q s;rw[a5,Xm] at this;exact this
 |e::Z,a,fr,s,h,i,q=>by
  rw[Tree.cntL] at i;have he:=h e W8;have f:=fun x j=>h x (W7 _ j);have n:=vE bs fr e;have l:ST.tvL a++[ST.tv (aP bs fr e).1]=ST.tvL (a++[(aP bs fr e).1]):=by rw[QZ];rfl
  have go:∀c,bo (bd (.nm 2)) (aq (pH R N) .tt).t (aq (pH R N) Am).e k (E.tvL Z) (ST.tvL a++[ST.tv (aP bs fr e).1]) ⟨[some a0,some b,c],pre++[.own (.lst ((aP bs fr e).2.map ts))],[]⟩:=fun c=>by rw[l];refine zq g d Z _ _ c f (by lia) fun m=>?_;have:=q m;rw[a5] at this;rw[Xy];exact this
  rcases g with ⟨rfl,rfl,rfl⟩|⟨rfl,rfl,rfl⟩;exact⟨rfl,e,_,bs,fr,rfl,.inl rfl,he,d,by lia,go _⟩;exact⟨rfl,e,_,bs,fr,rfl,.inr rfl,he,d,by lia,go _⟩
def lQ (s:Sl)(t:Tv)(fr:List Str):Ms:=match s with
 | .own o=>⟨[some (.fz t),some (.out 0),some (.out 1),none],[.own o,.own (.lst (fr.map ts))],[]⟩
 |s=>⟨[some (.fz t),some s,some (.out 0),none],[.own (.lst (fr.map ts))],[]⟩
theorem zp {t0:Tv}{s:Sl}{bs j fr:List Str}{a:Str}{r:List V}{k:Sl->List Sl->Prop}(m:gJ s (bs.map ts))(n:a≠"let")(hd:j1 (.str a::r))(c:∀e∈Z,Ex R N e)(b:Z.length<=1000)(d:bs.length+N<=1000)(f:fr.length+Tree.cntL Z<=100000)
  (q:k (.fz (.tup ((.str a::r).map Tv.at++ST.tvL (a5 bs bs fr Z).1))) [.fz t0,s,.own (.lst ((a5 bs bs fr Z).2.map ts))]):
  aD (aB (pH R N) HF) (aW [.fz t0,s,.own (.lst (j.map ts))] k) (lQ s (.tup ((.str a::r).map Tv.at++E.tvL Z)) fr):=by
 have i:=yT bs bs fr Z;have no:¬ (false ^^ decide (V.str a=V.str "let"))=true:=fun h=>by rw[Bool.false_xor,XI] at h;exact n (by injection h)
 have p:∀l,ST.tvL ([]++l)=ST.tvL l:=fun l=>rfl;rcases m with rfl|rfl
 .refine aF (fun g=>absurd g no) (fun _=>?_);refine⟨rfl,.str a::r,Z,rfl,hd,b,by rw[cm];lia,rfl,zq (.inl ⟨rfl,rfl,rfl⟩) d Z [] fr none c f fun o=>?_⟩;exact⟨rfl,.str a::r,Z,_,_,rfl,hd,.inl rfl,b,by rw[sS];exact i▸b,q⟩
 .refine aF (fun g=>absurd g no) (fun _=>?_);refine⟨rfl,.str a::r,Z,rfl,hd,b,by rw[cm];lia,rfl,zq (.inr ⟨rfl,rfl,rfl⟩) d Z [] fr none c f fun o=>?_⟩;exact⟨rfl,.str a::r,Z,_,_,rfl,hd,.inl rfl,b,by rw[sS];exact i▸b,q⟩
theorem EH {l:List Str}(h:x∈l):aY x l=l:=Xk h
theorem QX {l:List Str}(h:x∉l):aY x l=l++[x]:=Xh h
theorem Dm {s:Sl}{bs fr:List Str}(a:gJ s (bs.map ts))(h:x∉fr):lQ s t (aY x fr)=match s with
 | .own o=>⟨[some (.fz t),some (.out 0),some (.out 1),none],[.own o,.own (.lst (fr.map ts++[ts x]))],[]⟩
 |s=>⟨[some (.fz t),some s,some (.out 0),none],[.own (.lst (fr.map ts++[ts x]))],[]⟩:=by
 have e:fr.map ts++[ts x]=(aY x fr).map ts:=by rw[QX h,Xq];rfl
 rw[e];rcases a with rfl|rfl <;> rfl
theorem QW (R:Rl)(N:Nat):∀args k,df R (N+1) args k->aD (aB (pH R N) Ik) (aW args k) (aR 4 args):=by
 rintro args k ⟨e,s,bs,fr,rfl,y,he,C,u,q⟩;cases he with
 | @mk _ w Z h j=>
  have D:=h.le;rw[Tree.cnt] at u;rw[aP] at q;obtain⟨f,b⟩:∃f,f=s:=⟨_,rfl⟩;obtain⟨r,l⟩:∃r,r=w:=⟨_,rfl⟩;have i:gJ f (bs.map ts):=b▸y;rcases y with rfl|rfl;all_goals
   cases w with
   |name x=>
    have A:Z=[]:=List.length_eq_zero_iff.mp h.1;subst A;refine⟨⟨eX bs,rfl⟩,aF (fun g=>?_) (fun g=>?_)⟩
    .have t:=(iw x bs).mp (xf g);obtain⟨h1,m⟩:=vF t;refine⟨rfl,bs,x,bE x bs,rfl,rfl,h1,m,?_⟩;have n:aM bs fr (.name x)=(.own (bE x bs),fr,bs):=Xk t;rw[n] at q;exact q
    .have t:x∉bs:=fun z=>g (by rw[(iw x bs).mpr z];rfl)
     have n:aM bs fr (.name x)=(.free (bE x (aY x fr)),aY x fr,bs):=Xh t;rw[n] at q;obtain⟨h1,m⟩:=vF (qg x fr);refine⟨fun M=>M=lQ f (.tup ([V.str "free",.int (bE x (aY x fr))].map Tv.at++E.tvL [])) (aY x fr),⟨⟨eX ["name","set"],rfl⟩,fun M=>M=lQ f (E.tv (.nd (.name x) [])) (aY x fr),⟨⟨eX fr,rfl⟩,aF (fun g2=>?_) (fun g2=>?_)⟩,?_⟩,?_⟩
     .have d:x∉fr:=fun z=>by rw[(iw x fr).mpr z] at g2;exact absurd g2 (by decide)
      refine⟨rfl,by show(fr.map ts).length<16777216;rw[Xa];lia,Eq.trans ?_ (Dm i d).symm⟩;subst b;rfl
     .have d:x∈fr:=(iw x fr).mp (by cases z:ia (.str x) ((fr.map ts).map gB) with|true=>rfl|false=>exact absurd (by rw[z];rfl) g2);rw[EH d];subst b;rfl
     .rintro M rfl;subst b;have o:aV ([ts "name",ts x]++E.tvL []) (some 2) none=E.tvL []:=lF _ 2;refine⟨rfl,aY x fr,x,bE x (aY x fr),rfl,rfl,h1,m,by show 2+(aV ([ts "name",ts x]++E.tvL []) (some 2) none).length<=_;rw[o];decide,?_⟩;show(⟨[some (.fz (.tup ([ts "free",tk (bE x (aY x fr))]++aV ([ts "name",ts x]++E.tvL []) (some 2) none))),_,_,_],_,_⟩:Ms)=_;rw[o];rfl
     .rintro M rfl;subst b;exact zp i (by decide) ⟨fun v p=>by simp only [Xj,XO,Yo] at p;rcases p with rfl|rfl <;> exact⟨_,rfl⟩,by simp,by simp⟩ j (by lia) (by lia) (by have:=nc x fr;simp only [Tree.cntL] at u ⊢;lia) q
   |st x=>
    have n:aM bs fr (.st x)=(.st (bE x (aY x fr)),aY x fr,bs):=rfl;rw[n] at q;obtain⟨h1,m⟩:=vF (qg x fr);refine⟨fun M=>M=lQ f (.tup ([V.str "set",.int (bE x (aY x fr))].map Tv.at++E.tvL Z)) (aY x fr),⟨⟨eX ["name","set"],rfl⟩,fun M=>M=lQ f (E.tv (.nd (.st x) Z)) (aY x fr),⟨⟨eX fr,rfl⟩,aF (fun g2=>?_) (fun g2=>?_)⟩,?_⟩,?_⟩
    .have d:x∉fr:=fun z=>by rw[(iw x fr).mpr z] at g2;exact absurd g2 (by decide)
     refine⟨rfl,by show(fr.map ts).length<16777216;rw[Xa];lia,Eq.trans ?_ (Dm i d).symm⟩;subst b;rfl
    .have d:x∈fr:=(iw x fr).mp (by cases z:ia (.str x) ((fr.map ts).map gB) with|true=>rfl|false=>exact absurd (by rw[z];rfl) g2);rw[EH d];subst b;rfl
    .rintro M rfl;subst b;have o:aV ([ts "set",ts x]++E.tvL Z) (some 2) none=E.tvL Z:=lF _ 2;refine⟨rfl,aY x fr,x,bE x (aY x fr),rfl,rfl,h1,m,by show 2+(aV ([ts "set",ts x]++E.tvL Z) (some 2) none).length<=_;rw[o,cm];lia,?_⟩;show(⟨[some (.fz (.tup ([ts "set",tk (bE x (aY x fr))]++aV ([ts "set",ts x]++E.tvL Z) (some 2) none))),_,_,_],_,_⟩:Ms)=_;rw[o];rfl
    .rintro M rfl;subst b;exact zp i (by decide) ⟨fun v p=>by simp only [Xj,XO,Yo] at p;rcases p with rfl|rfl <;> exact⟨_,rfl⟩,by simp,by simp⟩ j (by lia) (by lia) (by have:=nc x fr;lia) q
   |lt x=>
    obtain⟨a,c,rfl⟩:=uF h.1;refine⟨fun M=>M=lQ f (E.tv (.nd (.lt x) [a,c])) fr,⟨⟨eX ["name","set"],rfl⟩,?_⟩,?_⟩
    .subst b;rfl
    .rintro M rfl;subst b;have la:=vE bs fr a;simp only [Tree.cntL] at u;refine⟨rfl,a,_,bs,fr,rfl,i,j a (by simp),by lia,by lia,?_⟩;refine⟨by show 1+(bs.map ts).length<=_;rw[Xa];lia,rfl,c,_,x::bs,(aP bs fr a).2,rfl,.inl rfl,j c (by simp),by rw[Xl];lia,by lia,?_⟩;exact q
   |_=>
    refine⟨fun M=>M=lQ f (E.tv (.nd r Z)) fr,⟨⟨eX ["name","set"],rfl⟩,?_⟩,?_⟩
    .subst b l;rfl
    .rintro M rfl;have B:=Wh r;subst b l;exact zp i (by decide) B j (by lia) (by lia) (by lia) q
noncomputable def pos (x:Str):List Str->Nat
 |[]=>0
 |y::l=>if y=x then 0 else pos x l+1
noncomputable def pI (B:List Str):Wd->List Str
 | .lt x=>B++[x]
 |_=>B
def cH (B:List Str):Wd->Int
 | .name x=>if x∈B then (pos x B.reverse:Nat) else -1
 |_=>-1
mutual
noncomputable def cK (B:List Str):E->List (E×Int)
 | .nd w Z=>(.nd w Z,cH B w)::fZ B (pI B w) Z
noncomputable def fZ (B C:List Str):List E->List (E×Int)
 |[]=>[]
 |k::Z=>cK B k++fZ C C Z
end
mutual
theorem zo (B:List Str):∀e:E,(cK B e).length=e.cnt
 | .nd w Z=>by rw[cK,Tree.cnt,Xl,F3 B (pI B w) Z];lia
theorem F3 (B C:List Str):∀Z:List E,(fZ B C Z).length=Tree.cntL Z
 |[]=>rfl
 |k::Z=>by rw[fZ,Tree.cntL,Xd,zo B k,F3 C C Z]
end
def mf (p:E×Int):Tv:=.tup [E.tv p.1,ti p.2]
noncomputable def iW:E->Wd
 | .nd w _=>w
noncomputable def Lz:E->List E
 | .nd _ Z=>Z
def bh (w:Wd)(o:Int):List V:=match w with
 | .lt _=>[.str "let"]
 |w=>if 0<=o then [.str "own",.int o] else w.hd
def ei (p:List V×Nat):Tv:=.tup [.tup (p.1.map Tv.at),ti p.2]
inductive eL (args:SA)(k:SK):Prop
 |mk (w:Wd) (Z:List E) (_:args=[.fz (Tree.tv Wd.hd (.nd w Z))]) (_:Z.length<=1000) (_:k (.fz (.tup (w.hd.map Tv.at))) [.fz (Tree.tv Wd.hd (.nd w Z))])
theorem O1:∀args k,eL args k->aD (aB EV EW) (aW args k) (aR 1 args):=by
 rintro args k ⟨w,Z,rfl,b,q⟩;have c:=(jS w).2.2;have a:(w.hd.map Tv.at++E.tvL Z).length<=16777216:=by rw[Xd,Xa,cm];lia
 refine⟨a,rfl,oQ (w.hd.map Tv.at++E.tvL Z) [] none (uR w Z) fun d=>?_⟩;rw[XM,Ce];exact q
inductive bH (args:SA)(k:SK):Prop
 |mk (w:Wd) (Z:List E) (_:args=[.fz (Tree.tv Wd.hd (.nd w Z))]) (_:Z.length<=1000) (_:k (.fz (.tup (E.tvL Z))) [.fz (Tree.tv Wd.hd (.nd w Z))])
theorem Ss:∀args k,bH args k->aD (aB GI GJ) (aW args k) (aR 1 args):=by
 rintro args k ⟨w,Z,rfl,c,q⟩;have d:=(jS w).2.2;have b:(w.hd.map Tv.at++E.tvL Z).length<=16777216:=by rw[Xd,Xa,cm];lia
 have e:(w.hd.map Tv.at++E.tvL Z).filter c8=E.tvL Z:=yU _ _ fun k a=>by rw[E.tvL,eZ] at a;obtain⟨k,_,rfl⟩:=XA.mp a;exact E.tp k
 refine⟨b,rfl,qm (w.hd.map Tv.at++E.tvL Z) [] none (uR w Z) fun f=>?_⟩;rw[XM,e];exact q
inductive dE (args:SA)(k:SK):Prop
 |mk (w:Wd) (Z:List E) (o:Int) (_:args=[.fz (Tree.tv Wd.hd (.nd w Z)),fi o]) (_:Z.length<=1000) (_:k (.fz (.tup ((bh w o).map Tv.at))) [.fz (Tree.tv Wd.hd (.nd w Z)),fi o])
theorem U1:∀args k,dE args k->aD (aB (Jx eL) Jy) (aW args k) (aR 2 args):=by rintro args k ⟨w,Z,o,rfl,a,q⟩;cases w with|lt x=>exact q|_=>refine aF (fun g=>?_) (fun g=>?_);have g':0<=o:=XY g;simp only [bh,Xk g'] at q;exact q;have g':¬ 0<=o:=fun h=>g (Xs h);simp only [bh,Xh g'] at q;exact⟨rfl,_,Z,rfl,a,q⟩
inductive di (args:SA)(k:SK):Prop
 |mk (R:Rl) (N:Nat) (e:E) (_:args=[.fz (E.tv e)]) (_:N<=20) (_:Ex R N e) (_:e.cnt<=300000) (_:k (.own (.lst ((cK [] e).map mf))) [.fz (E.tv e)])
noncomputable abbrev nD (e:E):Str×E:=("node",e)
noncomputable abbrev oD (e:E):Str×E:=("opened",e)
noncomputable abbrev cD (e:E):Str×E:=("closed",e)
def i8 (c:E):Wd->List (List (Str×E))->List (Str×E)
 | .lt _,[a,b]=>a++(oD c::(b++[cD c]))
 |_,l=>l.flatten
mutual
noncomputable def stp:E->List (Str×E)
 | .nd w Z=>nD (.nd w Z)::i8 (.nd w Z) w (eO Z)
noncomputable def eO:List E->List (List (Str×E))
 |[]=>[]
 |k::Z=>stp k::eO Z
end
def inr (c:E):Wd->List E->List (Str×E)
 | .lt _,[a,b]=>[nD a,oD c,nD b,cD c]
 |_,Z=>Z.map nD
def fF (p:Str×E):List (Str×E):=if p.1="node" then stp p.2 else [p]
theorem sO (e:E):fF (nD e)=stp e:=rfl
theorem wq:∀Z:List E,(eO Z).flatten=(Z.map nD).flatMap fF
 |[]=>rfl
 |k::Z=>by rw[eO,Ys,Xp,Yt,wq Z];rfl
theorem zm (e:E):fF (oD e)=[oD e]:=Xh (show ¬ ("opened":Str)="node" by decide+kernel)
theorem Ab (e:E):fF (cD e)=[cD e]:=Xh (show ¬ ("closed":Str)="node" by decide+kernel)
theorem EG (w:Wd)(Z:List E):stp (.nd w Z)=nD (.nd w Z)::(inr (.nd w Z) w Z).flatMap fF:=by rw[stp];congr 1;cases w with|lt x=>(match Z with|[a,b]=>simp only [eO,i8,inr,Yt,List.flatMap_nil,sO,zm,Ab];simp|[]=>rfl|[a]=>have:=wq [a];simp only [eO,i8,inr] at this ⊢;exact this|a::b::c::l=>have:=wq (a::b::c::l);simp only [eO,i8,inr] at this ⊢;exact this)|_=>exact wq _
def dT (p:Str×E):Tv:=.tup [ts p.1,E.tv p.2]
mutual
theorem vD:∀e:E,(stp e).length<=3*e.cnt
 | .nd w Z=>by
  have h:=F2 Z;rw[stp,Tree.cnt,Xl];have:(i8 (.nd w Z) w (eO Z)).length<=(eO Z).flatten.length+2:=by cases w with|lt x=>(match eO Z with|[a,b]=>simp [i8];lia|[]=>simp [i8]|[a]=>simp [i8]|a::b::c::l=>simp [i8])|_=>exact Nat.le_add_right _ _
  lia
theorem F2:∀Z:List E,(eO Z).flatten.length<=3*Tree.cntL Z
 |[]=>Xw _
 |k::Z=>by rw[eO,Ys,Xd,Tree.cntL];have:=vD k;have:=F2 Z;lia
end
theorem Nq (p:Str×E):1<=(fF p).length:=by obtain⟨d,e⟩:=p;unfold fF;split;cases e;rw[stp];simp;simp
theorem va:∀l:List (Str×E),l.length<=(l.flatMap fF).length
 |[]=>W9 _
 |p::l=>by rw[Yt,Xl,Xd];have:=Nq p;have:=va l;lia
inductive eJ (args:SA)(k:SK):Prop
 |mk (R:Rl) (N:Nat) (e:E) (_:args=[.fz (E.tv e)]) (_:Ex R N e) (_:e.cnt<=300000) (_:k (.own (.lst ((stp e).map dT))) [.fz (E.tv e)])
def Dd (R:Rl)(p:Str×E):Prop:=(∃N,Ex R N p.2)/\(p.1="node"∨p.1="opened"∨p.1="closed")
theorem Np {w:Wd}(h:Ex R N (.nd w Z)):∀p∈inr (.nd w Z) w Z,Dd R p:=by
 have e:=h;cases h with
 | @mk n _ _ h d=>
  have base:∀p∈Z.map nD,Dd R p:=fun p c=>by obtain⟨k,z,rfl⟩:=XA.mp c;exact⟨⟨n,d k z⟩,.inl rfl⟩
  cases w with|lt x=>(obtain⟨a,b,rfl⟩:=uF h.1;intro p c;simp only [inr,Xj,XO,Yo] at c;rcases c with rfl|rfl|rfl|rfl;exact⟨⟨n,d _ (by simp)⟩,.inl rfl⟩;exact⟨⟨_,e⟩,.inr (.inl rfl)⟩;exact⟨⟨n,d _ (by simp)⟩,.inl rfl⟩;exact⟨⟨_,e⟩,.inr (.inr rfl)⟩)|_=>exact base
abbrev yf:Gm:=GF bH
def Ca (R:Rl)(e:E)(m:Nat)(M:Ms):Prop:=∃(b a:List (Str×E))(c d f:Option Sl),M=⟨[some (.fz (E.tv e)),some (.own (.lst (b.map dT))),some (.own (.lst (a.reverse.map dT))),c,d,f],[],[]⟩/\b++a.flatMap fF=stp e/\(∀p∈a,Dd R p)/\m=(a.flatMap fF).length
theorem BV {o:Option (c × u)}{a:c}{b:u}{k:c -> u -> Prop}(e:o=some (a,b))(h:k a b):iu o k:=by rw[e];exact h
theorem HA {k:List Tv->Ms->Prop}:∀(Z:List E)(a:List Tv)(s:Option Sl),(∀s,k (a++Z.map fun t=>dT (nD t)) ⟨[s],[],[]⟩)->bo (bd (.nm 0)) (aq yf .tt).t (aq yf Gh).e k (E.tvL Z) a ⟨[s],[],[]⟩
 |[],a,s,q=>by have:=q s;rw[Y3,Xm] at this;exact this
 |t::Z,a,s,q=>by show bo _ _ _ _ (E.tvL Z) (a++[dT (nD t)]) _;exact HA Z (a++[dT (nD t)]) _ fun s=>by simpa using q s
theorem QV:∀args k,eJ args k->aD (aB yf GH) (aW args k) (aR 6 args):=by
 rintro args k ⟨R,N,e,rfl,he,I,q⟩;have K:=vD e;refine⟨fun M=>∃(z j n o:Option Sl),M=⟨[some (.fz (E.tv e)),some (.own (.lst ((stp e).map dT))),z,j,n,o],[],[]⟩,⟨Ca R e,⟨_,[],[nD e],none,none,none,rfl,by simp [sO],fun p f=>by rw[XH.mp f];exact⟨⟨N,he⟩,.inl rfl⟩,rfl⟩,?_⟩,?_⟩;rintro m M ⟨i,c,j,n,o,rfl,J,r,rfl⟩;have l1:=Yd List.length J;rw[Xd] at l1;have l2:=va c;match c,r,J,l1,l2 with
 |[],r,J,l1,l2=>rw[List.flatMap_nil,Xm] at J;subst J;exact⟨_,_,_,_,rfl⟩
 | (d,.nd w Z)::c,r,J,l1,l2=>
  rw[show((d,Tree.nd w Z)::c).reverse.map dT=c.reverse.map dT++[dT (d,.nd w Z)] by simp];refine aF (fun g=>?_) (fun g=>absurd (by simp) g);have A:ou (.lst (c.reverse.map dT++[dT (d,.nd w Z)])) []=some (True,.lst (c.reverse.map dT),dT (d,.nd w Z)):=by unfold ou;simp
  generalize c.reverse.map dT++[dT (d,.nd w Z)]=l at A g;refine⟨rfl,BV A ⟨trivial,?_⟩⟩;obtain⟨⟨N',u⟩,hd⟩:=r (d,.nd w Z) W8;have B:∀p∈c,Dd R p:=fun p f=>r p (W7 _ f);have v:(i.map dT).length<16777216:=by rw[Xa];lia
  have C:∀(p:Str×E),fF p=[p]->i++(p::c).flatMap fF=stp e->∀o:Option Sl,∃D,D<((p::c).flatMap fF).length/\Ca R e D ⟨[some (.fz (E.tv e)),some (.own (.lst (i.map dT++[dT p]))),some (.own (.lst (c.reverse.map dT))),some (fs p.1),some (.fz (E.tv p.2)),o],[],[]⟩:=fun p f J o=>
   ⟨(c.flatMap fF).length,by rw[Yt,f];simp,i++[p],c,some (fs p.1),some (.fz (E.tv p.2)),o,by simp,by rw[<- J,Yt,f];simp,B,rfl⟩
  rcases hd with hd|hd|hd;simp only at hd;subst hd;have y:Z.length<=1000:=by cases u with|mk h G=>have:=h.le;lia
  refine⟨rfl,v,rfl,w,Z,rfl,y,by rw[cm];lia,rfl,HA Z [] none fun L=>?_⟩;have hdT:(Z.map fun t=>dT (nD t))=(Z.map nD).map dT:=by rw[Ze];rfl
  rw[XM,hdT];refine⟨fun M=>∃j n:Option Sl,M=⟨[some (.fz (E.tv e)),some (.own (.lst (i.map dT++[dT (nD (.nd w Z))]))),some (.own (.lst (c.reverse.map dT))),j,n,some (.own (.lst ((inr (.nd w Z) w Z).map dT)))],[],[]⟩,?_,?_⟩;cases w with
  |lt x=>
   obtain⟨a,b,rfl⟩:∃a b,Z=[a,b]:=by cases u with|mk h G=>exact uF h.1
   exact⟨_,_,rfl⟩
  |_=>exact⟨_,_,rfl⟩
  rintro M ⟨j,n,rfl⟩;have s:=EG w Z;have F:i++(nD (.nd w Z)::((inr (.nd w Z) w Z).flatMap fF++c.flatMap fF))=stp e:=by rw[<- J,Yt,sO,s];rfl
  have H:=Yd List.length F;have O:=va (inr (.nd w Z) w Z);have P:=va c;simp only [Xd,Xl] at H;refine⟨rfl,?_,(((inr (.nd w Z) w Z)++c).flatMap fF).length,?_,i++[nD (.nd w Z)],inr (.nd w Z) w Z++c,j,n,some (.own (.lst ((inr (.nd w Z) w Z).map dT))),?_,?_,?_,rfl⟩;simp only [Xa,XQ];lia;rw[Yt,sO,s,flatMap_append];simp only [Xd,Xl];lia;rw[show(inr (.nd w Z) w Z++c).reverse.map dT=c.reverse.map dT++((inr (.nd w Z) w Z).map dT).reverse by simp,show(i++[nD (.nd w Z)]).map dT=i.map dT++[dT (nD (.nd w Z))] by simp];rfl;rw[<- F,flatMap_append];simp;intro p f;rcases Xn.mp f with f|f;exact Np u p f;exact B p f;simp only at hd;subst hd;exact⟨rfl,v,C (oD (.nd w Z)) (zm _) J _⟩;simp only at hd;subst hd;exact⟨rfl,v,C (cD (.nd w Z)) (Ab _) J _⟩
 rintro M ⟨z,j,n,o,rfl⟩;exact q
inductive iA:List Str->List (Str×E)->List (E×Int)->Prop where
 |nil {B:List Str}:iA B [] []
 |node {B:List Str} {l:List (Str×E)} {r:List (E×Int)} {w:Wd} {Z:List E} (h:iA B l r):iA B (nD (.nd w Z)::l) ((.nd w Z,cH B.reverse w)::r)
 |opened {B:List Str} {x:Str} {l:List (Str×E)} {r:List (E×Int)} {Z:List E} (h:iA (x::B) l r):iA B (oD (.nd (.lt x) Z)::l) r
 |closed {B:List Str} {x:Str} {l:List (Str×E)} {r:List (E×Int)} {Z:List E} (h:iA B l r):iA (x::B) (cD (.nd (.lt x) Z)::l) r
mutual
theorem u9 {R:Rl}:∀(e:E)(N:Nat)(B:List Str)(l:List (Str×E))(r:List (E×Int)),Ex R N e->iA B l r->iA B (stp e++l) (cK B.reverse e++r)
 | .nd w Z,N,B,l,r,h,q=>by
  cases h with
  | @mk n _ _ h c=>
   have plain:pI B.reverse w=B.reverse->i8 (.nd w Z) w (eO Z)=(eO Z).flatten->iA B (stp (.nd w Z)++l) (cK B.reverse (.nd w Z)++r):=fun d f=>by rw[stp,cK,d,f,XR,XR];exact .node (EF Z n B l r c q)
   cases w with|lt x=>(match Z,h.1,c with|[a,b],_,c=>rw[stp,cK,XR,XR];refine .node ?_;simp only [eO,i8,fZ,pI,Xm];rw[Xy,Xy];refine u9 a n B _ _ (c a (by simp)) ?_;rw[XR,Xy];refine .opened ?_;have:=u9 b n (x::B) (cD (.nd (.lt x) [a,b])::l) r (c b (by simp)) (.closed q);rw[Yr] at this;exact this)|_=>exact plain rfl rfl
theorem EF {R:Rl}:∀(Z:List E)(N:Nat)(B:List Str)(l:List (Str×E))(r:List (E×Int)),(∀k∈Z,Ex R N k)->iA B l r->iA B ((eO Z).flatten++l) (fZ B.reverse B.reverse Z++r)
 |[],N,B,l,r,_,q=>q
 |k::Z,N,B,l,r,h,q=>by rw[eO,Ys,fZ,Xy,Xy];exact u9 k N B _ _ (h k W8) (EF Z N B l r (fun j a=>h j (W7 _ a)) q)
end
theorem Nn {e:E}(h:Ex R N e):iA [] (stp e) (cK [] e):=by have:=u9 e N [] [] [] h .nil;rwa [Xm,Xm] at this
noncomputable def c6:List Str->Str->List Int
 |[],_=>[]
 |b::B,y=>if y=b then c6 B y++[(B.length:Int)] else c6 B y
theorem EE (y:Str):∀B:List Str,(c6 B y).length<=B.length
 |[]=>W9 _
 |b::B=>by have:=EE y B;unfold c6;split;rw[Xd];simp;lia;simp;lia
theorem ixR_no {y:Str}:∀{B:List Str},c6 B y=[]↔y∉B
 |[]=>⟨fun _=>XO,fun _=>rfl⟩
 |b::B=>by
  unfold c6;split
  .next h=>simp [h]
  .next h=>rw[ixR_no,Xj];exact⟨fun z q=>q.elim h z,fun z q=>z (.inr q)⟩
theorem F0 {y:Str}:∀{B:List Str},y∈B->∃l z,c6 B y=l++[z]/\(B.length:Int)-1-z=(pos y B:Nat)
 |b::B,h=>by unfold c6 pos;by_cases e:y=b;rw[Xk e,Xk e.symm];exact⟨_,_,rfl,by simp⟩;rw[Xh e,Xh (fun z=>e z.symm)];obtain⟨l,z,h1,a⟩:=F0 (List.mem_of_ne_of_mem e h);exact⟨l,z,h1,by simp only [Xl];lia⟩
abbrev Mp:=Str->List Int
structure tH (H:Hp)(kvs:List (aj×V))(m:Mp):Prop where
 no:∀x,bw kvs (.inr x)=none->m x=[]
 at1:∀x v,bw kvs (.inr x)=some v->∃a,v=.ref a/\H a=some (.lst ((m x).map V.int))
theorem O0 (v:V)(C:List V):atI (v::C) 0=some v:=E7 (j:=0) rfl
theorem sN (u v:V)(C:List V):atI (u::v::C) 1=some v:=E7 (j:=1) rfl
inductive fJ (K:W.Frag)(C:List V)(H:Hp)(Q:VK):Prop
 |mk (G:Hp) (v:V) (ld:Addr) (w:Wd) (Z:List E) (kvs:List (aj×V)) (B:List Str) (_:C=[v,.ref ld,.int B.length]) (_:Same G H) (_:IsT K G v (Tree.tv Wd.hd (.nd w Z))) (_:H ld=some (.dK kvs)) (_:tH H kvs (c6 B)) (_:Q (.int (cH B.reverse w)) H):fJ K C H Q
def ED (K:W.Frag):Sp:=fun C H Q _=>fJ K C H Q
theorem OZ (w:Wd):∃s r,w.hd=.str s::r/\(s="name"->∃x,w=.name x):=by cases w with|name x=>exact⟨_,_,rfl,fun _=>⟨x,rfl⟩⟩|_=>exact⟨_,_,rfl,fun h=>absurd h (by decide+kernel)⟩
section
abbrev Ak:Stmt:=av 16
abbrev Dl:Stmt:=av 17
theorem OY:aO ["node","lets","level"] ["node","lets","level"] (cO Ak):=⟨rfl,rfl,rfl,by decide+kernel,rfl,by decide+kernel,by decide+kernel⟩
theorem QU {f:Addr}(F:Fun K "own_number" "own_number" Ak f L):FnOk P w K mg base dr 1 f L ["node","lets","level"] (ED K):=by
 refine F.ok OY (fun C H Q E h=>?_) (fun W A outer s H C Q E M h=>?_);obtain⟨G,v,ld,w,Z,kvs,B,rfl,_⟩:=h;rfl
 .obtain⟨G,v,ld,w,Z,kvs,B,rfl,N,y,d,hd,k⟩:=h;have D:(_:Around).units+1<cLine:=Zj (Y6 (by decide) _) M.units;refine'⟨?tt,?body,?a7⟩;case body=>
   refine' gA ?s1 (gM ?s2)
   case s1=>
    refine' u5 ?c (gM ?e1) pss_nil
    case c=>exact(yP (vT CG (oG ix_tup (pv 0) jh (fun _ _=>rfl)) DV (zd _)) (DU (DS (zZ (RV D (pv 1) (oG ix_tup (pv 0) jh (fun _ _=>rfl)) ⟨rfl,rfl,rfl,rfl⟩) (fun _=>rfl))))).pt
    case e1=>exact oN (u4 vw jh)
   case s2=>exact oN (lB ze (lB ze (pv 2) jh) (oG ix_list (zE D (pv 1) (oG ix_tup (pv 0) jh (fun _ _=>rfl)) (fun _ _=>rfl)) (u4 vw jh) (fun _ _=>rfl)))
  case a7=>
   obtain⟨s0,X,j,o⟩:=OZ w;rw[Tree.tv,j] at y
   cases y with
   | @tup a C _ O p=>
    cases p with
    | @cons Y vr _ _ R S=>
     cases R;have i:=N _ _ O;refine⟨_,rfl,a,_,_,_,rfl,rfl,SqT.of i,O0 _ _,rfl,_,rfl,aF (fun g=>?_) (fun g=>?_)⟩
     .have r:s0≠"name":=fun z=>by
       subst z;exact absurd g (by decide+kernel)
      have e:cH B.reverse w=-1:=by
       cases w with
       |name x=>exfalso;rw[Wd.hd] at j;injection j with h1 I;injection h1 with h1;exact r h1.symm
       |_=>rfl
      rw[e] at k;exact AW ⟨_,rfl,k⟩
     .have he:s0="name":=by
       by_cases z:s0="name"
       .exact z
       .exfalso;refine g ?_;have:¬V.str s0=V.str "name":=fun q=>z (by injection q);simp [this]
      obtain⟨x,rfl⟩:=o he;rw[Wd.hd] at j;injection j with h1 I;subst I
      cases S with
      | @cons v2 T _ _ U c4=>
       cases U
       cases m:bw kvs (.inr x) with
       |none=>
        refine⟨_,rfl,ld,rfl,.inl ⟨kvs,.inl d⟩,_,rfl,a,_,_,_,rfl,rfl,SqT.of i,sN _ _ _,none,?_,false,rfl,?_⟩
        .rw[<- m];exact DGet.k (k:=.inr x) d
        .have e:cH B.reverse (.name x)=-1:=Xh fun z=>ixR_no.mp (hd.no x m) (Zn.mp z);rw[e] at k;exact AW ⟨_,rfl,k⟩
       |some u=>
        obtain⟨b,rfl,t⟩:=hd.at1 x u m;refine⟨_,rfl,ld,rfl,.inl ⟨kvs,.inl d⟩,_,rfl,a,_,_,_,rfl,rfl,SqT.of i,sN _ _ _,some (.ref b),?_,!((c6 B x).map V.int).isEmpty,.inl ⟨_,SqL.of t,rfl⟩,?_⟩
        .rw[<- m];exact DGet.k (k:=.inr x) d
        .by_cases n:x∈B
         .obtain⟨l,z,J,hz⟩:=F0 n
          have e:cH B.reverse (.name x)=(B.length:Int)-1-z:=by rw[hz];show(if x∈B.reverse then ((pos x B.reverse.reverse:Nat):Int) else -1)=_;rw[Xk (Zn.mpr n),reverse_reverse]
          rw[e] at k;rw[J,Xq] at t;have r:(!((c6 B x).map V.int).isEmpty)=true:=by rw[J];simp
          rw[r];refine V0 ?_;refine⟨_,rfl,_,_,rfl,rfl,_,rfl,_,rfl,a,_,_,_,rfl,rfl,SqT.of i,sN _ _ _,ld,.ref b,rfl,?_,_,rfl,b,_,_,_,rfl,rfl,SqL.of t,RY _ _,_,_,rfl,rfl,k⟩;rw[<- m];exact DGet.k (k:=.inr x) d
         .have e:cH B.reverse (.name x)=-1:=Xh fun z=>n (Zn.mp z);rw[e] at k;rw[ixR_no.mpr n];exact AW ⟨_,rfl,k⟩
end
structure Lt (H0:Hp)(ra wk:Addr)(H:Hp)(kvs:List (aj×V))(m:Mp):Prop where
 d:tH H kvs m
 fr:∀x a,bw kvs (.inr x)=some (.ref a)->H0 a=none/\a≠ra/\a≠wk
 inj:∀x y a,bw kvs (.inr x)=some (.ref a)->bw kvs (.inr y)=some (.ref a)->x=y
noncomputable def push (m:Mp)(x:Str)(L:Int):Mp:=fun y=>if y=x then m x++[L] else m y
section
variable {H0:Hp}{M wk:Addr}{kvs:List (aj×V)}{m:Mp}
theorem Lt.mono (h:Lt H0 M wk H kvs m)(s:∀a xs,a≠M->H a=some (.lst xs)->H' a=some (.lst xs)):Lt H0 M wk H' kvs m:=⟨⟨h.d.no,fun x v e=>by
  obtain⟨a,rfl,b⟩:=h.d.at1 x v e
  exact⟨a,rfl,s _ _ (h.fr x a e).2.1 b⟩⟩,h.fr,h.inj⟩
theorem Lt.eqm (h:Lt H0 M wk H kvs m){a:Mp}(e:∀x,m x=a x):Lt H0 M wk H kvs a:=(funext e:m=a)▸h
theorem Lt.set (h:Lt H0 M wk H kvs m){x:Str}{a:Addr}(e:bw kvs (.inr x)=some (.ref a))(c:List Int):Lt H0 M wk (ak H a (.lst (c.map V.int))) kvs (fun y=>if y=x then c else m y):=by
 refine⟨⟨fun y q=>?_,fun y v q=>?_⟩,h.fr,h.inj⟩;have:y≠x:=fun z=>by rw[z,e] at q;cases q
 simp only [Xh this];exact h.d.no y q;obtain⟨b,rfl,f⟩:=h.d.at1 y v q;refine⟨b,rfl,?_⟩;by_cases z:y=x;subst z;rw[e] at q;cases q;simp only [Zf];exact aJ;have g:b≠a:=fun w=>z (h.inj y x a (by rw[q,w]) e);simp only [Xh z];rw[ay g];exact f
theorem Lt.new (h:Lt H0 M wk H kvs m){x:Str}{q:Addr}{L:Int}(e:bw kvs (.inr x)=none)(n:H q=none)(o:H0 q=none)(n1:q≠M)(p:q≠wk)
  (r:H' q=some (.lst [.int L])) (s:∀a xs,a≠q->H a=some (.lst xs)->H' a=some (.lst xs)):Lt H0 M wk H' (cf kvs (.inr x) (.ref q)) (push m x L):=by
 have g:∀y a,y≠x->bw (cf kvs (.inr x) (.ref q)) (.inr y)=some (.ref a)->bw kvs (.inr y)=some (.ref a):=fun y a c z=>by rw[qh,Xh (fun w=>c (by injection w))] at z;exact z
 have k:∀y a,bw kvs (.inr y)=some (.ref a)->a≠q:=fun y a z w=>by obtain⟨b,t,l⟩:=h.d.at1 y _ z;cases t;rw[w,n] at l;cases l
 refine⟨⟨fun y z=>?_,fun y v z=>?_⟩,fun y a z=>?_,fun y f a z j=>?_⟩
 .rw[qh] at z
  split at z
  .cases z
  .next w=>
   have:y≠x:=fun u=>w (by rw[u]);unfold push;rw[Xh this];exact h.d.no y z
 .rw[qh] at z
  split at z
  .next w=>
   cases z;have:y=x:=by injection w
   subst this;refine⟨q,rfl,?_⟩;unfold push;rw[Xk rfl,h.d.no y e];exact r
  .next w=>
   have c:y≠x:=fun u=>w (by rw[u]);obtain⟨b,rfl,A⟩:=h.d.at1 y v z;refine⟨b,rfl,?_⟩;unfold push;rw[Xh c];exact s _ _ (k y b z) A
 .by_cases c:y=x
  .subst c;rw[qh,Xk rfl] at z;cases z;exact⟨o,n1,p⟩
  .exact h.fr y a (g y a c z)
 .by_cases c:y=x
  .by_cases i:f=x
   .rw[c,i]
   .exfalso;have:=g f a i j;rw[c,qh,Xk rfl] at z;cases z;exact k f q this rfl
  .by_cases i:f=x
   .exfalso;have:=g y a c z;rw[i,qh,Xk rfl] at j;cases j;exact k y q this rfl
   .exact h.inj y f a (g y a c z) (g f a i j)
end
theorem FZ (B:List Str)(x:Str)(y:Str):push (c6 B) x B.length y=c6 (x::B) y:=by
 unfold push;rw[c6];split
 .next h=>rw[h]
 rfl
noncomputable def GT (G H:Hp):Hp:=fun a=>match H a with
 |some (.tup C)=>some (.tup C)
 |_=>G a
theorem GT.tup {G H:Hp}{a:Addr}{C:List V}(h:H a=some (.tup C)):GT G H a=some (.tup C):=by unfold GT;rw[h]
theorem GT.of (s:Same G H):Same G (GT G H):=fun a o e=>by
 unfold GT;rw[s _ _ e];split
 .next h=>exact h.symm
 exact e
theorem GT.sub (s:Same G H):Same (GT G H) H:=fun a o e=>by
 unfold GT at e;split at e
 .next h=>rw[h];exact e
 exact s _ _ e
theorem GT.mono (s:Same G H')(t:∀a C,H a=some (.tup C)->H' a=some (.tup C)):Same (GT G H) (GT G H'):=fun a o e=>by
 unfold GT at e;split at e
 .next C h=>cases e;exact GT.tup (t _ _ h)
 exact GT.of s _ _ e
structure Ow (K:W.Frag)(G H1:Hp)(ra wk ld:Addr)(i:Nat)(B:List Str)(dn:List (E×Int))(H:Hp)(gf:List V)(kvs:List (aj×V)):Prop where
 kp:∀a o,H1 a=some o->a≠ra->a≠ld->H a=some o
 rows:H ra=some (.lst gf)
 len:gf.length<=i
 rth:IsTs K (GT G H) gf (dn.map mf)
 dict:H ld=some (.dK kvs)
 few:kvs.length<=i
 lt:Lt H1 ra wk H kvs (c6 B)
 lens:B.length<=i
theorem UG (i:Int):mj (.int i)=true:=rfl
section
theorem scOwned:aO ["e","rows","lets","level","deed","node"] ["e"] (cO Dl):=⟨rfl,rfl,rfl,by decide+kernel,rfl,by decide+kernel,by decide+kernel⟩
theorem QT {k:Nat}{f fO:Addr}{dO:FuncData}(F:Fun K "owned" "owned" Dl f L)(hS:Fk P w K mg base k ("steps",eJ))(O:Fun K "own_number" "own_number" Ak fO dO)(bO:Binds K dO ["node","lets","level"] [])(mO:mg "own_number"=some (.ref fO))
  (hN:∃tk,mg "NODE"=some (.str "node" tk)) (hO:∃tk,mg "OPENED"=some (.str "opened" tk)) (L7:1<=k):FnOk P w K mg base dr (k+1) f L ["e"] (ff K di):=by
 obtain⟨j,fS,dS,pS,GS,hj,mS,kS,bS⟩:=hS;have GO:FnOk P w K mg base dr 1 fO dO ["node","lets","level"] (ED K):=QU O;obtain⟨tn,hNode⟩:=hN;obtain⟨to,hOpen⟩:=hO;refine F.ok scOwned (fun C H Q E0 h=>?_) (fun bZ A outer s H C Q E0 hr h=>?_)
 .obtain⟨G,args,as,K0,_,ha,_,⟨R,N,e,rfl,_⟩,_⟩:=h
  cases ha with
  |fz _ r=>cases r;rfl
 .obtain⟨G,args,as,K0,sm,ha,pC,⟨R,N,e,rfl,hN20,hex,hcn,hK0⟩,D⟩:=h
  cases ha with
  | @fz _ _ v _ _ ht r=>
  cases r;have hsz:=XD;have hr1:Room 1 _:=hr.mono L7;have hr2:Room j _:=hr.mono hj;have ue:(_:Around).units+1<cLine:=Zj (Y6 (by decide) _) hr1.units;refine'⟨?tt,?body,?a7⟩
  case body=>
   refine' gA ?s1 ?r1
   case s1=>exact jV (i:=1) scOwned.nd rfl (Or.inl rfl) (mY pa_nil)
   case r1=>
    refine' gA ?s2 ?r2
    case s2=>exact jV (i:=2) scOwned.nd rfl (Or.inl rfl) pe_dnewK
    case r2=>
     refine' gA ?s3 ?r3
     case s3=>exact jV (i:=3) scOwned.nd rfl (Or.inl rfl) jh
     case r3=>
      refine' gA ?s4 (gM ?s5)
      case s4=>
       refine' vz PassesOwn.never rfl (Ff (kr GS hr2 (by rfl) mS kS bS .nil jT (eV (pv 0) pa_nil))) (zf rfl (sZ (m9 (i:=4) scOwned.nd rfl (Or.inl rfl)) (sZ (m9 (i:=5) scOwned.nd rfl (Or.inl rfl)) pgs_nil))) (gM ?b)
       case b=>
        refine' u5 ?c (gM ?e1) (gM ?e2)
        case c=>exact vT yO (pv 4) (zG (v:=.str "node") (by rfl) hNode ⟨tn,rfl⟩) (zd _)
        case e1=>
         refine' sR ?m
         case m=>
          refine' pX X0 Zc Zb wB (pv 1) ?a
          case a=>
           refine' VZ (vt ?z) pa_nil
           case z=>exact eV (pv 5) (uL (kr GO hr1 (by rfl) mO O.kp bO .nil jT (eV (pv 5) (eV (pv 2) (eV (pv 3) pa_nil)))) pa_nil)
        case e2=>
         refine' u5 ?c2 (gA ?e3 (gM ?e4)) (gA ?e5 (gM ?e6))
         case c2=>exact vT yO (pv 4) (zG (v:=.str "opened") (by rfl) hOpen ⟨to,rfl⟩) (zd _)
         case e3=>
          refine' sR ?m3
          case m3=>
           refine' pX X0 Zc Zb wB ?o3 ?a3
           case o3=>exact RM (pv 2) (oG ix_tup (pv 5) jh (fun _ _=>rfl)) (mY pa_nil) ⟨rfl,rfl,rfl,rfl⟩
           case a3=>exact eV (pv 3) pa_nil
         case e4=>exact DO (i:=3) scOwned.nd rfl (Or.inl rfl) jh Ot
         case e5=>
          refine' sR ?m5
          case m5=>
           refine' DI X0 PySem.F.slot_list_pop PySem.F.type_list_pop DH ?o5
           case o5=>exact zE ue (pv 2) (oG ix_tup (pv 5) jh (fun _ _=>rfl)) (fun _ _=>rfl)
         case e6=>exact DO (i:=3) scOwned.nd rfl (Or.inl rfl) jh Oq
      case s5=>exact oN (pv 1)
  case a7=>
   refine⟨Xw _,fun n pz=>?_⟩;intro ld hld;have z1:=c9 (o:=.lst []) pz;have z2:=c9 (o:=.dK []) hld;have za:=z1.trans z2;have kW:H ld=none:=Ha z1 hld;have rj:n≠ld:=fun z=>by rw[<- z,aJ] at hld;cases hld
   refine⟨_,rfl,G,[.fz (E.tv e)],[],fun r ss=>r=.own (.lst ((stp e).map dT)),sm.trans za,.fz ht .nil,.nil,⟨R,N,e,rfl,hex,hcn,rfl⟩,fun r ss v' W X nM post aps nu=>?_⟩;subst nM;obtain⟨wk,rfl,hwk,⟨ws,L1,hws⟩,hwg⟩:=nu;have U:Same _ X:=fun a o e=>post.k a o e (by simp);have R1:X n=some (.lst []):=U _ _ (z2 _ _ aJ);have D1:X ld=some (.dK []):=U _ _ aJ;have By:wk≠n:=fun z=>by rw[z,z2 _ _ aJ] at hwk;cases hwk
   have Bz:wk≠ld:=fun z=>by rw[z,aJ] at hwk;cases hwk
   have uq:W n=none:=by cases eg:W n with|none=>rfl|some o=>exfalso;rcases post.d n o eg with h|h|h|h;rw[sm _ _ h] at pz;cases pz;rw[z2 _ _ aJ] at h;cases h;cases h;have:=post.s _ _ eg;rw[R1] at this;cases this;exact h
   have xU:W ld=none:=by cases eg:W ld with|none=>rfl|some o=>exfalso;rcases post.d ld o eg with h|h|h|h;rw[sm _ _ h] at kW;cases kW;rw[aJ] at h;cases h;cases h;have:=post.s _ _ eg;rw[D1] at this;cases this;exact h
   have hwl:=IsTs.len hws;rw[Xa] at hwl;have hls:=vD e;have eu:∀{M:Hp},(∀a o,X a=some o->a≠n->a≠ld->M a=some o)->Same W M:=fun kp a o e=>kp a o (post.s _ _ e) (fun z=>by rw[z,uq] at e;cases e) (fun z=>by rw[z,xU] at e;cases e)
   refine⟨wk,rfl,⟨_,SqL.of L1⟩,Gx (K:=K) (a:=wk) (xs:=ws) (fun i σ H'=>∃(B:List Str)(dn rr:List (E×Int))(Y:List V)(kvs:List (aj×V))(o4 o5:Option V),σ=[some v,some (.ref n),some (.ref ld),some (.int B.length),o4,o5]/\iA B ((stp e).drop i) rr/\dn++rr=cK [] e/\Ow K W X n wk ld i B dn H' Y kvs)
    ⟨[],[],cK [] e,[],[],none,none,rfl,Nn hex,rfl,⟨fun a o e _ _=>e,R1,W9 _,.nil,D1,W9 _,⟨⟨fun x _=>rfl,fun x v e=>(by cases e)⟩,fun x a e=>(by cases e),fun x y a e=>(by cases e)⟩,Xw _⟩⟩ (fun i σ H' _ z0=>by obtain⟨_,_,_,_,_,_,_,_,_,_,S⟩:=z0;exact SqL.of (S.kp _ _ L1 By Bz)) ?_ ?_⟩
   .rintro i x σ M hx ⟨B,dn,rr,Y,kvs,o4,o5,rfl,l,T,S⟩
    have sG:Same W M:=eu S.kp;have WR:i<ws.length:=(Xe.mp hx).1;have iL:i<(stp e).length:=by lia
    have J:i<900000:=by lia
    have hl1:=S.len;have hf1:=S.few;have hB1:=S.lens;have hdi:=List.drop_eq_getElem_cons iL;rw[hdi] at l;have iH:IsT K W x (dT (stp e)[i]):=by obtain⟨x',e1,e2⟩:=IsTs.get (i:=i) hws (t:=dT (stp e)[i]) (by rw[XG,Xc iL];rfl);rw[hx] at e1;cases e1;exact e2
    generalize (stp e)[i]=p at l iH;generalize u:(stp e).drop (i+1)=I at l;have tT:∀{H3:Hp},Same W H3->(∀c C,M c=some (.tup C)->H3 c=some (.tup C))->IsTs K (GT W H3) Y (dn.map mf):=fun s t=>S.rth.mono (GT.mono s t)
    cases l with
    | @node _ _ r w Z l=>
     obtain⟨a,v1,v2,vr2,rfl,ha,c1,c3,c4⟩:=iH.tw;cases c4;cases c1;refine⟨a,[.str "node",v2],rfl,SqT.of (sG _ _ ha),rfl,_,_,rfl,_,_,rfl,rfl,?_⟩;refine⟨_,rfl,rfl,_,rfl,aF (fun g=>?_) (fun g=>absurd (by decide+kernel) g)⟩;refine⟨_,rfl,.inl ⟨rfl,_,SqL.of S.rows⟩,_,rfl,?_⟩;refine⟨_,rfl,_,rfl,_,rfl,W,v2,ld,w,Z,kvs,B,rfl,sG,c3,S.dict,S.lt.d,?_⟩;refine⟨(by show 2<=sizeLine;decide),fun q D=>?_⟩;have s3:=c9 (o:=.tup [v2,.int (cH B.reverse w)]) D;have ug:n≠q:=bL S.rows D;have R3:=s3 _ _ S.rows;refine⟨n,Y,_,rfl,rfl,R3,(by lia),B,dn++[(.nd w Z,cH B.reverse w)],r,Y++[.ref q],kvs,_,_,rfl,u▸l,by rw[<- T];simp,?_⟩;have jC:∀a o,X a=some o->a≠n->a≠ld->ak (ak M q (.tup [v2,.int (cH B.reverse w)])) n (.lst (Y++[.ref q])) a=some o:=fun a o e1 e2 e3=>by rw[ay e2];exact s3 _ _ (S.kp a o e1 e2 e3)
     have q3:ak (ak M q (.tup [v2,.int (cH B.reverse w)])) n (.lst (Y++[.ref q])) q=some (.tup [v2,.int (cH B.reverse w)]):=by rw[ay ug.symm];exact aJ
     have sG3:=eu jC;refine⟨jC,aJ,by rw[Xd];simp;lia,?_,?_,by lia,?_,by lia⟩
     .rw[Xq];refine IsTs.app (tT sG3 fun c C e=>?_) (.cons (.tup (GT.tup q3) (.cons (c3.mono (GT.of sG3)) (.cons (.at (UG _)) .nil))) .nil);rw[ay (fun z=>by rw[z,S.rows] at e;cases e)];exact s3 _ _ e
     .rw[ay rj.symm];exact s3 _ _ S.dict
     .refine S.lt.mono fun b xs hb e=>?_;rw[ay hb];exact s3 _ _ e
    | @opened _ x _ r Z l=>
     obtain⟨a,v1,v2,vr2,rfl,ha,c1,c3,c4⟩:=iH.tw;cases c4;cases c1;obtain⟨an,vh,vh2,vr2,rfl,han,d1,d3,d4⟩:=c3.tw;cases d1;cases d3;have han2:=sG _ _ han;refine⟨a,[.str "opened",.ref an],rfl,SqT.of (sG _ _ ha),rfl,_,_,rfl,_,_,rfl,rfl,?_⟩;refine⟨_,rfl,rfl,_,rfl,aF (fun g=>absurd g (by decide+kernel)) (fun g=>?_)⟩;refine⟨_,rfl,rfl,_,rfl,aF (fun g2=>?_) (fun g2=>absurd (by decide+kernel) g2)⟩;refine⟨_,rfl,ld,rfl,.inl ⟨kvs,.inl S.dict⟩,_,rfl,an,_,_,_,rfl,rfl,SqT.of han2,sN _ _ _,Xw _,fun q D=>?_⟩;have s3:=c9 (o:=.lst []) D;refine⟨kvs,.inr x,s3 _ _ S.dict,rfl,(by lia),fun v' hv=>?_,fun hv=>?_⟩
     .obtain⟨b,rfl,hb⟩:=S.lt.d.at1 x v' hv
      have hb3:=s3 _ _ hb;have hf:=S.lt.fr x b hv;have hlen:=EE x B;refine⟨.inl ⟨rfl,_,SqL.of hb3⟩,_,rfl,b,_,_,rfl,rfl,hb3,(by rw[Xa];lia),?_⟩;refine⟨_,rfl,_,_,rfl,rfl,x::B,dn,rr,Y,kvs,_,_,rfl,u▸l,T,?_⟩;have jC:∀a o,X a=some o->a≠n->a≠ld->ak (ak M q (.lst [])) b (.lst ((c6 B x).map V.int++[.int B.length])) a=some o:=fun a o e1 e2 e3=>by rw[ay (bL e1 hf.1)];exact s3 _ _ (S.kp a o e1 e2 e3)
      refine⟨jC,?_,by lia,tT (eu jC) (fun c C e=>?_),?_,by lia,?_,by simp;lia⟩
      .rw[ay hf.2.1.symm];exact s3 _ _ S.rows
      .rw[ay (fun z=>by rw[z,hb] at e;cases e)];exact s3 _ _ e
      .rw[ay (so (s3 _ _ S.dict) hb3 (by intro q;cases q))];exact s3 _ _ S.dict
      .have l3:Lt X n wk (ak M q (.lst [])) kvs (c6 B):=S.lt.mono fun c xs _ e=>s3 _ _ e;have:=l3.set hv (c6 B x++[(B.length:Int)]);rw[Xq] at this;exact this.eqm fun y=>FZ B x y
     .have iJ:X q=none:=by
       cases e1:X q with
       |none=>rfl
       |some o=>
        exfalso
        by_cases z1:q=n
        .rw[z1,S.rows] at D;cases D
        by_cases z2:q=ld
        .rw[z2,S.dict] at D;cases D
        rw[S.kp _ _ e1 z1 z2] at D;cases D
      have ug:q≠n:=(bL S.rows D).symm;have LR:q≠wk:=(bL (S.kp _ _ L1 By Bz) D).symm;have BD:q≠ld:=(bL S.dict D).symm;have q3:ak (ak M q (.lst [])) ld (.dK (cf kvs (.inr x) (.ref q))) q=some (.lst []):=by rw[ay BD];exact aJ
      refine⟨.inl ⟨rfl,_,SqL.of q3⟩,_,rfl,q,_,_,rfl,rfl,q3,(by show 0<sizeLine;lia),?_⟩;refine⟨_,rfl,_,_,rfl,rfl,x::B,dn,rr,Y,cf kvs (.inr x) (.ref q),_,_,rfl,u▸l,T,?_⟩;have hpk:=qp kvs (Sum.inr x:aj) (.ref q);have jC:∀a o,X a=some o->a≠n->a≠ld->ak (ak (ak M q (.lst [])) ld (.dK (cf kvs (.inr x) (.ref q)))) q (.lst ([]++[.int B.length])) a=some o:=fun a o e1 e2 e3=>by rw[ay (bL e1 iJ),ay e3];exact s3 _ _ (S.kp a o e1 e2 e3)
      refine⟨jC,?_,by lia,tT (eu jC) (fun c C e=>?_),?_,by lia,?_,by simp;lia⟩
      .rw[ay ug.symm,ay rj];exact s3 _ _ S.rows
      .rw[ay (bL e D),ay (fun z=>by rw[z,S.dict] at e;cases e)];exact s3 _ _ e
      .rw[ay BD.symm];exact aJ
      .refine Lt.eqm (S.lt.new hv D iJ ug LR aJ fun c xs hc e=>?_) (fun y=>FZ B x y);rw[ay hc,ay (so e S.dict (by intro q;cases q))];exact s3 _ _ e
    | @closed B x _ r Z l=>
     obtain⟨a,v1,v2,vr2,rfl,ha,c1,c3,c4⟩:=iH.tw;cases c4;cases c1;obtain⟨an,vh,vh2,vr2,rfl,han,d1,d3,d4⟩:=c3.tw;cases d1;cases d3;have han2:=sG _ _ han;refine⟨a,[.str "closed",.ref an],rfl,SqT.of (sG _ _ ha),rfl,_,_,rfl,_,_,rfl,rfl,?_⟩;refine⟨_,rfl,rfl,_,rfl,aF (fun g=>absurd g (by decide+kernel)) (fun g=>?_)⟩;refine⟨_,rfl,rfl,_,rfl,aF (fun g2=>absurd g2 (by decide+kernel)) (fun g2=>?_)⟩;have iK:c6 (x::B) x=c6 B x++[(B.length:Int)]:=Xk rfl
     cases hv:bw kvs (.inr x) with
     |none=>have:=S.lt.d.no x hv;rw[iK] at this;simp at this
     |some v'=>
      obtain⟨b,rfl,hb⟩:=S.lt.d.at1 x v' hv;have hf:=S.lt.fr x b hv;rw[iK,Xq] at hb;refine⟨_,rfl,_,rfl,an,_,_,_,rfl,rfl,SqT.of han2,sN _ _ _,ld,.ref b,rfl,?_,.inl ⟨rfl,_,SqL.of hb⟩,b,_,.int B.length,rfl,rfl,hb,?_,?_⟩
      .rw[<- hv];exact DGet.k (k:=.inr x) S.dict
      .simp
      have Mz:((x::B).length:Int)-1=B.length:=by simp
      refine⟨_,rfl,_,_,rfl,rfl,B,dn,rr,Y,kvs,some (.str "closed"),some (.ref an),by
       show[some v,some (V.ref n),some (V.ref ld),some (V.int (((x::B).length:Int)-1)),some (V.str "closed"),some (V.ref an)]=_
       rw[Mz],u▸l,T,?_⟩
      have k9:((c6 B x).map V.int++[(B.length:Int)].map V.int).dropLast=(c6 B x).map V.int:=by simp
      rw[k9];have jC:∀a o,X a=some o->a≠n->a≠ld->ak M b (.lst ((c6 B x).map V.int)) a=some o:=fun a o e1 e2 e3=>by rw[ay (bL e1 hf.1)];exact S.kp a o e1 e2 e3
      refine⟨jC,?_,by lia,tT (eu jC) (fun c C e=>?_),?_,by lia,?_,by simp at hB1;lia⟩
      .rw[ay hf.2.1.symm];exact S.rows
      .rw[ay (fun z=>by rw[z,hb] at e;cases e)];exact e
      .rw[ay (so S.dict hb (by intro q;cases q))];exact S.dict
      .exact(S.lt.set hv (c6 B x)).eqm fun y=>by show(if y=x then c6 B x else (if y=x then _ else _))=_;by_cases z:y=x;rw[Xk z,z];rw[Xh z,Xh z]
   .rintro σ M ⟨B,dn,rr,Y,kvs,o4,o5,rfl,l,T,S⟩
    have sG:Same W M:=eu S.kp;rw[hwl,List.drop_length] at l;cases l;rw[Xm] at T;subst T;refine⟨_,rfl,D _ _ (.ref n) (GT W M) M hK0 ⟨post.g.trans (GT.of sG),GT.sub sG,fun a o e _=>?_,fun a o e=>?_,fun a o e=>⟨o,?_⟩⟩ (.fz .nil) ⟨n,rfl,pz,⟨Y,S.rows,S.rth⟩,?_⟩⟩
    .exact S.kp a o (U _ _ (za _ _ e)) (bL e pz) (bL e kW)
    .unfold GT at e
     split at e
     .cases e;exact .inr (.inr (.inr trivial))
     .rcases post.d a o e with h|h|h|h
      .exact .inl h
      .exact .inr (.inl (Ha za h))
      .cases h
      .exact .inr (.inr (.inr h))
    .exact S.kp a o (U _ _ (za _ _ e)) (bL e pz) (bL e kW)
    .unfold GT;rw[S.rows];exact uq
end
noncomputable def dQ (l:List (Str×E)):List E:=(l.filter fun p=>decide (p.1=("node":Str))).map (·.2)
theorem qe (a b:List (Str×E)):dQ (a++b)=dQ a++dQ b:=by simp [dQ]
theorem B9 (e:E):dQ [oD e]=[]:=by simp [dQ];decide+kernel
theorem B8 (e:E):dQ [cD e]=[]:=by simp [dQ];decide+kernel
theorem B7 (e:E)(l:List (Str×E)):dQ (nD e::l)=e::dQ l:=by simp [dQ]
theorem QS (d:E)(w:Wd)(L:List (List (Str×E))):dQ (i8 d w L)=dQ L.flatten:=by cases w with|lt x=>(match L with|[a,b]=>show dQ (a++([oD d]++(b++[cD d])))=_;rw[qe,qe,qe,B9,B8];simp [dQ]|[]=>rfl|[a]=>rfl|a::b::c::l=>rfl)|_=>rfl
mutual
theorem Dk:∀e:E,dQ (stp e)=e.all
 | .nd w Z=>by rw[stp,B7,QS,EC Z,Tree.all]
theorem EC:∀Z:List E,dQ (eO Z).flatten=Tree.allL Z
 |[]=>rfl
 |k::Z=>by rw[eO,Ys,qe,Dk k,EC Z,Tree.allL]
end
theorem OX {d:E}{w:Wd}{p:Str×E}(h:p∈inr d w Z):(∃k∈Z,p=nD k)∨p=oD d∨p=cD d:=by
 have base:p∈Z.map nD->∃k∈Z,p=nD k:=fun e=>by obtain⟨k,z,rfl⟩:=XA.mp e;exact⟨k,z,rfl⟩
 cases w with|lt x=>(match Z,h,base with|[a,b],h,_=>(simp only [inr,Xj,XO,Yo] at h;rcases h with rfl|rfl|rfl|rfl;exact .inl ⟨a,by simp,rfl⟩;exact .inr (.inl rfl);exact .inl ⟨b,by simp,rfl⟩;exact .inr (.inr rfl))|[],h,base=>exact .inl (base h)|[a],h,base=>exact .inl (base h)|a::b::c::l,h,base=>exact .inl (base h))|_=>exact .inl (base h)
theorem Nl {e:E}(h:Ex R N e):∀p∈stp e,Dd R p:=by induction h with| @mk n w Z h b d=>intro p a;have c:Ex R (n+1) (.nd w Z):=.mk h b;rw[EG] at a;rcases Xj.mp a with rfl|a;exact⟨⟨_,c⟩,.inl rfl⟩;obtain⟨q,f,a⟩:=List.mem_flatMap.mp a;rcases OX f with ⟨k,b,rfl⟩|rfl|rfl;rw[sO] at a;exact d k b p a;rw[zm] at a;rw[XH.mp a];exact⟨⟨_,c⟩,.inr (.inl rfl)⟩;rw[Ab] at a;rw[XH.mp a];exact⟨⟨_,c⟩,.inr (.inr rfl)⟩
def j9:E->Tv
 | .nd w Z=>.tup [.tup (w.hd.map Tv.at),ti Z.length]
inductive ju (args:SA)(k:SK):Prop
 |mk (R:Rl) (N:Nat) (e:E) (_:args=[.fz (E.tv e)]) (_:Ex R N e) (_:e.cnt<=300000) (_:k (.own (.lst (e.all.map j9))) [.fz (E.tv e)])
abbrev yi:Gm:=ES eJ bH eL
theorem wm {k:List Tv->Ms->Prop}:∀(l:List (Str×E))(a:List E)(s0 U:Option Sl),(∀p∈l,Dd R p)->(∀s0 U,k ((a++dQ l).map j9) ⟨[s0,U],[],[]⟩)->bo (bd (.cons (.nm 0) (.cons (.nm 1) .nil))) (aq yi (.cmp .eq (.var 0) (.glb 0))).t (aq yi EU).e k (l.map dT) (a.map j9) ⟨[s0,U],[],[]⟩
 |[],a,s0,U,_,q=>by have:=q s0 U;rw[show dQ []=[] from rfl,Xm] at this;exact this
 | (d,.nd w Z)::l,a,s0,U,h,q=>by
  obtain⟨⟨n,f⟩,hd⟩:=h _ W8;have b:∀p∈l,Dd R p:=fun p g=>h p (W7 _ g);have c:Z.length<=1000:=by cases f with|mk h j=>have:=h.le;lia
  rcases hd with hd|hd|hd <;> simp only at hd <;> subst hd
  refine⟨rfl,w,Z,rfl,c,rfl,w,Z,rfl,c,?_⟩;have i:((E.tvL Z).length:Int)=Z.length:=by rw[cm]
  show bo _ _ _ _ (l.map dT) (a.map j9++[.tup [.tup (w.hd.map Tv.at),ti (E.tvL Z).length]]) _;rw[i,show a.map j9++[.tup [.tup (w.hd.map Tv.at),ti Z.length]]=(a++[(Tree.nd w Z:E)]).map j9 by simp [j9]];exact wm l _ _ _ b fun s0 U=>by have:=q s0 U;rw[B7] at this;simpa using this
  exact wm l a _ _ b fun s0 U=>by have:=q s0 U;rw[show dQ ((Str.ofString "opened",Tree.nd w Z)::l)=dQ l from by rw[show(Str.ofString "opened",Tree.nd w Z)::l=[oD (.nd w Z)]++l from rfl,qe,B9];rfl] at this;exact this
  exact wm l a _ _ b fun s0 U=>by have:=q s0 U;rw[show dQ ((Str.ofString "closed",Tree.nd w Z)::l)=dQ l from by rw[show(Str.ofString "closed",Tree.nd w Z)::l=[cD (.nd w Z)]++l from rfl,qe,B8];rfl] at this;exact this
theorem OW:∀args k,ju args k->aD (aB yi ET) (aW args k) (aR 1 args):=by rintro args k ⟨R,N,e,rfl,he,a,q⟩;have b:=vD e;refine⟨rfl,R,N,e,rfl,he,a,by rw[Xa];lia,rfl,wm (stp e) [] none none (Nl he) fun s0 U=>?_⟩;rw[XM,Dk];exact q
inductive fL (args:SA)(k:SK):Prop
 |mk (R:Rl) (N:Nat) (e:E) (_:args=[.fz (E.tv e)]) (_:Ex R N e) (_:e.cnt<=300000) (_:k (.own (.lst (e.all.map fun x=>tk x.cnt))) [.fz (E.tv e)])
abbrev BQ:Gm:=JP ju
def kb (e:Sl)(C D:List Nat)(s:Option Sl×Option Sl×Option Sl×Option Sl):Ms:=⟨[some e,some (.own (.lst (C.map tk))),some (.own (.lst (D.map tk))),s.1,s.2.1,s.2.2.1,s.2.2.2],[],[]⟩
theorem Dj:∀l:List Nat,((l.map tk).map ni).sum=(l.sum:Nat)
 |[]=>rfl
 |n::l=>by rw[Xp,Xp,sum_cons,sum_cons,Dj l];show(n:Int)+_=_;lia
theorem FY:∀Z:List E,Tree.cntL Z=(Z.map Tree.cnt).sum
 |[]=>rfl
 |k::Z=>by rw[Tree.cntL,Xp,sum_cons,FY Z]
theorem zl:∀Z:List E,Z.length<=Tree.cntL Z
 |[]=>W9 _
 |k::Z=>by
  have:=zl Z;have:1<=k.cnt:=by cases k;rw[Tree.cnt];lia
  rw[Tree.cntL,Xl];lia
abbrev mH (P:PD)(l:List Tv)(M:Ms):Prop:=cy (bd (.cons (.nm 3) (.cons (.nm 4) .nil))) (aD (aB BQ JB)) P l M
theorem OV {P:PD}{e:Sl}{I:List Tv}{w:Wd}{C D:List Nat}{s:Option Sl×Option Sl×Option Sl×Option Sl}(j:C.length<=300000)(k:D.length+Z.length<=300000)(q:∀s,mH P I (kb e (C++[(Tree.nd w Z:E).cnt]) (D++[(Tree.nd w Z:E).cnt]) s)):mH P (j9 (.nd w Z)::I) (kb e C (D++(Z.map Tree.cnt).reverse) s):=by
 have g:∀s:Option Sl×Option Sl×Option Sl×Option Sl,mH P I ⟨[some e,some (.own (.lst (C.map tk++[tk (Tree.nd w Z:E).cnt]))),some (.own (.lst (D.map tk++[tk (Tree.nd w Z:E).cnt]))),s.1,s.2.1,s.2.2.1,s.2.2.2],[],[]⟩:=fun s=>by have:=q s;unfold kb at this;rw[Xq,Xq] at this;exact this
 have b:(1:Int)+((((Z.map Tree.cnt).reverse).map tk).map ni).sum=((Tree.nd w Z:E).cnt:Nat):=by rw[Dj,List.sum_reverse,Tree.cnt,FY];lia
 have h:((D++(Z.map Tree.cnt).reverse).map tk).length=D.length+Z.length:=by rw[Xa,Xd,XQ,Xa]
 have c:aV ((D++(Z.map Tree.cnt).reverse).map tk) (some (D.length:Int)) none=((Z.map Tree.cnt).reverse).map tk:=by rw[lF,<- map_drop,List.drop_left]
 have d:((D++(Z.map Tree.cnt).reverse).map tk).take D.length=D.map tk:=by rw[<- map_take,List.take_left]
 unfold kb;generalize (D++(Z.map Tree.cnt).reverse).map tk=X at h c d ⊢;have a:(X.length:Int)-(Z.length:Int)=(D.length:Nat):=by lia
 have f:(X.take ((X.length:Int)-(Z.length:Int)).toNat)=D.map tk:=by rw[a,Yj];exact d
 refine⟨by show intL (aV X (some ((X.length:Int)-(Z.length:Int))) none);rw[a,c];exact fun t i=>(by obtain⟨n,_,rfl⟩:=XA.mp i;exact⟨_,rfl⟩),⟨by show(0:Int)<=(X.length:Int)-(Z.length:Int);lia,by show(X.length:Int)-(Z.length:Int)<=X.length;lia⟩,rfl,by show(X.take ((X.length:Int)-(Z.length:Int)).toNat).length<_;rw[f,Xa];lia,rfl,by show(C.map tk).length<_;rw[Xa];lia,?_⟩;show mH P I ⟨[some e,some (.own (.lst (C.map tk++[ti (1+((aV X (some ((X.length:Int)-(Z.length:Int))) none).map ni).sum)]))),some (.own (.lst (X.take ((X.length:Int)-(Z.length:Int)).toNat++[ti (1+((aV X (some ((X.length:Int)-(Z.length:Int))) none).map ni).sum)]))),_,_,_,_],[],[]⟩;rw[f,a,c,b];exact g ⟨_,_,_,_⟩
mutual
theorem EB {P:PD}{e:Sl}{b:Rl}:∀(t:E)(N:Nat)(I:List Tv)(C D:List Nat)(s:Option Sl×Option Sl×Option Sl×Option Sl),Ex b N t->C.length+t.cnt<=300000->D.length+t.cnt<=300000->(∀s,mH P I (kb e (C++(t.all.map Tree.cnt).reverse) (D++[t.cnt]) s))->mH P (t.all.reverse.map j9++I) (kb e C D s)
 | .nd w Z,N,I,C,D,s,h,c,d,q=>by
  have a:∀k∈Z,∃n,Ex b n k:=by cases h with|mk h a=>exact fun k f=>⟨_,a k f⟩
  rw[Tree.cnt] at c d;have g:Z.length<=Tree.cntL Z:=zl Z;rw[Tree.all,Yr,Xq,Xy];refine FX Z I.length _ C D s a (by lia) (by lia) fun s=>?_;refine OV (by rw[Xd,XQ,Xa,Tree.allL_len];lia) (by lia) fun s=>?_;have:=q s;rw[Tree.all,Xp,Yr,<- Xy] at this;exact this
theorem FX {P:PD}{e:Sl}{a:Rl}:∀(ts:List E)(_:Nat)(I:List Tv)(C D:List Nat)(s:Option Sl×Option Sl×Option Sl×Option Sl),(∀t∈ts,∃n,Ex a n t)->C.length+Tree.cntL ts<=300000->D.length+Tree.cntL ts<=300000->(∀s,mH P I (kb e (C++((Tree.allL ts).map Tree.cnt).reverse) (D++(ts.map Tree.cnt).reverse) s))->mH P ((Tree.allL ts).reverse.map j9++I) (kb e C D s)
 |[],_,I,C,D,s,_,_,_,q=>by have:=q s;simpa [Tree.allL] using this
 |t::ts,n,I,C,D,s,h,b,c,q=>by obtain⟨N,d⟩:=h t W8;rw[Tree.cntL] at b c;have f:ts.length<=Tree.cntL ts:=zl ts;rw[Tree.allL,reverse_append,Xq,Xy];refine FX ts n _ C D s (fun x g=>h x (W7 _ g)) (by lia) (by lia) fun s=>?_;refine EB t N I _ _ s d (by rw[Xd,XQ,Xa,Tree.allL_len];lia) (by rw[Xd,XQ,Xa];lia) fun s=>?_;have:=q s;rw[Tree.allL,Xq,reverse_append,Xp,Yr,<- Xy,<- Xy] at this;exact this
end
theorem Sr:∀args k,fL args k->aD (aB BQ JQ) (aW args k) (aR 7 args):=by
 rintro args k ⟨R,N,e,rfl,he,a,q⟩;have b:=Tree.all_len e;refine⟨fun M=>∃s,M=kb (.fz (E.tv e)) ([]++(e.all.map Tree.cnt).reverse) ([]++[e.cnt]) s,⟨rfl,R,N,e,rfl,he,a,?_⟩,?_⟩;have:=EB (P:={ aW [.fz (E.tv e)] k with nx:=fun M=>∃s,M=kb (.fz (E.tv e)) ([]++(e.all.map Tree.cnt).reverse) ([]++[e.cnt]) s }) (e:=.fz (E.tv e)) e N [] [] [] (none,none,none,none) he (by simp;lia) (by simp;lia) fun s=>⟨s,rfl⟩;rw[Xm,map_reverse] at this;exact this;rintro M ⟨s,rfl⟩;have c:(([]++(e.all.map Tree.cnt).reverse).map tk).reverse=e.all.map fun x=>tk x.cnt:=by rw[XM,map_reverse,reverse_reverse,Ze];rfl
 show k (.own (.lst (([]++(e.all.map Tree.cnt).reverse).map tk).reverse)) _;rw[c];exact q
mutual
noncomputable def dU:ST->List (List V×Nat)
 | .nd a Z=>(a.hd,Z.length)::gL Z
noncomputable def gL:List ST->List (List V×Nat)
 |[]=>[]
 |k::Z=>dU k++gL Z
end
theorem zN:∀Z:List ST,Z.length<=Tree.cntL Z
 |[]=>W9 _
 |k::Z=>by
  have:=zN Z;have:1<=k.cnt:=by cases k;rw[Tree.cnt];lia
  rw[Tree.cntL,Xl];lia
theorem Sw.hd_len (a:Sw):a.hd.length<=2:=by cases a with|wd w=>exact(jS w).2.2|_=>simp [Sw.hd]
inductive gX (args:SA)(k:SK):Prop
 |mk (t:ST) (_:args=[.fz (.tup ((dU t).map ei))]) (_:t.cnt<=300000) (_:k (.fz (ST.tv t)) [.fz (.tup ((dU t).map ei))])
abbrev S4:=Option Sl×Option Sl×Option Sl×Option Sl
noncomputable def lq (e:Sl)(D:List Tv)(s:S4):Ms:=⟨[some e,some (.own (.lst D)),s.1,s.2.1,s.2.2.1,s.2.2.2],[],[]⟩
abbrev oj (P:PD)(l:List Tv)(M:Ms):Prop:=cy (bd (.cons (.nm 2) (.cons (.nm 3) .nil))) (aD (aB zR Gg)) P l M
theorem OU {P:PD}{e:Sl}{I:List Tv}{a:Sw}{Z:List ST}{D:List Tv}{s:S4}(i:D.length+Z.length<=300000)(q:∀s,oj P I (lq e (D++[ST.tv (.nd a Z)]) s)):oj P (ei (a.hd,Z.length)::I) (lq e (D++(ST.tvL Z).reverse) s):=by
 have h:(D++(ST.tvL Z).reverse).length=D.length+Z.length:=by rw[Xd,XQ,sS]
 have c:aV (D++(ST.tvL Z).reverse) (some (D.length:Int)) none=(ST.tvL Z).reverse:=by rw[lF,List.drop_left]
 have d:(D++(ST.tvL Z).reverse).take D.length=D:=List.take_left;have j:=a.hd_len;unfold lq;generalize D++(ST.tvL Z).reverse=X at h c d ⊢;have b:(X.length:Int)-(Z.length:Int)=(D.length:Nat):=by lia
 have f:(X.take ((X.length:Int)-(Z.length:Int)).toNat)=D:=by rw[b,Yj];exact d
 have g:aV X (some ((X.length:Int)-(Z.length:Int))) none=(ST.tvL Z).reverse:=by rw[b];exact c
 refine⟨⟨by show(0:Int)<=(X.length:Int)-(Z.length:Int);lia,by show(X.length:Int)-(Z.length:Int)<=X.length;lia⟩,rfl,?_⟩;refine⟨by show(a.hd.map Tv.at).length+(aV X (some ((X.length:Int)-(Z.length:Int))) none).reverse.length<=_;rw[g,reverse_reverse,sS,Xa];lia,by show(X.take ((X.length:Int)-(Z.length:Int)).toNat).length<_;rw[f];lia,?_⟩;show oj P I ⟨[some e,some (.own (.lst (X.take ((X.length:Int)-(Z.length:Int)).toNat++[.tup (a.hd.map Tv.at++(aV X (some ((X.length:Int)-(Z.length:Int))) none).reverse)]))),_,_,_,_],[],[]⟩;rw[f,g,reverse_reverse];exact q ⟨_,_,_,_⟩
mutual
theorem EA {P:PD}{e:Sl}:∀(t:ST)(I:List Tv)(D:List Tv)(s:S4),D.length+t.cnt<=300000->(∀s,oj P I (lq e (D++[ST.tv t]) s))->oj P ((dU t).reverse.map ei++I) (lq e D s)
 | .nd a Z,I,D,s,b,q=>by rw[Tree.cnt] at b;have c:=zN Z;rw[dU,Yr,Xq,Xy];refine FW Z _ D s (by lia) fun s=>?_;exact OU (by lia) q
theorem FW {P:PD}{e:Sl}:∀(ts:List ST)(I:List Tv)(D:List Tv)(s:S4),D.length+Tree.cntL ts<=300000->(∀s,oj P I (lq e (D++(ST.tvL ts).reverse) s))->oj P ((gL ts).reverse.map ei++I) (lq e D s)
 |[],I,D,s,_,q=>by have:=q s;rw[show(ST.tvL []).reverse=[] from rfl,Xm] at this;exact this
 |t::ts,I,D,s,a,q=>by rw[Tree.cntL] at a;have b:=zN ts;rw[gL,reverse_append,Xq,Xy];refine FW ts _ D s (by lia) fun s=>?_;refine EA t I _ s (by rw[Xd,XQ,sS];lia) fun s=>?_;have:=q s;rw[show ST.tvL (t::ts)=ST.tv t::ST.tvL ts from rfl,Yr,<- Xy] at this;exact this
end
theorem QR:∀args k,gX args k->aD (aB zR GD) (aW args k) (aR 6 args):=by rintro args k ⟨t,rfl,a,q⟩;refine⟨fun M=>∃s,M=lq (.fz (.tup ((dU t).map ei))) ([]++[ST.tv t]) s,?_,?_⟩;have:=EA (P:={ aW [.fz (.tup ((dU t).map ei))] k with nx:=fun M=>∃s,M=lq (.fz (.tup ((dU t).map ei))) ([]++[ST.tv t]) s }) (e:=.fz (.tup ((dU t).map ei))) t [] [] (none,none,none,none) (by simp;lia) fun s=>⟨s,rfl⟩;rw[Xm,map_reverse] at this;exact this;rintro M ⟨s,rfl⟩;exact q
def oi (p:List Nat)(e:E):List (List Nat):=(bK e).map fun q=>p++q.1
noncomputable def fY (p:List Nat):Nat->List E->List (E×List Nat)
 |_,[]=>[]
 |i,k::Z=>(k,p++[i])::fY p (i+1) Z
def d8 (x:E×List Nat):Tv:=.tup [E.tv x.1,cY x.2]
def gu (a:List (E×List Nat)):List (List Nat):=a.flatMap fun x=>oi x.2 x.1
theorem GN (p:List Nat):∀(Z:List E)(i:Nat),(d5 i Z).map (fun q=>p++q.1)=gu (fY p i Z)
 |[],_=>rfl
 |k::Z,i=>by rw[d5,Xq,GN p Z (i+1),Ze,fY];unfold gu;rw[Yt];congr 1;unfold oi;exact map_congr_left fun q _=>by simp
theorem OT (p:List Nat)(w:Wd)(Z:List E):oi p (.nd w Z)=p::gu (fY p 0 Z):=by unfold oi;rw[bK,Xp,GN,Xm]
theorem QQ (e:E):oi [] e=(bK e).map (·.1):=map_congr_left fun q _=>XM _
theorem QP (p:List Nat)(e:E):(oi p e).length=e.cnt:=by unfold oi;rw[Xa,oO]
theorem OS (e:E):1<=e.cnt:=by cases e;rw[Tree.cnt];lia
theorem vV:∀a:List (E×List Nat),a.length<=(gu a).length
 |[]=>W9 _
 |x::a=>by have:=vV a;have h1:=QP x.2 x.1;have b:=OS x.1;unfold gu at this ⊢;rw[Yt,Xd,Xl];lia
theorem FV (p:List Nat):∀(Z:List E)(i:Nat),(fY p i Z).length=Z.length
 |[],_=>rfl
 |k::Z,i=>by rw[fY,Xl,Xl,FV p Z]
def AD (R:Rl)(N:Nat)(x:E×List Nat):Prop:=∃d,Ex R d x.1/\x.2.length+d<=N
theorem Ez {d:Nat}{p:List Nat}(h:p.length+(d+1)<=N):∀(Z:List E)(i:Nat),(∀k∈Z,Ex R d k)->∀x∈fY p i Z,AD R N x
 |[],_,_,x,a=>by cases a
 |k::Z,i,c,x,a=>by rcases Xj.mp a with rfl|a;exact⟨d,c k W8,by simp;lia⟩;exact Ez h Z (i+1) (fun k b=>c k (W7 _ b)) x a
inductive fI (args:SA)(k:SK):Prop
 |mk (R:Rl) (N:Nat) (e:E) (_:args=[.fz (E.tv e)]) (_:Ex R N e) (_:N<=1000) (_:e.cnt<=300000) (_:k (.fz (.tup ((bK e).map fun q=>cY q.1))) [.fz (E.tv e)])
abbrev yg:Gm:=Gz bH
theorem Ey {p:List Nat}{k:List Tv->Ms->Prop}(b:p.length<=1000):∀(Z:List E)(i:Nat)(a:List (E×List Nat))(U Y:Option Sl),(∀U Y,k ((a++fY p i Z).map d8) ⟨[some (.fz (cY p)),U,Y],[],[]⟩)->bo (bd (.cons (.nm 1) (.cons (.nm 2) .nil))) (aq yg .tt).t (aq yg Gf).e k (iO i (E.tvL Z)) (a.map d8) ⟨[some (.fz (cY p)),U,Y],[],[]⟩
 |[],i,a,U,Y,q=>by have:=q U Y;rw[fY,Xm] at this;exact this
 |e::Z,i,a,U,Y,q=>by
  refine⟨by show(p.map tk).length+1<=_;rw[Xa];lia,?_⟩;have c:a.map d8++[.tup [E.tv e,.tup (p.map tk++[tk i])]]=(a++[(e,p++[i])]).map d8:=by simp [d8,cY]
  show bo _ _ _ _ (iO (i+1) (E.tvL Z)) (a.map d8++[.tup [E.tv e,.tup (p.map tk++[tk i])]]) _;rw[c];refine Ey b Z (i+1) _ _ _ fun U Y=>?_;have:=q U Y;rw[fY] at this;rw[Xy];exact this
def Wg (R:Rl)(N:Nat)(e:E)(m:Nat)(M:Ms):Prop:=∃(b:List (List Nat))(a:List (E×List Nat))(c d f:Option Sl),M=⟨[some (.fz (E.tv e)),some (.own (.lst (b.map cY))),some (.own (.lst (a.reverse.map d8))),c,d,f],[],[]⟩/\b++gu a=(bK e).map (·.1)/\(∀x∈a,AD R N x)/\m=(gu a).length
theorem Sq:∀args k,fI args k->aD (aB yg GC) (aW args k) (aR 6 args):=by
 rintro args k ⟨R,N,e,rfl,he,D,F,q⟩;have pl:=oO e;refine⟨fun M=>∃(o h i j:Option Sl),M=⟨[some (.fz (E.tv e)),some (.own (.lst (((bK e).map (·.1)).map cY))),o,h,i,j],[],[]⟩,⟨Wg R N e,⟨_,[],[(e,[])],none,none,none,rfl,by unfold gu;simp [QQ],fun x b=>by rw[XH.mp b];exact⟨N,he,by simp⟩,rfl⟩,?_⟩,?_⟩;rintro m M ⟨f,a,h,i,j,rfl,J,c,rfl⟩;have l1:=Yd List.length J;rw[Xd,Xa] at l1;have l2:=vV a;match a,c,J,l1,l2 with
 |[],c,J,l1,l2=>rw[show gu []=[] from rfl,Xm] at J;subst J;exact⟨_,_,_,_,rfl⟩
 | (.nd w Z,p)::a,c,J,l1,l2=>
  rw[show((Tree.nd w Z,p)::a).reverse.map d8=a.reverse.map d8++[d8 (.nd w Z,p)] by simp];refine aF (fun g=>?_) (fun g=>absurd (by simp) g);have r:ou (.lst (a.reverse.map d8++[d8 (.nd w Z,p)])) []=some (True,.lst (a.reverse.map d8),d8 (.nd w Z,p)):=by unfold ou;simp
  generalize a.reverse.map d8++[d8 (.nd w Z,p)]=l at r g;refine⟨rfl,BV r ⟨trivial,?_⟩⟩;obtain⟨d,hd,n⟩:=c (.nd w Z,p) W8;have t:∀x∈a,AD R N x:=fun x b=>c x (W7 _ b);have u:(f.map cY).length<16777216:=by rw[Xa];lia
  have s:gu ((Tree.nd w Z,p)::a)=p::(gu (fY p 0 Z)++gu a):=by unfold gu;rw[Yt,OT];rfl
  rw[s] at J l1;cases hd with
  | @mk d _ _ v y=>
   have z:=v.le;have A:p.length+(d+1)<=N:=n;have G:=vV (fY p 0 Z);have H:=vV a;have I:=FV p Z 0;simp only [Xl,Xd] at l1;refine⟨rfl,u,rfl,w,Z,rfl,by lia,?_⟩;have B:(iO 0 (E.tvL Z)).length<=16777216:=by rw[<- om];unfold i6;rw[Xa,length_zip,Y4,cm];lia
   refine⟨by rw[om];exact B,rfl,?_⟩;show bo _ _ _ _ (i6 (E.tvL Z)) _ _;rw[om];refine Ey (by lia) Z 0 [] none none fun U Y=>?_;rw[XM];refine⟨rfl,?_,(gu (fY p 0 Z++a)).length,?_,f++[p],fY p 0 Z++a,some (.fz (E.tv (.nd w Z))),some (.fz (cY p)),some (.own (.lst ((fY p 0 Z).map d8))),?_,?_,?_,rfl⟩;simp only [Xa,XQ];lia;rw[s];unfold gu;rw[flatMap_append,Xl];exact Yx _;rw[show(fY p 0 Z++a).reverse.map d8=a.reverse.map d8++((fY p 0 Z).map d8).reverse by simp,show(f++[p]).map cY=f.map cY++[cY p] by simp];rfl;rw[<- J];unfold gu;rw[flatMap_append];simp;intro x b;rcases Xn.mp b with b|b;exact Ez A Z 0 y x b;exact t x b
 rintro M ⟨o,h,i,j,rfl⟩;have C:((bK e).map (·.1)).map cY=(bK e).map fun q=>cY q.1:=by rw[Ze];rfl
 rw[C];exact q
inductive dD (args:SA)(k:SK):Prop
 |mk (fs:List Fd) (main:E) (_:args=[.fz (cv fs main)]) (_:fs.length<=100) (_:k (.fz (.tup (E.tvL (aZ fs main)))) [.fz (cv fs main)])
theorem FU {k:List Tv->Ms->Prop}:∀(l:List Fd)(a:List E)(s0 U Y:Option Sl),(∀s0 U Y,k (E.tvL (a++l.map Fd.bd)) ⟨[s0,U,Y],[],[]⟩)->bo (bd (.cons (.nm 0) (.cons (.nm 1) (.cons (.nm 2) .nil)))) (aq B .tt).t (aq B GX).e k (l.map Fd.tv) (E.tvL a) ⟨[s0,U,Y],[],[]⟩
 |[],a,s0,U,Y,q=>by have:=q s0 U Y;rw[Y3,Xm] at this;exact this
 |f::l,a,s0,U,Y,q=>by
  have b:E.tvL a++[E.tv f.bd]=E.tvL (a++[f.bd]):=by rw[vG];rfl
  show bo _ _ _ _ (l.map Fd.tv) (E.tvL a++[E.tv f.bd]) _;rw[b];exact FU l _ _ _ _ fun s0 U Y=>by simpa using q s0 U Y
theorem So:∀args k,dD args k->aD (aB Hv Hw) (aW args k) (aR 3 args):=by
 rintro args k ⟨fs,main,rfl,b,q⟩;refine⟨by rw[Xa];lia,rfl,FU fs [] none none none fun s0 U Y=>?_⟩;rw[XM];have a:E.tvL (fs.map Fd.bd)++[E.tv main]=E.tvL (aZ fs main):=by unfold aZ;rw[vG];rfl
 refine⟨by rw[cm,Xa];show fs.length+1<=_;lia,?_⟩;show k (.fz (.tup (E.tvL (fs.map Fd.bd)++[E.tv main]))) _;rw[a];exact q
inductive dw (args:SA)(k:SK):Prop
 |mk (i:_) (_:args=[fi i]) (_:k (fb true) [fi i])
theorem Sn:∀args k,dw args k->aD (aB Jh Ji) (aW args k) (aR 1 args):=by rintro args k ⟨i,rfl,q⟩;exact q
noncomputable def jK:E->List Nat->Option E
 |e,[]=>some e
 | .nd _ Z,i::p=>(Z[i]?).bind fun k=>jK k p
mutual
theorem Ew:∀(e:E),∀q∈bK e,jK e q.1=some q.2
 | .nd w Z,q,h=>by rw[bK] at h;rcases Xj.mp h with rfl|h;rw[jK];obtain⟨i,p,k,a,b,c⟩:=FT Z 0 q h;rw[a,jK,Nat.zero_add,b];exact c
theorem FT:∀(Z:List E)(i:Nat),∀q∈d5 i Z,∃j p k,q.1=(i+j)::p/\Z[j]?=some k/\jK k p=some q.2
 |[],_,q,h=>by cases h
 |k::Z,i,q,h=>by rw[d5] at h;rcases Xn.mp h with h|h;obtain⟨r,a,rfl⟩:=XA.mp h;exact⟨0,r.1,k,rfl,rfl,Ew k r a⟩;obtain⟨j,p,b,c,d,e⟩:=FT Z (i+1) q h;exact⟨j+1,p,b,by rw[c];congr 1;lia,d,e⟩
end
inductive lT (args:SA)(k:SK):Prop
 |mk (R:Rl) (N:Nat) (e t:E) (p:List Nat) (_:args=[.fz (E.tv e),.fz (cY p)]) (_:Ex R N e) (_:p.length<=1000) (_:jK e p=some t) (_:∀L:List Tv,k (.own (.lst (L++[E.tv t]))) [.fz (E.tv e),.fz (cY p)])
abbrev BP:Gm:=CP bH dw
theorem FR (L:List Tv)(x:Tv):d6 (L++[x]) (-1)=some x:=by show(if 0<(L++[x]).length then (L++[x])[(L++[x]).length-(0+1)]? else none)=some x;rw[Xk (by simp),Xd];simp
theorem Eu {k:E}(h:Z[i]?=some k):d6 (E.tvL Z) (i:Int)=some (E.tv k):=by show(E.tvL Z)[i]?=_;rw[E.tvL,eZ,XG,h];rfl
theorem FQ {P:PD}{e g:Sl}{t:E}:∀(p:List Nat)(d:E)(N:Nat)(L:List Tv)(s3 b:Option Sl),Ex R N d->jK d p=some t->L.length+p.length<=2000->(∀L s3 b,P.nx ⟨[some e,some g,some (.own (.lst (L++[E.tv t]))),s3,b],[],[]⟩)->cy (bd (.nm 3)) (aD (aB BP Dt)) P (p.map tk) ⟨[some e,some g,some (.own (.lst (L++[E.tv d]))),s3,b],[],[]⟩
 |[],d,N,L,s3,b,he,a,h,q=>by rw[jK] at a;cases a;exact q L s3 b
 |i::p,.nd w Z,N,L,s3,b,he,a,h,q=>by rw[jK] at a;cases c:Z[i]? with|none=>(rw[c] at a;cases a)|some k=>rw[c] at a;have j:jK k p=some t:=a;cases he with| @mk n _ _ l f=>have m:=l.le;have s:i<Z.length:=(Xe.mp c).1;have o:(E.tvL Z).length=Z.length:=cm Z;have r:k∈Z:=XT c;rw[Xl] at h;refine bx (FR L (E.tv (.nd w Z))) ⟨rfl,w,Z,rfl,by lia,rfl,(i:Int),rfl,?_⟩;refine aF (fun g2=>absurd g2 ?_) (fun _=>?_);show ¬ (!decide ((i:Int)<((E.tvL Z).length:Nat)))=true;rw[Xs (by lia)];decide;refine⟨rfl,bx (Eu c) ⟨by show(L++[E.tv (.nd w Z)]).length<16777216;rw[Xd];show L.length+1<_;lia,?_⟩⟩;exact FQ p k n (L++[E.tv (.nd w Z)]) _ _ (f k r) j (by rw[Xd];show L.length+1+_<=_;lia) q
theorem Nk:∀args k,lT args k->aD (aB BP CQ) (aW args k) (aR 5 args):=by rintro args k ⟨R,N,e,t,p,rfl,he,c,b,q⟩;refine⟨fun M=>∃(L:List Tv)(s3 a:Option Sl),M=⟨[some (.fz (E.tv e)),some (.fz (cY p)),some (.own (.lst (L++[E.tv t]))),s3,a],[],[]⟩,?_,?_⟩;exact FQ (R:=R) p e N [] none none he b (by simp;lia) fun L s3 a=>⟨L,s3,a,rfl⟩;rintro M ⟨L,s3,a,rfl⟩;exact q L
structure oU (fs:List Fd)(main:E)(x:Nat×List Nat)(t:E):Prop where
 ex:∃(R:Rl)(N:Nat)(b:E),(aZ fs main)[x.1]?=some b/\Ex R N b/\jK b x.2=some t
 fl:fs.length<=100
 pl:x.2.length<=1000
inductive dy (args:SA)(k:SK):Prop
 |mk (fs:List Fd) (main:E) (x:Nat×List Nat) (t:E) (_:args=[.fz (cv fs main),.fz (bI x)]) (_:oU fs main x t) (_:∀L:List Tv,k (.own (.lst (L++[E.tv t]))) [.fz (cv fs main),.fz (bI x)])
abbrev MD:Gm:=Jv dD dw lT
theorem UE:∀args k,dy args k->aD (aB MD Jw) (aW args k) (aR 5 args):=by rintro args k ⟨fs,main,⟨n,p⟩,t,rfl,a,q⟩;obtain⟨R,N,b,c,he,d⟩:=a.ex;have e:n<(aZ fs main).length:=(Xe.mp c).1;have f:(E.tvL (aZ fs main)).length=(aZ fs main).length:=cm _;refine⟨rfl,fs,main,rfl,a.fl,rfl,(n:Int),rfl,?_⟩;refine aF (fun g2=>absurd g2 ?_) (fun _=>?_);show ¬ (!decide ((n:Int)<((E.tvL (aZ fs main)).length:Nat)))=true;rw[Xs (by lia)];decide;exact bx (Eu c) ⟨rfl,R,N,b,t,p,rfl,he,a.pl,d,q⟩
inductive ee (args:SA)(k:SK):Prop
 |mk (fs:List Fd) (main:E) (x:Nat×List Nat) (t:E) (_:args=[.fz (cv fs main),.fz (bI x)]) (_:oU fs main x t) (_:k (.fz (E.tv t)) [.fz (cv fs main),.fz (bI x)])
theorem TR:∀args k,ee args k->aD (aB (Jf dy) Jg) (aW args k) (aR 2 args):=by rintro args k ⟨fs,main,x,t,rfl,a,q⟩;exact⟨rfl,fs,main,x,t,rfl,a,fun L=>bx (FR L (E.tv t)) q⟩
inductive cq (R:Rl)(N:Nat)(args:SA)(k:SK):Prop
 |mk (fs:List Fd) (main:E) (m:Int) (_:args=[.fz (cv fs main),fi m]) (_:fs.length<=100) (_:N<=100) (_:(∀b∈aZ fs main,Ex R N b)) (_:Tree.cntL (aZ fs main)<=100000) (_:k (.fz (.tup ((cj m 0 (aZ fs main)).map fun q=>bI q.1))) [.fz (cv fs main),fi m])
abbrev uw:Gm:=Jt dD fL fI
theorem Nj (l:List (List Nat×E)):oq (l.map fun q=>cY q.1) (l.map fun q=>tk q.2.cnt)=l.map fun q=>.tup [cY q.1,tk q.2.cnt]:=by unfold oq;induction l with|nil=>rfl|cons q l a=>rw[Xp,Xp,List.zip_cons_cons,Xp,a];rfl
theorem zk {k:List Tv->Ms->Prop}:∀(l:List (List Nat×E))(a:List ((Nat×List Nat)×E))(Y s3:Option Sl),(∀Y s3,k ((a++(l.filter fun p=>decide (m<=(p.2.cnt:Int))).map fun p=>((i,p.1),p.2)).map fun q=>bI q.1) ⟨[some (fi i),some (fi m),Y,s3],[],[]⟩)->bo (bd (.cons (.nm 2) (.cons (.nm 3) .nil))) (aq uw (.cmp .ge (.var 3) (.var 1))).t (aq uw IM).e k (l.map fun q=>.tup [cY q.1,tk q.2.cnt]) (a.map fun q=>bI q.1) ⟨[some (fi i),some (fi m),Y,s3],[],[]⟩
 |[],a,Y,s3,q=>by have:=q Y s3;rw[filter_nil,Y3,Xm] at this;exact this
 |p::l,a,Y,s3,q=>by
  refine aF (fun g=>?_) (fun g=>?_);have b:(a.map fun q=>bI q.1)++[bI (i,p.1)]=(a++[((i,p.1),p.2)]).map fun q=>bI q.1:=by simp
  show bo _ _ _ _ (l.map fun q=>.tup [cY q.1,tk q.2.cnt]) ((a.map fun q=>bI q.1)++[bI (i,p.1)]) _;rw[b];refine zk l _ _ _ fun Y s3=>?_;have:=q Y s3;rw[List.filter_cons_of_pos (by exact g)] at this;simpa using this;refine zk l _ _ _ fun Y s3=>?_;have:=q Y s3;rwa [List.filter_cons_of_neg (by exact g)] at this
theorem Ic {P:PD}{e:Sl}(g:N<=100):∀(bs:List E)(i:Nat)(a:List ((Nat×List Nat)×E))(s3 c d:Option Sl),(∀b∈bs,Ex R N b)->a.length+Tree.cntL bs<=100000->(∀s3 c d,P.nx ⟨[some e,some (fi m),some (.own (.lst ((a++cj m i bs).map fun q=>bI q.1))),s3,c,d],[],[]⟩) →cy (bd (.cons (.nm 3) (.cons (.nm 4) .nil))) (aD (aB uw IL)) P (iO i (E.tvL bs)) ⟨[some e,some (fi m),some (.own (.lst (a.map fun q=>bI q.1))),s3,c,d],[],[]⟩
 |[],i,a,s3,c,d,_,_,q=>by have:=q s3 c d;rw[cj,Xm] at this;exact this
 |b::bs,i,a,s3,c,d,f,h,q=>by
  rw[Tree.cntL] at h;have he:=f b W8;have pl:=oO b;have n:(keep m b).length<=b.cnt:=by rw[<- pl];exact length_filter_le ..
  have j:(b.all.map fun x=>tk x.cnt)=(bK b).map fun q=>tk q.2.cnt:=by rw[<- vH b,Ze];rfl
  refine⟨rfl,R,N,b,rfl,he,by lia,rfl,rfl,R,N,b,rfl,he,by lia,by lia,?_⟩;rw[j];refine⟨by rw[Xa,Xa],?_⟩;refine⟨by unfold oq;rw[Xa,length_zip,Xa,Xa];lia,rfl,?_⟩;rw[Nj];refine zk (bK b) [] none none fun o r=>?_;rw[XM];refine⟨by rw[Xa,Xa,Xa];show a.length+(keep m b).length<=_;lia,?_⟩;have k:(a.map fun q=>bI q.1)++(((keep m b).map fun p=>((i,p.1),p.2)).map fun q=>bI q.1)=(a++(keep m b).map fun p=>((i,p.1),p.2)).map fun q=>bI q.1:=by rw[Xq]
  show cy _ _ _ (iO (i+1) (E.tvL bs)) ⟨[_,_,some (.own (.lst ((a.map fun q=>bI q.1)++(((keep m b).map fun p=>((i,p.1),p.2)).map fun q=>bI q.1)))),_,_,_],_,_⟩;rw[k];refine Ic g bs (i+1) _ _ _ _ (fun x l=>f x (W7 _ l)) (by rw[Xd,Xa];lia) fun s3 c d=>?_;have:=q s3 c d;rw[cj] at this;rw[Xy];exact this
theorem UD (R:Rl)(N:Nat):∀args k,cq R N args k->aD (aB uw Ju) (aW args k) (aR 6 args):=by rintro args k ⟨fs,main,m,rfl,c,d,e,f,q⟩;refine⟨fun M=>∃s3 a b,M=⟨[some (.fz (cv fs main)),some (fi m),some (.own (.lst ((cj m 0 (aZ fs main)).map fun q=>bI q.1))),s3,a,b],[],[]⟩,?_,?_⟩;refine⟨rfl,fs,main,rfl,c,?_⟩;show cy _ _ _ (i6 (E.tvL (aZ fs main))) _;rw[om];exact Ic (R:=R) (N:=N) d (aZ fs main) 0 [] none none none e (by simp;lia) fun s3 a b=>⟨s3,a,b,rfl⟩;rintro M ⟨s3,a,b,rfl⟩;exact q
theorem Di (x:Str):∀l:List Str,pos x l=bE x l
 |[]=>rfl
 |y::l=>by rw[pos,bE,Di x l]
theorem zM (m:List Str):∀{l:List Str},x∈l->bE x (l++m)=bE x l
 |y::l,h=>by rw[XR,bE,bE];by_cases e:y=x;rw[Xk e,Xk e];rw[Xh e,Xh e,zM m ((Xj.mp h).resolve_left fun z=>e z.symm)]
theorem FP (x:Str)(l:List Str):∃m,aY x l=l++m:=by unfold aY;split;exact⟨[],(Xm _).symm⟩;exact⟨[x],rfl⟩
theorem OR (bs fr:List Str)(w:Wd):∃m,(aM bs fr w).2.1=fr++m:=by cases w with|name x=>show ∃m,(if x∈bs then _ else _:Sw×List Str×List Str).2.1=_;split;exact⟨[],(Xm _).symm⟩;exact FP x fr|st x=>exact FP x fr|_=>exact⟨[],(Xm _).symm⟩
mutual
theorem OQ (bs fr:List Str):∀e:E,∃m,(aP bs fr e).2=fr++m
 | .nd w Z=>by obtain⟨a,h1⟩:=OR bs fr w;obtain⟨b,c⟩:=vU bs (aM bs fr w).2.2 (aM bs fr w).2.1 Z;refine⟨a++b,?_⟩;rw[aP];show(a5 _ _ _ _).2=_;rw[c,h1,Xy]
theorem vU (b c fr:List Str):∀Z:List E,∃m,(a5 b c fr Z).2=fr++m
 |[]=>⟨[],by rw[a5,Xm]⟩
 |k::Z=>by obtain⟨a,h1⟩:=OQ b fr k;obtain⟨d,e⟩:=vU c c (aP b fr k).2 Z;refine⟨a++d,?_⟩;rw[a5];show(a5 _ _ _ _).2=_;rw[e,h1,Xy]
end
def eA (fr:List Str)(p:E×Int):List Str:=match iW p.1 with
 | .st x=>aY x fr
 | .name x=>if p.2<0 then aY x fr else fr
 |_=>fr
theorem Et (B:List Str)(w:Wd)(fr:List Str):(aM B.reverse fr w).2.2=(pI B w).reverse:=by cases w with|name x=>show(if x∈B.reverse then _ else _:Sw×List Str×List Str).2.2=_;split <;> rfl|lt x=>show x::B.reverse=(B++[x]).reverse;rw[reverse_append];rfl|_=>rfl
theorem QO (B fr:List Str)(w:Wd)(Z:List E):(aM B.reverse fr w).2.1=eA fr (.nd w Z,cH B w):=by cases w with|name x=>show(if x∈B.reverse then _ else _:Sw×List Str×List Str).2.1=if cH B (.name x)<0 then aY x fr else fr;rw[cH];by_cases a:x∈B;rw[Xk (Zn.mpr a),Xk a,Xh (by lia)];rw[Xh (fun z=>a (Zn.mp z)),Xh a,Xk (by decide)]|_=>rfl
mutual
theorem Es:∀(e:E)(B fr:List Str),(aP B.reverse fr e).2=(cK B e).foldl eA fr
 | .nd w Z,B,fr=>by rw[aP,cK,foldl_cons,<- QO];show(a5 B.reverse _ _ Z).2=_;rw[Et,FO]
theorem FO:∀(Z:List E)(B C fr:List Str),(a5 B.reverse C.reverse fr Z).2=(fZ B C Z).foldl eA fr
 |[],B,C,fr=>by rw[a5,fZ];rfl
 |k::Z,B,C,fr=>by rw[a5,fZ,List.foldl_append,<- Es k B fr];exact FO Z C C _
end
def oB (F:List Str)(w:Wd)(o:Int):List V:=match w with
 | .st x=>[.str "set",.int (bE x F)]
 | .name x=>if o<0 then [.str "free",.int (bE x F)] else [.str "own",.int o]
 | .lt _=>[.str "let"]
 |w=>w.hd
def uE (F:List Str)(p:E×Int):List V×Nat:=(oB F (iW p.1) p.2,(Lz p.1).length)
theorem QN {B fr:List Str}{w:Wd}{m:List Str}:(aM B.reverse fr w).1.hd=oB ((aM B.reverse fr w).2.1++m) w (cH B w):=by cases w with|name x=>(rw[oB,cH];by_cases a:x∈B;have e:aM B.reverse fr (.name x)=(.own (bE x B.reverse),fr,B.reverse):=Xk (Zn.mpr a);rw[e,Xk a,Xh (by lia),Di];rfl;have e:aM B.reverse fr (.name x)=(.free (bE x (aY x fr)),aY x fr,B.reverse):=Xh fun z=>a (Zn.mp z);rw[e,Xh a,Xk (by decide)];show[V.str "free",.int (bE x (aY x fr))]=[.str "free",.int (bE x (aY x fr++m))];rw[zM m (qg x fr)])|st x=>show[V.str "set",.int (bE x (aY x fr))]=[.str "set",.int (bE x (aY x fr++m))];rw[zM m (qg x fr)]|_=>rfl
mutual
theorem Er:∀(e:E)(B fr m F:List Str),(aP B.reverse fr e).2++m=F->dU (aP B.reverse fr e).1=(cK B e).map (uE F)
 | .nd w Z,B,fr,m,F,h=>by
  rw[aP] at h;have h':(a5 B.reverse (aM B.reverse fr w).2.2 (aM B.reverse fr w).2.1 Z).2++m=F:=h;obtain⟨a,b⟩:=vU B.reverse (aM B.reverse fr w).2.2 (aM B.reverse fr w).2.1 Z;have c:(aM B.reverse fr w).2.1++(a++m)=F:=by rw[<- Xy,<- b];exact h'
  rw[aP,cK,Xp];show((aM B.reverse fr w).1.hd,(a5 B.reverse _ _ Z).1.length)::gL (a5 B.reverse (aM B.reverse fr w).2.2 (aM B.reverse fr w).2.1 Z).1=_;rw[yT,QN (m:=a++m),c];rw[Et] at h' ⊢;rw[FN Z B (pI B w) _ m F h'];rfl
theorem FN:∀(Z:List E)(B C fr m F:List Str),(a5 B.reverse C.reverse fr Z).2++m=F->gL (a5 B.reverse C.reverse fr Z).1=(fZ B C Z).map (uE F)
 |[],B,C,fr,m,F,h=>by rw[a5,fZ];rfl
 |k::Z,B,C,fr,m,F,h=>by
  rw[a5] at h;have h':(a5 C.reverse C.reverse (aP B.reverse fr k).2 Z).2++m=F:=h;obtain⟨a,b⟩:=vU C.reverse C.reverse (aP B.reverse fr k).2 Z;have c:(aP B.reverse fr k).2++(a++m)=F:=by rw[<- Xy,<- b];exact h'
  rw[a5,fZ,Xq,<- Er k B fr (a++m) F c,<- FN Z C C _ m F h'];rfl
end
def mz (e:E):List Str:=(cK [] e).foldl eA []
theorem OP (e:E):dU (aP [] [] e).1=(cK [] e).map (uE (mz e)):=Er e [] [] [] _ (by rw[Xm];exact Es e [] [])
noncomputable def dF (fr:List Str):List (aj×Tv):=fr.map fun x=>(Sum.inr x,Tv.at (.bl true))
theorem Dh (x:Str)(fr:List Str):eU (dF fr) (.inr x) (.at (.bl true))=dF (aY x fr):=by
 unfold eU aY;have c:((dF fr).any fun a=>decide (a.1=Sum.inr x))=decide (x∈fr):=by rw[Zg,any_eq_true,XI];constructor;rintro⟨a,d,hd⟩;obtain⟨y,b,rfl⟩:=XA.mp d;have:(Sum.inr y:aj)=.inr x:=XY hd;injection this with this;exact this▸b;intro h;exact⟨_,YK h,Xs rfl⟩
 rw[c];by_cases h:x∈fr;rw[Xk (Xs h),Xk h];unfold dF;rw[Ze];refine map_congr_left fun y b=>?_;simp only [Function.comp];split <;> rfl
 rw[Xh (by simpa using h),Xh h];unfold dF;rw[Xq];rfl
structure tB (R:Rl):Prop where
 h:∀x,R.X x->Nm x
inductive gW (args:SA)(k:SK):Prop
 |mk (R:Rl) (N:Nat) (e:E) (_:args=[.fz (E.tv e)]) (_:tB R) (_:N<=20) (_:Ex R N e) (_:e.cnt<=300000) (_:k (.fz (.tup ((mz e).map ts))) [.fz (E.tv e)])
abbrev yh:Gm:=JJ di
theorem FL (fr:List Str)(p:E×Int):(eA fr p).length<=fr.length+1:=by unfold eA;split;exact nc _ _;split;exact nc _ _;lia;lia
theorem Ep {P:PD}{e:Sl}:∀(l:List (E×Int))(fr:List Str)(Y s3:Option Sl),fr.length+l.length<=300000->(∀Y s3,P.nx ⟨[some e,some (.own (.dic (dF (l.foldl eA fr)))),Y,s3],[],[]⟩)->cy (bd (.cons (.nm 2) (.cons (.nm 3) .nil))) (aD (aB yh AA)) P (l.map mf) ⟨[some e,some (.own (.dic (dF fr))),Y,s3],[],[]⟩
 |[],fr,Y,s3,_,q=>q Y s3
 | (.nd w Z,o)::l,fr,Y,s3,b,q=>by
  rw[Xl] at b;have c:=FL fr (.nd w Z,o);have go:∀Y s3,cy (bd (.cons (.nm 2) (.cons (.nm 3) .nil))) (aD (aB yh AA)) P (l.map mf) ⟨[some e,some (.own (.dic (dF (eA fr (.nd w Z,o))))),Y,s3],[],[]⟩:=fun Y s3=>Ep l _ Y s3 (by lia) q;have hd:(dF fr).length<16777216:=by unfold dF;rw[Xa];lia
  cases w with|st x=>refine⟨hd,?_⟩;show cy _ _ _ (l.map mf) ⟨[_,some (.own (.dic (eU (dF fr) (.inr x) (.at (.bl true))))),_,_],_,_⟩;rw[Dh];exact go _ _|name x=>(refine aF (fun g=>⟨hd,?_⟩) (fun g=>?_);have a:eA fr (.nd (.name x) Z,o)=aY x fr:=Xk (XY g);rw[a] at go;show cy _ _ _ (l.map mf) ⟨[_,some (.own (.dic (eU (dF fr) (.inr x) (.at (.bl true))))),_,_],_,_⟩;rw[Dh];exact go _ _;have a:eA fr (.nd (.name x) Z,o)=fr:=Xh fun z=>g (Xs z);rw[a] at go;exact go _ _)|_=>exact go _ _
mutual
theorem Dg {R:Rl}(c:tB R):∀(N:Nat)(e:E)(B:List Str),Ex R N e->∀p∈cK B e,∀x,iW p.1=.st x∨iW p.1=.name x->Nm x
 |N,.nd w Z,B,h,p,b,x,a=>by cases h with| @mk n _ _ d f=>rw[cK] at b;rcases Xj.mp b with rfl|b;rcases a with a|a;have:w=.st x:=a;subst this;exact c.h _ d.2;have:w=.name x:=a;subst this;exact c.h _ d.2;exact Eo c n Z _ _ f p b x a
theorem Eo {R:Rl}(b:tB R):∀(N:Nat)(Z:List E)(B C:List Str),(∀k∈Z,Ex R N k)->∀p∈fZ B C Z,∀x,iW p.1=.st x∨iW p.1=.name x->Nm x
 |N,[],B,C,_,p,a,_,_=>by cases a
 |N,k::Z,B,C,h,p,a,x,c=>by rw[fZ] at a;rcases Xn.mp a with a|a;exact Dg b N k B (h k W8) p a x c;exact Eo b N Z C C (fun j d=>h j (W7 _ d)) p a x c
end
theorem FK:∀(l:List (E×Int))(fr:List Str),(∀p∈l,∀x,iW p.1=.st x∨iW p.1=.name x->Nm x)->(∀x∈fr,Nm x)->∀x∈l.foldl eA fr,Nm x
 |[],fr,_,h,x,b=>h x b
 |p::l,fr,c,h,x,b=>by
  refine FK l _ (fun q f=>c q (W7 _ f)) (fun y a=>?_) x b;have d:=c p W8;have ad:∀z,Nm z->y∈aY z fr->Nm y:=fun z hz a=>by unfold aY at a;split at a;exact h y a;rcases Xn.mp a with q|q;exact h y q;rw[XH.mp q];exact hz
  unfold eA at a;split at a
  .next z e=>exact ad z (d z (.inl e)) a
  .next z e=>
   split at a;exact ad z (d z (.inr e)) a;exact h y a
  exact h y a
theorem En {fr:List Str}(h:fr.Nodup):(aY x fr).Nodup:=by
 unfold aY;split;exact h
 .next hx=>exact Y2.mpr ⟨h,by simp,fun a d b c=>by simp at c;rw[c];exact fun z=>hx (z▸d)⟩
theorem FJ:∀(l:List (E×Int))(fr:List Str),fr.Nodup->(l.foldl eA fr).Nodup
 |[],fr,h=>h
 |p::l,fr,h=>by refine FJ l _ ?_;unfold eA;split;exact En h;split;exact En h;exact h;exact h
theorem QM:∀args k,gW args k->aD (aB yh JK) (aW args k) (aR 4 args):=by rintro args k ⟨R,N,e,rfl,a,b,he,c,q⟩;have g:=zo [] e;refine⟨fun M=>∃Y s3,M=⟨[some (.fz (E.tv e)),some (.own (.dic (dF (mz e)))),Y,s3],[],[]⟩,⟨rfl,R,N,e,rfl,b,he,c,?_⟩,?_⟩;exact Ep (cK [] e) [] none none (by simp;lia) fun Y s3=>⟨Y,s3,rfl⟩;rintro M ⟨Y,s3,rfl⟩;refine⟨_,⟨mz e,?_,?_,rfl⟩,q⟩;unfold dF;rw[Ze];rfl;rw[Yp];intro x d;have:=FK (cK [] e) [] (Dg a N e [] he) (fun y f=>by cases f) x d;exact Xs (by have:=this.2.1;lia)
noncomputable def ez:List Str->Nat->List (aj×Tv)
 |[],_=>[]
 |x::l,i=>(.inr x,tk i)::ez l (i+1)
theorem GL:∀{l:List Str}{i:Nat},x∈l->cb (ez l i) (.inr x)=some (tk (i+bE x l))
 |y::l,i,h=>by rw[ez,cb,bE];by_cases e:y=x;subst e;rw[Xk rfl,Xk rfl];rfl;rw[Xh (fun z:(Sum.inr y:aj)=.inr x=>e (by injection z)),Xh e,GL ((Xj.mp h).resolve_left fun z=>e z.symm)];rw[show i+1+bE x l=i+(bE x l+1) by lia]
theorem FI:∀{l:List Str}{i:Nat},x∉l->((ez l i).any fun a=>decide (a.1=Sum.inr x))=false
 |[],_,_=>rfl
 |y::l,i,h=>by
  rw[ez,any_cons,FI fun z=>h (W7 _ z)];have:¬ (Sum.inr y:aj)=.inr x:=fun z=>by injection z with z;exact h (z▸W8)
  show(decide ((Sum.inr y:aj)=.inr x)||false)=false;rw[XW this];rfl
theorem FH:∀(l m:List Str)(i:Nat),ez (l++m) i=ez l i++ez m (i+l.length)
 |[],m,i=>rfl
 |x::l,m,i=>by rw[XR,ez,ez,FH l m (i+1),Xl,show i+1+l.length=i+(l.length+1) by lia];rfl
theorem QL {l:List Str}(h:x∉l):eU (ez l 0) (.inr x) (tk l.length)=ez (l++[x]) 0:=by unfold eU;rw[FI h,FH];simp [ez]
inductive cX (args:SA)(k:SK):Prop
 |mk (F B:List Str) (w:Wd) (Z:List E) (_:args=[.fz (Tree.tv Wd.hd (.nd w Z)),fi (cH B w),.own (.dic (ez F 0))]) (_:Z.length<=1000) (_:(∀x,w=.st x∨w=.name x/\cH B w<0->x∈F)) (_:k (.fz (.tup ((oB F w (cH B w)).map Tv.at))) [.fz (Tree.tv Wd.hd (.nd w Z)),fi (cH B w),.own (.dic (ez F 0))])
theorem Vp:∀args k,cX args k->aD (aB (JH dE) JI) (aW args k) (aR 3 args):=by
 rintro args k ⟨F,B,w,Z,rfl,a,b,q⟩;have c:∀x∈F,cb (ez F 0) (.inr x)=some (tk (bE x F)):=fun x d=>by have:=GL (i:=0) d;rw[Nat.zero_add] at this;exact this
 cases w with|st x=>exact bx (c x (b x (.inl rfl))) q|name x=>(generalize cH B (.name x)=o at b q ⊢;refine aF (fun g=>?_) (fun g=>?_);have g':o<0:=XY g;rw[oB,Xk g'] at q;exact bx (c x (b x (.inr ⟨rfl,g'⟩))) q;have g':¬o<0:=fun h=>g (Xs h);rw[oB,Xh g'] at q;refine⟨rfl,.name x,Z,o,rfl,a,?_⟩;rw[show bh (.name x) o=[.str "own",.int o] from Xk (by lia)];exact q)|lt x=>exact⟨rfl,_,Z,_,rfl,a,q⟩|_=>exact⟨rfl,_,Z,_,rfl,a,q⟩
def rS (F:List Str)(p:E×Int):Tv:=ei (uE F p)
inductive cW (args:SA)(k:SK):Prop
 |mk (R:Rl) (N:Nat) (e:E) (_:args=[.fz (E.tv e)]) (_:tB R) (_:N<=20) (_:Ex R N e) (_:e.cnt<=300000) (_:k (.own (.lst ((dU (aP [] [] e).1).map ei))) [.fz (E.tv e)])
abbrev pG:Gm:=JF gW di bH cX
theorem Df {k:List (aj×Tv)->Ms->Prop}:∀(l a:List Str)(s0 U:Option Sl),(a++l).Nodup->(∀s0 U,k (ez (a++l) 0) ⟨[s0,U],[],[]⟩)->sA (bd (.cons (.nm 0) (.cons (.nm 1) .nil))) (aq pG .tt).t (aq pG (.var 1)).e (aq pG (.var 0)).e k (iO a.length (l.map ts)) (ez a 0) ⟨[s0,U],[],[]⟩
 |[],a,s0,U,_,q=>by rw[Xm] at q;exact q s0 U
 |x::l,a,s0,U,b,q=>by
  have d:x∉a:=fun z=>(Y2.mp b).2.2 x z x W8 rfl;have c:a++x::l=(a++[x])++l:=by rw[Xy];rfl
  have:=Df (k:=k) l (a++[x]) (some (fi a.length)) (some (fs x)) (by rw[<- c];exact b) (by rw[<- c];exact q);rw[Xd] at this;rw[<- QL d] at this;exact this
theorem De {F:List Str}:∀(l:List (E×Int))(fr:List Str),l.foldl eA fr=F->(∀x∈fr,x∈F)/\∀p∈l,∀x,iW p.1=.st x∨(iW p.1=.name x/\p.2<0)->x∈F
 |[],fr,h=>⟨fun x a=>h▸a,fun p c=>by cases c⟩
 |p::l,fr,h=>by
  obtain⟨h1,d⟩:=De l (eA fr p) h;have ad:∀{x y:Str},x∈fr->x∈aY y fr:=fun a=>by unfold aY;split;exact a;exact X6 _ a
  refine⟨fun x a=>h1 x ?_,fun q b x a=>?_⟩;unfold eA;split;exact ad a;split;exact ad a;exact a;exact a;rcases Xj.mp b with rfl|b;refine h1 x ?_;unfold eA;rcases a with a|⟨a,e⟩;rw[a];exact qg x fr;rw[a];show x∈if q.2<0 then aY x fr else fr;rw[Xk e];exact qg x fr;exact d q b x a
mutual
theorem Dc {R:Rl}:∀(N:Nat)(e:E)(B:List Str),Ex R N e->∀p∈cK B e,∃C w Z,p=(.nd w Z,cH C w)/\Z.length<=1000
 |N,.nd w Z,B,h,p,a=>by cases h with| @mk n _ _ b c=>rw[cK] at a;rcases Xj.mp a with rfl|a;exact⟨B,w,Z,rfl,by have:=b.le;lia⟩;exact Em n Z _ _ c p a
theorem Em {R:Rl}:∀(N:Nat)(Z:List E)(B C:List Str),(∀k∈Z,Ex R N k)->∀p∈fZ B C Z,∃C w Z,p=(.nd w Z,cH C w)/\Z.length<=1000
 |N,[],B,C,_,p,a=>by cases a
 |N,k::Z,B,C,h,p,a=>by rw[fZ] at a;rcases Xn.mp a with a|a;exact Dc N k B (h k W8) p a;exact Em N Z C C (fun j b=>h j (W7 _ b)) p a
end
theorem El {F:List Str}{k:List Tv->Ms->Prop}:∀(l:List (E×Int))(a:List Tv)(U Y:Option Sl),(∀p∈l,∃C w Z,p=(.nd w Z,cH C w)/\Z.length<=1000)->(∀p∈l,∀x,iW p.1=.st x∨(iW p.1=.name x/\p.2<0)->x∈F) →(∀U Y,k (a++l.map (rS F)) ⟨[some (.out 0),U,Y],[.own (.dic (ez F 0))],[]⟩)->bo (bd (.cons (.nm 1) (.cons (.nm 2) .nil))) (aq pG .tt).t (aq pG Jj).e k (l.map mf) a ⟨[some (.out 0),U,Y],[.own (.dic (ez F 0))],[]⟩
 |[],a,U,Y,_,_,q=>by have:=q U Y;rw[Y3,Xm] at this;exact this
 |p::l,a,U,Y,c,d,q=>by
  obtain⟨C,w,Z,rfl,f⟩:=c p W8;have b:=d _ W8;have go:=fun U Y=>El (k:=k) l (a++[rS F (.nd w Z,cH C w)]) U Y (fun p b=>c p (W7 _ b)) (fun p b=>d p (W7 _ b)) (by rw[Xy];exact q);refine⟨rfl,F,C,w,Z,rfl,f,fun x g=>b x g,?_⟩;refine⟨rfl,w,Z,rfl,f,?_⟩;have:=go (some (.fz (Tree.tv Wd.hd (.nd w Z)))) (some (fi (cH C w)));have h:rS F (.nd w Z,cH C w)=.tup [.tup ((oB F w (cH C w)).map Tv.at),ti (E.tvL Z).length]:=by rw[cm];rfl
  rw[h] at this;exact this
theorem Vo:∀args k,cW args k->aD (aB pG JG) (aW args k) (aR 2 args):=by
 rintro args k ⟨R,N,e,rfl,d,b,he,c,q⟩;have i:=zo [] e;have f:(mz e).length<=(cK [] e).length:=by
  have:∀(l:List (E×Int))(fr:List Str),(l.foldl eA fr).length<=fr.length+l.length:=fun l=>by induction l with|nil=>(exact fun fr=>W9 _)|cons p l g=>exact fun fr=>by rw[foldl_cons,Xl];have:=g (eA fr p);have:=FL fr p;lia
  have:=this (cK [] e) [];rw[length_nil,Nat.zero_add] at this;exact this
 have h:(mz e).Nodup:=FJ (cK [] e) [] nodup_nil;obtain⟨_,a⟩:=De (F:=mz e) (cK [] e) [] rfl;refine⟨rfl,R,N,e,rfl,d,b,he,c,?_⟩;refine⟨by rw[mU,Xa];lia,rfl,?_⟩;rw[om];refine Df (mz e) [] none none h fun s0 U=>?_;refine⟨rfl,R,N,e,rfl,b,he,c,?_⟩;refine⟨by rw[Xa];lia,rfl,?_⟩;refine El (cK [] e) [] none none (Dc N e [] he) a fun U Y=>?_;rw[XM];rw[OP,Ze] at q;exact q
noncomputable def Sw.of:List V->Option Sw
 |[.str s]=>if s="let" then some .lt else if s="take" then some (.wd .take) else if s="pick" then some (.wd .pick) else if s="say" then some (.wd .say) else some (.wd .do)
 |[.str s,.int i]=>if s="own" then some (.own i.toNat) else if s="free" then some (.free i.toNat) else if s="set" then some (.st i.toNat) else if s="num" then some (.wd (.num i)) else some (.wd (.again i))
 |[.str s,.str x]=>if s="name" then some (.wd (.name x)) else if s="op" then some (.wd (.op x)) else if s="let" then some (.wd (.lt x)) else if s="set" then some (.wd (.st x)) else some (.wd (.call x))
 |_=>none
theorem Sw.of_hd (a:Sw):Sw.of a.hd=some a:=by cases a with|wd w=>(cases w <;> rfl)|_=>rfl
theorem Sw.inj {a b:Sw}(h:a.hd=b.hd):a=b:=by have:=Yd Sw.of h;rw[Sw.of_hd,Sw.of_hd] at this;exact Xt this
theorem Ek:∀{l m:List V}{Z a:List ST},l.map Tv.at++ST.tvL Z=m.map Tv.at++ST.tvL a->l=m/\ST.tvL Z=ST.tvL a
 |[],[],_,_,h=>⟨rfl,h⟩
 |v::l,w::m,Z,a,h=>by simp only [Xp,XR,List.cons.injEq,Tv.at.injEq] at h;obtain⟨h1,b⟩:=h;obtain⟨c,d⟩:=Ek b;exact⟨by rw[h1,c],d⟩
 |[],w::m,Z,a,h=>by cases Z with|nil=>simp [ST.tvL,Tree.tvL] at h|cons k Z=>cases k;simp [ST.tvL,Tree.tvL,Tree.tv] at h
 |v::l,[],Z,a,h=>by cases a with|nil=>simp [ST.tvL,Tree.tvL] at h|cons k Z=>cases k;simp [ST.tvL,Tree.tvL,Tree.tv] at h
mutual
theorem C9:∀{t u:ST},ST.tv t=ST.tv u->t=u
 | .nd a Z,.nd b d,h=>by rw[ST.tv,ST.tv,Tree.tv,Tree.tv] at h;injection h with h;obtain⟨h1,c⟩:=Ek h;rw[Sw.inj h1,Ej c]
theorem Ej:∀{Z a:List ST},ST.tvL Z=ST.tvL a->Z=a
 |[],[],_=>rfl
 |k::Z,j::a,h=>by rw[ST.tvL,ST.tvL,Tree.tvL,Tree.tvL] at h;injection h with h1 b;rw[C9 h1,Ej b]
 |[],j::a,h=>by rw[ST.tvL,ST.tvL,Tree.tvL,Tree.tvL] at h;cases h
 |k::Z,[],h=>by rw[ST.tvL,ST.tvL,Tree.tvL,Tree.tvL] at h;cases h
end
mutual
theorem Ei:∀{t u:ST}{r s:List (List V×Nat)},dU t++r=dU u++s->t=u/\r=s
 | .nd a Z,.nd b g,r,s,h=>by rw[dU,dU,XR,XR] at h;injection h with h1 c;injection h1 with h1 d;obtain⟨e,f⟩:=FG d c;rw[Sw.inj h1,e];exact⟨rfl,f⟩
theorem FG:∀{Z a:List ST}{r s:List (List V×Nat)},Z.length=a.length->gL Z++r=gL a++s->Z=a/\r=s
 |[],[],r,s,_,h=>⟨rfl,h⟩
 |k::Z,j::a,r,s,b,h=>by rw[gL,gL,Xy,Xy] at h;obtain⟨h1,c⟩:=Ei h;obtain⟨d,e⟩:=FG (by simpa using b) c;rw[h1,d];exact⟨rfl,e⟩
 |[],j::a,_,_,b,_=>by cases b
 |k::Z,[],_,_,b,_=>by cases b
end
theorem OO {p q:List V×Nat}(h:ei p=ei q):p=q:=by
 unfold ei at h;simp only [Tv.tup.injEq,List.cons.injEq,and_true] at h;obtain⟨h1,c⟩:=h;have d:p.1=q.1:=by
  have:∀{l m:List V},l.map Tv.at=m.map Tv.at->l=m:=fun {l}=>by
   induction l with
   |nil=>(intro m h;cases m;rfl;cases h)
   |cons a l e=>intro m h;cases m with
    |nil=>cases h
    |cons b m=>injection h with h1 c;injection h1 with h1;rw[h1,e c]
  exact this h1
 have f:p.2=q.2:=by have:=c;unfold ti at this;injection this with this;injection this with this;exact Int.ofNat.inj this
 exact Prod.ext d f
def dk (t:ST):Tv:=.tup ((dU t).map ei)
theorem QK {t u:ST}(h:dk t=dk u):t=u:=by
 unfold dk at h;injection h with h;have:∀{l m:List (List V×Nat)},l.map ei=m.map ei->l=m:=fun {l}=>by
  induction l with
  |nil=>(intro m h;cases m;rfl;cases h)
  |cons a l c=>intro m h;cases m with
   |nil=>cases h
   |cons b m=>injection h with h1 d;rw[OO h1,c d]
 have:=this h;exact(Ei (r:=[]) (s:=[]) (by rw[this])).1
inductive PK:Tv->Prop where
 |int (i:Int):PK (.at (.int i))
 |str (x:Str):PK (.at (.str x))
 |tup {l:List Tv} (h:∀t∈l,PK t):PK (.tup l)
mutual
noncomputable def a8:Tv->NT aj
 | .at (.int i)=>.at (.inl i)
 | .at (.str x)=>.at (.inr x)
 | .tup l=>.tup (lj l)
 |_=>.at (.inl 0)
noncomputable def lj:List Tv->List (NT aj)
 |[]=>[]
 |t::l=>a8 t::lj l
end
mutual
noncomputable def pd:NT aj->Tv
 | .at (.inl i)=>.at (.int i)
 | .at (.inr x)=>.at (.str x)
 | .tup l=>.tup (r9 l)
noncomputable def r9:List (NT aj)->List Tv
 |[]=>[]
 |t::l=>pd t::r9 l
end
theorem PK.back (h:PK t):pd (a8 t)=t:=by
 induction h with
 |int i=>rw[a8,pd]|str x=>rw[a8,pd]
 | @tup l _ c=>
  have:∀{m:List Tv},(∀t∈m,pd (a8 t)=t)->r9 (lj m)=m:=fun {m}=>by induction m with|nil=>(intro _;rw[lj,r9])|cons a m b=>intro h;rw[lj,r9,h a W8,b fun t d=>h t (W7 _ d)]
  rw[a8,pd,this c]
theorem PK.inj {u:Tv}(h:PK t)(g:PK u)(e:a8 t=a8 u):t=u:=by rw[<- h.back,<- g.back,e]
def ac (H:Hp):Hp:=GT (fun _=>none) H
theorem ac.sub (H:Hp):Same (ac H) H:=GT.sub fun a o e=>by cases e
theorem ac.mono (t:∀a C,H a=some (.tup C)->H' a=some (.tup C)):Same (ac H) (ac H'):=GT.mono (fun a o e=>by cases e) t
theorem ac.same (s:Same H H'):Same (ac H) (ac H'):=ac.mono fun a C e=>s _ _ e
section
theorem PK.tt (c:Same G H){t:Tv}(h:PK t):∀{v:V},IsT K G v t->IsT K (ac H) v t:=by
 induction h with
 | int i =>( intro v q; cases q with | «at» f => exact .at f)| str x =>( intro v q; cases q with | «at» f => exact .at f)
 | @tup l _ d=>
  intro v q;cases q with
  |tup e r=>
   refine .tup (GT.tup (c _ _ e)) ?_;have:∀{m:List Tv}{C:List V},(∀t∈m,∀{v:V},IsT K G v t->IsT K (ac H) v t)->IsTs K G C m->IsTs K (ac H) C m:=fun {m}=>by induction m with|nil=>(intro C _ r;cases r;exact .nil)|cons a m b=>intro C h r;cases r with|cons g j=>exact .cons (h a W8 g) (b (fun t k=>h t (W7 _ k)) j)
   exact this d r
theorem PK.tts (a:Same G H){l:List Tv}{C:List V}(h:∀t∈l,PK t)(g:IsTs K G C l):IsTs K (ac H) C l:=by induction l generalizing C with|nil=>(cases g;exact .nil)|cons t l i=>cases g with|cons b c=>exact .cons ((h t W8).tt a b) (i (fun u d=>h u (W7 _ d)) c)
end
inductive KeyT:Nat->Tv->Prop where
 |int {n:Nat} (i:Int):KeyT n (.at (.int i))
 |str {n:Nat} {x:Str} (h:x.length<=1000):KeyT n (.at (.str x))
 |tup {n:Nat} {l:List Tv} (h:∀t∈l,KeyT n t):KeyT (n+1) (.tup l)
theorem KeyT.th {n:Nat}(h:KeyT n t):TvTh t (c0 (a8 t))/\dp (c0 (a8 t))<=n:=by
 induction h with
 |int i=>rw[a8,c0,dp];exact⟨.at rfl,Xw _⟩|str h=>rw[a8,c0,dp];exact⟨.at (Xs h),Xw _⟩
 | @tup n l _ d=>
  have:∀{m:List Tv},(∀t∈m,TvTh t (c0 (a8 t))/\dp (c0 (a8 t))<=n)->TvThs m (ke (lj m))/\nY (ke (lj m))<=n:=fun {m}=>by induction m with|nil=>(intro _;rw[lj,ke,nY];exact⟨.nil,Xw _⟩)|cons a m c=>intro h;rw[lj,ke,nY];obtain⟨e,g⟩:=h a W8;obtain⟨b1,j⟩:=c fun t f=>h t (W7 _ f);exact⟨.cons e b1,by lia⟩
  obtain⟨a,b⟩:=this d;rw[a8,c0,dp];exact⟨.tup a,by lia⟩
theorem Sw.pk (a:Sw):∀v∈a.hd,PK (.at v):=by intro v b;cases a with|wd w=>(cases w <;> simp [Sw.hd,Wd.hd] at b <;> (first | (subst b;constructor) | (rcases b with rfl|rfl <;> constructor)))|_=>simp [Sw.hd] at b <;> (first | (subst b;constructor) | (rcases b with rfl|rfl <;> constructor))
mutual
theorem sg:∀t:ST,PK (ST.tv t)
 | .nd a Z=>by rw[ST.tv,Tree.tv];refine .tup fun u b=>?_;rcases Xn.mp b with h|h;obtain⟨v,c,rfl⟩:=XA.mp h;exact a.pk v c;exact C8 Z u h
theorem C8:∀(Z:List ST)(u:Tv),u∈ST.tvL Z->PK u
 |[],u,h=>by cases h
 |k::Z,u,h=>by rw[ST.tvL,Tree.tvL] at h;rcases Xj.mp h with h|h;rw[h];exact sg k;exact C8 Z u h
end
mutual
theorem yS:∀(t:ST)(p:List V×Nat),p∈dU t->∃a:Sw,p.1=a.hd
 | .nd a Z,p,h=>by rw[dU] at h;rcases Xj.mp h with rfl|h;exact⟨a,rfl⟩;exact Eh Z p h
theorem Eh:∀(Z:List ST)(p:List V×Nat),p∈gL Z->∃a:Sw,p.1=a.hd
 |[],p,h=>by cases h
 |k::Z,p,h=>by rw[gL] at h;rcases Xn.mp h with h|h;exact yS k p h;exact Eh Z p h
end
theorem B4 {p:List V×Nat}(h:∃a:Sw,p.1=a.hd):PK (ei p):=by obtain⟨a,e⟩:=h;refine .tup fun u b=>?_;simp at b;rcases b with rfl|rfl;refine .tup fun u b=>?_;obtain⟨v,c,rfl⟩:=XA.mp b;rw[e] at c;exact a.pk v c;exact .int _
theorem Eg (t:ST):PK (dk t):=.tup fun u a=>by obtain⟨p,b,rfl⟩:=XA.mp a;exact B4 (yS t p b)
theorem FF {t u:ST}(h:a8 (dk t)=a8 (dk u)):t=u:=QK ((Eg t).inj (Eg u) h)
theorem C7 {t u:ST}(h:a8 (ST.tv t)=a8 (ST.tv u)):t=u:=C9 ((sg t).inj (sg u) h)
end
section
def kJ (P:Program)(w:World):HeapKind P w (NT aj):=RH P w 8 (by decide)
abbrev fe:=List (NT aj×Addr×V)
def qr (P:Program)(w:World)(a:Addr)(kvs:fe)(ep:Nat)(h:Heap):Prop:=(a==sysModules)=false/\kvs.length<=sizeLine/\∃xs:List (NT aj×Addr×Value),Paired kg kvs xs ∧∃o es,h.get? a=some o/\o.ExactDict/\o.data=.dict es ep/\es.toList=xs.map (entryOfKey (kJ P w))/\(xs.map (·.1)).Nodup
noncomputable def cw (P:Program)(w:World)(a:Addr)(kvs:fe)(ep:Nat):HO:=.ext (qr P w a kvs ep)
def oV (H:Hp)(kvs:fe):Prop:=∀p∈kvs,b7 H (.ref p.2.1) (c0 p.1)/\dp (c0 p.1)<=8
variable {u:Value}{H:Hp}{a b it d:Addr}{P prog:Program}{w:World}{h:Heap}{e j:Expr}{X:Cx}{B:List (Addr×Obj)}{C:St}{i ep:Nat}{Q:Value->Shared->Prop}{K:W.Frag}{G r J:Pos}{tl L ty:TE}{kvs:fe}
theorem QJ (h1 b:Heap)(x:qr P w a kvs ep h1)(k:∀o,h1.get? a=some o->b.get? a=some o):qr P w a kvs ep b:=let ⟨y,z,xs,r,o,es,e,c⟩:=x
 ⟨y,z,xs,r,o,es,k o e,c⟩
theorem yA (x:qr P w a kvs ep h):ObjOk P w H h a (cw P w a kvs ep):=by refine⟨x,?_,QJ⟩;obtain⟨_,_,_,_,o,_,e,_⟩:=x;exact⟨o,e⟩
theorem mL (ok:HOk P w H h)(e:H a=some (cw P w a kvs ep)):qr P w a kvs ep h:=(show qr P w a kvs ep h/\_ from ok a _ e).1
theorem vC (ok:HOk P w H h)(e:H a=some (cw P w a kvs ep))(c:oV H kvs):∃xs,Paired kg kvs xs/\h.DictOfH (kJ P w) a xs:=by obtain⟨_,_,xs,r,o,es,h1,d,f,g,i⟩:=mL ok e;refine⟨xs,r,o,es,ep,h1,d,f,g,fun x j=>?_,i⟩;obtain⟨p,k,b,l,_⟩:=DA r x j;obtain⟨g1,g2⟩:=c p k;rw[b,l] at g1;rw[b] at g2;exact sE ok 8 g1 g2 rfl
def Ni (P:Program)(w:World):TE:=fun _ H Q=>∀p,H p=none->Q (.ref p) (ak H p (cw P w p [] 0))
def Nh (P:Program)(w:World)(L ty e:TE):TE:=fun C H Q=>L C H fun x d=>∃a f g,x=.ref a/\d a=some (cw P w a f g)/\ty C d fun y h=>e C h fun z c=>∃kvs ep t b,c a=some (cw P w a kvs ep)/\y=.ref b ∧b7 c (.ref b) (c0 t)/\dp (c0 t)<=8/\oV c kvs/\kvs.length<sizeLine/\(∀v,dq kvs t=some v->Q v c)/\(dq kvs t=none->∀i,Q z (ak c a (cw P w a (kvs++[(t,b,z)]) i)))
def C6 (P:Program)(w:World)(L ty:TE):TE:=fun C H Q=>L C H fun x d=>ty C d fun y c=>∃a kvs ep t b v,x=.ref a/\c a=some (cw P w a kvs ep)/\y=.ref b/\b7 c (.ref b) (c0 t)/\dp (c0 t)<=8/\oV c kvs/\dq kvs t=some v/\Q v c
def ON (P:Program)(w:World)(L ty e:TE):TE:=fun C H Q=>L C H fun x d=>∃a f g,x=.ref a/\d a=some (cw P w a f g)/\ty C d fun y h=>e C h fun z c=>∃kvs ep t b,c a=some (cw P w a kvs ep)/\y=.ref b ∧b7 c (.ref b) (c0 t)/\dp (c0 t)<=8/\oV c kvs/\Q ((dq kvs t).getD z) c
def iQ (kvs:fe)(t:NT aj)(b:Addr)(v:V):fe:=if (dq kvs t).isSome then kvs.map fun p=>if p.1=t then (p.1,p.2.1,v) else p else kvs++[(t,b,v)]
def Ng (P:Program)(w:World)(L ty tv:TE):TS:=fun D C H=>tv C H fun v d=>L C d fun x e=>ty C e fun y c=>∃a kvs ep t b,x=.ref a/\c a=some (cw P w a kvs ep)/\y=.ref b/\b7 c (.ref b) (c0 t)/\dp (c0 t)<=8/\oV c kvs/\kvs.length<sizeLine ∧∀f,D.nx C (ak c a (cw P w a (iQ kvs t b v) f))
theorem QI {xs:List (NT aj×Addr×Value)}{t:NT aj}{v:V}(r:Paired kg kvs xs)(f:RelV v u):Paired kg (iQ kvs t b v) (storedH xs t b u):=by
 have a:=sD r t;unfold iQ storedH;cases g:dq kvs t with
 |none=>(rw[g] at a;cases e:atKey xs t with|some p=>rw[e] at a;exact a.elim|none=>exact vM r ⟨rfl,rfl,f⟩)
 |some w=>
  rw[g] at a;cases e:atKey xs t with
  |none=>rw[e] at a;exact a.elim
  |some p=>
   show Paired kg (kvs.map _) (xs.map _);have:∀{l:fe}{h:List (NT aj×Addr×Value)},Paired kg l h->Paired kg (l.map fun p=>if p.1=t then (p.1,p.2.1,v) else p) (h.map (putAt t u)):=fun r=>by induction r with|nil=>exact .nil| @cons p q _ _ h1 _ j=>refine .cons ?_ j;obtain⟨c,i,k⟩:=h1;show kg (if p.1=t then (p.1,p.2.1,v) else p) (if q.1=t then (q.1,q.2.1,u) else q);by_cases d:q.1=t;rw[Xk (c.trans d),Xk d];exact⟨c,i,f⟩;rw[Xh (fun z=>d (c.symm.trans z)),Xh d];exact⟨c,i,k⟩
   exact this r
theorem FE (kvs:fe)(t:NT aj)(b:Addr)(v:V):(iQ kvs t b v).length<=kvs.length+1:=by unfold iQ;split;rw[Xa];lia;simp
section
variable {o f i M:Expr}{pos:Pos}{O tv:TE}
theorem FD:PE X (.Dict [] [] pos) (Ni X.prog X.w):=fun B s C H Q I h=>
 wpAny_Dict_empty ⟨.ref s.heap.objs.size,_,I.laid (a:=s.heap.objs.size) (o:=cw X.prog X.w s.heap.objs.size [] 0) (t':=s.toks) (fun _ _ q=>W5 _ q) (W9 _)
  (yA ⟨XX.mpr (Ne.symm (Xu I.big)),Xw _,[],.nil,_,#[],Xg _ rfl,⟨rfl,rfl,rfl⟩,rfl,rfl,nodup_nil⟩),rfl,h _ (I.hok.fresh (W9 _))⟩
theorem zj {s:Shared}(I:Inv X B C H s)(e:H a=some (cw X.prog X.w a kvs ep)):s.TypeIs (.ref a) "dict"/\∀b,Value.ref a=.ref b->∃ob,s.heap.get? b=some ob/\ob.dict=none:=by obtain⟨_,_,_,_,ob,_,g1,g2,_⟩:=mL I.hok e;exact⟨⟨ob,g1,g2.1⟩,fun b q=>by cases q;exact⟨ob,g1,g2.2.1⟩⟩
theorem QH (hu:X.A.units+9<cLine)(N:PE X o L)(he:PE X e ty)(P:PE X f O)(m:M2 X o "setdefault" r e f J):PE X (.Call (.Attribute o "setdefault" r) [e,f] [] J) (Nh X.prog X.w L ty O):=by
 intro B s C H Q I h;refine wpAny_Call_method m.base m.few m.line YM YU PySem.F.type_dict_setdefault (aw (N B s C H _ I h) fun u R ⟨x,S,G,T,a,jB,rQ,ex,k,U⟩=>?_);subst ex;obtain rfl:u=Value.ref a:=T;have i:=zj G k;refine⟨i.1,i.2,?_⟩;rw[m.trees];refine Yk rfl (YF (X5 (aw (he B R C S _ G U) fun V W ⟨y,Y,Z,ry,q2⟩=>
  X5 (aw (P B W C Y _ Z q2) fun fv s3 ⟨z,H3,j,K,kvs,ep,t,b,l,ey,ht,n,hK,hl,q3,q4⟩=>YY ?_))))
 subst ey;obtain rfl:V=Value.ref b:=ry;obtain⟨hd,hz,_⟩:=mL j.hok l;obtain⟨xs,D,M⟩:=vC j.hok l hK;have L3:kvs.length=xs.length:=km D;have d:=sD D t;have E:(kJ X.prog X.w).is s3.heap t b:=sE j.hok 8 ht n rfl;refine call_meetsIn YU M.typeIs PySem.F.entry_dict_setdefault (PySem.F.args_dict_setdefault_3 _ _ _) (UT (kJ X.prog X.w) a b hd fv) ⟨(by show X.A.units+1+8<cLine;lia),t,xs,E,M,by lia,fun p hp=>?_,fun hn h' fq hs=>?_⟩;rw[hp] at d;cases g:dq kvs t with|none=>rw[g] at d;exact d.elim|some v=>rw[g] at d;exact⟨v,H3,j.tok _,d,q3 v g⟩
 rw[hn] at d;cases g:dq kvs t with|some v=>rw[g] at d;exact d.elim|none=>obtain⟨ob,es,eN,g1,g2,g3,g4,_,g5⟩:=fq;exact⟨z,_,j.write (x:=a) (e:=a) (by rw[l];exact True.intro) (.inl rfl) (fun c q hb z=>(hs.2 c hb).trans z) ⟨ob,g1⟩ (yA ⟨hd,by rw[Xd,length_singleton];lia,_,vM D ⟨rfl,rfl,K⟩,ob,es,g1,g2,g3,g4,g5⟩),K,q4 g eN⟩
theorem QG (U:X.A.units+9<cLine)(k:PE X o L)(l:PE X i ty)(m:uM i):PE X (.Subscript o i pos) (C6 X.prog X.w L ty):=by intro B s C H Q I h;refine E6 PySem.F.slot_dict_getitem.lookup m (aw (k B s C H _ I h) fun u n ⟨x,q,r,z,D⟩=>aw (l B n C q _ r D) fun E G ⟨y,J,d,K,a,kvs,ep,t,b,v,ex,j,M,N,e,O,P,R⟩=>?_);subst ex M;obtain rfl:u=Value.ref a:=z;obtain rfl:E=Value.ref b:=K;obtain⟨xs,S,T⟩:=vC d.hok j O;have c:=sD S t;have f:(kJ X.prog X.w).is G.heap t b:=sE d.hok 8 N e rfl;rw[P] at c;cases g:atKey xs t with|none=>rw[g] at c;exact c.elim|some p=>rw[g] at c;exact⟨(zj d j).1,wpAny_getItem_heap (by show X.A.units+1+8<cLine;lia) f T g ⟨v,J,d.tok _,c,R⟩⟩
theorem Sj (hu:X.A.units+9<cLine)(p:PE X o L)(he:PE X e ty)(q:PE X f O)(m:M2 X o "get" r e f J):PE X (.Call (.Attribute o "get" r) [e,f] [] J) (ON X.prog X.w L ty O):=by
 intro B s C H Q I h;refine wpAny_Call_method m.base m.few m.line YM Yc PySem.F.type_dict_get (aw (p B s C H _ I h) fun u v ⟨x,D,k,E,a,jB,rQ,ex,g,G⟩=>?_);subst ex;obtain rfl:u=Value.ref a:=E;have c:=zj k g;refine⟨c.1,c.2,?_⟩;rw[m.trees];refine Yk rfl (YF (X5 (aw (he B v C D _ k G) fun K M ⟨y,N,P,R,S⟩=>
  X5 (aw (q B M C N _ P S) fun fv s3 ⟨z,T,d,U,kvs,ep,t,b,l,V,W,i,Y,Z⟩=>YY ?_))))
 subst V;obtain rfl:K=Value.ref b:=R;obtain⟨hd,hz,_⟩:=mL d.hok l;obtain⟨xs,aT,n⟩:=vC d.hok l Y;have hg:=sD aT t;have j:(kJ X.prog X.w).is s3.heap t b:=sE d.hok 8 W i rfl;refine call_meetsIn Yc n.typeIs YR (PySem.F.args_dict_get_3 _ _ _) (meetsH_dict_get_default (kJ X.prog X.w) a b hd fv) ⟨(by show X.A.units+1+8<cLine;lia),t,xs,j,n,?_⟩;exact⟨_,T,d.tok _,hg.getD U,Z⟩
theorem QF (hu:X.A.units+9<cLine)(m:PE X o L)(n:PE X i ty)(p:PE X M tv)(f:swapsWith M (some (.Subscript o i G)) pos.line X.env=pure false):PS X (.Assign [.Subscript o i G] M pos) (Ng X.prog X.w L ty tv):=by intro B s C H D I h;refine wpAny_Assign_Subscript (aw (p B s C H _ I h) fun r E ⟨v,F,J,K,N⟩=>aw (m B E C F _ J N) fun u O ⟨x,P,Q,R,S⟩=>aw (n B O C P _ Q S) fun T s3 ⟨y,H3,d,U,a,kvs,ep,t,b,ex,g,V,W,j,Y,hl,Z⟩=>?_) f;subst ex V;obtain rfl:u=Value.ref a:=R;obtain rfl:T=Value.ref b:=U;obtain⟨hd,hz,_⟩:=mL d.hok g;obtain⟨xs,l,dd⟩:=vC d.hok g Y;have L3:kvs.length=xs.length:=km l;have k:(kJ X.prog X.w).is s3.heap t b:=sE d.hok 8 W j rfl;have hpl:=FE kvs t b v;refine wpAny_setItem_heap (hsz:=by lia) (by show X.A.units+1+8<cLine;lia) k dd fun h' fq f=>?_;obtain⟨ob,es,eN,g1,g2,g3,g4,_,g5⟩:=fq;exact⟨C,_,d.write (x:=a) (e:=a) (by rw[g];exact True.intro) (.inl rfl) (fun c q hb z=>(f.2 c hb).trans z) ⟨ob,g1⟩ (yA ⟨hd,by lia,_,QI l K,ob,es,g1,g2,g3,g4,g5⟩),Z eN⟩
end
section
variable {A:Around}{E:Value->Shared->Prop}{s:Shared}
def EsAt (h:Heap)(d:Addr)(es:Array DictEntry)(ep:Nat):Prop:=∃o,h.get? d=some o/\o.ExactDict/\o.data=.dict es ep
theorem EsAt.type {es:Array DictEntry}(m:EsAt s.heap d es ep):s.TypeIs (.ref d) "dict":=let ⟨o,a,b,_⟩:=m;⟨o,a,b.1⟩
theorem OM {es:Array DictEntry}(hd:(d==sysModules)=false)(c:EsAt s.heap d es ep)
  (f:Q (.ref s.heap.objs.size) { s with heap:=s.heap.push { cls:=.type "dict_keyiterator",data:=.fields #[.ref d,.int 0 0,.int es.size 0,.int ep 0] } }):
  wpAny (model prog w) A (pyIter (.ref d)) Q E s:=by
 have b:=c.type;obtain⟨o,e,g,a⟩:=c;refine wpAny_pyIter_slot b PySem.F.slot_dict_iter (Xz PySem.F.slot_dict_iter b PySem.F.entry_dict_iter ?_ (PySem.F.args_dict_iter_1 _));unfold Builtin.«dict.__iter__»;refine W3 ?_;unfold Builtin.Dict.dictSlotNone;refine W3 (wpAny_notOrdered_dict b ?_);refine Xb (?_:wpAny _ _ (Builtin.Dict.showsAll d >>= _) _ _ s);unfold Builtin.Dict.showsAll;rw[Xh (by rw[hd];exact W6)];refine W3 (Xb (W3 (wpAny_dictEntries e a (W3 (wpAny_dictEpoch e a ?_)))));exact W3 (Xo (Xb ⟨_,rfl,"dict_keyiterator",_,⟨_,Xg _ rfl,rfl⟩,PySem.F.slot_dict_keyiterator_next.lookup,f⟩))
theorem OL {es:Array DictEntry}{Q:Option Value->Shared->Prop}(g:s.heap.IsKeyIter it d i es.size ep)(j:EsAt s.heap d es ep)(e:i<es.size)
  (k:∀h',h'.IsKeyIter it d (i+1) es.size ep->Heap.SameBut it s.heap h'->Q (some es[i].key) { s with heap:=h' }):wpAny (model prog w) A (pyNext (.ref it)) Q E s:=by
 have a:=g.typeIs;obtain⟨o,f,l,hd⟩:=g;obtain⟨m,b,n,c⟩:=j;unfold pyNext
 refine W3 (YG (XC (name:=Str.ofString "__next__") a YA
  (Xz YA a PySem.F.entry_dict_keyiterator_next ?_ (PySem.F.args_dict_keyiterator_next_1 _))))
 refine W3 (Xb (W3 (W3 ?_)))
 first|refine W3 (YO a (Xb ?_))|refine W3 (Y7 a (Xb ?_))
 refine W3 (wpAny_fieldsOf f hd ?_);rw[show Builtin.Dict_items.ownsTuple "dict_keyiterator"=false by decide];show wpAny _ _ (if (Value.ref d==Value.none)=true then _ else _) _ _ s;rw[Xh (show ¬ ((Value.ref d==Value.none)=true) from W6)];refine W3 (Xb (W3 (wpAny_dictEntries b c ?_)));rw[Xh (by simp)];refine W3 (Xb (W3 (wpAny_dictEpoch b c ?_)));rw[Xh (by simp)];refine Xb ?_;simp only [show ¬ ((i:Int)<0) from by lia,Y9,Yj,Array.getElem?_eq_getElem e];refine W3 ?_
 first|refine W3 (YO a (Xb ?_))|refine W3 (Y7 a (Xb ?_))
 refine W3 (wpAny_isOneOf_keyiter a (?_:wpAny _ _ (setField (.ref it) 1 (rawInt ((i:Int)+1)) >>= _) _ _ s));refine W3 (YI f hd (by simp) ?_)
 have h:(s.heap.update it (Obj.mapFields (·.setIfInBounds 1 (rawInt ((i:Int)+1))))).IsKeyIter it d (i+1) es.size ep:=⟨_,Ym _ f (YW (X4 hd _)),(Obj.cls_mapFields ..).trans l,by rw[X4 hd];simp [rawInt]⟩
 refine W3 (Yu (W3 (wpAny_isOneOf_keyiter (s:={ s with heap:=s.heap.update it (Obj.mapFields (·.setIfInBounds 1 (rawInt ((i:Int)+1)))) }) h.typeIs ?_)));show wpAny _ _ (pure es[i].key) _ _ _;exact Xb (Xb ⟨_,rfl,Xb (k _ h (X9 ..))⟩)
theorem Nf {es:Array DictEntry}{Q:Option Value->Shared->Prop}(j:A.handled=none)(g:s.heap.IsKeyIter it d i es.size ep)(k:EsAt s.heap d es ep)(l:es.size<=i)
  (n:∀h',Heap.ExtBut it s.heap h'->Q none { s with heap:=h' }):wpAny (model prog w) A (pyNext (.ref it)) Q E s:=by
 have c:=g.typeIs;obtain⟨o,h,p,hd⟩:=g;obtain⟨q,e,r,f⟩:=k;unfold pyNext
 refine W3 (YG (XC (name:=Str.ofString "__next__") c YA
  (Xz YA c PySem.F.entry_dict_keyiterator_next ?_ (PySem.F.args_dict_keyiterator_next_1 _))))
 refine W3 (Xb (W3 (W3 ?_)))
 first|refine W3 (YO c (Xb ?_))|refine W3 (Y7 c (Xb ?_))
 refine W3 (wpAny_fieldsOf h hd ?_);rw[show Builtin.Dict_items.ownsTuple "dict_keyiterator"=false by decide];show wpAny _ _ (if (Value.ref d==Value.none)=true then _ else _) _ _ s;rw[Xh (show ¬ ((Value.ref d==Value.none)=true) from W6)];refine W3 (Xb (W3 (wpAny_dictEntries e f ?_)));rw[Xh (by simp)];refine W3 (Xb (W3 (wpAny_dictEpoch e f ?_)));rw[Xh (by simp)];refine Xb ?_;simp only [show ¬ ((i:Int)<0) from by lia,Y9,Yj,Array.getElem?_eq_none l];refine W3 ?_
 first|refine W3 (YO c (Xb ?_))|refine W3 (Y7 c (Xb ?_))
 show wpAny _ _ (setField (.ref it) 0 .none >>= _) _ _ s;refine W3 (YI h hd (by simp) (?_:wpAny _ _ (newExc (.type "StopIteration") [] >>= _) _ _ _));refine W3 ?_;simp only [newExc,newTuple];refine W3 (Xo ?_ (by size_fits));refine W3 (m:=firstArgMember _ _) (Zl (a:=Value.none) (by first|rfl | (simp only [firstArgMember];rfl)) ?_);refine Xo ?_ (by size_fits)
 delta raiseNew
 refine W3 (wpAny_handled ?_);rw[show A.in1.handled=none from j];refine W3 (Xb (wpAny_throw ?_));refine W3 (wpAny_isInstance (T:="StopIteration") (b:=true) ⟨_,Xg _ rfl,rfl⟩ isSubtype_stop ?_);exact Xb (n _ (((X9 ..).extBut.push _).push _))
end
theorem OK {A:Around}{E:Value->Shared->Prop}{s:Shared}{n:Nat}(a:s.heap.IsKeyIter it d i n ep)(h:Q (.ref it) s):wpAny (model prog w) A (pyIter (.ref it)) Q E s:=by refine wpAny_pyIter_slot a.typeIs PySem.F.slot_dict_keyiterator_iter (Xz PySem.F.slot_dict_keyiterator_iter a.typeIs PySem.F.entry_dict_keyiterator_iter ?_ (PySem.F.args_dict_keyiterator_iter_1 _));show wpAny _ _ (ret (.ref it)) _ _ s;exact Xb ⟨_,rfl,"dict_keyiterator",_,a.typeIs,PySem.F.slot_dict_keyiterator_next.lookup,h⟩
def tJ (P:Program)(w:World)(a:Addr)(kvs:fe)(ep:Nat):It:=⟨fun i H=>i<kvs.length/\H a=some (cw P w a kvs ep),fun i H x H'=>H'=H/\∃p,kvs[i]?=some p/\x=.ref p.2.1,fun i H=>kvs.length<=i/\H a=some (cw P w a kvs ep)⟩
theorem TQ (a it:Addr)(kvs:fe)(ep:Nat):cA P w K j (tJ P w a kvs ep) [it] it (fun i h=>h.IsKeyIter it a i kvs.length ep) where
 mem:=by simp
 obj:=fun i h st b hb=>by
  have e:b=it:=by simpa using hb
  subst e;obtain⟨o,e,c,d⟩:=st;exact⟨o,e,fun v z=>by rw[d] at z;cases z⟩
 keep:=fun i h h' st k=>by obtain⟨o,e,c,d⟩:=st;exact⟨o,k it (by simp) o e,c,d⟩
 item:=by
  intro X hP hw hK hc i B s C H E I hf st hg;subst hP hw hK;obtain⟨hi,ea⟩:=hg;obtain⟨f0,f1,f2,f3,f4,f5⟩:=hf it (by simp);obtain⟨hd,hz,xs,aT,o,es,g1,g2,g3,g4,g5⟩:=mL I.hok ea;have hl:es.size=kvs.length:=by rw[size_of_entries g4,<- km aT]
  rw[<- hl] at st;refine OL st ⟨o,g1,g2,g3⟩ (by lia) fun h' ed sb=>?_;have I1:Inv X B C H { s with heap:=h' }:=I.turned (t':=s.toks) (fun b o hb e=>(sb.2 b hb).trans e) f0 f1 f3 f4 f5;obtain⟨o',e',c',d'⟩:=id ed;rw[hl] at ed;have hx:i<xs.length:=by rw[<- km aT];exact hi
  have hk:es[i]'(by lia)=entryOfKey (kJ X.prog X.w) xs[i]:=by have:=entry_at g4 i;rw[Array.getElem?_eq_getElem (by lia),Xc hx] at this;exact Xt this
  have hr:kg kvs[i] xs[i]:=by have:=(vi aT i kvs[i] hx).2;rw[List.getD_eq_getElem?_getD,Xc hi] at this;exact this
  rw[hk];exact⟨_,rfl,pY (s:={ s with heap:=h' }) e' c' d' (by decide) ⟨.ref kvs[i].2.1,H,I1,by show Value.ref _=Value.ref _;rw[hr.2.1],⟨rfl,_,Xc hi,rfl⟩,ed,fun b hb=>(hf b hb).1⟩⟩
 done:=by
  intro X hP hw hK hc i B s C H E I hf st hg;subst hP hw hK;obtain⟨hi,ea⟩:=hg;obtain⟨f0,f1,f2,f3,f4,f5⟩:=hf it (by simp);obtain⟨hd,hz,xs,aT,o,es,g1,g2,g3,g4,g5⟩:=mL I.hok ea;have hl:es.size=kvs.length:=by rw[size_of_entries g4,<- km aT]
  rw[<- hl] at st;exact Nf (I.ok.hd hc) st ⟨o,g1,g2,g3⟩ (by lia) fun h' eb=>⟨rfl,I.turned (t':=s.toks) (fun b o hb e=>eb b o hb e) f0 f1 f3 f4 f5⟩
 self:=fun A i s Q E st h=>OK st h
def Nd (P:Program)(w:World)(tl:TE):TI:=fun C H R=>tl C H fun x b=>∃a kvs ep,x=.ref a/\b a=some (cw P w a kvs ep)/\R (tJ P w a kvs ep) b
theorem FC {l:Expr}(f:PE X l tl):PI X j l (Nd X.prog X.w tl):=by
 intro B s C H R I h;refine aw (f B s C H _ I h) fun v c ⟨x,g,d,i,k⟩=>?_;obtain⟨a,kvs,ep,e,m,q⟩:=k;subst e;cases i;obtain⟨hd,hz,xs,n,o,es,g1,g2,p,r,u⟩:=mL d.hok m;have f:es.size=kvs.length:=by rw[size_of_entries r,<- km n]
 refine OM hd ⟨o,g1,g2,p⟩ ?_;rw[f];refine⟨c.heap.objs.size,[c.heap.objs.size],_,_,g,rfl,d.kept (t':=c.toks) fun b o e=>W5 _ e,TQ a _ kvs ep,⟨_,Xg _ rfl,rfl,rfl⟩,fun b t=>?_,q⟩;have e:b=c.heap.objs.size:=by simpa using t
 subst e;exact d.fpOk (W9 _) (d.hok.fresh (W9 _))
end
section
variable {H H' G:Hp}{a b:Addr}{P:Program}{w:World}{X:Cx}{N ep:Nat}{t:Tv}{K:W.Frag}{c j ty:TE}{y:List V}{R:Rl}{kvs:fe}{mg:Str->Option Value}{base:Heap}{B:FuncData}{m:Int}{main:E}
theorem KeyT.up {n m:Nat}(h:KeyT n t):n<=m->KeyT m t:=by induction h generalizing m with|int i=>(exact fun _=>.int i)|str h=>(exact fun _=>.str h)|tup _ a=>intro c;obtain⟨j,rfl⟩:∃j,m=j+1:=⟨m-1,by lia⟩;exact .tup fun t b=>a t b (by lia)
theorem C5 {w:Wd}{m:Nat}(h:Ar R w m)(bs fr:List Str):∀v∈(aM bs fr w).1.hd,KeyT 0 (.at v):=by
 intro v c;have b:∀{a:Str},a.length<=1000->KeyT 0 (.at (.str a)):=fun h=>.str h;cases w with
 |name x=>
  have e:(aM bs fr (.name x)).1=.own (bE x bs)∨(aM bs fr (.name x)).1=.free (bE x (aY x fr)):=by show(if x∈bs then _ else _:Sw×List Str×List Str).1=_∨_;by_cases d:x∈bs;exact .inl (by rw[Xk d]);exact .inr (by show(if x∈bs then _ else _:Sw×List Str×List Str).1=_;rw[Xh d])
  rcases e with e|e <;> rw[e] at c <;> simp [Sw.hd] at c <;> rcases c with rfl|rfl <;> first|exact .int _|exact b (by decide+kernel)
 |st x=>(simp [aM,Sw.hd] at c;rcases c with rfl|rfl <;> first|exact .int _|exact b (by decide+kernel))|lt x=>simp [aM,Sw.hd] at c;subst c;exact b (by decide+kernel)
 |op s=>
  have g:∀s∈eM,s.length<=1000:=by decide+kernel
  simp [aM,Sw.hd,Wd.hd] at c;rcases c with rfl|rfl;exact b (by decide+kernel);exact b (g _ h.2)
 |call f=>(simp [aM,Sw.hd,Wd.hd] at c;rcases c with rfl|rfl;exact b (by decide+kernel);exact b (by have:=h.2.1.2.1;lia))|num i=>(simp [aM,Sw.hd,Wd.hd] at c;rcases c with rfl|rfl <;> first|exact .int _|exact b (by decide+kernel))|again i=>(simp [aM,Sw.hd,Wd.hd] at c;rcases c with rfl|rfl <;> first|exact .int _|exact b (by decide+kernel))|_=>simp [aM,Sw.hd,Wd.hd] at c;subst c;exact b (by decide+kernel)
mutual
theorem zi {R:Rl}:∀(N:Nat)(e:E)(bs fr:List Str),Ex R N e->KeyT N (ST.tv (aP bs fr e).1)
 |N,.nd w a,bs,fr,h=>by cases h with| @mk n _ _ b c=>rw[aP,ST.tv,Tree.tv];refine .tup fun u d=>?_;rcases Xn.mp d with h|h;obtain⟨v,f,rfl⟩:=XA.mp h;exact(C5 b bs fr v f).up (Xw _);exact FA n a _ _ _ c u h
theorem FA {R:Rl}:∀(N:Nat)(b:List E)(bs c fr:List Str),(∀k∈b,Ex R N k)->∀u∈ST.tvL (a5 bs c fr b).1,KeyT N u
 |N,[],bs,c,fr,_,u,a=>by rw[a5] at a;cases a
 |N,k::b,bs,c,fr,h,u,a=>by rw[a5] at a;rcases Xj.mp a with a|a;rw[a];exact zi N k _ _ (h k W8);exact FA N b _ _ _ (fun j d=>h j (W7 _ d)) u a
end
mutual
theorem Ef {R:Rl}:∀(N:Nat)(e:E)(bs fr:List Str),Ex R N e->∀p∈dU (aP bs fr e).1,∀v∈p.1,KeyT 0 (.at v)
 |N,.nd w c,bs,fr,h,p,a,v,b=>by cases h with| @mk n _ _ d f=>rw[aP,dU] at a;rcases Xj.mp a with a|a;rw[a] at b;exact C5 d bs fr v b;exact Fz n c _ _ _ f p a v b
theorem Fz {R:Rl}:∀(N:Nat)(b:List E)(bs c fr:List Str),(∀k∈b,Ex R N k)->∀p∈gL (a5 bs c fr b).1,∀v∈p.1,KeyT 0 (.at v)
 |N,[],bs,c,fr,_,p,a,_,_=>by rw[a5,gL] at a;cases a
 |N,k::b,bs,c,fr,h,p,a,v,d=>by rw[a5,gL] at a;rcases Xn.mp a with a|a;exact Ef N k _ _ (h k W8) p a v d;exact Fz N b _ _ _ (fun j e=>h j (W7 _ e)) p a v d
end
theorem Fy {e:E}{bs fr:List Str}(h:Ex R N e):KeyT 8 (dk (aP bs fr e).1):=by refine KeyT.up (n:=3) (.tup fun u a=>?_) (by lia);obtain⟨p,b,rfl⟩:=XA.mp a;refine .tup fun u a=>?_;simp at a;rcases a with rfl|rfl;refine .tup fun u a=>?_;obtain⟨v,c,rfl⟩:=XA.mp a;exact Ef N e bs fr h p b v c;exact .int _
noncomputable local instance decST:DecidableEq ST:=fun _ _=>Classical.propDecidable _
abbrev d7:=List (ST×List Tv)
noncomputable def cc:d7->ST->Tv->d7
 |[],t,p=>[(t,[p])]
 | (u,ps)::r,t,p=>if u=t then (u,ps++[p])::r else (u,ps)::cc r t p
def cG (g:d7)(L:List (ST×Tv)):d7:=L.foldl (fun g q=>cc g q.1 q.2) g
variable {g:d7}
theorem Fx {t:ST}{p:Tv}:∀{g:d7},(∀q∈g,q.1≠t)->cc g t p=g++[(t,[p])]
 |[],_=>rfl
 | (u,ps)::r,h=>by rw[cc,Xh (h _ W8),Fx fun q a=>h q (W7 _ a)];rfl
theorem zL {t:ST}{p:Tv}:∀{g:d7},∀q∈cc g t p,q.1=t∨q.1∈g.map (·.1)
 |[],q,a=>by rw[cc] at a;simp at a;exact .inl (by rw[a])
 | (u,ps)::r,q,a=>by rw[cc] at a;split at a;rcases Xj.mp a with h|h;exact .inr (by rw[h];exact W8);exact .inr (W7 _ (YK h));rcases Xj.mp a with h|h;exact .inr (by rw[h];exact W8);rcases zL q h with h|h;exact .inl h;exact .inr (W7 _ h)
theorem sM {t:ST}{p:Tv}:∀{g:d7},(g.map (·.1)).Nodup->((cc g t p).map (·.1)).Nodup
 |[],_=>by rw[cc];simp
 | (u,ps)::r,h=>by
  rw[Xp,YH] at h;rw[cc];split;rw[Xp,YH];exact h
  .next hu=>
   rw[Xp,YH];refine⟨fun z=>?_,sM h.2⟩;obtain⟨q,a,e⟩:=XA.mp z;rcases zL q a with h1|h1;exact hu (e.symm.trans h1);rw[e] at h1;exact h.1 h1
theorem zK {P:ST->Prop}{t:ST}{p:Tv}(a:P t)(b:∀q∈g,P q.1):∀q∈cc g t p,P q.1:=fun q c=>by rcases zL q c with h|h;rw[h];exact a;obtain⟨r,d,e⟩:=XA.mp h;rw[<- e];exact b r d
theorem Fw {t:ST}{p:Tv}:∀{g:d7},(cc g t p).length<=g.length+1
 |[]=>by rw[cc];simp
 | (u,ps)::r=>by rw[cc];split;simp;rw[Xl,Xl];have:=Fw (t:=t) (p:=p) (g:=r);lia
theorem sL {n:Nat}{t:ST}{p:Tv}:∀{g:d7},(∀q∈g,q.2.length<=n)->∀q∈cc g t p,q.2.length<=n+1
 |[],h,q,a=>by rw[cc] at a;simp at a;rw[a];simp
 | (u,ps)::r,h,q,a=>by have h1:=h _ W8;rw[cc] at a;split at a;rcases Xj.mp a with e|e;rw[e];simp at h1 ⊢;lia;have:=h q (W7 _ e);lia;rcases Xj.mp a with e|e;rw[e];lia;exact sL (fun q a=>h q (W7 _ a)) q e
section
variable {C:ST->Tv}
def GE (K:W.Frag)(H:Hp)(C : ST->Tv)(p:NT aj×Addr×V)(q:ST×List Tv):Prop:=p.1=a8 (C q.1)/\IsT K (ac H) (.ref p.2.1) (C q.1)/\∃la y,p.2.2=.ref la/\H la=some (.lst y)/\IsTs K (ac H) y q.2
abbrev GR (K:W.Frag)(H:Hp)(C : ST->Tv):fe->d7->Prop:=Paired (GE K H C)
theorem GR.mono (h:GR K H C kvs g)(t:∀a y,H a=some (.tup y)->H' a=some (.tup y))(l:∀p∈kvs,∀la y,p.2.2=.ref la->H la=some (.lst y)->H' la=some (.lst y)):GR K H' C kvs g:=by induction h with|nil=>exact .nil|cons h1 _ c=>obtain⟨d,e,la,y,b,f,i⟩:=h1;exact .cons ⟨d,e.mono (ac.mono t),la,y,b,l _ W8 la y b f,i.mono (ac.mono t)⟩ (c fun p j=>l p (W7 _ j))
theorem GR.nek (h:GR K H C kvs g)(b:∀q∈g,KeyT 8 (C q.1)):oV H kvs:=by induction h with|nil=>(intro p a;cases a)|cons h1 _ c=>intro p a;rcases Xj.mp a with e|a;subst e;obtain⟨d,f,_⟩:=h1;have:=(b _ W8).th;rw[d];exact⟨this.1.is (f.mono (ac.sub H)),this.2⟩;exact c (fun q i=>b q (W7 _ i)) p a
theorem oR (p:NT aj×Addr×V)(kvs:fe)(t:NT aj):dq (p::kvs) t=if p.1=t then some p.2.2 else dq kvs t:=by unfold dq;rw[X8];by_cases h:p.1=t;rw[Xs h,Xk h];rfl;rw[XW h,Xh h]
theorem GR.no {t:ST}(h:GR K H C kvs g):dq kvs (a8 (C t))=none->∀q∈g,q.1≠t:=by
 induction h with
 |nil=>(intro _ q a;cases a)
 |cons h1 _ b=>
  intro e q a;rw[oR] at e;split at e;cases e
  .next b9=>
   rcases Xj.mp a with z|a;subst z;exact fun z=>b9 (by rw[h1.1,z]);exact b e q a
theorem GR.new {t:ST}{la:Addr}{p:Tv}(h:GR K H C kvs g)(e:∀q∈g,q.1≠t)(a:IsT K (ac H) (.ref b) (C t))(c:H la=some (.lst y))(d:IsTs K (ac H) y [p]):GR K H C (kvs++[(a8 (C t),b,.ref la)]) (cc g t p):=by rw[Fx e];exact vM h ⟨rfl,a,la,y,rfl,c,d⟩
theorem OJ {t:NT aj}{v:V}:dq kvs t=some v->v∈kvs.map (·.2.2):=by induction kvs with|nil=>(intro e;cases e)|cons p r a=>intro e;rw[oR] at e;split at e;cases e;exact W8;exact W7 _ (a e)
theorem GR.push {t:ST}{la:Addr}{x:V}{p:Tv}(k : ∀{t u:ST},a8 (C t)=a8 (C u)->t=u)(h:GR K H C kvs g)(kp:∀c o,H c=some o->c≠la->H' c=some o)(n:H la=some (.lst y))(w:H' la=some (.lst (y++[x])))(A:IsT K (ac H') x p):(kvs.map (·.2.2)).Nodup->dq kvs (a8 (C t))=some (.ref la)->GR K H' C kvs (cc g t p):=by
 have tk:∀a y,H a=some (.tup y)->H' a=some (.tup y):=fun a ws e=>kp a _ e fun z=>by rw[z,n] at e;cases e
 induction h with|nil=>(intro _ e;cases e)| @cons a q r g' h1 B D=>intro f e;rw[Xp,YH] at f;rw[oR] at e;obtain⟨i,s,b,l,d,m,v⟩:=h1;rw[cc];by_cases j:q.1=t;rw[Xk (by rw[i,j])] at e;rw[Xk j];injection e with e;rw[d] at e;injection e with e;subst e;rw[n] at m;cases m;refine .cons ⟨i,s.mono (ac.mono tk),b,_,d,w,(v.mono (ac.mono tk)).app (.cons A .nil)⟩ (GR.mono B tk fun p E F ws ep G=>kp F _ G fun z=>?_);subst z;exact f.1 (by rw[d,<- ep];exact YK E);rw[Xh (fun z=>j (k (i.symm.trans z)))] at e;rw[Xh j];refine .cons ⟨i,s.mono (ac.mono tk),b,l,d,kp _ _ m fun z=>?_,v.mono (ac.mono tk)⟩ (D f.2 e);subst z;exact f.1 (by rw[d];exact OJ e)
theorem GR.put {t:ST}{la n:Addr}{x:V}{p:Tv}(c : ∀{t u:ST},a8 (C t)=a8 (C u)->t=u)(h:GR K H C kvs g)(B:H n=some (.lst y))(D:H la=some (.lst (y++[x])))(E:IsT K (ac H) x p):(g.map (·.1)).Nodup->dq kvs (a8 (C t))=some (.ref n)->GR K H C (kvs.map fun p=>if p.1=a8 (C t) then (p.1,p.2.1,.ref la) else p) (cc g t p):=by
 induction h with
 |nil=>(intro _ e;cases e)
 | @cons a q r g' h1 o i=>
  intro j e;rw[Xp,YH] at j;rw[oR] at e;obtain⟨f,s,k,l,v,m,w⟩:=h1;rw[cc,Xp];by_cases b:q.1=t;have d:a.1=a8 (C t):=by rw[f,b]
  rw[Xk d] at e;rw[Xk b,Xk d];injection e with e;rw[v] at e;injection e with e;subst e;rw[B] at m;cases m;refine .cons ⟨f,s,la,_,rfl,D,w.app (.cons E .nil)⟩ ?_;have:∀{kvs:fe}{g:d7},GR K H C kvs g->(∀q∈g,q.1≠t)->(kvs.map fun p=>if p.1=a8 (C t) then (p.1,p.2.1,V.ref la) else p)=kvs:=fun {kvs g} h=>by induction h with|nil=>(exact fun _=>rfl)|cons h1 _ i=>exact fun A=>by rw[Xp,i (fun q b=>A q (W7 _ b)),Xh (fun z=>A _ W8 (c (h1.1.symm.trans z)))]
  rw[this o fun G F z=>j.1 (by rw[b,<- z];exact YK F)];exact o;have d:¬a.1=a8 (C t):=fun z=>b (c (f.symm.trans z));rw[Xh d] at e;rw[Xh b,Xh d];exact .cons ⟨f,s,k,l,v,m,w⟩ (i j.2 e)
theorem GR.len (h:GR K H C kvs g):kvs.length=g.length:=km h
theorem GR.get (b : ∀{t u:ST},a8 (C t)=a8 (C u)->t=u)(h:GR K H C kvs g):(g.map (·.1)).Nodup->∀(i:Nat)(p:NT aj×Addr×V),kvs[i]?=some p->∃q,g[i]?=some q/\GE K H C p q/\dq kvs p.1=some p.2.2:=by induction h with|nil=>(intro _ i p e;simp at e)| @cons a q r g' h1 m j=>intro c i p e;rw[Xp,YH] at c;cases i with|zero=>simp at e;subst e;exact⟨q,rfl,h1,by rw[oR,Xk rfl]⟩|succ i=>simp at e;obtain⟨k,d,f,l⟩:=j c.2 i p e;refine⟨k,by simpa using d,f,?_⟩;rw[oR,Xh,l];intro z;rw[h1.1,f.1] at z;exact c.1 (by rw[b z];exact YK (XT d))
end
theorem OI {e:E}:∀q∈bK e,q.2∈e.all:=fun q a=>by rw[<- vH];exact YK a
mutual
theorem Aa:∀(e x:E),x∈e.all->x.cnt<=e.cnt
 | .nd w a,x,h=>by rw[Tree.all] at h;rcases Xj.mp h with h|h;rw[h];exact W9 _;have:=Hz a x h;rw[Tree.cnt];lia
theorem Hz:∀(a:List E)(x:E),x∈Tree.allL a->x.cnt<=Tree.cntL a
 |[],x,h=>by cases h
 |k::a,x,h=>by rw[Tree.allL] at h;rw[Tree.cntL];rcases Xn.mp h with h|h;have:=Aa k x h;lia;have:=Hz a x h;lia
end
theorem Aj (m:Int):∀(bs:List E)(i:Nat)(q:(Nat×List Nat)×E),q∈cj m i bs->∃j b,bs[j]?=some b/\q.1.1=i+j/\(q.1.2,q.2)∈bK b
 |[],i,q,h=>by cases h
 |b::bs,i,q,h=>by rw[cj] at h;rcases Xn.mp h with h|h;obtain⟨p,a,e⟩:=XA.mp h;subst e;exact⟨0,b,rfl,rfl,(mem_filter.mp a).1⟩;obtain⟨j,c,h1,f,d⟩:=Aj m bs (i+1) q h;exact⟨j+1,c,by simpa using h1,by lia,d⟩
theorem Fv:∀(a:List E)(k:E),k∈a->k.cnt<=Tree.cntL a
 |k::a,x,h=>by rw[Tree.cntL];rcases Xj.mp h with h|h;rw[h];lia;have:=Fv a x h;lia
theorem wj {fs:List Fd}(c:fs.length<=100)(i:N<=100)(d:∀b∈aZ fs main,Ex R N b)(k:Tree.cntL (aZ fs main)<=100000):∀q∈cj m 0 (aZ fs main),oU fs main q.1 q.2/\Ex R N q.2/\q.2.cnt<=100000:=fun q g=>by obtain⟨j,b,h1,h,e⟩:=Aj m _ 0 q g;have a:=XT h1;have f:=OI _ e;have:=Aa b _ f;have:=Fv _ b a;refine⟨⟨⟨R,N,b,by rw[h,Nat.zero_add];exact h1,d b a,Ew b _ e⟩,c,by have:q.1.2.length<=N:=zO (d b a) _ e;lia⟩,Dp (d b a) _ f,by show q.2.cnt<=100000;have:q.2.cnt<=b.cnt:=Aa b _ f;lia⟩
def cu (l:List ((Nat×List Nat)×E)):List (ST×Tv):=l.map fun q=>((aP [] [] q.2).1,bI q.1)
theorem B3 (x:Nat×List Nat):PK (bI x):=.tup fun u a=>by simp at a;rcases a with rfl|rfl;exact .int _;exact .tup fun u a=>by obtain⟨i,_,rfl⟩:=XA.mp a;exact .int _
structure j2 (fs:List Fd)(main:E):Prop where
 ex:∃(R:Rl)(N:Nat),tB R/\N<=8/\∀b∈aZ fs main,Ex R N b
 fl:fs.length<=100
 cn:Tree.cntL (aZ fs main)<=100000
def oh (H H':Hp):Prop:=∀a o,H a=some o->H' a=some o
inductive gV (P:Program)(w:World)(K:W.Frag)(y:List V)(H:Hp)(Q:VK):Prop
 |mk (fs:List Fd) (main:E) (m:Int) (vp:V) (_:y=[vp,.int m]) (_:IsT K (ac H) vp (cv fs main)) (_:j2 fs main) (_:∀(B:Addr)(kvs:fe)(ep:Nat)(H':Hp),oh H H'->H B=none->H' B=some (cw P w B kvs ep)->GR K H' dk kvs (cG [] (cu (cj m 0 (aZ fs main))))->Q (.ref B) H'):gV P w K y H Q
def C4 (P:Program)(w:World)(K:W.Frag):Sp:=fun y H Q _=>gV P w K y H Q
theorem ji (g:d7)(L:List (ST×Tv))(q:ST×Tv):cG g (L++[q])=cc (cG g L) q.1 q.2:=by unfold cG;rw[List.foldl_append];rfl
section
variable {u:ST->Tv}
theorem GR.vals (h:GR K H u kvs g):∀p∈kvs,∃la y,p.2.2=.ref la/\H la=some (.lst y):=by induction h with|nil=>(intro p a;cases a)|cons h1 _ b=>intro p a;rcases Xj.mp a with e|a;subst e;obtain⟨_,_,la,y,c,d,_⟩:=h1;exact⟨la,y,c,d⟩;exact b p a
theorem GR.found {t:NT aj}{v:V}(h:GR K H u kvs g):dq kvs t=some v->∃la y q p,v=.ref la/\H la=some (.lst y)/\q∈g/\IsTs K (ac H) y q.2/\p∈kvs/\p.2.2=.ref la:=by induction h with|nil=>(intro e;cases e)| @cons a q r g' h1 _ c=>intro e;rw[oR] at e;split at e;injection e with e;obtain⟨_,_,la,y,b,d,f⟩:=h1;exact⟨la,y,q,a,by rw[<- e,b],d,W8,f,W8,b⟩;obtain⟨la,y,q,p,h1,i,j,k,l,m⟩:=c e;exact⟨la,y,q,p,h1,i,W7 _ j,k,W7 _ l,m⟩
end
structure Ga (P:Program)(w:World)(K:W.Frag)(κ : ST->Tv)(H2:Hp)(B:Addr)(L:List (ST×Tv))(H:Hp)(kvs:fe)(ep:Nat):Prop where
 kp:∀a o,H2 a=some o->a≠B->H a=some o
 dict:H B=some (cw P w B kvs ep)
 gr:GR K H κ kvs (cG [] L)
 vals:∀p∈kvs,∀la,p.2.2=.ref la->H2 la=none
 nd:(kvs.map (·.2.2)).Nodup
 keys:∀q∈cG [] L,KeyT 8 (κ q.1)
 knd:((cG [] L).map (·.1)).Nodup
 few:kvs.length<=L.length
 ps:∀q∈cG [] L,q.2.length<=L.length
section
abbrev B1:Stmt:=av 32
theorem scGath:aO ["program","least","found","place","rows"] ["program","least"] (cO B1):=⟨rfl,rfl,rfl,by decide+kernel,rfl,by decide+kernel,by decide+kernel⟩
theorem OH {k:Nat}{f:Addr}(F:Fun K "gathered" "gathered" B1 f B)(hP:∀R N,Fk P w K mg base k ("places_of",cq R N))(hA:Fk P w K mg base k ("piece_at",ee))(hS:Fk P w K mg base k ("shape_rows",cW))(htup:mg "tuple"=none)(rq:9<=k):FnOk P w K mg base dr (k+1) f B ["program","least"] (C4 P w K):=by
 refine F.ok scGath (fun y H Q E0 h=>?_) (fun bZ A outer s H y Q E0 hr h=>?_);obtain⟨fs,main,m,vp,rfl,_⟩:=h;rfl
 .obtain⟨fs,main,m,vp,rfl,hvp,⟨⟨R,N,hRN,hN8,hex⟩,hfl,hcn⟩,Y⟩:=h;obtain⟨jp,fP,dP,pP,GP,hjp,mP,kP,bP⟩:=hP R N;obtain⟨ja,fA,dA,pA,GA,hja,mA,kA,bA⟩:=hA;obtain⟨js,fS,dS,pS,GS,hjs,mS,kS,bS⟩:=hS;have hsz:=XD;have xE:Room jp _:=hr.mono hjp;have LQ:Room ja _:=hr.mono hja;have xD:Room js _:=hr.mono hjs;have rm:Room 9 _:=hr.mono rq;have nK:(_:Around).units+9<cLine:=Zj (Y6 (by decide) _) rm.units;refine'⟨?tt,?body,?a7⟩;case body=>
   refine' gA ?s1 (gA ?s2 (gM ?s3))
   case s1=>exact jV (i:=2) scGath.nd rfl (Or.inl rfl) FD
   case s2=>
    refine' vz PassesOwn.never rfl (Oo (kr GP xE (by rfl) mP kP bP .nil jT (eV (pv 0) (eV (pv 1) pa_nil)))) (m9 (i:=3) scGath.nd rfl (Or.inl rfl)) (gA ?b1 (gM ?b2))
    case b1=>
     refine' jV (i:=4) scGath.nd rfl (Or.inl rfl) (lG wL (by rfl) htup (by decide+kernel) (fc (kr GS xD (by rfl) mS kS bS .nil jT (uL (kr GA LQ (by rfl) mA kA bA .nil jT (eV (pv 0) (eV (pv 3) pa_nil))) pa_nil)) pa_nil))
    case b2=>
     refine' sR (pX X0 Zc Zb wB ?o (eV (pv 3) pa_nil))
     case o=>exact QH nK (pv 2) (pv 4) (mY pa_nil) ⟨rfl,rfl,rfl,rfl⟩
   case s3=>exact oN (pv 2)
  case a7=>
   intro a0 O;have z0:=c9 (o:=cw P w a0 [] 0) O;have pok:=wj (m:=m) hfl (by lia) hex hcn;have plen:=tj m (aZ fs main) 0;generalize hL:cj m 0 (aZ fs main)=L at Y pok plen;refine⟨_,rfl,_,rfl,ac (ak H a0 (cw P w a0 [] 0)),[.fz (cv fs main),fi m],[],fun r ss=>r=.fz (.tup (L.map fun q=>bI q.1)),ac.sub _,.fz (hvp.mono (ac.same z0)) (.fz (.at rfl) .nil),.nil,⟨fs,main,m,rfl,hfl,by lia,hex,hcn,by rw[hL]⟩,fun r ss v' G' j nM post _ nu=>?_⟩;subst nM
   cases nu with
   | @tup wk ws _ hwk hws=>
   have s1:Same _ j:=fun a o e=>post.k a o e (by simp);have L1:=post.s _ _ hwk;have D1:j a0=some (cw P w a0 [] 0):=s1 _ _ aJ;have xB:IsTs K (ac j) ws (L.map fun q=>bI q.1):=PK.tts post.s (fun t ht=>by obtain⟨q,_,rfl⟩:=XA.mp ht;exact B3 _) hws;have hwl:=IsTs.len hws;rw[Xa] at hwl;have kR:IsT K (ac j) vp (cv fs main):=(hvp.mono (ac.same z0)).mono (ac.same s1);have w4:∀{H':Hp},(∀a o,j a=some o->a≠a0->H' a=some o)->Same (ac j) (ac H'):=fun kp=>ac.mono fun a y e=>kp a _ e fun z=>by rw[z,D1] at e;cases e
   refine⟨wk,rfl,⟨_,SqT.of L1⟩,Qv (K:=K) (a:=wk) (xs:=ws) (fun i σ H'=>∃(kvs:fe)(ep:Nat)(o3 o4:Option V),σ=[some vp,some (.int m),some (.ref a0),o3,o4]/\Ga P w K dk j a0 (cu (L.take i)) H' kvs ep)
    ⟨[],0,none,none,rfl,⟨fun a o e _=>e,D1,.nil,fun p g=>(by cases g),.nil,fun q Y=>(by cases Y),.nil,W9 _,fun q Y=>(by cases Y)⟩⟩
    (fun i σ H' _ ⟨_,_,_,_,_,S⟩=>SqT.of (S.kp _ _ L1 fun z=>by rw[z,D1] at L1;cases L1)) ?_ ?_⟩
   .rintro i x σ H3 hx ⟨kvs,ep,o3,o4,rfl,S⟩
    have iL:i<L.length:=by have:=(Xe.mp hx).1;lia
    have j5:L.take (i+1)=L.take i++[L[i]]:=by rw[take_add_one,Xc iL];rfl
    have xF:L[i]∈L:=YC iL;obtain⟨pl,px,pc⟩:=pok _ xF;have iH:IsT K (ac j) x (bI L[i].1):=by obtain⟨x',l,I⟩:=IsTs.get (i:=i) xB (t:=bI L[i].1) (by rw[XG,Xc iL];rfl);rw[hx] at l;cases l;exact I
    have hlen:(cu (L.take i)).length=i:=by unfold cu;rw[Xa,XJ];lia
    have pq:cu (L.take (i+1))=cu (L.take i)++[((aP [] [] L[i].2).1,bI L[i].1)]:=by unfold cu;rw[j5,Xq];rfl
    rw[pq];generalize cu (L.take i)=M at hlen S;generalize L[i]=q at iH pl px pc;have T:=w4 S.kp;refine⟨_,rfl,_,rfl,ac H3,[.fz (cv fs main),.fz (bI q.1)],[],fun r ss=>r=.fz (E.tv q.2),ac.sub _,.fz (kR.mono T) (.fz (iH.mono T) .nil),.nil,⟨fs,main,q.1,q.2,rfl,pl,rfl⟩,fun r ss v1 G1 H4 hr1 fQ _ jx=>?_⟩;subst hr1;refine⟨G1,[.fz (E.tv q.2)],[],fun r ss=>r=.own (.lst ((dU (aP [] [] q.2).1).map ei)),fQ.s,.fz jx .nil,.nil,⟨R,N,q.2,rfl,hRN,by lia,px,by lia,rfl⟩,fun r ss v2 G2 H5 hr2 l9 _ xc=>?_⟩;subst hr2;obtain⟨w2,rfl,hw2,⟨U,L2,hrs⟩,hg2⟩:=xc;refine⟨w2,U,rfl,.inl ⟨SqL.of L2,fun b hb=>?_⟩⟩;have W:KeyT 8 (dk (aP [] [] q.2).1):=Fy px;have BB:IsTs K (ac H5) U ((dU (aP [] [] q.2).1).map ei):=PK.tts l9.s (fun t ht=>by obtain⟨p,g,rfl⟩:=XA.mp ht;exact B4 (yS _ p g)) hrs;generalize (aP [] [] q.2).1=t at W BB;have s5:=c9 (o:=.tup U) hb;have Z:Same H3 (ak H5 b (.tup U)):=fun a o e=>s5 _ _ (l9.k a o (fQ.k a o e (by simp)) (by simp));have B6:ak H5 b (.tup U) b=some (.tup U):=aJ;generalize ak H5 b (.tup U)=G at s5 Z B6;have J:=Z _ _ S.dict;have rF:IsT K (ac G) (.ref b) (dk t):=.tup (GT.tup B6) (BB.mono (ac.same s5));have Bx:IsT K (ac G) x (bI q.1):=(iH.mono T).mono (ac.same Z);have G6:GR K G dk kvs (cG [] M):=S.gr.mono (fun a y e=>Z _ _ e) (fun p g la y _ e=>Z _ _ e);have xq:∀a o,j a=some o->a≠a0->G a=some o:=fun a o l I=>Z _ _ (S.kp a o l I);have mr:∀u∈cc (cG [] M) t (bI q.1),KeyT 8 (dk u.1):=zK (P:=fun t=>KeyT 8 (dk t)) W S.keys;have few:=S.few;refine⟨_,rfl,a0,kvs,ep,rfl,J,_,rfl,Xw _,fun d C=>?_⟩;have D:=c9 (o:=.lst []) C
    have uh:j d=none:=by
     cases l:j d with
     |none=>rfl
     |some o=>
      exfalso
      by_cases z:d=a0
      .rw[z,J] at C;cases C
      .rw[xq _ _ l z] at C;cases C
    have hth:=W.th;refine⟨kvs,ep,a8 (dk t),b,D _ _ J,rfl,hth.1.is ((rF.mono (ac.same D)).mono (ac.sub _)),hth.2,(G6.mono (fun a y e=>D _ _ e) (fun p g la y _ e=>D _ _ e)).nek S.keys,by lia,fun v hv=>?_,fun hv eN=>?_⟩
    .obtain⟨la,y,u,p,rfl,X,hu,hvs,g,hpv⟩:=G6.found hv
     have n:=D _ _ X;have hvl:=IsTs.len hvs;have hul:=S.ps u hu;have hl2:=S.vals p g la hpv;refine⟨.inl ⟨rfl,_,SqL.of n⟩,_,rfl,la,_,_,rfl,rfl,n,by lia,?_⟩;refine⟨kvs,ep,_,_,rfl,⟨fun a o l I=>?_,?_,?_,S.vals,S.nd,?_,?_,?_,?_⟩⟩
     .rw[ay (bL l hl2)];exact D _ _ (xq a o l I)
     .rw[ay (so (D _ _ J) n (by intro q;cases q))];exact D _ _ J
     .rw[ji]
      refine GR.push (la:=la) (fun h=>FF h) G6 (fun c o e ne=>?_) X aJ (Bx.mono (ac.mono fun a y e=>?_)) S.nd hv
      .rw[ay ne];exact D _ _ e
      .rw[ay (fun z=>by rw[z,X] at e;cases e)];exact D _ _ e
     .rw[ji];exact mr
     .rw[ji];exact sM S.knd
     .rw[Xd];simp;lia
     .rw[ji,Xd];exact sL S.ps
    .have BE:d≠a0:=fun z=>by rw[z,J] at C;cases C
     have Q8:ak (ak G d (.lst [])) a0 (cw P w a0 (kvs++[(a8 (dk t),b,.ref d)]) eN) d=some (.lst []):=by rw[ay BE];exact aJ
     refine⟨.inl ⟨rfl,_,SqL.of Q8⟩,_,rfl,d,_,_,rfl,rfl,Q8,(by show 0<sizeLine;lia),?_⟩;have gn:∀a o,G a=some o->a≠a0->ak (ak (ak G d (.lst [])) a0 (cw P w a0 (kvs++[(a8 (dk t),b,.ref d)]) eN)) d (.lst ([]++[x])) a=some o:=fun a o e ne=>by rw[ay (bL e C),ay ne,ay (bL e C)];exact e
     have wZ:∀a y,G a=some (.tup y)->ak (ak (ak G d (.lst [])) a0 (cw P w a0 (kvs++[(a8 (dk t),b,.ref d)]) eN)) d (.lst ([]++[x])) a=some (.tup y):=fun a y e=>gn a _ e fun z=>by rw[z,J] at e;cases e
     refine⟨kvs++[(a8 (dk t),b,.ref d)],eN,_,_,rfl,⟨fun a o l I=>gn a o (xq a o l I) I,?_,?_,?_,?_,?_,?_,?_,?_⟩⟩
     .rw[ay (Ne.symm BE)];exact aJ
     .rw[ji];exact GR.new (G6.mono wZ fun p g la y _ e=>gn _ _ e fun z=>by rw[z,J] at e;cases e) (G6.no hv) (rF.mono (ac.mono wZ)) aJ (.cons (Bx.mono (ac.mono wZ)) .nil)
     .intro p g la e
      rcases Xn.mp g with h|h
      .exact S.vals p h la e
      .rw[XH.mp h] at e;injection e with e;rw[<- e];exact uh
     .rw[Xq];refine Y2.mpr ⟨S.nd,by simp,fun a ha b' jI=>?_⟩;simp at jI;obtain⟨p,g,e⟩:=XA.mp ha;obtain⟨la,y,e3,e4⟩:=G6.vals p g;rw[jI,<- e,e3];intro z;injection z with z;rw[z,C] at e4;cases e4
     .rw[ji];exact mr
     .rw[ji];exact sM S.knd
     .rw[Xd,Xd];simp;lia
     .rw[ji,Xd];exact sL S.ps
   .rintro σ H3 ⟨kvs,ep,o3,o4,rfl,S⟩;rw[hwl,take_length] at S;exact⟨_,rfl,Y a0 kvs ep H3 (fun a o e=>S.kp a o (s1 _ _ (z0 _ _ e)) (bL e O)) O S.dict S.gr⟩
end
theorem Wd.pk (a:Wd):∀v∈a.hd,PK (.at v):=Sw.pk (.wd a)
mutual
theorem uD:∀e:E,PK (E.tv e)
 | .nd a b=>by rw[E.tv,Tree.tv];refine .tup fun u c=>?_;rcases Xn.mp c with h|h;obtain⟨v,d,rfl⟩:=XA.mp h;exact a.pk v d;exact B0 b u h
theorem B0:∀(a:List E)(u:Tv),u∈E.tvL a->PK u
 |[],u,h=>by cases h
 |k::a,u,h=>by rw[E.tvL,Tree.tvL] at h;rcases Xj.mp h with h|h;rw[h];exact uD k;exact B0 a u h
end
theorem BZ (fs:List Fd)(main:E):PK (cv fs main):=.tup fun u a=>by simp at a;rcases a with rfl|rfl;refine .tup fun u a=>?_;obtain⟨f,_,rfl⟩:=XA.mp a;refine .tup fun u a=>?_;simp at a;rcases a with rfl|rfl|rfl;exact .str _;refine .tup fun u a=>?_;obtain⟨x,_,rfl⟩:=XA.mp a;exact .str _;exact uD _;exact uD _
mutual
theorem Ee:∀(e:E)(bs fr:List Str),(aP bs fr e).1.cnt=e.cnt
 | .nd w a,bs,fr=>by rw[aP];show Tree.cnt (.nd _ (a5 _ _ _ a).1)=_;rw[Tree.cnt,Tree.cnt,Fu a]
theorem Fu:∀(a:List E)(bs b fr:List Str),Tree.cntL (a5 bs b fr a).1=Tree.cntL a
 |[],_,_,_=>rfl
 |k::a,bs,b,fr=>by rw[a5];show Tree.cntL ((aP _ _ k).1::(a5 _ _ _ a).1)=_;rw[Tree.cntL,Tree.cntL,Ee k,Fu a]
end
theorem zh {P:ST->Prop}:∀(L:List (ST×Tv))(g:d7),(∀q∈L,P q.1)->(∀q∈g,P q.1)->∀q∈cG g L,P q.1
 |[],g,_,h=>h
 |a::L,g,b,h=>zh L (cc g a.1 a.2) (fun q c=>b q (W7 _ c)) (zK (b a W8) h)
theorem C3:∀(L:List (ST×Tv))(g:d7),(g.map (·.1)).Nodup->((cG g L).map (·.1)).Nodup
 |[],_,h=>h
 |a::L,g,h=>C3 L _ (sM h)
theorem C1:∀(L:List (ST×Tv))(g:d7)(n:Nat),(∀q∈g,q.2.length<=n)->∀q∈cG g L,q.2.length<=n+L.length
 |[],_,_,h=>h
 |a::L,g,n,h=>fun q b=>by have:=C1 L _ (n+1) (sL h) q b;rw[Xl];lia
theorem Ed:∀(L:List (ST×Tv))(g:d7),(cG g L).length<=g.length+L.length
 |[],_=>W9 _
 |a::L,g=>by have:=Ed L (cc g a.1 a.2);have:=Fw (t:=a.1) (p:=a.2) (g:=g);rw[Xl];show(cG (cc g a.1 a.2) L).length<=_;lia
theorem Ec {fs:List Fd}(h:j2 fs main):∀q∈cu (cj m 0 (aZ fs main)),KeyT 8 (dk q.1)/\KeyT 8 (ST.tv q.1)/\q.1.cnt<=100000:=fun q a=>by obtain⟨R,N,_,b,hex⟩:=h.ex;obtain⟨p,c,rfl⟩:=XA.mp a;obtain⟨_,h1,d⟩:=wj (m:=m) h.fl (by lia) hex h.cn p c;exact⟨Fy h1,(zi N _ _ _ h1).up b,by rw[Ee];exact d⟩
def gq (q:ST×List Tv):Tv:=.tup [ST.tv q.1,.tup q.2]
def oA (m:Int)(fs:List Fd)(main:E):List Tv:=(cG [] (cu (cj m 0 (aZ fs main)))).map gq
inductive eI (args:SA)(k:SK):Prop
 |mk (fs:List Fd) (main:E) (m:Int) (_:args=[.fz (cv fs main),fi m]) (_:j2 fs main) (_:k (.fz (.tup (oA m fs main))) [.fz (cv fs main),fi m])
section
variable {r:St}{g:TG}{tt:TT}{Q:List V->Hp->Prop}
theorem Hy (Pv:Nat->List V->St->Hp->Prop)(t:Pv 0 [] r H)(x:∀i f d H,Pv i f d H->H a=some (cw P w a kvs ep))
  (s:∀i p f d H,kvs[i]?=some p->i<kvs.length->Pv i f d H->f.length<sizeLine/\g (.ref p.2.1) d H fun h n=>tt h n fun b k=>
   if b=true then c h k fun v o=>Nx kvs.length i (Pv (i+1) (f++[v]) h o) else Nx kvs.length i (Pv (i+1) f h k))
  (hd:∀f d H,Pv kvs.length f d H->Q f H):
  ∃W:Nat->Nat->List V->St->Hp->Prop,(∃m,W 0 m [] r H)/\∀i m f d H,W i m f d H →((tJ P w a kvs ep).stop i H/\Q f H)∨((tJ P w a kvs ep).go i H/\f.length<sizeLine/\∀v H',(tJ P w a kvs ep).yld i H v H'->g v d H' fun h n=>tt h n fun b k=>
    if b=true then c h k fun v o=>∃l,l<m/\W (i+1) l (f++[v]) h o else ∃l,l<m/\W (i+1) l f h k):=by
 refine⟨fun i m f d H=>m=kvs.length-i/\i<=kvs.length/\Pv i f d H,⟨_,rfl,Xw _,t⟩,?_⟩;rintro i m f d H ⟨rfl,D,p⟩;have q:=x i f d H p
 by_cases j:i<kvs.length
 .have A:kvs[i]?=some kvs[i]:=Xc j;obtain⟨z,_⟩:=s i _ f d H A j p;refine .inr ⟨⟨j,q⟩,z,fun v H' y=>?_⟩;obtain⟨e,u,B,C⟩:=y;subst e C;exact(s i u f d _ B j p).2
 .have e:i=kvs.length:=by lia
  subst e;exact .inl ⟨⟨W9 _,q⟩,hd f d H p⟩
end
theorem GK {o i:Expr}{pos:Pos}(h1:X.prog=P)(a:X.w=w)(b:X.A.units+9<cLine)(c:PE X o j)(d:PE X i ty)(e:uM i):PE X (.Subscript o i pos) (C6 P w j ty):=by subst h1 a;exact QG b c d e
section
abbrev yR:Stmt:=av 33
theorem scTable:aO ["program","least","found"] ["program","least"] (cO yR):=⟨rfl,rfl,rfl,by decide+kernel,rfl,by decide+kernel,by decide+kernel⟩
theorem Wf:(["found","rows"]:List Str).Nodup:=by decide+kernel
theorem QE {k:Nat}{f fG:Addr}{dG:FuncData}(F:Fun K "table" "table" yR f B)(GG:FnOk P w K mg base dr k fG dG ["program","least"] (C4 P w K))(mG:mg "gathered"=some (.ref fG))(kG:PySem.W.keepIn K (.ref fG)=true)(bG:Binds K dG ["program","least"] [])(hB:Fk P w K mg base k ("built",gX))(E:mg "tuple"=none)(rq:9<=k):FnOk P w K mg base dr (k+1) f B ["program","least"] (ff K eI):=by
 refine F.ok scTable (fun y H Q E0 h=>?_) (fun bZ A outer s H y Q E0 hr h=>?_);obtain⟨G,args,as,K0,_,ha,_,⟨fs,main,m,rfl,_⟩,_⟩:=h;cases ha with
 |fz _ r=>cases r with
  |fz _ r=>cases r;rfl
 .obtain⟨G,args,as,K0,sm,ha,pC,⟨fs,main,m,rfl,L,M⟩,N⟩:=h;cases ha with| @fz _ _ vp _ _ hvp r=>
  cases r with| @fz _ _ vm _ _ hvm r=>
  cases r;cases hvm;obtain⟨jb,fB,dB,pB,GB,hjb,mB,kB,bB⟩:=hB;have hsz:=XD;have LN:Room jb _:=hr.mono hjb;have rm:Room 9 _:=hr.mono rq;have nK:(_:Around).units+9<cLine:=Zj (Y6 (by decide) _) rm.units;refine'⟨?tt,?body,?a7⟩;case body=>
   refine' gA ?s1 (gM ?s2)
   case s1=>exact jV (i:=2) scTable.nd rfl (Or.inr rfl) (kr GG hr (by rfl) mG kG bG .nil jT (eV (pv 0) (eV (pv 1) pa_nil)))
   case s2=>
    refine' oN (lG wL (by rfl) E (by decide+kernel) (fc ?c pa_nil))
    case c=>
     refine' vP (N':=["found","rows"]) (src:=[some 2,none]) ?k1 ?k5 ?k6 ?k7
     case k1=>rfl
     case k5=>exact wK (cO yR) rfl ["program","least","found"] rfl (by decide+kernel)
     case k6=>exact FC (pv 2)
     case k7=>
      intro cl C ex s0 H0;refine'⟨m9 (i:=1) Wf rfl (Or.inl rfl),zD,vt (fc (kr GB LN (by rfl) mB kB bB .nil jT (eV (pv 1) pa_nil)) (uL (lG (JD (K:=K) rfl) (by rfl) E (by decide+kernel) (fc ?d pa_nil)) pa_nil))⟩
      case d=>exact GK (P:=P) (w:=w) rfl rfl nK (pv 0) (pv 1) (fun _ _=>rfl)
  case a7=>
   have kR:IsT K (ac H) vp (cv fs main):=(BZ fs main).tt sm hvp;have T:=Ec (m:=m) L;have plen:=tj m (aZ fs main) 0;have hcn:=L.cn;refine⟨_,rfl,_,rfl,fs,main,m,vp,rfl,kR,L,fun B kvs ep H1 kept WT D1 O=>?_⟩;have Mv:(cu (cj m 0 (aZ fs main))).length<=100000:=by unfold cu;rw[Xa];lia
   have n:=zh (P:=fun t=>KeyT 8 (dk t)/\KeyT 8 (ST.tv t)/\t.cnt<=100000) _ [] T (fun q N=>by cases N);have U:=C3 (cu (cj m 0 (aZ fs main))) [] .nil;have gps:=C1 (cu (cj m 0 (aZ fs main))) [] 0 (fun q N=>by cases N);have MC:(cG [] (cu (cj m 0 (aZ fs main)))).length<=0+(cu (cj m 0 (aZ fs main))).length:=Ed (cu (cj m 0 (aZ fs main))) [];unfold oA at M;obtain⟨g,hg⟩:∃g,g=cG [] (cu (cj m 0 (aZ fs main))):=⟨_,rfl⟩;rw[<- hg] at M O n U gps MC;have R:=O.len;have t1:∀{H':Hp},oh H1 H'->Same (ac H1) (ac H'):=fun kp=>ac.same kp;refine⟨_,rfl,B,kvs,ep,rfl,D1,Hy (P:=P) (w:=w) (a:=B) (kvs:=kvs) (ep:=ep) (fun i j D H'=>∃o1,D=[some (.ref B),o1]/\oh H1 H'/\IsTs K (ac H') j ((g.take i).map gq)) ⟨none,rfl,fun a o e=>e,by rw[List.take_zero];exact .nil⟩ (fun i j D H' ⟨_,_,kp,_⟩=>kp _ _ D1) ?_ ?_⟩
   .rintro i p j D I hp hi ⟨o1,rfl,kp,u⟩
    have hyl:=IsTs.len u;rw[Xa,XJ] at hyl;refine⟨by lia,?_⟩;have Lc:GR K I dk kvs g:=O.mono (fun a y e=>kp _ _ e) (fun p hp la y _ e=>kp _ _ e);obtain⟨q,V,⟨e1,e2,la,y,e3,e4,e5⟩,X⟩:=Lc.get (fun h=>FF h) U i p hp;obtain⟨pk,pt,pc⟩:=n q (XT V);have j5:g.take (i+1)=g.take i++[q]:=by rw[take_add_one,V];rfl
    have Y:=pk.th;refine⟨_,rfl,ac I,[.fz (dk q.1)],[],fun r ss=>r=.fz (ST.tv q.1),ac.sub _,.fz e2 .nil,.nil,⟨q.1,rfl,by lia,rfl⟩,fun r ss v G' Z nM post _ nu=>?_⟩;subst nM;have J:Same I Z:=fun a o e=>post.k a o e (by simp);have LL:IsT K (ac Z) v (ST.tv q.1):=(sg q.1).tt post.s nu;have D4:=J _ _ (kp _ _ D1);refine⟨_,rfl,_,rfl,B,kvs,ep,p.1,p.2.1,p.2.2,rfl,D4,rfl,?_,?_,?_,X,?_⟩
    .rw[e1];exact Y.1.is ((e2.mono (ac.same J)).mono (ac.sub _))
    .rw[e1];exact Y.2
    .exact(Lc.mono (fun a y e=>J _ _ e) (fun p hp la y _ e=>J _ _ e)).nek fun q N=>(n q N).1
    .rw[e3];refine⟨la,y,rfl,.inl ⟨SqL.of (J _ _ e4),fun l hl=>?_⟩⟩;have x:=c9 (o:=.tup y) hl;have T5:ak Z l (.tup y) l=some (.tup y):=aJ;generalize ak Z l (.tup y)=S at x T5;refine⟨(by show 2<=sizeLine;decide),fun b hb=>?_⟩;have z:=c9 (o:=.tup [v,.ref l]) hb;have T6:ak S b (.tup [v,.ref l]) b=some (.tup [v,.ref l]):=aJ;refine nx hi ⟨_,rfl,fun a o e=>z _ _ (x _ _ (J _ _ (kp _ _ e))),?_⟩;rw[j5,Xq];refine IsTs.app (u.mono (ac.same fun a o e=>z _ _ (x _ _ (J _ _ e)))) (.cons (.tup (GT.tup T6) (.cons (LL.mono (ac.same fun a o e=>z _ _ (x _ _ e))) (.cons (.tup (GT.tup (z _ _ T5)) (e5.mono (ac.same fun a o e=>z _ _ (x _ _ (J _ _ e))))) .nil))) .nil)
   .rintro j D I ⟨o1,rfl,kp,u⟩ l hl
    rw[R,take_length] at u;have s4:=c9 (o:=.lst j) hl;refine⟨l,j,rfl,.inl ⟨SqL.of aJ,fun b hb=>?_⟩⟩;have s5:=c9 (o:=.tup j) hb;have kN:oh H (ak (ak I l (.lst j)) b (.tup j)):=fun a o e=>s5 _ _ (s4 _ _ (kp _ _ (kept _ _ e)));have B5:ak (ak I l (.lst j)) b (.tup j) b=some (.tup j):=aJ;generalize ak (ak I l (.lst j)) b (.tup j)=S at s5 kN B5;have sG:Same G S:=sm.trans kN
    have sT:Same (ac I) (GT G S):=fun a o e=>by
     unfold ac GT at e
     split at e
     .next y h=>cases e;exact GT.tup (s5 _ _ (s4 _ _ h))
     .cases e
    refine N _ _ (.ref b) (GT G S) S M ⟨GT.of sG,GT.sub sG,fun a o e _=>kN _ _ e,fun a o e=>?_,fun a o e=>⟨o,kN _ _ e⟩⟩ (.fz (.fz .nil)) (.tup (GT.tup B5) (u.mono sT));unfold GT at e
    split at e
    .cases e;exact .inr (.inr (.inr trivial))
    .exact .inl e
end
inductive gD (args:SA)(k:SK):Prop
 |mk (fs:List Fd) (main:E) (m:Int) (_:args=[.fz (cv fs main),fi m]) (_:j2 fs main) (_:k (.own (.lst (oA m fs main))) [.fz (cv fs main),fi m])
structure Gb (P:Program)(w:World)(K:W.Frag)(κ : ST->Tv)(H2:Hp)(B:Addr)(L:List (ST×Tv))(H:Hp)(kvs:fe)(ep:Nat):Prop where
 kp:∀a o,H2 a=some o->a≠B->H a=some o
 dict:H B=some (cw P w B kvs ep)
 gr:GR K H κ kvs (cG [] L)
 keys:∀q∈cG [] L,KeyT 8 (κ q.1)
 knd:((cG [] L).map (·.1)).Nodup
 few:kvs.length<=L.length
 ps:∀q∈cG [] L,q.2.length<=L.length
theorem QD {t:NT aj}{v:V}(h:dq kvs t=none):iQ kvs t b v=kvs++[(t,b,v)]:=by unfold iQ;rw[h];rfl
theorem QC {t:NT aj}{v u:V}(h:dq kvs t=some u):iQ kvs t b v=kvs.map fun p=>if p.1=t then (p.1,p.2.1,v) else p:=by unfold iQ;rw[h];rfl
theorem Nc {v:V}{t:ST}(h:IsT K G v (ST.tv t)):∃b,v=.ref b:=by cases t with|nd a c=>rw[ST.tv,Tree.tv] at h;cases h;exact⟨_,rfl⟩
theorem We:(["_law_found","_law_told"]:List Str).Nodup:=by decide+kernel
section
abbrev yz:Stmt:=av 60
theorem scRows:aO ["_law_program_here","_law_least","_law_found","_law_place","_law_one","_law_told"] ["_law_program_here","_law_least"] (cO yz):=⟨rfl,rfl,rfl,by decide+kernel,rfl,by decide+kernel,by decide+kernel⟩
theorem OG {k:Nat}{f:Addr}(F:Fun K "_law_rows" "_law_rows" yz f B)(hP:∀R N,N<=8->Fk P w K mg base k ("_law_pieces",dz R N))(hS:∀R N,N<=8->Fk P w K mg base k ("_law_shape",df R N))(htup:mg "tuple"=none)(rq:9<=k):FnOk P w K mg base dr (k+1) f B ["_law_program_here","_law_least"] (ff K gD):=by
 refine F.ok scRows (fun y H Q E0 h=>?_) (fun bZ A outer s H y Q E0 hr h=>?_);obtain⟨G,args,as,K0,_,ha,_,⟨fs,main,m,rfl,_⟩,_⟩:=h;cases ha with
 |fz _ r=>cases r with
  |fz _ r=>cases r;rfl
 .obtain⟨G,args,as,K0,sm,ha,pC,⟨fs,main,m,rfl,hga,hK0⟩,hq⟩:=h;cases ha with| @fz _ _ vp _ _ hvp r=>
  cases r with| @fz _ _ vm _ _ hvm r=>
  cases r;cases hvm;have hall:=Ec (m:=m) hga;obtain⟨⟨R,N,hRN,hN8,hex⟩,hfl,hcn⟩:=hga;obtain⟨jp,fP,dP,pP,GP,hjp,mP,kP,bP⟩:=hP R N hN8;obtain⟨js,fS,dS,pS,GS,hjs,mS,kS,bS⟩:=hS R N hN8;have hsz:=XD;have xE:Room jp _:=hr.mono hjp;have xD:Room js _:=hr.mono hjs;have rm:Room 9 _:=hr.mono rq;have nK:(_:Around).units+9<cLine:=Zj (Y6 (by decide) _) rm.units;refine'⟨?tt,?body,?a7⟩;case body=>
   refine' gA ?s1 (gA ?s2 (gM ?s3))
   case s1=>exact jV (i:=2) scRows.nd rfl (Or.inr rfl) FD
   case s2=>
    refine' vz PassesOwn.never rfl (Ff (kr GP xE (by rfl) mP kP bP .nil jT (eV (pv 0) (eV (pv 1) pa_nil)))) (zf rfl (sZ (m9 (i:=3) scRows.nd rfl (Or.inl rfl)) (sZ (m9 (i:=4) scRows.nd rfl (Or.inl rfl)) pgs_nil))) (gA ?b1 (gM ?b2))
    case b1=>exact jV (i:=5) scRows.nd rfl (Or.inl rfl) (kr GS xD (by rfl) mS kS bS .nil jT (eV (pv 4) (fc (mY pa_nil) (fc (mY pa_nil) pa_nil))))
    case b2=>exact QF nK (pv 2) (pv 5) (lB op_cat (Sj nK (pv 2) (pv 5) (mY pa_nil) ⟨rfl,rfl,rfl,rfl⟩) (mY (eV (pv 3) pa_nil))) rfl
   case s3=>
    refine' oN ?c
    case c=>
     refine' vP (N':=["_law_found","_law_told"]) (src:=[some 2,none]) ?k1 ?k5 ?k6 ?k7
     case k1=>rfl
     case k5=>exact wK (cO yz) rfl ["_law_program_here","_law_least","_law_found","_law_place","_law_one","_law_told"] rfl (by decide+kernel)
     case k6=>exact FC (pv 2)
     case k7=>
      intro cl C ex s0 H0;refine'⟨m9 (i:=1) We rfl (Or.inl rfl),zD,vt (eV (pv 1) (uL (lG (JD (K:=K) rfl) (by rfl) htup (by decide+kernel) (fc ?d pa_nil)) pa_nil))⟩
      case d=>exact GK (P:=P) (w:=w) rfl rfl nK (pv 0) (pv 1) (fun _ _=>rfl)
  case a7=>
   have qY:IsT K (ac H) vp (cv fs main):=(BZ fs main).tt sm hvp;intro a0 ha0;have z0:=c9 (o:=cw P w a0 [] 0) ha0;have pok:=wj (m:=m) hfl (by lia) hex hcn;have plen:=tj m (aZ fs main) 0;unfold oA at hK0;obtain⟨L,hL⟩:∃L,L=cj m 0 (aZ fs main):=⟨_,rfl⟩;rw[<- hL] at hK0 hall pok plen;refine⟨_,rfl,_,rfl,ac (ak H a0 (cw P w a0 [] 0)),[.fz (cv fs main),fi m],[],fun r ss=>r=.own (.lst (L.map en)),ac.sub _,.fz (qY.mono (ac.same z0)) (.fz (.at rfl) .nil),.nil,⟨fs,main,m,rfl,hfl,by lia,hex,hcn,by rw[hL]⟩,fun r ss v' G' H2 nM post _ nu=>?_⟩;subst nM;obtain⟨wk,rfl,hwk,⟨ws,L1,hws⟩,hwg⟩:=nu;have s1:Same _ H2:=fun a o e=>post.k a o e (by simp);have D1:H2 a0=some (cw P w a0 [] 0):=s1 _ _ aJ
   have xB:IsTs K (ac H2) ws (L.map en):=PK.tts post.s (fun t ht=>by
    obtain⟨q,_,rfl⟩:=XA.mp ht;refine .tup fun u hu=>?_;simp at hu;rcases hu with rfl|rfl
    .exact B3 _
    .exact uD _) hws
   have hwl:=IsTs.len hws;rw[Xa] at hwl;have kR:IsT K (ac H2) vp (cv fs main):=(qY.mono (ac.same z0)).mono (ac.same s1);have w4:∀{H':Hp},(∀a o,H2 a=some o->a≠a0->H' a=some o)->Same (ac H2) (ac H'):=fun kp=>ac.mono fun a y e=>kp a _ e fun z=>by rw[z,D1] at e;cases e
   refine⟨wk,rfl,⟨_,SqL.of L1⟩,Gx (K:=K) (a:=wk) (xs:=ws) (fun i σ H'=>∃(kvs:fe)(ep:Nat)(o3 o4 o5:Option V),σ=[some vp,some (.int m),some (.ref a0),o3,o4,o5]/\Gb P w K ST.tv H2 a0 (cu (L.take i)) H' kvs ep)
    ⟨[],0,none,none,none,rfl,⟨fun a o e _=>e,D1,.nil,fun q hq=>(by cases hq),.nil,W9 _,fun q hq=>(by cases hq)⟩⟩
    (fun i σ H' _ ⟨_,_,_,_,_,_,S⟩=>SqL.of (S.kp _ _ L1 fun z=>by rw[z,D1] at L1;cases L1)) ?_ ?_⟩
   .rintro i x σ H3 hx ⟨kvs,ep,o3,o4,o5,rfl,S⟩
    have iL:i<L.length:=by have:=(Xe.mp hx).1;lia
    have j5:L.take (i+1)=L.take i++[L[i]]:=by rw[take_add_one,Xc iL];rfl
    have xF:L[i]∈L:=YC iL;obtain⟨pl,px,pc⟩:=pok _ xF;have iH:IsT K (ac H2) x (en L[i]):=by obtain⟨x',e1,e2⟩:=IsTs.get (i:=i) xB (t:=en L[i]) (by rw[XG,Xc iL];rfl);rw[hx] at e1;cases e1;exact e2
    have hlen:(cu (L.take i)).length=i:=by unfold cu;rw[Xa,XJ];lia
    have pq:cu (L.take (i+1))=cu (L.take i)++[((aP [] [] L[i].2).1,bI L[i].1)]:=by unfold cu;rw[j5,Xq];rfl
    rw[pq];generalize cu (L.take i)=M at hlen S;generalize L[i]=q at iH pl px pc;have tk3:=w4 S.kp;have hx3:=iH.mono tk3;obtain⟨ax,J,v2,vr2,rfl,hax,c1,c3,c4⟩:=hx3.tw;cases c4;have hax3:=ac.sub _ _ _ hax;refine⟨ax,[J,v2],rfl,SqT.of hax3,rfl,_,_,rfl,_,_,rfl,rfl,?_⟩;refine⟨_,rfl,Xw _,fun a1 uu=>⟨Xw _,fun a2 ur=>?_⟩⟩;have s31:=c9 (o:=.lst []) uu;have s32:=c9 (o:=.lst []) ur;have A1:ak (ak H3 a1 (.lst [])) a2 (.lst []) a1=some (.lst []):=s32 _ _ aJ;have A2:ak (ak H3 a1 (.lst [])) a2 (.lst []) a2=some (.lst []):=aJ;have Ls:a1≠a2:=fun z=>by rw[<- z,aJ] at ur;cases ur
    have Lq:∀a o,H3 a=some o->a≠a1/\a≠a2:=fun a o e=>⟨bL e uu,bL (s31 _ _ e) ur⟩;have s4:Same H3 (ak (ak H3 a1 (.lst [])) a2 (.lst [])):=s31.trans s32;generalize ak (ak H3 a1 (.lst [])) a2 (.lst [])=T at A1 A2 s4;have tn:∀{a:Addr},T a=some (.lst [])->ac T a=none:=fun e=>by unfold ac GT;rw[e]
    refine⟨ac T,[.fz (E.tv q.2),.own (.lst []),.own (.lst [])],[a1,a2],fun r ss=>r=.fz (ST.tv (aP [] [] q.2).1),ac.sub _,.fz (c3.mono (ac.same s4)) (.own ⟨[],A1,.nil⟩ (tn A1) (.own ⟨[],A2,.nil⟩ (tn A2) .nil)),by simp [Ls],⟨q.2,.own (.lst []),[],[],rfl,.inl rfl,px,by simp;lia,by simp;lia,rfl⟩,fun r ss v G1 D hr1 fQ _ jx=>?_⟩;subst hr1;have key:KeyT 8 (ST.tv (aP [] [] q.2).1):=(zi N _ _ _ px).up hN8;generalize (aP [] [] q.2).1=t at key jx;obtain⟨b,rfl⟩:=Nc jx;have rF:IsT K (ac D) (.ref b) (ST.tv t):=(sg t).tt fQ.s jx;have qD:Same H3 D:=fun a o e=>fQ.k a o (s4 _ _ e) (by simp;exact Lq a o e);have D5:=qD _ _ S.dict;have G5:GR K D ST.tv kvs (cG [] M):=S.gr.mono (fun a y e=>qD _ _ e) (fun p hp la y _ e=>qD _ _ e);have LJ:IsT K (ac D) J (bI q.1):=c1.mono (ac.same qD);have Ly:∀a o,H2 a=some o->a≠a0->D a=some o:=fun a o e1 e2=>qD _ _ (S.kp a o e1 e2);have few:=S.few;have O:=key.th;refine⟨_,rfl,a0,kvs,ep,rfl,D5,_,rfl,Xw _,fun l1 hl1=>?_⟩;have j:=c9 (o:=.lst []) hl1;have N6:ak D l1 (.lst []) l1=some (.lst []):=aJ;generalize ak D l1 (.lst [])=H6 at j N6;have tS:∀{H':Hp},Same D H'->b7 H' (.ref b) (c0 (a8 (ST.tv t)))/\oV H' kvs:=fun s=>⟨O.1.is ((rF.mono (ac.same s)).mono (ac.sub _)),(G5.mono (fun a y e=>s _ _ e) (fun p hp la y _ e=>s _ _ e)).nek S.keys⟩;refine⟨kvs,ep,a8 (ST.tv t),b,j _ _ D5,rfl,(tS j).1,O.2,(tS j).2,?_⟩
    suffices a7:∃(kM:Addr)(U:List V),H6 kM=some (.lst U)/\U.length<=M.length/\(dq kvs (a8 (ST.tv t))).getD (.ref l1)=.ref kM ∧(∀(H9:Hp)(I:Addr),(∀a o,D a=some o->a≠a0->H9 a=some o)->H9 I=some (.lst (U++[J]))->IsT K (ac H9) J (bI q.1)->GR K H9 ST.tv (iQ kvs (a8 (ST.tv t)) b (.ref I)) (cc (cG [] M) t (bI q.1))) by
     obtain⟨kM,U,n,hvl,X,uq⟩:=a7;rw[X];refine⟨_,rfl,(by show 1<=sizeLine;lia),fun l2 hl2=>⟨kM,l2,U,[J],rfl,rfl,c9 hl2 _ _ n,aJ,by show U.length+1<=_;lia,fun I pE=>?_⟩⟩;have qC:Same D (ak (ak H6 l2 (.lst [J])) I (.lst (U++[J]))):=(j.trans (c9 hl2)).trans (c9 pE);have N8:ak (ak H6 l2 (.lst [J])) I (.lst (U++[J])) I=some (.lst (U++[J])):=aJ;have Lr:I≠a0:=fun z=>by have:=c9 (o:=.lst [J]) hl2 _ _ (j _ _ D5);rw[<- z,pE] at this;cases this
     generalize ak (ak H6 l2 (.lst [J])) I (.lst (U++[J]))=H8 at qC N8;refine⟨_,rfl,_,rfl,a0,kvs,ep,a8 (ST.tv t),b,rfl,qC _ _ D5,rfl,(tS qC).1,O.2,(tS qC).2,by lia,fun eN=>?_⟩;have W:∀a o,D a=some o->a≠a0->ak H8 a0 (cw P w a0 (iQ kvs (a8 (ST.tv t)) b (.ref I)) eN) a=some o:=fun a o e ne=>by rw[ay ne];exact qC _ _ e
     refine⟨iQ kvs (a8 (ST.tv t)) b (.ref I),eN,_,_,_,rfl,⟨fun a o e1 e2=>W a o (Ly a o e1 e2) e2,aJ,?_,?_,?_,?_,?_⟩⟩
     .rw[ji];refine uq _ I W (by rw[ay Lr];exact N8) (LJ.mono (ac.mono fun a y e=>W a _ e fun z=>by rw[z,D5] at e;cases e))
     .rw[ji];exact zK (P:=fun t=>KeyT 8 (ST.tv t)) key S.keys
     .rw[ji];exact sM S.knd
     .rw[Xd];have:=FE kvs (a8 (ST.tv t)) b (.ref I);show(iQ kvs _ b (.ref I)).length<=M.length+1;lia
     .rw[ji,Xd];exact sL S.ps
    have BO:∀{H9:Hp},(∀a o,D a=some o->a≠a0->H9 a=some o)->GR K H9 ST.tv kvs (cG [] M):=fun W=>G5.mono (fun a y e=>W _ _ e fun z=>by rw[z,D5] at e;cases e) (fun p hp la y _ e=>W _ _ e fun z=>by rw[z,D5] at e;cases e)
    cases hv:dq kvs (a8 (ST.tv t)) with
    |none=>refine⟨l1,[],N6,Xw _,rfl,fun H9 I W pE xA=>?_⟩;rw[QD hv];exact GR.new (BO W) (G5.no hv) (rF.mono (ac.mono fun a y e=>W _ _ e fun z=>by rw[z,D5] at e;cases e)) pE (.cons xA .nil)
    |some u=>obtain⟨kM,U,g1,p1,rfl,n,hg1,hvs0,_,_⟩:=G5.found hv;have hvl:=IsTs.len hvs0;have hgl:=S.ps g1 hg1;refine⟨kM,U,j _ _ n,by lia,rfl,fun H9 I W pE xA=>?_⟩;rw[QC hv];exact GR.put (fun h=>C7 h) (BO W) (W _ _ n fun z=>by rw[z,D5] at n;cases n) pE xA S.knd hv
   .rintro σ H3 ⟨kvs,ep,o3,o4,o5,rfl,S⟩
    rw[hwl,take_length] at S;have kept:oh H H3:=fun a o e=>S.kp a o (s1 _ _ (z0 _ _ e)) (bL e ha0);have GR1:=S.gr;have D3:=S.dict;have Y:=zh (P:=fun t=>KeyT 8 (dk t)/\KeyT 8 (ST.tv t)/\t.cnt<=100000) _ [] hall (fun q hq=>by cases hq);have gnd:=S.knd;have Z:=GR1.len;have Mv:(cu L).length<=100000:=by unfold cu;rw[Xa];lia
    have few:=S.few;obtain⟨g,hg⟩:∃g,g=cG [] (cu L):=⟨_,rfl⟩;rw[<- hg] at hK0 GR1 Y gnd Z;refine⟨_,rfl,a0,kvs,ep,rfl,D3,Hy (P:=P) (w:=w) (a:=a0) (kvs:=kvs) (ep:=ep) (fun i ys σc H'=>∃o1,σc=[some (.ref a0),o1]/\oh H3 H'/\IsTs K (ac H') ys ((g.take i).map gq)) ⟨none,rfl,fun a o e=>e,by rw[List.take_zero];exact .nil⟩ (fun i ys σc H' ⟨_,_,kp,_⟩=>kp _ _ D3) ?_ ?_⟩
    .rintro i p ys σc T hp hi ⟨o1,rfl,kp,hys⟩
     have hyl:=IsTs.len hys;rw[Xa,XJ] at hyl;refine⟨by lia,?_⟩;have Lb:GR K T ST.tv kvs g:=GR1.mono (fun a y e=>kp _ _ e) (fun p hp la y _ e=>kp _ _ e);obtain⟨q,hgq,⟨e1,e2,la,y,e3,e4,e5⟩,X⟩:=Lb.get (fun h=>C7 h) gnd i p hp;obtain⟨_,pk,_⟩:=Y q (XT hgq);have j5:g.take (i+1)=g.take i++[q]:=by rw[take_add_one,hgq];rfl
     have O:=pk.th;refine⟨_,rfl,_,rfl,_,rfl,a0,kvs,ep,p.1,p.2.1,p.2.2,rfl,kp _ _ D3,rfl,?_,?_,Lb.nek fun q hq=>(Y q hq).2.1,X,?_⟩
     .rw[e1];exact O.1.is (e2.mono (ac.sub _))
     .rw[e1];exact O.2
     .rw[e3];refine⟨la,y,rfl,.inl ⟨SqL.of e4,fun l hl=>?_⟩⟩;have s45:=c9 (o:=.tup y) hl;have T5:ak T l (.tup y) l=some (.tup y):=aJ;generalize ak T l (.tup y)=D at s45 T5;refine⟨(by show 2<=sizeLine;decide),fun b hb=>?_⟩;have j:=c9 (o:=.tup [.ref p.2.1,.ref l]) hb;have T6:ak D b (.tup [.ref p.2.1,.ref l]) b=some (.tup [.ref p.2.1,.ref l]):=aJ;refine nx hi ⟨_,rfl,fun a o e=>j _ _ (s45 _ _ (kp _ _ e)),?_⟩;rw[j5,Xq];refine IsTs.app (hys.mono (ac.same fun a o e=>j _ _ (s45 _ _ e))) (.cons (.tup (GT.tup T6) (.cons (e2.mono (ac.same fun a o e=>j _ _ (s45 _ _ e))) (.cons (.tup (GT.tup (j _ _ T5)) (e5.mono (ac.same fun a o e=>j _ _ (s45 _ _ e)))) .nil))) .nil)
    .rintro ys σc T ⟨o1,rfl,kp,hys⟩ l hl
     rw[Z,take_length] at hys;have s4:=c9 (o:=.lst ys) hl;have kN:oh H (ak T l (.lst ys)):=fun a o e=>s4 _ _ (kp _ _ (kept _ _ e))
     have BH:H l=none:=by
      cases e:H l with
      |none=>rfl
      |some o=>have:=kp _ _ (kept _ _ e);rw[hl] at this;cases this
     have B5:ak T l (.lst ys) l=some (.lst ys):=aJ;generalize ak T l (.lst ys)=D at s4 kN B5;have sG:Same G D:=sm.trans kN
     have sT:Same (ac T) (GT G D):=fun a o e=>by
      unfold ac GT at e
      split at e
      .next y h=>cases e;exact GT.tup (s4 _ _ h)
      .cases e
     refine hq _ _ (.ref l) (GT G D) D hK0 ⟨GT.of sG,GT.sub sG,fun a o e _=>kN _ _ e,fun a o e=>?_,fun a o e=>⟨o,kN _ _ e⟩⟩ (.fz (.fz .nil)) ⟨l,rfl,BH,⟨ys,B5,hys.mono sT⟩,?_⟩
     .unfold GT at e
      split at e
      .cases e;exact .inr (.inr (.inr trivial))
      .exact .inl e
     .unfold GT
      rw[B5]
      cases e:G l with
      |none=>rfl
      |some o=>have:=sm _ _ e;rw[BH] at this;cases this
end
end
noncomputable def AB (c:Nat):Bool:=decide (32<c)&&decide (c<127)&&decide (c≠39)&&decide (c≠92)
def Lf (x:Str):Bool:=x.cps.toList.all AB
def gH:V->Bool
 | .str x=>decide (x.length<=16)&&Lf x
 | .int i=>decide (0<=i)&&decide (i<10 ^ 12)
 |_=>false
mutual
noncomputable def gvT:Tv->Bool
 | .at v=>gH v
 | .tup l=>gvTs l
 |_=>false
noncomputable def gvTs:List Tv->Bool
 |[]=>true
 |t::l=>gvT t&&gvTs l
end
mutual
noncomputable def lO:Tv->Th
 | .at v=>.at v
 | .tup l=>.tup (iP l)
 | .lst l=>.lst (iP l)
 |_=>.at .non
noncomputable def iP:List Tv->List Th
 |[]=>[]
 |t::l=>lO t::iP l
end
mutual
noncomputable def cZ:Tv->Nat
 | .tup l=>1+bR l
 |_=>1
noncomputable def bR:List Tv->Nat
 |[]=>0
 |t::l=>cZ t+bR l
end
mutual
noncomputable def fX:Tv->Nat
 | .tup l=>1+b5 l
 |_=>0
noncomputable def b5:List Tv->Nat
 |[]=>0
 |t::l=>max (fX t) (b5 l)
end
theorem Si {v:V}(h:gH v=true):vn v=true:=by cases v with|str x=>unfold gH at h;rw[W4,XI] at h;exact Xs (by lia)|int i=>rfl|_=>cases h
mutual
theorem gvT.th:∀{t:Tv},gvT t=true->TvTh t (lO t)
 | .at v,h=>.at (Si h)
 | .tup l,h=>.tup (gvTs.th (by rw[gvT] at h;exact h))
 | .ktp l,h=>by cases h
 | .lst l,h=>by cases h
 | .scr l,h=>by cases h
 | .dic l,h=>by cases h
theorem gvTs.th:∀{l:List Tv},gvTs l=true->TvThs l (iP l)
 |[],_=>.nil
 |t::l,h=>by rw[gvTs,W4] at h;exact .cons (gvT.th h.1) (gvTs.th h.2)
end
theorem Sh {i:Int}(h:i.natAbs<10 ^ 12):i.natAbs.log2<1920:=by by_cases a:i.natAbs=0;rw[a];decide;have h1:i.natAbs<2 ^ 40:=Xx h (by decide);have:=(Nat.log2_lt a).mpr h1;lia
mutual
theorem gvT.ok:∀{t:Tv},gvT t=true->(bD (lO t)).showable=true/\(bD (lO t)).leavesShort 13=true/\(bD (lO t)).bulk+1<=17*cZ t/\(bD (lO t)).depth<=fX t
 | .at v,h=>by
  rw[gvT] at h;rw[lO];cases v with
  |str x=>(unfold gH at h;rw[W4,XI] at h;have d:x.cps.size=x.length:=rfl;refine⟨by simp [bD,kf,PyData.showable],?_,?_,by simp [bD,kf,PyData.depth]⟩;simp only [bD,kf,PyData.leavesShort];refine Yp.mpr fun c a=>?_;have:=Yp.mp h.2 c a;unfold AB at this;simp only [W4,Yq] at this;exact Xs (by lia);simp only [bD,kf,PyData.bulk,cZ];lia)
  |int i=>
   unfold gH at h;rw[W4,XI,XI] at h;have h':i.natAbs<10 ^ 12:=by lia
   refine⟨?_,?_,by simp [bD,kf,PyData.bulk,cZ],by simp [bD,kf,PyData.depth]⟩;simp only [bD,kf,PyData.showable];exact Xs (Sh h');simp only [bD,kf,PyData.leavesShort];exact Xs (PyData.shown_int_le h')
  |_=>cases h
 | .tup l,h=>by rw[gvT] at h;obtain⟨h1,b,e,f⟩:=gvTs.ok h;rw[lO];refine⟨by simpa only [bD,PyData.showable] using h1,by simpa only [bD,PyData.leavesShort] using b,?_,?_⟩;simp only [bD,PyData.bulk,cZ];lia;simp only [bD,PyData.depth,fX];lia
 | .ktp l,h=>by cases h
 | .lst l,h=>by cases h
 | .scr l,h=>by cases h
 | .dic l,h=>by cases h
theorem gvTs.ok:∀{l:List Tv},gvTs l=true->PyData.showableAll (gx (iP l))=true/\PyData.leavesShortAll 13 (gx (iP l))=true/\PyData.bulkAll (gx (iP l))<=17*bR l/\PyData.depthAll (gx (iP l))<=b5 l
 |[],_=>⟨by simp [gx,iP,PyData.showableAll],by simp [gx,iP,PyData.leavesShortAll],by simp [gx,iP,PyData.bulkAll],by simp [gx,iP,PyData.depthAll]⟩
 |t::l,h=>by rw[gvTs,W4] at h;obtain⟨a,b,d,e⟩:=gvT.ok h.1;obtain⟨b1,c,f,g⟩:=gvTs.ok h.2;rw[iP,gx];refine⟨?_,?_,?_,?_⟩;rw[PyData.showableAll,a,b1];rfl;rw[PyData.leavesShortAll,b,c];rfl;rw[PyData.bulkAll,bR];lia;rw[PyData.depthAll,b5];lia
end
section
variable {x:Str}{P:Program}{w:World}{c q:Type}{N j:Nat}{K:W.Frag}{st:Stmt}{R:Rl}{mg:Str->Option Value}{base:Heap}{r:List Str}{main:E}
theorem Nm.gv (h:Nm x):gH (.str x)=true:=by unfold gH;rw[W4,XI];refine⟨by have:=h.2.1;lia,Yp.mpr fun c a=>?_⟩;have:=h.2.2 c a;unfold AB;simp only [W4,Yq];lia
theorem su {i:Int}(h:0<=i)(h':i<10 ^ 12):gH (.int i)=true:=by unfold gH;rw[W4,XI,XI];exact⟨h,h'⟩
theorem QB:∀s∈eM,gH (.str s)=true:=by decide+kernel
theorem zJ:∀a b:List Tv,gvTs (a++b)=(gvTs a&&gvTs b)
 |[],b=>by simp [gvTs]
 |t::a,b=>by rw[XR,gvTs,gvTs,zJ a b,Bool.and_assoc]
theorem zI:∀a b:List Tv,bR (a++b)=bR a+bR b
 |[],b=>by simp [bR]
 |t::a,b=>by rw[XR,bR,bR,zI a b];lia
theorem zH:∀a b:List Tv,b5 (a++b)=max (b5 a) (b5 b)
 |[],b=>by simp [b5]
 |t::a,b=>by rw[XR,b5,b5,zH a b];lia
theorem BY:∀l:List V,(∀v∈l,gH v=true)->gvTs (l.map Tv.at)=true
 |[],_=>rfl
 |v::l,h=>by rw[Xp,gvTs,BY l fun w a=>h w (W7 _ a),gvT,h v W8];rfl
theorem BX:∀l:List V,bR (l.map Tv.at)=l.length
 |[]=>rfl
 |v::l=>by have e:bR ((v::l).map Tv.at)=1+bR (l.map Tv.at):=rfl;rw[e,BX l,Xl];lia
theorem BW:∀l:List V,b5 (l.map Tv.at)=0
 |[]=>rfl
 |v::l=>by have e:b5 ((v::l).map Tv.at)=max 0 (b5 (l.map Tv.at)):=rfl;rw[e,BW l];rfl
theorem vA (x:Str):∀l:List Str,bE x l<=l.length
 |[]=>W9 _
 |y::l=>by have:=vA x l;rw[bE];split;exact Xw _;simp;lia
theorem Wc {w:Wd}{m:Nat}(h:Ar R w m){bs fr:List Str}(d:bs.length<=1000)(g:fr.length<=100000):∀v∈(aM bs fr w).1.hd,gH v=true:=by
 intro v a;have b:∀n:Nat,n<=1000000->gH (.int (n:Int))=true:=fun n j=>su (by lia) (by lia);cases w with
 |name x=>
  have:=vA x bs;have:=vA x (aY x fr);have:=nc x fr;have e:(aM bs fr (.name x)).1=.own (bE x bs)∨(aM bs fr (.name x)).1=.free (bE x (aY x fr)):=by show(if x∈bs then _ else _:Sw×List Str×List Str).1=_∨_;by_cases c:x∈bs;exact .inl (by rw[Xk c]);exact .inr (by show(if x∈bs then _ else _:Sw×List Str×List Str).1=_;rw[Xh c])
  rcases e with e|e <;> rw[e] at a <;> simp [Sw.hd] at a <;> rcases a with rfl|rfl
  decide+kernel;exact b _ (by lia);decide+kernel;exact b _ (by lia)
 |st x=>(have:=vA x (aY x fr);have:=nc x fr;simp [aM,Sw.hd] at a;rcases a with rfl|rfl;decide+kernel;exact b _ (by lia))|lt x=>simp [aM,Sw.hd] at a;subst a;decide+kernel|op s=>(simp [aM,Sw.hd,Wd.hd] at a;rcases a with rfl|rfl;decide+kernel;exact QB s h.2)|call f=>(simp [aM,Sw.hd,Wd.hd] at a;rcases a with rfl|rfl;decide+kernel;exact Nm.gv h.2.1)|num i=>(simp [aM,Sw.hd,Wd.hd] at a;rcases a with rfl|rfl;decide+kernel;exact su h.2.1 (by have:=h.2.2;lia))|again i=>(simp [aM,Sw.hd,Wd.hd] at a;rcases a with rfl|rfl;decide+kernel;exact su h.2.1 (by have:=h.2.2;lia))|_=>simp [aM,Sw.hd,Wd.hd] at a;subst a;decide+kernel
def Gd (N s:Nat)(t:ST):Prop:=gvT (ST.tv t)=true/\cZ (ST.tv t)<=3*s/\fX (ST.tv t)<=N
def La (N s:Nat)(l:List ST):Prop:=gvTs (ST.tvL l)=true/\bR (ST.tvL l)<=3*s/\b5 (ST.tvL l)<=N
mutual
theorem C0 {R:Rl}:∀(N:Nat)(e:E)(bs fr:List Str),Ex R N e->bs.length+N<=1000->fr.length+e.cnt<=100000->Gd N e.cnt (aP bs fr e).1
 |N,.nd w a,bs,fr,h,i,c=>by
  cases h with
  | @mk n _ _ d f=>
   rw[Tree.cnt] at c ⊢;have h1:=EI bs fr w;have j:(aM bs fr w).2.2.length<=bs.length+1:=by cases w with|name x=>show(if x∈bs then _ else _:Sw×List Str×List Str).2.2.length<=_;split <;> exact Nat.le_succ _|lt x=>exact W9 _|_=>exact Nat.le_succ _
   have b:=Eb n a bs (aM bs fr w).2.2 (aM bs fr w).2.1 f (by lia) (by lia) (by lia);have g:=Wc d (bs:=bs) (fr:=fr) (by lia) (by lia);have k:=(aM bs fr w).1.hd_len;rw[aP];unfold Gd;show gvT (.tup ((aM bs fr w).1.hd.map Tv.at++ST.tvL (a5 bs (aM bs fr w).2.2 (aM bs fr w).2.1 a).1))=true/\cZ (.tup ((aM bs fr w).1.hd.map Tv.at++ST.tvL (a5 bs (aM bs fr w).2.2 (aM bs fr w).2.1 a).1))<=_/\fX (.tup ((aM bs fr w).1.hd.map Tv.at++ST.tvL (a5 bs (aM bs fr w).2.2 (aM bs fr w).2.1 a).1))<=_;rw[gvT,cZ,fX,zJ,zI,zH,BX,BW,BY _ g,b.1];have:=b.2.1;have:=b.2.2;exact⟨rfl,by lia,by lia⟩
theorem Eb {R:Rl}:∀(N:Nat)(b:List E)(bs a fr:List Str),(∀k∈b,Ex R N k)->bs.length+N<=1000->a.length+N<=1000->fr.length+Tree.cntL b<=100000->La N (Tree.cntL b) (a5 bs a fr b).1
 |N,[],bs,a,fr,_,_,_,_=>⟨rfl,Xw _,Xw _⟩
 |N,k::b,bs,a,fr,h,d,c,e=>by rw[Tree.cntL] at e ⊢;have f:=vE bs fr k;obtain⟨g,l,m⟩:=C0 N k bs fr (h k W8) d (by lia);obtain⟨b1,n,o⟩:=Eb N b a a (aP bs fr k).2 (fun j i=>h j (W7 _ i)) c c (by lia);rw[a5];unfold La;show gvTs (ST.tv (aP bs fr k).1::ST.tvL (a5 a a (aP bs fr k).2 b).1)=true/\bR (ST.tv (aP bs fr k).1::ST.tvL (a5 a a (aP bs fr k).2 b).1)<=_/\b5 (ST.tv (aP bs fr k).1::ST.tvL (a5 a a (aP bs fr k).2 b).1)<=_;rw[gvTs,bR,b5,g,b1];exact⟨rfl,by lia,by lia⟩
end
def c7 {c : Type}(l:List (c × E)):Nat:=(l.map fun p=>p.2.cnt).sum
theorem Fq (a b:List (c × E)):c7 (a++b)=c7 a+c7 b:=by unfold c7;rw[Xq,List.sum_append]
theorem Fp (f : c -> q)(l:List (c × E)):c7 (l.map fun p=>(f p.1,p.2))=c7 l:=by unfold c7;rw[Ze];rfl
theorem Fm (f : c × E->Bool):∀l:List (c × E),c7 (l.filter f)<=c7 l
 |[]=>W9 _
 |p::l=>by have:=Fm f l;have e:c7 (p::l)=p.2.cnt+c7 l:=rfl;rw[YQ];split;show p.2.cnt+c7 (l.filter f)<=_;lia;lia
mutual
theorem Ea {R:Rl}:∀(N:Nat)(e:E),Ex R N e->c7 (bK e)<=N*e.cnt
 |N,.nd w a,h=>by
  cases h with
  | @mk n _ _ c b=>
   have:=Fl n a 0 b;rw[bK,Tree.cnt];show(Tree.nd w a:E).cnt+c7 (d5 0 a)<=_;have e:(n+1)*(1+Tree.cntL a)=n*Tree.cntL a+Tree.cntL a+(n+1):=by rw[Nat.mul_add,Nat.mul_one,Nat.succ_mul];lia
   rw[Tree.cnt,e];lia
theorem Fl {R:Rl}:∀(N:Nat)(a:List E)(i:Nat),(∀k∈a,Ex R N k)->c7 (d5 i a)<=N*Tree.cntL a
 |N,[],i,_=>by rw[d5];exact Xw _
 |N,k::a,i,h=>by have h1:=Ea N k (h k W8);have c:=Fl N a (i+1) fun j b=>h j (W7 _ b);rw[d5,Fq,Tree.cntL,Nat.mul_add];have e:c7 ((bK k).map fun p=>(i::p.1,p.2))=c7 (bK k):=Fp (fun l=>i::l) (bK k);rw[e];lia
end
theorem Hx (m:Int):∀(bs:List E)(i:Nat),(∀b∈bs,Ex R N b)->c7 (cj m i bs)<=N*Tree.cntL bs
 |[],i,_=>by rw[cj];exact Xw _
 |b::bs,i,h=>by have h1:=Ea N b (h b W8);have c:=Hx m bs (i+1) fun j a=>h j (W7 _ a);have d:c7 (keep m b)<=c7 (bK b):=Fm _ _;rw[cj,Fq,Tree.cntL,Nat.mul_add];have e:c7 ((keep m b).map fun p=>((i,p.1),p.2))=c7 (keep m b):=Fp (fun l=>(i,l)) (keep m b);rw[e];lia
theorem CZ:∀p:List Nat,(∀i∈p,i<=1000)->gvTs (p.map tk)=true/\bR (p.map tk)=p.length/\b5 (p.map tk)=0
 |[],_=>⟨rfl,rfl,rfl⟩
 |i::p,h=>by
  obtain⟨a,b,c⟩:=CZ p fun j d=>h j (W7 _ d);have f:=h i W8;have e:gvT (tk i)=true:=by show gH (.int (i:Int))=true;exact su (by lia) (by lia)
  rw[Xp,gvTs,bR,b5,a,b,c,e];exact⟨rfl,by show 1+p.length=p.length+1;lia,rfl⟩
theorem Wb {x:Nat×List Nat}(h1:x.1<=1000)(d:∀i∈x.2,i<=1000):gvT (bI x)=true/\cZ (bI x)<=x.2.length+3/\fX (bI x)<=2:=by
 obtain⟨a,b,c⟩:=CZ x.2 d;have e:gvT (tk x.1)=true:=by show gH (.int (x.1:Int))=true;exact su (by lia) (by lia)
 have f:gvT (cY x.2)=true:=by show gvTs _=true;exact a
 have g:cZ (cY x.2)=1+x.2.length:=by show 1+bR _=_;rw[b]
 have h:fX (cY x.2)=1:=by show 1+b5 _=_;rw[c]
 have j:cZ (tk x.1)=1:=rfl;have k:fX (tk x.1)=0:=rfl;unfold bI;rw[gvT,gvTs,gvTs,gvTs,cZ,bR,bR,bR,fX,b5,b5,b5,e,f,j,g,k,h];exact⟨rfl,by lia,by lia⟩
def tK (q:ST×List Tv):Prop:=gvT (ST.tv q.1)=true/\fX (ST.tv q.1)<=8/\gvTs q.2=true/\b5 q.2<=2
theorem yQ (q:ST×List Tv):cZ (gq q)=2+cZ (ST.tv q.1)+bR q.2:=by show 1+(cZ (ST.tv q.1)+((1+bR q.2)+0))=_;lia
theorem Nb (q:ST×List Tv):fX (gq q)=1+max (fX (ST.tv q.1)) (max (1+b5 q.2) 0):=rfl
theorem Na (q:ST×List Tv):gvT (gq q)=(gvT (ST.tv q.1)&&(gvTs q.2&&true)):=rfl
theorem qd (t:Tv)(l:List Tv):bR (t::l)=cZ t+bR l:=rfl
theorem D9 {t:ST}{p:Tv}(f:gvT (ST.tv t)=true/\fX (ST.tv t)<=8)(d:gvT p=true/\fX p<=2):∀{g:d7},(∀q∈g,tK q)->(∀q∈cc g t p,tK q)/\bR ((cc g t p).map gq)<=bR (g.map gq)+cZ (ST.tv t)+cZ p+2
 |[],_=>by rw[cc];refine⟨fun q c=>?_,?_⟩;rw[XH.mp c];exact⟨f.1,f.2,by show gvTs [p]=true;rw[gvTs,gvTs,d.1];rfl,by show b5 [p]<=2;rw[b5,b5];have:=d.2;lia⟩;show bR [gq (t,[p])]<=bR []+_+_+_;rw[qd,yQ];show 2+cZ (ST.tv t)+(cZ p+0)+0<=0+_+_+_;lia
 | (u,ps)::r,h=>by have h1:=h _ W8;rw[cc];split;refine⟨fun q c=>?_,?_⟩;rcases Xj.mp c with e|e;rw[e];obtain⟨i,j,k,l⟩:=h1;refine⟨i,j,?_,?_⟩;show gvTs (ps++[p])=true;rw[zJ,gvTs,gvTs,d.1];have:gvTs ps=true:=k;rw[this];rfl;show b5 (ps++[p])<=2;rw[zH,b5,b5];have:b5 ps<=2:=l;have:=d.2;lia;exact h q (W7 _ e);rw[Xp,Xp,qd,qd,yQ,yQ];show 2+cZ (ST.tv u)+bR (ps++[p])+_<=2+cZ (ST.tv u)+bR ps+_+_+_+_;rw[zI,qd];show 2+cZ (ST.tv u)+(bR ps+(cZ p+0))+_<=_;lia;obtain⟨a,b⟩:=D9 f d (g:=r) fun q c=>h q (W7 _ c);refine⟨fun q c=>?_,?_⟩;rcases Xj.mp c with e|e;rw[e];exact h1;exact a q e;rw[Xp,Xp,qd,qd];lia
theorem CY:∀(L:List ((Nat×List Nat)×E))(g:d7),(∀q∈L,Gd 8 q.2.cnt (aP [] [] q.2).1/\q.1.1<=1000/\(∀i∈q.1.2,i<=1000)/\q.1.2.length<=8)->(∀q∈g,tK q)->(∀q∈cG g (cu L),tK q)/\bR ((cG g (cu L)).map gq)<=bR (g.map gq)+3*c7 L+13*L.length
 |[],g,_,a=>⟨a,by show bR (g.map gq)<=_;lia⟩
 |q::L,g,h,a=>by obtain⟨⟨f,o,j⟩,b,c,d⟩:=h q W8;obtain⟨k,r,l⟩:=Wb b c;obtain⟨g1,g2⟩:=D9 (t:=(aP [] [] q.2).1) (p:=bI q.1) ⟨f,j⟩ ⟨k,l⟩ a;obtain⟨m,s⟩:=CY L _ (fun q n=>h q (W7 _ n)) g1;refine⟨m,?_⟩;show bR ((cG (cc g (aP [] [] q.2).1 (bI q.1)) (cu L)).map gq)<=_;have e:c7 (q::L)=q.2.cnt+c7 L:=rfl;rw[Xl,e];lia
theorem D8:∀g:d7,(∀q∈g,tK q)->gvTs (g.map gq)=true/\b5 (g.map gq)<=9
 |[],_=>⟨rfl,Xw _⟩
 | (t,ps)::g,h=>by obtain⟨a,b⟩:=D8 g fun q e=>h q (W7 _ e);obtain⟨c,f,d,i⟩:=h _ W8;simp only at c f d i;rw[Xp,gvTs,b5,a,Na,Nb];have j:gvT (ST.tv (t,ps).1)=true:=c;have k:gvTs (t,ps).2=true:=d;rw[j,k];refine⟨rfl,?_⟩;show max (1+max (fX (ST.tv t)) (max (1+b5 ps) 0)) _<=9;lia
theorem Sg {l:List Tv}(b:gvTs l=true)(g:bR l<=60000)(hd:b5 l<=50):∃u,TvTh (.tup l) u/\(bD u).showable=true/\(bD u).depth<=60/\(bD u).shown.length<=16777216:=by
 have a:gvT (.tup l)=true:=by rw[gvT];exact b
 obtain⟨c,d,e,f⟩:=gvT.ok a;rw[cZ] at e;rw[fX] at f;refine⟨_,gvT.th a,c,by lia,?_⟩;have h:=PyData.shown_le_bulk 13 (by decide) _ d;lia
theorem OF (l:List Fd):(∀f∈l,f.bd.cnt<=30)->Tree.cntL (l.map Fd.bd++[main])<=30*l.length+main.cnt:=by induction l with|nil=>(intro _;show Tree.cntL [main]<=_;rw[Tree.cntL,Tree.cntL];simp)|cons f l a=>intro h;have h1:=h f W8;have c:=a fun g b=>h g (W7 _ b);rw[Xp,XR,Tree.cntL,Xl];lia
theorem PgOk.bs {fs:List Fd}(h:PgOk r fs main):∀b∈aZ fs main,Ex (Rp r fs) 7 b:=fun b a=>by unfold aZ at a;rcases Xn.mp a with a|a;obtain⟨f,c,rfl⟩:=XA.mp a;exact(h.fo f c).bd.up (by decide);rw[XH.mp a];exact h.mn
theorem PgOk.cn {fs:List Fd}(h:PgOk r fs main):Tree.cntL (aZ fs main)<=360:=by have:=OF (main:=main) fs fun f a=>(h.fo f a).bc;have:=h.fl;have:=h.mc;unfold aZ;lia
theorem PgOk.ga {fs:List Fd}(h:PgOk r fs main):j2 fs main:=⟨⟨Rp r fs,7,⟨fun x a=>h.pn x a⟩,by decide,h.bs⟩,by have:=h.fl;lia,by have:=h.cn;lia⟩
theorem M9:∀(N:Nat)(e:E),Ex R N e->∀p∈bK e,∀i∈p.1,i<=7:=by
 intro N e h;induction h with
 | @mk n w a h f l=>
  have r:=h.le;have go:∀(a:List E)(i:Nat),i+a.length<=8->(∀k∈a,∀p∈bK k,∀i∈p.1,i<=7)->∀p∈d5 i a,∀j∈p.1,j<=7:=by intro a;induction a with|nil=>(intro i _ _ p b;cases b)|cons k a d=>intro i m g p b j c;rw[Xl] at m;rw[d5] at b;rcases Xn.mp b with z|z;obtain⟨q,o,rfl⟩:=XA.mp z;rcases Xj.mp c with e|e;lia;exact g k W8 q o j e;exact d (i+1) (by lia) (fun k f=>g k (W7 _ f)) p z j c
  intro p b j c;rw[bK] at b;rcases Xj.mp b with e|z;rw[e] at c;cases c;exact go a 0 (by lia) l p z j c
theorem QA {fs:List Fd}(h:PgOk r fs main)(m:Int):∃u,TvTh (.tup (oA m fs main)) u/\(bD u).showable=true/\(bD u).depth<=60/\(bD u).shown.length<=16777216:=by
 have k:=h.ga;have l:=h.cn;have n:=h.fl;have o:=wj (m:=m) (fs:=fs) (main:=main) (by lia) (by decide:(7:Nat)<=100) h.bs (by lia);have p:=tj m (aZ fs main) 0;have f:=Hx (R:=Rp r fs) (N:=7) m (aZ fs main) 0 h.bs;obtain⟨g1,g2⟩:=CY (cj m 0 (aZ fs main)) [] (fun q d=>by
  obtain⟨a,b,c⟩:=o q d;obtain⟨j,e,h1,y,g⟩:=Aj m _ 0 q d;have hex:=h.bs e (XT h1);have z:=(Xe.mp h1).1;have A:(aZ fs main).length=fs.length+1:=by unfold aZ;simp
  have hd:q.1.2.length<=7:=zO hex _ g;obtain⟨s,t,B⟩:=C0 (R:=Rp r fs) 7 q.2 [] [] b (by simp) (by simp;lia)
  exact⟨⟨s,t,by lia⟩,by lia,fun i v=>by have:=M9 (R:=Rp r fs) 7 e hex _ g i v;lia,by lia⟩) (fun q d=>by cases d)
 obtain⟨w,C⟩:=D8 _ g1;have x:bR (([]:d7).map gq)=0:=rfl;rw[x] at g2;exact Sg w (by unfold oA;lia) (by unfold oA;lia)
inductive jv (args:SA)(k:SK):Prop
 |mk (ns:List Int) (_:args=[.fz (.scr (ns.map ti))]) (_:ns.length<=16777216) (_:k (.own (aQ (ns.take 63) 0 0)) [.fz (.scr (ns.map ti))])
theorem OE:∀args k,jv args k->aD (aB Ht Hu) (aW args k) (aR 1 args):=by
 rintro args k ⟨ns,rfl,d,q⟩;have e:aV (ns.map ti) none (some 63)=(ns.take 63).map ti:=by
  unfold aV;have c:sIx (ns.map ti).length 0 none=0:=rfl;have h1:sIx (ns.map ti).length (ns.map ti).length (some 63)=min 63 ns.length:=by rw[Xa];unfold sIx;simp
  rw[c,h1,drop_zero,Nat.sub_zero,<- map_take];rw[show min 63 ns.length=min 63 ns.length from rfl,List.take_eq_take_min,List.take_eq_take_min (i:=63)];simp
 have a:k (.own (.dic [(.inr "cells",.lst (aV (ns.map ti) none (some 63))),(.inr "at",ti 0),(.inr "left",ti 0)])) [.fz (.scr (ns.map ti))]:=by rw[e];exact q
 have b:(aV (ns.map ti) none (some 63)).length<=16777216:=by rw[e,Xa,XJ];lia
 first|exact a|exact⟨b,a⟩|exact⟨rfl,a⟩|exact⟨b,rfl,a⟩
def fK:aK:=fun args k=>∃ns:List Int,args=[.fz (.scr (ns.map ti))]/\ns.length<=16777216/\k (fb true) [.fz (.scr (ns.map ti))]
abbrev JT:Gm:=CN jv jt a6 eI gD
theorem Fj {a0 c d:Option Sl}{fs:List Fd}{P:PD}(b:PgOk r fs main)(q:∀a,P.nx ⟨[a0,c,some (.fz (cv fs main)),d,a],[],[]⟩):∀(l:List Int)(a:Option Sl),cy (bd (.nm 4)) (aD (aB JT Ds)) P (l.map ti) ⟨[a0,c,some (.fz (cv fs main)),d,a],[],[]⟩
 |[],a=>q a
 |m::l,a=>by obtain⟨u,e,f,h,i⟩:=QA b m;refine⟨rfl,fs,main,m,rfl,b.ga,_,⟨u,rfl,e,f,h,i,rfl⟩,?_⟩;refine⟨rfl,fs,main,m,rfl,b.ga,?_⟩;refine⟨_,⟨u,rfl,e,f,h,i,rfl⟩,?_⟩;refine aF (fun g=>absurd g ?_) (fun _=>?_);show ¬ ((true ^^ decide (V.str (bD u).shown=V.str (bD u).shown))=true);rw[Xs rfl];decide;exact Fj b q l _
theorem MZ:∀args k,fK args k->aD (aB JT CO) (aW args k) (aR 5 args):=by
 rintro args k ⟨ns,rfl,e,q⟩;refine⟨rfl,ns,rfl,e,?_⟩;generalize f:ns.take 63=a;have c:a.length<=63:=by rw[<- f,XJ];lia
 refine⟨rfl,a,0,0,40,rfl,by decide,c,by decide,fun r fs main n1 g h i=>?_⟩;refine⟨rfl,a,n1,g,4,rfl,c,by lia,by decide,by decide,fun j l m _ _ s=>?_⟩;refine⟨rfl,a,l,m,12,rfl,c,by lia,by decide,by decide,fun n o p _ _ t=>?_⟩;refine⟨fun M=>∃d b,M=⟨[some (.fz (.scr (ns.map ti))),some (.own (aQ a o p)),some (.fz (cv fs main)),d,b],[],[]⟩,?_,?_⟩;refine Fj h ?_ [1,151,2+j,3+n,1] none;exact fun b=>⟨_,b,rfl⟩;rintro M ⟨d,b,rfl⟩;exact q
theorem nV {e:E}:¬Ex R 0 e:=fun h=>by cases h
theorem ln {a b:List Sl}(e:a=b):a.length=b.length:=Yd _ e
abbrev Dx (K:W.Frag)(mg:Str->Option Value)(x:Str)(i:Nat):Prop:=A7 K mg x (av i) (kc (av i))
section
theorem D7 (T:Tx K mg)(a:Dx K mg "_law_nodes" 43)(b:Fk P w K mg base 1 ("_law_parts",au)):∀N R,Fs P w K mg base (N+1) "_law_nodes" (av 43) (aN R N)
 | 0,R=>mm a fun _ _ h=>by rcases h with ⟨_,_,h,_⟩;exact nV h
 |N+1,R=>bj T a T8 (SJ R N) ⟨b.up (by lia),(D7 T a b N R).up (W9 _),trivial⟩
theorem CW (T:Tx K mg)(a:Dx K mg "_law_work" 44)(b:Fk P w K mg base 1 ("_law_parts",au)):∀N R,Fs P w K mg base (N+1) "_law_work" (av 44) (bM R N)
 | 0,R=>mm a fun _ _ h=>by rcases h with ⟨_,_,_,_,_,h,_⟩;exact nV h
 |N+1,R=>bj T a SR (O7 R N) ⟨b.up (by lia),(CW T a b N R).up (W9 _),trivial⟩
theorem D2 (T:Tx K mg)(a:Dx K mg "_law_right" 45)(b:Fk P w K mg base 1 ("_law_parts",au)):∀N R,Fs P w K mg base (N+1) "_law_right" (av 45) (bq R N)
 | 0,R=>mm a fun _ _ h=>by rcases h with ⟨_,_,_,_,_,_,h,_⟩;exact nV h
 |N+1,R=>bj T a T7 (Q4 R N) ⟨(D2 T a b N R).up (W9 _),b.up (by lia),trivial⟩
theorem Fi (T:Tx K mg)(a:Dx K mg "_law_turned" 47)(b:Fk P w K mg base 1 ("_law_with",b8))(c:Fk P w K mg base 1 ("_law_parts",au)):∀N R,Fs P w K mg base (N+1) "_law_turned" (av 47) (cB R N)
 | 0,R=>mm a fun _ _ h=>by rcases h with ⟨_,_,_,_,_,_,_,h,_⟩;exact nV h
 |N+1,R=>bj T a UN (SF R N) ⟨b.up (by lia),c.up (by lia),(Fi T a b c N R).up (W9 _),trivial⟩
theorem Ib (T:Tx K mg)(a:Dx K mg "_law_all_paths" 56)(b:Fk P w K mg base 1 ("_law_parts",au)):∀N R,Fs P w K mg base (N+1) "_law_all_paths" (av 56) (dh R N)
 | 0,R=>mm a fun _ _ h=>by rcases h with ⟨_,_,h,_⟩;exact nV h
 |N+1,R=>bj T a VD (Q0 R N) ⟨b.up (by lia),(Ib T a b N R).up (W9 _),trivial⟩
theorem DZ (T:Tx K mg)(a:Dx K mg "_law_shape" 59)(b:Fk P w K mg base 1 ("_law_with",eG))(c:Fk P w K mg base 1 ("_law_parts",dC)):∀N R,Fs P w K mg base (N+1) "_law_shape" (av 59) (df R N)
 | 0,R=>mm a fun _ _ h=>by rcases h with ⟨_,_,_,_,_,_,h,_⟩;exact nV h
 |N+1,R=>bj T a TY (QW R N) ⟨(DZ T a b c N R).up (W9 _),b.up (by lia),c.up (by lia),trivial⟩
theorem Fh (T:Tx K mg)(a:Dx K mg "_law_spoilt" 48)(b:Fk P w K mg base 1 ("_law_parts",au))(c:∀N R,Fs P w K mg base (N+1) "_law_nodes" (av 43) (aN R N))(d:Fk P w K mg base 1 ("_law_with",b8)):∀N R m,Fs P w K mg base (N+1) "_law_spoilt" (av 48) (cC R m N)
 | 0,R,m=>mm a fun _ _ h=>by rcases h with ⟨_,_,_,_,h,_⟩;exact nV h
 |N+1,R,m=>bj T a UM (SG R m N) ⟨b.up (by lia),(c _ R).up (by lia),(Fh T a b c d N R m).up (W9 _),d.up (by lia),trivial⟩
theorem CV (T:Tx K mg)(a:Dx K mg "_law_expr" 52)(e:Dx K mg "_law_bound" 50)(f:Dx K mg "_law_called" 51)(hd:Fk P w K mg base 1 ("_law_draw",a6))(c:∀R,Fk P w K mg base 3 ("_law_leaf",cR R))(g:∀R,Fk P w K mg base 7 ("_law_copied",cE R))(R:Rl):∀b,Fs P w K mg base (2*b+7) "_law_expr" (av 52) (bX R b)
 | 0=>mm a fun _ _ h=>by rcases h with ⟨_,_,_,_,_,_,_,_,_,_,_,_,h,_⟩;exact absurd h (by decide)
 |b+1=>by have d:=CV T a e f hd c g R b;have i:=bj (k:=2*b+7) T e T3 (Q5 R b) ⟨hd.up (by lia),d.up (W9 _),trivial⟩;have j:=bj (k:=2*b+7) T f UJ (SH R b) ⟨(c R).up (by lia),hd.up (by lia),d.up (W9 _),trivial⟩;exact bj (k:=2*b+8) T a SN (O3 R b) ⟨hd.up (by lia),(c R).up (by lia),(g R).up (by lia),j.up (W9 _),i.up (W9 _),d.up (by lia),trivial⟩
theorem u7 {y:Str}(h:∃tk,mg x=some (.str y tk))(a:y.length<=16777216):∃v u,mg x=some u/\RelV v u/\∀G,IsT K G v (ts y):=by obtain⟨t,h⟩:=h;exact⟨.str y,_,h,⟨t,rfl⟩,fun G=>.at (Xs a)⟩
theorem VR {k M:Nat}{sp:Rl->Nat->aK}(h:∀N,N<=M->∀R,Fs P w K mg base j x st (sp R N))(e:j<=k):Fk P w K mg base k (x,fun a q=>∃R N,N<=M/\sp R N a q):=Fs.any (ι := Rl×{N // N<=M}) (sp:=fun i=>sp i.1 i.2.1) (⟨fun _=>False,fun _ _=>False⟩,⟨0,Xw _⟩) (fun i=>h i.2.1 i.2.2 i.1) (fun _ _ ⟨R,N,b,z⟩=>⟨(R,⟨N,b⟩),z⟩) e
end
structure tL (K:W.Frag)(mg:Str->Option Value):Prop where
 T:Tx K mg
 nd:∃tk,mg "NODE"=some (.str "node" tk)
 op:∃tk,mg "OPENED"=some (.str "opened" tk)
 cl:∃tk,mg "CLOSED"=some (.str "closed" tk)
 a_is_whole:Dx K mg "is_whole" 7
 a_head:Dx K mg "head" 8
 a_parts:Dx K mg "parts" 9
 a_steps:Dx K mg "steps" 10
 a_flat:Dx K mg "flat" 11
 a_built:Dx K mg "built" 12
 a_paths:Dx K mg "paths" 13
 a_way:Dx K mg "way" 14
 a_own_number:Dx K mg "own_number" 16
 a_owned:Dx K mg "owned" 17
 a_free_names:Dx K mg "free_names" 18
 a_bare_head:Dx K mg "bare_head" 20
 a_shape_head:Dx K mg "shape_head" 22
 a_shape_rows:Dx K mg "shape_rows" 23
 a_bodies:Dx K mg "bodies" 25
 a_place_way:Dx K mg "place_way" 27
 a_piece_at:Dx K mg "piece_at" 28
 a_node_counts:Dx K mg "node_counts" 29
 a_places_of:Dx K mg "places_of" 30
 a_gathered:Dx K mg "gathered" 32
 a_table:Dx K mg "table" 33
 a_l_feed:Dx K mg "_law_feed" 35
 a_l_draw:Dx K mg "_law_draw" 36
 a_l_value:Dx K mg "_law_value" 37
 a_l_spelled:Dx K mg "_law_spelled" 38
 a_l_name:Dx K mg "_law_name" 39
 a_l_names:Dx K mg "_law_names" 40
 a_l_parts:Dx K mg "_law_parts" 41
 a_l_with:Dx K mg "_law_with" 42
 a_l_nodes:Dx K mg "_law_nodes" 43
 a_l_work:Dx K mg "_law_work" 44
 a_l_right:Dx K mg "_law_right" 45
 a_l_leaf:Dx K mg "_law_leaf" 46
 a_l_turned:Dx K mg "_law_turned" 47
 a_l_spoilt:Dx K mg "_law_spoilt" 48
 a_l_copied:Dx K mg "_law_copied" 49
 a_l_bound:Dx K mg "_law_bound" 50
 a_l_called:Dx K mg "_law_called" 51
 a_l_expr:Dx K mg "_law_expr" 52
 a_l_world:Dx K mg "_law_world" 53
 a_l_seeds:Dx K mg "_law_seeds" 54
 a_l_program:Dx K mg "_law_program" 55
 a_l_all_paths:Dx K mg "_law_all_paths" 56
 a_l_bodies:Dx K mg "_law_bodies" 57
 a_l_pieces:Dx K mg "_law_pieces" 58
 a_l_shape:Dx K mg "_law_shape" 59
 a_l_rows:Dx K mg "_law_rows" 60
 a_law:Dx K mg "law" 61
theorem MY (D:tL K mg):Fs P w K mg base 23 "law" (av 61) fK:=by
 have T:=D.T;have c:=T.bl "tuple" (by decide+kernel);have draw:Fs P w K mg base 1 _ _ _:=bj T D.a_l_draw SX Pb trivial;have H:Fs P w K mg base 1 _ _ _:=bj T D.a_l_spelled U5 TX trivial;have r:Fs P w K mg base 2 _ _ _:=bj T D.a_l_value Ud Rh ⟨draw.up,trivial⟩;have name:Fs P w K mg base 2 _ _ _:=bj T D.a_l_name SV Pa ⟨draw.up,H.up,trivial⟩;have names:Fs P w K mg base 3 _ _ _:=bj T D.a_l_names Ub Rg ⟨name.up,trivial⟩;have s:Fs P w K mg base 1 _ _ _:=bj T D.a_l_parts HH SM trivial;have y:Fs P w K mg base 1 _ _ _:=bj T D.a_l_with GW Rb trivial;have I:Fs P w K mg base 1 _ _ _:=bj T D.a_l_parts HH Su trivial;have J:Fs P w K mg base 1 _ _ _:=bj T D.a_l_with GW QY trivial;have L:Fs P w K mg base 1 _ _ _:=bj T D.a_l_world T2 Q3 trivial;have t:Fs P w K mg base 1 _ _ _:=bj T D.a_parts Ro Ss trivial;have head:Fs P w K mg base 1 _ _ _:=bj T D.a_head Pg O1 trivial;have A:Fs P w K mg base 1 _ _ _:=bj T D.a_is_whole UP Sn trivial;have B:Fs P w K mg base 2 _ _ _:=bj T D.a_steps Rm QV ⟨t.up,trivial⟩ ⟨u7 D.nd (by decide+kernel),u7 D.cl (by decide+kernel),u7 D.op (by decide+kernel),trivial⟩;have O:Fs P w K mg base 3 _ _ _:=bj T D.a_flat Pe OW ⟨B.up,t.up,head.up,trivial⟩ ⟨u7 D.nd (by decide+kernel),trivial⟩;have Q:Fs P w K mg base 1 _ _ _:=bj T D.a_built Rk QR trivial;have S:Fs P w K mg base 2 _ _ _:=bj T D.a_paths Ri Sq ⟨t.up,trivial⟩;have U:Fs P w K mg base 2 _ _ _:=bj T D.a_way Nz Nk ⟨t.up,A.up,trivial⟩;have C:Fk P w K mg base 3 ("owned",di):=by obtain⟨f,d,F⟩:=D.a_owned;obtain⟨fo,V,x⟩:=D.a_own_number;exact⟨3,f,d,_,QT F.F B.up x.F x.b x.m D.nd D.op (by decide),W9 _,F.m,F.F.kp,F.b⟩
 have W:Fs P w K mg base 4 _ _ _:=bj T D.a_free_names Vs QM ⟨C.up,trivial⟩;have X:Fs P w K mg base 2 _ _ _:=bj T D.a_bare_head U9 U1 ⟨head.up,trivial⟩;have Y:Fs P w K mg base 3 _ _ _:=bj T D.a_shape_head Vr Vp ⟨X.up,trivial⟩;have Z:Fs P w K mg base 5 _ _ _:=bj T D.a_shape_rows Vq Vo ⟨W.up,C.up,t.up,Y.up,trivial⟩;have E:Fs P w K mg base 1 _ _ _:=bj T D.a_bodies S0 So trivial;have xk:Fs P w K mg base 3 _ _ _:=bj T D.a_place_way U8 UE ⟨E.up,A.up,U.up,trivial⟩;have kF:Fs P w K mg base 4 _ _ _:=bj T D.a_piece_at UO TR ⟨xk.up,trivial⟩;have nZ:Fs P w K mg base 4 _ _ _:=bj T D.a_node_counts VE Sr ⟨O.up,trivial⟩;have jy:∀R N,Fs P w K mg base 5 "places_of" (av 30) (cq R N):=fun R N=>bj T D.a_places_of U7 (UD R N) ⟨E.up,nZ.up,S.up,trivial⟩;have table:Fk P w K mg base 12 ("table",eI):=by obtain⟨f,d,F⟩:=D.a_gathered;obtain⟨ft,dt,u⟩:=D.a_table;have g:=OH (k:=10) F.F (fun R N=>(jy R N).up) kF.up Z.up c (by decide);exact⟨12,ft,dt,_,QE u.F g F.m F.F.kp F.b Q.up c (by decide),W9 _,u.m,u.F.kp,u.b⟩
 have G:∀R,Fs P w K mg base 3 "_law_leaf" (av 46) (cR R):=fun R=>bj T D.a_l_leaf SQ (O8 R) ⟨draw.up,r.up,trivial⟩;have a:=D7 T D.a_l_nodes s.up;have i:=CW T D.a_l_work s.up;have n:=D2 T D.a_l_right s.up;have j:=Fi T D.a_l_turned y.up s.up;have o:=Ib T D.a_l_all_paths s.up;have p:=DZ T D.a_l_shape J.up I.up;have l:=Fh T D.a_l_spoilt s.up a y.up;have n9:∀R,Fs P w K mg base 7 "_law_copied" (av 49) (cE R):=fun R=>bj (k:=6) T D.a_l_copied UL (SE R) ⟨(G R).up,draw.up,(j 4 R).up,(l 4 R 1).up,(a 5 R).up,(i 5 R).up,(n 5 R).up,trivial⟩;have q:=fun R=>CV T D.a_l_expr D.a_l_bound D.a_l_called draw.up (fun R=>(G R).up) (fun R=>(n9 R).up) R;have rP:Fk P w K mg base 21 ("_law_expr",EL):=VR (M:=7) (fun N v R=>(q R N).lift (by lia)) (W9 _);have nt:Fk P w K mg base 16 ("_law_seeds",F8):=Fs.any ⟨fun _=>False,fun _ _=>False⟩ (fun R=>bj (k:=15) T D.a_l_seeds T1 (Q2 R) ⟨(q R 4).up,trivial⟩) (fun _ _ z=>z);have qw:Fk P w K mg base 5 ("_law_work",EK):=Fs.any ⟨fun _=>False,fun _ _=>False⟩ (fun R=>i 4 R) (fun _ _ z=>z);have kE:Fs P w K mg base 22 _ _ _:=bj T D.a_l_program U2 TV ⟨names.up,draw.up,name.up,L.up,rP.up,qw.up,nt.up,trivial⟩;have kL:Fs P w K mg base 1 _ _ _:=bj T D.a_l_bodies UI TU trivial;have ny:∀R N,N<=8->Fs P w K mg base 10 "_law_pieces" (av 58) (dz R N):=fun R N v=>bj (k:=9) T D.a_l_pieces UH (Sv R N) ⟨kL.up,(a N R).up (by lia),(o N R).up (by lia),trivial⟩;have rows:Fk P w K mg base 11 ("_law_rows",gD):=by obtain⟨f,d,F⟩:=D.a_l_rows;exact⟨11,f,d,_,OG F.F (fun R N v=>(ny R N v).up) (fun R N v=>(p N R).up (by lia)) c (by decide),W9 _,F.m,F.F.kp,F.b⟩
 have yn:Fs P w K mg base 1 _ _ _:=bj T D.a_l_feed SY OE trivial;exact bj T D.a_law Ny MZ ⟨yn.up,kE.up,draw.up,table.up,rows.up,trivial⟩ trivial (fun _ _ h=>by rcases h with ⟨_,e,_⟩;exact ln e)
end
section
variable {x:Str}{w:World}{h:Heap}{G:Hp}{i:Nat}{K:W.Frag}{mg:Str->Option Value}{T:String}
theorem OD {P:List Value->Prop}(h:P []):∀b:List Value,b.length=0->P b:=fun b e=>by cases b with|nil=>exact h|cons a r=>cases e
theorem us_len1 {P:List Value->Prop}(h:∀a,P [a]):∀b:List Value,b.length=1->P b:=fun b e=>by cases b with|nil=>(cases e)|cons a r=>exact OD (P:=fun r=>P (a::r)) (h a) r (Nat.succ.inj e)
theorem us_len2 {P:List Value->Prop}(h:∀a b,P [a,b]):∀c:List Value,c.length=2->P c:=fun c e=>by cases c with|nil=>(cases e)|cons a r=>exact us_len1 (P:=fun r=>P (a::r)) (h a) r (Nat.succ.inj e)
theorem us_len3 {P:List Value->Prop}(h:∀a b c,P [a,b,c]):∀d:List Value,d.length=3->P d:=fun d e=>by cases d with|nil=>(cases e)|cons a r=>exact us_len2 (P:=fun r=>P (a::r)) (h a) r (Nat.succ.inj e)
theorem OC {P:List Value->Prop}(h:∀a b c d,P [a,b,c,d]):∀f:List Value,f.length=4->P f:=fun f e=>by cases f with|nil=>(cases e)|cons a r=>exact us_len3 (P:=fun r=>P (a::r)) (h a) r (Nat.succ.inj e)
theorem us_len5 {P:List Value->Prop}(h:∀a b c d e,P [a,b,c,d,e]):∀f:List Value,f.length=5->P f:=fun f e=>by cases f with|nil=>(cases e)|cons a r=>exact OC (P:=fun r=>P (a::r)) (h a) r (Nat.succ.inj e)
theorem us_len6 {P:List Value->Prop}(h:∀a b c d e f,P [a,b,c,d,e,f]):∀g:List Value,g.length=6->P g:=fun g e=>by cases g with|nil=>(cases e)|cons a r=>exact us_len5 (P:=fun r=>P (a::r)) (h a) r (Nat.succ.inj e)
abbrev hB (n:Str)(S:Stmt)(ps:List Str):Prop:=∀(kV b c:Value)(d:Option Addr)(cd ct:Value)(a:List Value),a.length=ps.length->bindArgs (PySem.W.fnOf n n (ku S) (iT S) (cO S) .none kV b c d cd ct) ⟨a,[]⟩=pure (ps.zip a)
abbrev nQ (K:W.Frag)(x:Str):Prop:=PySem.W.nsIn K mainGlobals x=some none
abbrev kQ (K:W.Frag)(T x:String):Prop:=PySem.W.kitOne K (.type x) (.type T)=some (nG x T)
section
theorem at_mk {f:Addr}{b kV d e cd ct:Value}{g j:Option Addr}{m:Array (Option Value)}(X:K.In h)(G:h.Ns mainGlobals mg)(n:hB x (av i) (kc (av i)))(a:PySem.W.nsIn K mainGlobals x=some (some (.ref f)))(l:K.lookup f=some ⟨b,g,.func (PySem.W.fnOf x x (ku (av i)) (iT (av i)) (cO (av i)) .none kV d e j cd ct),m⟩)(c:PySem.W.codeIn K cd x=true)(k:PySem.W.keepIn K (.ref f)=true):Dx K mg x i:=have F:=Oa (st:=av i) l c k
 ⟨f,_,F,F.binds n,PySem.W.mg_of X G a⟩
theorem tk_mk {y:Str}{tk:Tok}(X:K.In h)(G:h.Ns mainGlobals mg)(a:PySem.W.nsIn K mainGlobals x=some (some (.str y tk))):∃tk,mg x=some (.str y tk):=⟨tk,PySem.W.mg_of X G a⟩
theorem kt_mk (b:kQ K T "NoneType")(c:kQ K T "bool")(d:kQ K T "int")(e:kQ K T "str")(f:kQ K T "tuple")(g:kQ K T "list")(h:kQ K T "dict"):pK K T:=by intro n a;simp only [Xj,XO,Yo] at a;rcases a with rfl|rfl|rfl|rfl|rfl|rfl|rfl <;> assumption
theorem tx_mk (X:K.In h)(G:h.Ns mainGlobals mg)(c:nQ K "range")(d:nQ K "list")(e:nQ K "repr")(f:nQ K "isinstance")(g:nQ K "bool")(i:nQ K "len")(j:nQ K "tuple")(k:nQ K "int")(l:nQ K "sum")(m:nQ K "dict")(n:nQ K "zip")(o:nQ K "reversed")(p:nQ K "all")(q:nQ K "any")(r:nQ K "enumerate")(s:nQ K "str")(t:nQ K "set")(t0:pK K "tuple")(u:pK K "bool")(v:pK K "int")(w:pK K "str"):Tx K mg:=by
 refine⟨fun x a=>?_,fun T b=>?_⟩;unfold yr at a;simp only [Xj,XO,Yo] at a;rcases a with rfl|rfl|rfl|rfl|rfl|rfl|rfl|rfl|rfl|rfl|rfl|rfl|rfl|rfl|rfl|rfl|rfl <;> (refine PySem.W.mg_none_of X G ?_;assumption)
 unfold xp at b;simp only [Xj,XO,Yo] at b;rcases b with rfl|rfl|rfl|rfl <;> assumption
theorem DY:∀ns:List Int,IsTs K G (ns.map V.int) (ns.map ti)
 |[]=>.nil
 |n::ns=>.cons (.at rfl) (DY ns)
theorem all_mk {l:PySem.W.OpenLaw}{a:Addr}(c:mg "law"=some (.ref a))(D:tL K mg):∃b:FuncData,(∀(s:Shared)(v:Value),BindsTo s b ⟨[v],[]⟩ [("_law_script",v)])/\∀base:Heap,K.In base->base.Ns mainGlobals mg->FnOk l.prog w K mg base dr 23 a b ["_law_script"] (ff K fK):=by
 obtain⟨f,d,F⟩:=D.a_law;have e:=c.symm.trans F.m;cases e;refine⟨d,?_,fun base _ _=>?_⟩;obtain⟨_,_,_,_,_,_,_,_,_,rfl,_⟩:=F.F.ex;exact fun s v=>.of_eq rfl;obtain⟨i,d',g,h⟩:=MY (P:=l.prog) (w:=w) (base:=base) D;obtain⟨rfl,rfl⟩:=F.same g;have e:kc (av 61)=(["_law_script"]:List Str):=by decide+kernel
 rw[e] at h;exact h
end
theorem walk {l:PySem.W.OpenLaw}{q:Program}{loose:List Str}{XP:(Str->Option Value)->Heap->Prop}{YP:World->Heap->Prop}{d:DefRec}{K:Params->W.Frag}(g:l.most=some 63)(i:d.params.defaults=[])
  (j:∀(w:World)(h:Heap),YP w h->(K w.params).In h)
  (F:∀(w:World)(mg:Str->Option Value)(b:Addr)(h:Heap),(K w.params).In h->h.Ns mainGlobals mg->mg d.name=some (.ref b) →∃c:FuncData,(∀(s:Shared)(u:Value),BindsTo s c ⟨[u],[]⟩ [("_law_script",u)])/\∀base:Heap,(K w.params).In base->base.Ns mainGlobals mg->FnOk l.prog w (K w.params) mg base dr 23 b c ["_law_script"] (ff (K w.params) fK)):
  PySem.W.WalkO q loose XP YP l.row.toRowW d [] (fun f m=>PySem.call f m):=
 walk_of (n:=63) (k:=23) (x:="_law_script") (CX:=fun _=>dr) (sp:=fun w=>ff (K w.params) fK) g (by decide) i ⟨rfl,rfl,by decide,by decide⟩ j F (fun _ H a ns o _ p=>⟨H,[.fz (.scr (ns.map ti))],[],fun r _=>r=fb true,fun _ _ z=>z,.fz (.scr p (DY ns)) .nil,.nil,⟨ns,rfl,XZ o (by decide),rfl⟩,fun r A v t H' e _ _ y=>by
  subst e;cases (show IsT _ t v (.at (.bl true)) from y)
  rfl⟩) fun _ _ _ _ _ z=>z
end
end Lake
open Lake PySem PySem.W PyProof.Rows
set_option maxRecDepth 100000 in
set_option maxHeartbeats 0 in
theorem PySem.Challenge.cw_likepieces_k31_tables_told_holds : PySem.Challenge.rw_likepieces_k31_tables_told.Holds := by
 w_on
 refine holds_law hdS fun sd=>?_
 refine holds_open (q:=hdQ) (loose:=hdL) (Yf:=hdH.obs) (Ya:=hdH.val)
  (XP:=XL hdQ []) (YP:=InK hdK) (N:=hdN) hdT hdH.of
  hdH.keeps (fun s e=>xl_of s (Bool.and_eq_true_iff.mp e).1) XL.keeps (by rfl) (by rfl)
  (by rfl) (fun s e=>recFacts_of (Bool.and_eq_true_iff.mp e).2) (by rfl) sd (by decide+kernel)
  ⟨rfl,rfl,rfl,rfl,rfl,by decide+kernel⟩ ?hw ?hc
 (case hw=>w_witness2)
 k_fill
 refine walk (l:=PySem.Challenge.rw_likepieces_k31_tables_told) rfl rfl (K:=hdK) (fun w h Y=>Y) ?F
 case F=>
  intro w mg fa h KX G hmg;refine all_mk hmg ?_;constructor
  (case T=>refine' tx_mk KX G _ _ _ _ _ _ _ _ _ _ _ _ _ _ _ _ _ (kt_mk _ _ _ _ _ _ _) (kt_mk _ _ _ _ _ _ _) (kt_mk _ _ _ _ _ _ _) (kt_mk _ _ _ _ _ _ _);(all_goals first|k_is|rfl|decide))
  (case nd|op|cl=>refine' tk_mk KX G ?a;(case a=>k_is))
  all_goals (refine' at_mk KX G ?b ?a ?l ?c ?k;(case b=>first|exact fun _ _ _ _ _ _=>us_len1 fun _=>rfl|exact fun _ _ _ _ _ _=>us_len2 fun _ _=>rfl|exact fun _ _ _ _ _ _=>us_len3 fun _ _ _=>rfl|exact fun _ _ _ _ _ _=>us_len5 fun _ _ _ _ _=>rfl|exact fun _ _ _ _ _ _=>us_len6 fun _ _ _ _ _ _=>rfl);case a|l|c|k=>k_is)
