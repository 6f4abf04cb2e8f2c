import PyProof.Rows.All
import Wide.All
import Wide.FinOn
import KE.KFromBytes
import KE.KIsAll
import KE.KItem
import KE.KRevSl
import KE.KDictOf
import KE.KDictSum
import PySem.Challenge.RW_likepieces_k30_local_names
noncomputable section
open List (all_cons all_eq_true any_cons append_assoc append_nil cons_append contains_cons contains_iff_mem drop_eq_getElem_cons drop_eq_nil_of_le drop_zero ext_getElem? filterMap_cons filter_append filter_cons filter_eq_nil_iff filter_eq_self filter_nil flatMap_cons flatten_cons foldl_cons forIn_cons getElem_mem length_append length_cons length_drop length_filter_le length_map length_nil length_pos_iff length_range length_set length_singleton length_take length_zip lookup_cons map_append map_cons map_drop map_map map_nil map_take mem_append mem_append_left mem_append_right mem_cons mem_cons_of_mem mem_cons_self mem_filter mem_filterMap mem_iff_getElem? mem_map mem_of_getElem? mem_of_mem_drop mem_of_mem_take mem_range mem_singleton nil_append nodup_append nodup_cons nodup_nil not_mem_nil of_mem_zip pairwise_cons replicate_succ set_set size_toArray take_append_drop take_of_length_le take_sublist)
set_option Elab.async false
set_option bootstrap.genMatcherCode false
set_option genSizeOf false
set_option genInjectivity false
local macro_rules|`(tactic|cases $x:ident)=>`(tactic|first|subst (($x):_=_)|(exfalso;injection $x;done)|(injection $x with a b c d;cases a<;>cases b<;>cases c<;>cases d)|(injection $x with a b c;cases a<;>cases b<;>cases c)|(injection $x with a b;cases a<;>cases b)|(injection $x with a;cases a))
set_option linter.all false
set_option maxRecDepth 100000
set_option maxHeartbeats 4000000
def UZ:=@PySem.wpAny_bind
def U0:=@PySem.Heap.get?_push_of_some
def U1:=@Bool.and_eq_true
def U2:=@PySem.wpAny_pure
def U3:=@Bool.false_ne_true
def U4.{u}:=@List.getElem?_eq_getElem.{u}
def U5:=@Nat.le_refl
def U6.{u,v}:=@List.length_map.{u,v}
def U7.{u}:=@List.getElem?_eq_some_iff.{u}
def U8:=@PySem.Heap.get?_push_size
def U9.{u}:=@List.length_append.{u}
def Va:=@PySem.Heap.lt_size
def Vb.{u}:=@List.mem_cons_of_mem.{u}
def Vc.{u}:=@List.mem_cons_self.{u}
def Vd.{u}:=@List.size_toArray.{u}
def Ve:=@Nat.lt_of_lt_of_le
def Vf:=@PySem.wpAny_ite_false
def Vg.{u}:=@List.mem_cons.{u}
def Vh:=@Nat.ne_of_lt
def Vi.{u}:=@if_neg.{u}
def Vj:=@decide_eq_true
def Vk.{u}:=@List.append_nil.{u}
def Vl.{u,v}:=@List.getElem?_map.{u,v}
def Vm.{u}:=@if_pos.{u}
def Vn.{u}:=@List.getElem?_append_right.{u}
def Vo.{u}:=@List.mem_append.{u}
def Vp.{u}:=@List.not_mem_nil.{u}
def Vq.{u}:=@Option.some.inj.{u}
def Vr:=@PySem.sizeLine_eq
def Vs:=@PySem.Heap.get?_update_self
def Vt.{u}:=@beq_iff_eq.{u}
def Vu:=@PySem.wpAny_newObj_type
def Vv:=@PySem.Heap.get?_update_other
def Vw.{u}:=@List.length_cons.{u}
def Vx:=@PySem.wpAny_holding
def Vy.{u}:=@List.getElem?_append_left.{u}
def Vz:=@PySem.Heap.size_push
def VA:=@of_decide_eq_true
def VB.{u,v}:=@List.map_cons.{u,v}
def VC:=@PySem.wpAny_field
def VD.{u}:=@Array.length_toList.{u}
def VE:=@PySem.wpAny_mono
def VF.{u}:=@List.mem_of_getElem?.{u}
def VG.{u,v}:=@List.mem_map.{u,v}
def VH:=@PySem.wpAny_callSpecial?_slot
def VI:=@Nat.lt_irrefl
def VJ:=@PySem.wpAny_call_entry
def VL:=@Nat.le_trans
def VM:=@decide_eq_true_iff
def VN:=@or_false
def VO:=@PySem.Heap.SameBut.update
def VP.{u}:=@List.mem_append_right.{u}
def VQ.{u,v}:=@List.map_append.{u,v}
def VR:=@PySem.wpAny_setField
def VS.{u}:=@List.mem_singleton.{u}
def VT:=@PySem.wpAny_of_eq
def VU.{u}:=@List.length_take.{u}
def VW:=@Nat.zero_le
def VX:=@Int.toNat_natCast
def VY.{u}:=@List.nil_append.{u}
def VZ:=@PySem.W.kia_one
def V0:=@PySem.wpAny_truthy_bool
def V1.{u}:=@Option.some.injEq.{u}
def V2:=@PySem.W.mg_of
def V3:=@PySem.codeAny_mono
def V4.{u}:=@List.contains_iff_mem.{u}
def V5.{u}:=@beq_eq_false_iff_ne.{u}
def V6.{u}:=@List.mem_append_left.{u}
def V7.{u}:=@List.all_eq_true.{u}
def V8.{u,v}:=@congrArg.{u,v}
def V9.{u}:=@Array.getElem?_toList.{u}
def Wa:=@PySem.wpAny_Call_Name_kw
def Wb:=@Nat.ne_of_gt
def Wc:=@PySem.wpAny_ite_true
def We.{u}:=@List.length_pos_iff.{u}
def Wf.{u}:=@List.take_of_length_le.{u}
def Wg:=@decide_eq_true_eq
def Wh:=@Int.eq_ofNat_of_zero_le
def Wi:=@Bool.not_eq_true'
def Wj:=@PySem.wpAny_call
def Wk:=@decide_eq_false
def Wl.{u,v,w}:=@getElem?_pos.{u,v,w}
def Wm:=@Nat.lt_or_ge
def Wn.{u}:=@Array.getElem?_eq_none.{u}
def Wq.{u}:=@Array.getD_eq_getD_getElem?.{u}
def Ws.{u,v}:=@List.lookup_cons.{u,v}
def Wt.{u}:=@List.length_drop.{u}
def Wu.{u}:=@List.contains_cons.{u}
def Wv:=@PySem.wpAny_seqItems
def Ww:=@PySem.Calls.Name_function_global
def Wx.{u}:=@List.getElem?_eq_none.{u}
def Wy.{u}:=@List.find?_cons.{u}
def Wz:=@List.length_range
def WA.{u}:=@List.getElem_mem.{u}
def WB:=@PySem.W.looks_findIn
def WC:=@Nat.lt_succ_of_lt
def WD:=@Nat.le_succ
def WE:=@PySem.wpAny_attempt
def WG:=@Bool.true_and
def WH:=@Bool.and_true
def WI:=@PyProof.Rows.slot_tuple_getitem
def WJ.{u}:=@Array.getElem?_setIfInBounds_ne.{u}
def WK.{u}:=@List.replicate_succ.{u}
def WL:=@Nat.lt_succ_self
def WM.{u}:=@List.cons_append.{u}
def WN:=@PySem.wpAny_pyIter_tuple
def WO:=@PySem.W.callWith_K
def WQ.{u}:=@List.getElem?_set_self.{u}
def WR:=@PySem.wpAny_passesOwn
def WT:=@PySem.codeAny_builtin
def WU:=@PySem.wpAny_standAt
def WV:=@PySem.wpAny_setState_of
def WW:=@PySem.fits_of_scanBound
def WX.{u}:=@List.drop_eq_nil_of_le.{u}
def WY:=@PyProof.Rows.callWith_type1
def WZ.{u}:=@List.filter_cons.{u}
def W0:=@PySem.codeAny_call_builtin
def W2:=@PySem.F.slot_tuple_iterator_next
def W3.{u}:=@Array.getElem?_eq_some_iff.{u}
def W4:=@PySem.Around.under_plainId
def W5:=@PySem.wpAny_execs_cons
def W6.{u}:=@beq_self_eq_true.{u}
def W7.{u}:=@List.append_assoc.{u}
def W8:=@PySem.wpAny_setEntries_of
def W9:=@PySem.wpAny_isSubtype_exc
def Xa:=@PySem.mem_of_lookup
def Xb:=@PySem.wpAny_execs_nil
def Xc.{u,v}:=@Option.map_some.{u,v}
def Xd:=@PySem.wpAny_setField_rec
def Xe.{u}:=@List.getElem?_take.{u}
def Xf:=@Int.emod_lt_of_pos
def Xg:=@PySem.Code.quiet_builtin
def Xh:=@PySem.wpAny_getItem_str_slice
def Xi:=@PySem.Calls.loadGlobal_global
namespace Lake
open PySem PySem.Spec PyProof.Rows
noncomputable def fg (s:Stmt):Arguments:=match s with
 | .FunctionDef _ a _ _ _ _ _ _ _ _=>a
 |_=>{ posonlyargs:=[],args:=[],vararg:=none,kwonlyargs:=[],kw_defaults:=[],kwarg:=none,defaults:=[] }
noncomputable def di (s:Stmt):List Stmt:=match s with
 | .FunctionDef _ _ b _ _ _ _ _ _ _=>b
 |_=>[]
noncomputable def aR (s:Stmt):Scope:=match s with
 | .FunctionDef _ _ _ _ _ _ a _ _ _=>a
 |_=>{ kind:=.function,names:=[],isGenerator:=false,isCoroutine:=false }
noncomputable def yB (s:Stmt):List Stmt:=match s with
 | .ClassDef _ _ _ b _ _ _ _ _ _ _=>b
 |_=>[]
noncomputable def top (i:Nat):Stmt:=PySem.Challenge.pw_likepieces_k30_local_names.main.body.getD i (.Pass ⟨0,0,0,0⟩)
noncomputable abbrev eX (n:Str)(c d b:Addr)(t u:Tok):Obj:=⟨(.type "type"),none,(.cls ⟨n,[(.ref 32)],[(.ref c),(.ref 32),(.type "ValueError"),(.type "Exception"),(.type "BaseException"),(.type "object")],d,n,true,[],[],false,none,false⟩),#[(some (.ref b)),none,(some (.str n t)),(some (.str n u)),(some (.builtin "ValueError.__new__")),(some (.bool true))]⟩
noncomputable abbrev eT:Obj:=⟨(.type "tuple"),none,(.seq #[] 0),#[]⟩
abbrev eF (m:Value)(n:Str)(i:Nat)(r:Addr):Obj:=⟨(.type "function"),none,(.func (PySem.W.fnOf n n (fg (top i)) (di (top i)) (aR (top i)) .none .none .none m none (.ref r) .none)),#[]⟩
abbrev xV:=eF (.str "likepieces.trees" 454)
abbrev Lm:=eF (.str "likepieces.names" 480)
abbrev Ll:=eF (.str "likepieces.programs" 488)
abbrev BK:=eF (.str "likepieces.pieces" 496)
abbrev b5:=eF (.str "law_likepieces_k30_local_names" 522)
noncomputable abbrev eS (a:Array Value):Obj:=⟨(.type "tuple"),none,(.seq a 0),#[]⟩
noncomputable abbrev eC (n:Str)(a b c:Tok)(l k f:Int)(r s:Addr)(v w:Value)(t:Addr)(m:Int)(d:Tok):Obj:=⟨(.type "code"),none,(.fields #[(.str n a),(.str n b),(.str "/claim/cut.py" c),(.int l 0),(.int k 0),(.int 0 0),(.int 0 0),(.int f 0),(.ref r),(.bool true),(.int 181 0),(.ref s),.none,v,w,(.ref t),(.int m 0),(.int l 0),(.str "/claim/cut.py" d)]),#[]⟩
def ou (i j:Nat):Stmt:=(yB (top i)).getD j (.Pass ⟨0,0,0,0⟩)
def hdQ:Program:={ PySem.Challenge.pw_likepieces_k30_local_names with main:={ PySem.Challenge.pw_likepieces_k30_local_names.main with body:=[top 1,top 2,top 3,top 4,top 5,top 6,top 7,top 8,top 9,top 10,top 11,top 12,top 14,top 15,top 16,top 18,top 20,top 22,top 23,top 25,top 26,top 27,top 28,top 29,top 30,top 31,top 32,top 33,top 34,top 35,top 36,top 37,top 38,top 39,top 40,top 41,top 42,top 43,top 44,top 45,top 46,top 47,top 48,top 49,top 50,top 51,top 52] } }
section
local macro_rules
|`($s:str $t:num $a:num)=>do
 let p:=Lean.mkIdent `P
 `(⟨PySem.PyData.keyHash $p $s,.str $s $t,.ref $a⟩)
|`($s:str $b:num $t:num $l:num $k:num $f:num $c:num $j:num $g:ident::$r)=>do
 let m i:=Lean.Syntax.mkNumLit (toString (b.getNat+i))
 let u i:=Lean.Syntax.mkNumLit (toString (t.getNat+i))
 let c:=c.getNat
 let e (d:Nat) (o p:Lean.TSyntax `term):=`((nat_lit $(m d):num,eC $s $(u 0) $(u 1) $(u 2) $l $k $f $(m 0) $(m 1) $o $p $(m (d-1)) $(u (c+3)) $(u (c+4)))::(nat_lit $(m (d+1)):num,$g $s $j $(m d))::$r)
 if c=0 then e 3 (<- `(.none)) (<- `(.none)) else e 5 (<- `(.ref $(m 2))) (<- `(.ref $(m 3)))
def hdK:Params->W.Frag:=fun P=>
 (nat_lit 2,⟨.none,none,(.dict #[] 0),#[]⟩)::
 (nat_lit 3,⟨(.type "dict"),none,(.dict #[⟨(PySem.PyData.keyHash P "__name__"),(.str "__name__" 165),(.str "law_likepieces_k30_local_names" 522)⟩,⟨(PySem.PyData.keyHash P "__doc__"),(.str "__doc__" 166),.none⟩,⟨(PySem.PyData.keyHash P "__package__"),(.str "__package__" 167),.none⟩,⟨(PySem.PyData.keyHash P "__loader__"),(.str "__loader__" 168),(.builtin "__main__.__loader__#opaque")⟩,⟨(PySem.PyData.keyHash P "__spec__"),(.str "__spec__" 169),.none⟩,"__annotations__" 170 6,"__builtins__" 171 4,⟨(PySem.PyData.keyHash P "__file__"),(.str "__file__" 173),(.str "/claim/cut.py" 172)⟩,⟨(PySem.PyData.keyHash P "__cached__"),(.str "__cached__" 174),.none⟩,"LikeError" 215 32,"NoPlace" 240 52,"NoFunction" 265 71,"NoText" 290 90,"NoLine" 317 109,"NoTable" 344 128,"NoPut" 373 147,"NoExchange" 389 159,"NoBare" 405 171,"NoFill" 421 183,"NoPlaces" 437 195,"NoRow" 453 207,"is_whole" 462 216,"parts" 468 221,"way" 479 228,"bound_at" 487 233,"bodies" 495 238,"place_way" 508 245,"local_names" 521 252,"_law_feed" 530 259,"_law_draw" 542 266,"_law_value" 550 273,"_law_spelled" 560 280,"_law_name" 575 287,"_law_names" 585 294,"_law_parts" 591 299,"_law_with" 597 304,"_law_nodes" 603 309,"_law_work" 609 314,"_law_right" 615 319,"_law_leaf" 626 326,"_law_turned" 632 331,"_law_spoilt" 644 338,"_law_copied" 650 343,"_law_bound" 656 348,"_law_called" 662 353,"_law_expr" 668 358,"_law_world" 680 365,"_law_seeds" 692 372,"_law_program" 698 377,"_law_one" 706 384,"_law_all_paths" 712 389,"_law_bodies" 718 394,"_law_pieces" 724 399,"_law_locals" 737 406,"_law_refused" 747 413,"law" 765 420] 56),#[]⟩)::
 (nat_lit 15,⟨(.type "tuple"),none,(.seq #[(.type "ValueError")] 0),#[]⟩)::
 (nat_lit 22,eS #[(.str "" 201)])::
 (nat_lit 28,⟨(.type "code"),none,(.fields #[(.str "__init__" 202),(.str "LikeError.__init__" 203),(.str "/claim/cut.py" 204),(.int 4 0),(.int 2 0),(.int 0 0),(.int 0 0),(.int 3 0),(.ref 23),(.bool true),(.int 181 0),(.ref 24),.none,(.ref 25),(.ref 26),(.ref 27),(.int 207 0),(.int 4 0),(.str "/claim/cut.py" 208)]),#[]⟩)::
 (nat_lit 29,⟨(.type "function"),none,(.func (PySem.W.fnOf "__init__" "LikeError.__init__" (fg (ou 1 0)) (di (ou 1 0)) (aR (ou 1 0)) (.ref 22) .none .none (.str "likepieces.errors" 187) none (.ref 28) .none)),#[]⟩)::
 (nat_lit 30,eT)::
 (nat_lit 31,⟨(.type "dict"),none,(.dict #[⟨(PySem.PyData.keyHash P "__module__"),(.str "__module__" 196),(.str "likepieces.errors" 187)⟩,⟨(PySem.PyData.keyHash P "__firstlineno__"),(.str "__firstlineno__" 200),(.int 2 199)⟩,"__init__" 209 29,"__static_attributes__" 210 30,"__weakref__" 212 33,⟨(PySem.PyData.keyHash P "__doc__"),(.str "__doc__" 213),.none⟩] 3),#[]⟩)::
 (nat_lit 32,⟨(.type "type"),none,(.cls ⟨"LikeError",[(.type "ValueError")],[(.ref 32),(.type "ValueError"),(.type "Exception"),(.type "BaseException"),(.type "object")],31,"LikeError",true,[],[(.ref 52),(.ref 71),(.ref 90),(.ref 109),(.ref 128),(.ref 147),(.ref 159),(.ref 171),(.ref 183),(.ref 195),(.ref 207)],false,none,false⟩),#[(some (.ref 15)),none,(some (.str "LikeError" 189)),(some (.str "LikeError" 197)),(some (.builtin "ValueError.__new__")),(some (.bool true))]⟩)::
 (nat_lit 33,⟨(.type "getset_descriptor"),none,(.fields #[(.str "__weakref__" 211),(.ref 32),(.builtin "ExceptionGroup.__weakref__"),.none]),#[]⟩)::
 (nat_lit 36,⟨(.type "tuple"),none,(.seq #[(.ref 32)] 0),#[]⟩)::
 (nat_lit 48,⟨(.type "code"),none,(.fields #[(.str "__init__" 228),(.str "NoPlace.__init__" 229),(.str "/claim/cut.py" 230),(.int 8 0),(.int 2 0),(.int 0 0),(.int 0 0),(.int 3 0),(.ref 43),(.bool true),(.int 181 0),(.ref 44),.none,(.ref 45),(.ref 46),(.ref 47),(.int 233 0),(.int 8 0),(.str "/claim/cut.py" 234)]),#[]⟩)::
 (nat_lit 49,⟨(.type "function"),none,(.func (PySem.W.fnOf "__init__" "NoPlace.__init__" (fg (ou 2 0)) (di (ou 2 0)) (aR (ou 2 0)) .none .none .none (.str "likepieces.errors" 187) none (.ref 48) .none)),#[]⟩)::
 (nat_lit 50,eS #[(.str "place" 236)])::
 (nat_lit 51,⟨(.type "dict"),none,(.dict #[⟨(PySem.PyData.keyHash P "__module__"),(.str "__module__" 223),(.str "likepieces.errors" 187)⟩,⟨(PySem.PyData.keyHash P "__firstlineno__"),(.str "__firstlineno__" 227),(.int 6 226)⟩,"__init__" 235 49,"__static_attributes__" 237 50,⟨(PySem.PyData.keyHash P "__doc__"),(.str "__doc__" 238),.none⟩] 2),#[]⟩)::
 (nat_lit 52,eX "NoPlace" 52 51 36 216 224)::
 (nat_lit 71,eX "NoFunction" 71 70 55 241 249)::
 (nat_lit 90,eX "NoText" 90 89 74 266 274)::
 (nat_lit 109,eX "NoLine" 109 108 93 291 299)::
 (nat_lit 128,eX "NoTable" 128 127 112 318 326)::
 (nat_lit 147,eX "NoPut" 147 146 131 345 353)::
 (nat_lit 159,eX "NoExchange" 159 158 150 374 382)::
 (nat_lit 171,eX "NoBare" 171 170 162 390 398)::
 (nat_lit 183,eX "NoFill" 183 182 174 406 414)::
 (nat_lit 195,eX "NoPlaces" 195 194 186 422 430)::
 (nat_lit 207,eX "NoRow" 207 206 198 438 446)::
 "is_whole" 210 456 51 1 3 1 14 xV::
 "parts" 217 463 53 1 3 0 15 xV::
 "way" 222 469 55 2 3 5 16 xV::
 "bound_at" 229 482 64 2 3 0 18 Lm::
 "bodies" 234 490 68 1 3 0 20 Ll::
 "place_way" 239 498 72 2 3 5 22 BK::
 "local_names" 246 509 83 2 3 7 23 BK::
 "_law_feed" 253 524 90 1 3 1 25 b5::
 "_law_draw" 260 531 92 2 3 6 26 b5::
 "_law_value" 267 543 109 1 3 2 27 b5::
 "_law_spelled" 274 551 116 2 3 4 28 b5::
 "_law_name" 281 561 122 2 3 9 29 b5::
 "_law_names" 288 576 144 2 3 4 30 b5::
 "_law_parts" 295 586 149 1 3 0 31 b5::
 "_law_with" 300 592 151 2 3 0 32 b5::
 "_law_nodes" 305 598 153 1 3 0 33 b5::
 "_law_work" 310 604 155 2 3 0 34 b5::
 "_law_right" 315 610 162 2 3 0 35 b5::
 "_law_leaf" 320 616 168 3 3 5 36 b5::
 "_law_turned" 327 627 176 3 3 0 37 b5::
 "_law_spoilt" 332 633 180 3 3 6 38 b5::
 "_law_copied" 339 645 191 5 3 0 39 b5::
 "_law_bound" 344 651 209 6 3 0 40 b5::
 "_law_called" 349 657 220 5 3 0 41 b5::
 "_law_expr" 354 663 229 5 3 0 42 b5::
 "_law_world" 359 669 256 6 3 6 43 b5::
 "_law_seeds" 366 681 258 3 3 6 44 b5::
 "_law_program" 373 693 267 2 3 0 45 b5::
 "_law_one" 378 699 290 2 3 2 46 b5::
 "_law_all_paths" 385 707 292 1 3 0 47 b5::
 "_law_bodies" 390 713 297 1 3 0 48 b5::
 "_law_pieces" 395 719 299 2 3 0 49 b5::
 "_law_locals" 400 725 304 2 3 7 50 b5::
 "_law_refused" 407 738 315 2 3 4 51 b5::
 "law" 414 748 326 1 3 12 52 b5::[]
end
noncomputable def KN:List Addr:=[2,3,15,22,28,29,30,31,32,33,36,48,49,50,51,52,71,90,109,128,147,159,171,183,195,207,215,216,220,221,227,228,232,233,237,238,244,245,251,252,258,259,265,266,272,273,279,280,286,287,293,294,298,299,303,304,308,309,313,314,318,319,325,326,330,331,337,338,342,343,347,348,352,353,357,358,364,365,371,372,376,377,383,384,388,389,393,394,398,399,405,406,412,413,419,420]
noncomputable abbrev hdL:List Str:=["LikeError"]
noncomputable abbrev hdN:Nat:=7834
abbrev hdH:PySem.W.Hook:=PySem.W.kHook hdK KN (fun _=>by kernel_rfl)
set_option maxHeartbeats 0 in
open PySem.W.Fast in
theorem hdT:PySem.W.LeftO (PySem.Challenge.rw_likepieces_k30_local_names).row.toRowW.prog hdQ hdL (fun s=>PySem.W.xlAt hdQ [] s&&PySem.W.recOk (PySem.W.RowW.records (PySem.Challenge.rw_likepieces_k30_local_names).row.toRowW) s) (PySem.W.Hook.obs hdH) (PySem.W.Hook.val hdH) hdN:=by intro w;unfold PySem.W.openEnds PySem.W.fencedOpening PySem.W.topFrom;rw[te10274390034422433532,te1435165496053646825,te14289696077712309145,te14082659384304107361,te4187177175401517315,te14364793385576792824,te8920871248978507458,te5923862056798008813];kernel_rfl
theorem hdS:PySem.Challenge.rw_likepieces_k30_local_names.wellSaid=true:=by decide+kernel
section
abbrev aw:=Sum Int Str
noncomputable def oi:aw->Value->Bool
 | .inl k,v=>Value.isInt k v
 | .inr x,v=>Value.isStrOf x v
noncomputable def Ue (w:World):aw->Int
 | .inl k=>hashInt k
 | .inr x=>hashStr w x
variable {B G:List Value}{x L name:Str}{u M O ct R:Value}{a b it C U:Addr}{P prog:Program}{w:World}{h' h1 Y base:Heap}{q I:Type}{e S iter:Expr}{Z:List (Addr×Obj)}{t' i j:Nat}{Q:Value->Shared->Prop}{pos J p c6:Pos}{K:W.Frag}{st:Stmt}{es:List Expr}{body:List Stmt}{fp:List Addr}{env:Env}{mg:Str->Option Value}{fd:FuncData}{ps:List Str}{scope:Scope}{an od:Option Addr}{id T:String}
theorem ki:∀{k:aw}{v:Value},oi k v=true->(∃i t,k=Sum.inl i/\v=Value.int i t)∨(∃x t,k=Sum.inr x/\v=Value.str x t)
 | .inl i,v,h=>by obtain⟨t,e⟩:=Value.isInt_shape (k:=i) (v:=v) h;exact .inl ⟨i,t,rfl,e⟩
 | .inr x,v,h=>by obtain⟨t,e⟩:=Value.isStrOf_shape (x:=x) (v:=v) h;exact .inr ⟨x,t,rfl,e⟩
theorem Qr (i:Int)(t:Tok):oi (.inl i) (.int i t)=true:=by simp [oi,Value.isInt]
theorem Qq (x:Str)(t:Tok):oi (.inr x) (.str x t)=true:=by simp [oi,Value.isStrOf]
theorem MB (a b:Int):decide ((Sum.inl a:aw)=Sum.inl b)=(a==b):=by by_cases e:a=b;subst e;simp;have h:¬ (Sum.inl a:aw)=Sum.inl b:=fun q=>e (Sum.inl.inj q);rw[Wk h];exact(V5.mpr e).symm
theorem MA (a b:Str):decide ((Sum.inr a:aw)=Sum.inr b)=decide (a=b):=by by_cases e:a=b;subst e;simp;have h:¬ (Sum.inr a:aw)=Sum.inr b:=fun q=>e (Sum.inr.inj q);rw[Wk h,Wk e]
theorem Mz (a:Int)(b:Str):decide ((Sum.inl a:aw)=Sum.inr b)=false:=Wk (fun q=>nomatch q)
theorem My (a:Str)(b:Int):decide ((Sum.inr a:aw)=Sum.inl b)=false:=Wk (fun q=>nomatch q)
def fH (prog:Program)(w:World):PySem.KeyKind prog w aw where
 is:=oi
 hash:=Ue w
 inj:=fun v a b ha hb=>by
  rcases ki ha with ⟨i,t,rfl,rfl⟩|⟨x,t,rfl,rfl⟩;rcases ki hb with ⟨j,u,rfl,e⟩|⟨y,u,rfl,e⟩;injection e with e1 _;rw[e1];exact nomatch e
  rcases ki hb with ⟨j,u,rfl,e⟩|⟨y,u,rfl,e⟩;exact nomatch e
  injection e with e1 _;rw[e1]
 byValue:=fun k v h=>by rcases ki h with ⟨i,t,rfl,rfl⟩|⟨x,t,rfl,rfl⟩ <;> rfl
 pyHash:=fun hv h=>by rcases ki hv with ⟨i,t,rfl,rfl⟩|⟨x,t,rfl,rfl⟩;exact wpAny_pyHash_int h;exact wpAny_pyHash_str h
 eqBool:=fun hu hv h=>by rcases ki hu with ⟨i,t,rfl,rfl⟩|⟨x,t,rfl,rfl⟩;rcases ki hv with ⟨j,u,rfl,rfl⟩|⟨y,u,rfl,rfl⟩;rw[MB] at h;exact wpAny_eqBool_int h;rw[Mz] at h;exact SeqAt.EqAt.int_str i t y u _ _ _ _ h;rcases ki hv with ⟨j,u,rfl,rfl⟩|⟨y,u,rfl,rfl⟩;rw[My] at h;exact SeqAt.EqAt.str_int x t j u _ _ _ _ h;rw[MA] at h;exact wpAny_eqBool_str h
 «strs» := fun k x t v h => by
  rcases ki h with ⟨i,u,rfl,e⟩|⟨y,u,rfl,e⟩;exact nomatch e
  injection e with e1 _;subst e1;cases v <;> rfl
theorem Sj (prog:Program)(w:World)(i:Int)(t:Tok):(fH prog w).is (.inl i) (.int i t)=true:=Qr i t
theorem Si (prog:Program)(w:World)(x:Str)(t:Tok):(fH prog w).is (.inr x) (.str x t)=true:=Qq x t
set_option genInjectivity true in
inductive V where
 |non|bl (b:Bool)|int (i:Int)|str (x:Str)|byt (b:Array UInt8)|flt (b:UInt64)|ref (a:Addr)|ty (n:String)
 deriving DecidableEq
def RelV:V->Value->Prop
 | .non,u=>u=Value.none
 | .bl b,u=>u=Value.bool b
 | .int i,u=>∃t,u=Value.int i t
 | .str x,u=>∃t,u=Value.str x t
 | .byt b,u=>∃t,u=Value.bytes b t
 | .flt b,u=>∃t,u=Value.float b t
 | .ref a,u=>u=Value.ref a
 | .ty n,u=>u=Value.type n
abbrev Vals:List V->List Value->Prop:=Paired RelV
variable {xs vs:List V}{y:V}
theorem Vals.length (r:Vals xs B):xs.length=B.length:=Paired.length r
theorem Vals.get:∀{xs:List V}{B:List Value}{i:Nat}{x:V},Vals xs B->xs[i]?=some x->∃u,B[i]?=some u/\RelV x u
 |_,_,_,_,.nil,e=>by simp at e
 |_,_,0,_,.cons r _,e=>by simp at e;subst e;exact⟨_,rfl,r⟩
 |_,_,i+1,x,.cons _ t,e=>by obtain⟨u,h1,Y⟩:=Vals.get (i:=i) (x:=x) t (by simpa using e);exact⟨u,by simpa using h1,Y⟩
theorem Vals.set {x:V}(r:RelV x u):∀{xs:List V}{B:List Value}(i:Nat),Vals xs B->Vals (xs.set i x) (B.set i u)
 |_,_,_,.nil=>.nil
 |_,_,0,.cons _ t=>.cons r t
 |_,_,i+1,.cons q t=>.cons q (Vals.set r i t)
theorem Vals.append {xs a:List V}{B ws:List Value}(h:Vals xs B)(s:Vals a ws):Vals (xs++a) (B++ws):=by induction h with|nil=>exact s|cons r _ i=>exact .cons r i
theorem Vals.take:∀{xs:List V}{B:List Value}(n:Nat),Vals xs B->Vals (xs.take n) (B.take n)
 |_,_,0,_=>.nil
 |_,_,_+1,.nil=>.nil
 |_,_,n+1,.cons r t=>.cons r (Vals.take n t)
theorem Vals.drop:∀{xs:List V}{B:List Value}(n:Nat),Vals xs B->Vals (xs.drop n) (B.drop n)
 |_,_,0,r=>r
 |_,_,_+1,.nil=>.nil
 |_,_,n+1,.cons _ t=>Vals.drop n t
def RelO:Option V->Option Value->Prop
 |some v,some u=>RelV v u
 |none,none=>True
 |_,_=>False
def KV {I : Type}:List (I × V)->List (I × Value)->Prop:=Paired fun(p : I × V) (q : I × Value)=>p.1=q.1/\RelV p.2 q.2
noncomputable def kV:aw->V
 | .inl i=>.int i
 | .inr x=>.str x
inductive HO where
 |lst (xs:List V)
 |tup (xs:List V)
 |dK (ag:List (aw×V))|dT (ag:List (List aw×V))
 |set (S:Int->Bool) (n:Nat)
 |ins (C U:Addr) (fs:List (Str×V))
 |own (x:Addr)
 |xd (fs:List (Str×V))
 |met (f x:Addr)
 |rng (lo hi:Int)
 |frz (o:Obj) (u:HO)
 |tbl (ps:Array Value)
 |ext (φ : Heap->Prop)
abbrev Hp:=Addr->Option HO
noncomputable def ax (H:Hp)(a:Addr)(o:HO):Hp:=fun b=>if b=a then some o else H b
variable {H H':Hp}
theorem aY {o:HO}:ax H a o a=some o:=by unfold ax;rw[Vm rfl]
theorem aD {o:HO}(h:b≠a):ax H a o b=H b:=by unfold ax;rw[Vi h]
theorem Qp {o u:HO}(h:H a=some o)(h':H b=some u)(d:o≠u):a≠b:=by intro e;subst e;rw[h] at h';exact d (Vq h')
theorem cm {o:HO}(h:H a=some o)(h':H b=none):a≠b:=by intro e;subst e;rw[h] at h';cases h'
def IsTupN (h:Heap)(a:Addr)(b:Array Value):Prop:=∃o,h.get? a=some o/\o.cls=.type "tuple"/\∃n,o.data=.seq b n/\o.dict=none
theorem IsTupN.tup {h:Heap}{a:Addr}{b:Array Value}(x:IsTupN h a b):IsTup h a b:=let ⟨o,c,d,n,hd,_⟩:=x;⟨o,c,d,n,hd⟩
theorem IsTupN.new (h:Heap)(a:Array Value):IsTupN (h.push { cls:=.type "tuple",data:=.seq a }) h.objs.size a:=⟨_,U8 _ rfl,rfl,_,rfl,rfl⟩
section
variable (P:Program)(w:World)
def ObjOk (H:Hp)(h:Heap)(a:Addr):HO->Prop
 | .lst xs=>xs.length<=sizeLine/\∃(G:List Value)(n:Nat),Vals xs G/\h.get? a=some { cls:=.type "list",data:=.seq G.toArray n }
 | .tup xs=>xs.length<=sizeLine/\∃G:List Value,Vals xs G/\IsTupN h a G.toArray
 | .dK c=>c.length<=sizeLine/\(a==sysModules)=false/\∃vs,KV c vs/\h.DictOf (fH P w) a vs
 | .dT c=>c.length<=sizeLine/\(a==sysModules)=false/\∃xs:List (List aw×Addr×Value),Paired (fun(p:List aw×V) (q:List aw×Addr×Value)=>p.1=q.1/\H q.2.1=some (.tup (p.1.map kV))/\RelV p.2 q.2.2) c xs ∧∃o es e,h.get? a=some o/\o.ExactDict/\o.data=.dict es e/\es.toList=xs.map (entryOfKey (tupleKind (fH P w)))/\(xs.map (·.1)).Nodup
 | .set S n=>h.SetOf (intKind P w) a S n
 | .ins C U fs=>H U=some (.own a)/\fs.length<=1000/\U≠a/\h.get? a=some (PySem.W.instObj C U) ∧∃b,h.Ns1 U b/\(∀f,RelO (fs.lookup f) (b f))/\PySem.Within b (fs.map (·.1))
 | .own _=>∃o,h.get? a=some o
 | .xd fs=>∃b,h.Ns1 a b/\∀f,RelO (fs.lookup f) (b f)
 | .rng lo g=>∃t u v,h.get? a=some { cls:=.type "range",data:=.fields #[.int lo t,.int g u,.int 1 v] }
 | .frz o u=>h.get? a=some o/\ObjOk H h a u
 | .tbl ps=>h.get? a=some { cls:=.none,data:=.fields ps }
 | .met f x=>h.get? a=some (PySem.W.methodObj (.ref f) (.ref x))
 | .ext d => d h/\(∃o,h.get? a=some o)/\∀h1 Y:Heap,d h1->(∀o,h1.get? a=some o->Y.get? a=some o) -> d Y
def HOk (H:Hp)(h:Heap):Prop:=∀a o,H a=some o->ObjOk P w H h a o
end
section
variable {h:Heap}{o:HO}
theorem ObjOk.lt (x:ObjOk P w H h a o):a<h.objs.size:=by cases o with|lst xs=>(obtain⟨_,_,_,_,e⟩:=x;exact Va e)|tup xs=>(obtain⟨_,_,_,p⟩:=x;exact p.tup.lt)|dK b=>(obtain⟨_,_,_,_,o,_,_,e,_⟩:=x;exact Va e)|dT b=>(obtain⟨_,_,_,_,o,_,_,e,_⟩:=x;exact Va e)|set S n=>(obtain⟨o,_,_,_,e,_⟩:=x;exact Va e)|ins C U fs=>(obtain⟨_,_,_,e,_⟩:=x;exact Va e)|own y=>(obtain⟨_,e⟩:=x;exact Va e)|xd fs=>(obtain⟨_,⟨_,_,_,e,_⟩,_⟩:=x;exact Va e)|rng lo c=>(obtain⟨_,_,_,e⟩:=x;exact Va e)|frz ob u=>(obtain⟨e,_⟩:=x;exact Va e)|tbl ps=>exact Va (show h.get? a=some _ from x)|met f y=>exact Va (show h.get? a=some _ from x)|ext d => obtain⟨_,⟨_,e⟩,_⟩:=x;exact Va e
theorem Paired.mapP {c:Type}{F G:q -> c -> Prop}:∀{l₁:List q}{l₂:List c},Paired F l₁ l₂->(∀a b,F a b->G a b)->Paired G l₁ l₂
 |_,_,.nil,_=>.nil
 |_,_,.cons r t,f=>.cons (f _ _ r) (Paired.mapP t f)
theorem ObjOk.stay (x:ObjOk P w H h a o)(k:∀b u,(b=a∨H b=some (.own a))->h.get? b=some u->h'.get? b=some u)
  (j:∀b,H b=some (.own a)->H' b=some (.own a)) (l:∀b xs,H b=some (.tup xs)->H' b=some (.tup xs)):ObjOk P w H' h' a o:=by
 induction o with
 |lst xs=>obtain⟨z,G,n,r,e⟩:=x;exact⟨z,G,n,r,k _ _ (.inl rfl) e⟩
 |tup xs=>obtain⟨z,G,r,ob,e,c⟩:=x;exact⟨z,G,r,ob,k _ _ (.inl rfl) e,c⟩
 |dK m=>obtain⟨z,y,vs,r,ob,es,g,e,c⟩:=x;exact⟨z,y,vs,r,ob,es,g,k _ _ (.inl rfl) e,c⟩
 |dT m=>obtain⟨z,y,xs,r,ob,es,g,e,c⟩:=x;exact⟨z,y,xs,Paired.mapP r fun p q z=>⟨z.1,l _ _ z.2.1,z.2.2⟩,ob,es,g,k _ _ (.inl rfl) e,c⟩
 |set S n=>obtain⟨ob,es,g,t,e,c⟩:=x;exact⟨ob,es,g,t,k _ _ (.inl rfl) e,c⟩
 |ins C U fs=>obtain⟨d,z,ne,e,i,⟨od,es,g,s,c⟩,r⟩:=x;exact⟨j _ d,z,ne,k _ _ (.inl rfl) e,i,⟨od,es,g,k _ _ (.inr d) s,c⟩,r⟩
 |own y=>obtain⟨ob,e⟩:=x;exact⟨ob,k _ _ (.inl rfl) e⟩
 |xd fs=>obtain⟨i,⟨od,es,g,e,c⟩,r⟩:=x;exact⟨i,⟨od,es,g,k _ _ (.inl rfl) e,c⟩,r⟩
 |rng lo B=>obtain⟨t,u,v,e⟩:=x;exact⟨t,u,v,k _ _ (.inl rfl) e⟩
 |frz ob u A=>obtain⟨e,q⟩:=x;exact⟨k _ _ (.inl rfl) e,A q⟩
 |tbl ps=>have e:h.get? a=some { cls:=.none,data:=.fields ps }:=x;show h'.get? a=some { cls:=.none,data:=.fields ps };exact k a _ (.inl rfl) e
 |met f y=>have e:h.get? a=some (PySem.W.methodObj (.ref f) (.ref y)):=x;show h'.get? a=some (PySem.W.methodObj (.ref f) (.ref y));exact k a _ (.inl rfl) e
 |ext D => obtain⟨p,⟨o,e⟩,st⟩:=x;exact⟨st _ _ p fun o q=>k _ _ (.inl rfl) q,⟨o,k _ _ (.inl rfl) e⟩,st⟩
theorem HOk.lt (x:HOk P w H h)(e:H a=some o):a<h.objs.size:=(x a o e).lt
theorem HOk.fresh (x:HOk P w H h)(e:h.objs.size<=a):H a=none:=by cases q:H a with|none=>rfl|some u=>exact absurd (Ve (x.lt q) e) (VI _)
theorem HOk.kept (x:HOk P w H h)(k:∀b u,h.get? b=some u->h'.get? b=some u):HOk P w H h':=fun a o e=>
 (x a o e).stay (fun b u _ q=>k b u q) (fun _ q=>q) fun _ _ q=>q
theorem HOk.laid (x:HOk P w H h)(k:∀b u,h.get? b=some u->h'.get? b=some u)(f:h.objs.size<=a)(new:ObjOk P w (ax H a o) h' a o):HOk P w (ax H a o) h':=fun b u e=>by have d:=x.fresh f;by_cases hb:b=a;subst hb;rw[aY] at e;cases e;exact new;rw[aD hb] at e;exact(x b u e).stay (fun c v _ q=>k c v q) (fun c q=>by rw[aD (cm q d)];exact q) fun c xs q=>by rw[aD (cm q d)];exact q
end
def Rd (H:Hp)(a:Addr)(u:HO):Prop:=H a=some u∨∃o,H a=some (.frz o u)
theorem Rd.of {u:HO}(h:H a=some u):Rd H a u:=.inl h
theorem Rd.ok {h:Heap}{u:HO}(r:Rd H a u)(x:HOk P w H h):ObjOk P w H h a u:=by rcases r with r|⟨o,r⟩;exact x a u r;obtain⟨_,q⟩:=x a _ r;exact q
def rB:Option HO->Prop
 |some (.lst _)=>True
 |some (.dK _)=>True
 |some (.dT _)=>True
 |some (.set _ _)=>True
 |some (.ins _ _ _)=>True
 |some (.ext _)=>True
 |_=>False
section
variable {h:Heap}{x e:Addr}{o':HO}
theorem HOk.write (ok:HOk P w H h)(a:rB (H x))(he:e=x∨H e=some (.own x))(k:∀b u,b≠e->h.get? b=some u->h'.get? b=some u)(j:∃u,h'.get? e=some u)
  (new:ObjOk P w (ax H x o') h' x o'):HOk P w (ax H x o') h':=fun b u q=>by
 have g:∀c y,H c=some (.own y)->c≠x:=fun c y r z=>by subst z;rw[r] at a;exact a
 have l:∀c xs,H c=some (.tup xs)->c≠x:=fun c xs r z=>by subst z;rw[r] at a;exact a
 by_cases hb:b=x
 .subst hb;rw[aY] at q;cases q;exact new
 .rw[aD hb] at q
  by_cases d:b=e
  .have i:H b=some (.own x):=by
    rcases he with z|z
    .exact absurd (d.trans z) hb
    .rw[d];exact z
   rw[q] at i;cases i;obtain⟨v,m⟩:=j;exact⟨v,by rw[d];exact m⟩
  .refine(ok b u q).stay (fun c v f r=>k c v ?_ r) (fun c r=>by rw[aD (g c b r)];exact r) fun c xs r=>by rw[aD (l c xs r)];exact r
   rcases f with rfl|f
   .exact d
   .rintro rfl
    rcases he with z|z
    .exact g c b f z
    .rw[f] at z;cases z;exact hb rfl
end
structure Un (fs ex:List Addr)(H H':Hp)(h h':Heap):Prop where
 keep:∀b o,h.get? b=some o->H b=none->b∉fs->b∉ex->h'.get? b=some o
 slot:∀b o,h.get? b=some o->H b=none->b∈fs->b∉ex->∃sl,h'.get? b=some { o with slots:=sl }
 free:∀b o,h.get? b=some o->H b=none->b∉ex->H' b=none
 there:∀b o,h.get? b=some o->b∉ex->∃o',h'.get? b=some o'
 tups:∀b xs,H b=some (.tup xs)->H' b=some (.tup xs)
 frzs:∀b o u,H b=some (.frz o u)->H' b=some (.frz o u)
 tbls:∀b ps,H b=some (.tbl ps)->∃more,H' b=some (.tbl (ps++more))
section
variable {fs r ex UU:List Addr}{H1 H2:Hp}{h:Heap}{x e:Addr}{o:HO}
theorem Un.any (u:Un fs ex H H1 h h1){b:Addr}{ob:Obj}(q:h.get? b=some ob)(n:H b=none)(a:b∉ex):∃c,h1.get? b=some { ob with slots:=c }:=by by_cases hb:b∈fs;exact u.slot b ob q n hb a;exact⟨ob.slots,u.keep b ob q n hb a⟩
theorem Un.kept (k:∀b u,h.get? b=some u->h'.get? b=some u):Un fs ex H H h h':=⟨fun b ob q _ _ _=>k b ob q,fun b ob q _ _ _=>⟨ob.slots,k b ob q⟩,fun _ _ _ n _=>n,fun b ob q _=>⟨ob,k b ob q⟩,fun _ _ q=>q,fun _ _ _ q=>q,fun _ ps q=>⟨#[],by rw[q];simp⟩⟩
theorem Un.refl:Un fs ex H H h h:=Un.kept fun _ _ q=>q
theorem Un.laid (k:∀b u,h.get? b=some u->h'.get? b=some u)(hp:h.objs.size<=a)(hn:H a=none):Un fs ex H (ax H a o) h h' where
 keep:=fun b u q _ _ _=>k b u q
 slot:=fun b u q _ _ _=>⟨u.slots,k b u q⟩
 free:=fun b u q n _=>by rw[aD (Vh (Ve (Va q) hp))];exact n
 there:=fun b u q _=>⟨u,k b u q⟩
 tups:=fun b xs q=>by rw[aD (cm q hn)];exact q
 frzs:=fun b u xs q=>by rw[aD (cm q hn)];exact q
 tbls:=fun b ps q=>⟨#[],by rw[aD (cm q hn),q];simp⟩
theorem Un.write (a:rB (H x))(he:e=x∨H e=some (.own x))(k:∀b u,b≠e->h.get? b=some u->h'.get? b=some u)(g:∃u,h'.get? e=some u):Un fs ex H (ax H x o) h h':=by
 have d:∀b,H b=none->b≠x:=fun b n z=>by subst z;rw[n] at a;exact a
 have hb:∀b,H b=none->b≠e:=fun b n z=>by subst z;rcases he with r|r;exact d b n r;rw[n] at r;cases r
 have c:∀b u,H b=some u->¬rB (some u)->b≠x:=fun b u q nm z=>by subst z;rw[q] at a;exact nm a
 refine⟨fun b u q n _ _=>k b u (hb b n) q,fun b u q n _ _=>⟨u.slots,k b u (hb b n) q⟩,fun b u q n _=>by rw[aD (d b n)];exact n,fun b u q _=>?_,fun b xs q=>by rw[aD (c b _ q fun z=>z)];exact q,fun b u xs q=>by rw[aD (c b _ q fun z=>z)];exact q,fun b ps q=>⟨#[],by rw[aD (c b _ q fun z=>z),q];simp⟩⟩;by_cases f:b=e;subst f;exact g;exact⟨u,k b u f q⟩
end
noncomputable def rO (h:Heap)(H:Hp):List Addr:=(List.range h.objs.size).filter fun a=>(H a).isSome
def j5 (h:Heap)(H:Hp):Heap:=PySem.W.hideAll h (rO h H)
theorem Qo (h:Heap)(H:Hp):(j5 h H).objs.size=h.objs.size:=PySem.W.hideAll_size _ _
theorem OJ {h:Heap}{o:Obj}(e:h.get? b=some o)(n:H b=none):(j5 h H).get? b=some o:=PySem.W.hideAll_get _ e fun a=>by have q:(H b).isSome=true:=(mem_filter.mp a).2;rw[n] at q;simp at q
theorem NX {h:Heap}{o:Obj}(e:(j5 h H).get? b=some o):h.get? b=some o/\H b=none:=by have a:h.get? b=some o:=PySem.W.of_hideAll (rO h H) e;refine⟨a,?_⟩;cases q:H b with|none=>rfl|some x=>have c:b∈rO h H:=mem_filter.mpr ⟨mem_range.mpr (Va a),by simp [q]⟩;have z:(j5 h H).get? b=none:=PySem.W.hideAll_none (rO h H) c;rw[z] at e;cases e
structure Mod (K:W.Frag)(mg:Str->Option Value)(base:Heap):Prop where
 kin:K.In base
 glob:base.Ns mainGlobals mg
 blt:∃mb,base.Ns builtinsNs mb/\∀x:Str,x≠"__name__"->mb x=bootBuiltins x
 nolimit:base.NoLimit
structure Cx where
 prog:Program
 w:World
 K:W.Frag
 mg:Str->Option Value
 base:Heap
 A:Around
 N:List Str
 s₀:Shared
 H₀:Hp
 env:Env
 outer:List Env
 stack:List Env
 ex:List Addr
 fn:Str->Bool
 calm:Bool
 pn:List (Addr×Obj)
 xe:Value->Shared->Prop
noncomputable def bU (l:List Env):List Addr:=l.filterMap (·.frame)
abbrev Cx.fs (X:Cx):List Addr:=bU X.outer
def oN (a:Scope)(x:Str):Prop:=a.names.lookup x=some .local∨a.names.lookup x=some .cell∨a.names.lookup x=some .free
def lI (a:Scope)(x:Str):Prop:=a.names.lookup x=some .local∨a.names.lookup x=some .cell
def Ud (env:Env)(h:Heap)(m:Str->Option Value)(x:Str)(u:Value):Prop:=(env.kindOf x=some .local/\m x=some u)∨((env.kindOf x=some .cell∨env.kindOf x=some .free)/\∃c,env.cells.lookup x=some c/\h.IsCell c (some u))
abbrev lf (X:Cx)(x:Str):Prop:=X.fn x=true∨X.env.scope.names.lookup x=some .local
structure Cx.Ok (X:Cx):Prop where
 mod:Mod X.K X.mg X.base
 kind:X.env.scope.kind=.function
 glob:X.env.globals=mainGlobals
 blt:X.env.builtins=builtinsNs
 above:X.s₀.heap.objs.size<=X.env.locals
 inj:∀x y c,X.env.cells.lookup x=some c->X.env.cells.lookup y=some c->x=y
 has:∀x,(X.env.kindOf x=some .cell∨X.env.kindOf x=some .free)->∃c,X.env.cells.lookup x=some c
 cab:∀x c,X.fn x=true->X.env.cells.lookup x=some c->X.s₀.heap.objs.size<=c
 hd:X.calm=true->X.A.handled=none
 frames:X.A.frames=some X.stack
 stk:X.stack=X.outer∨(X.stack=X.env::X.outer/\X.env.frame=some X.env.locals)
 exf:∀b∈X.ex,b≠X.env.locals/\∀x c,X.env.cells.lookup x=some c->c≠b
 bs:∀b o,X.base.get? b=some o->X.s₀.heap.get? b=some o/\X.H₀ b=none
 bsz:X.base.objs.size<=X.s₀.heap.objs.size
 noex:∀b o,X.base.get? b=some o->b∉X.ex
 exfs:∀b∈X.ex,b∉X.fs
 funs:X.s₀.heap.FunFrames X.base X.outer
 frf:∀b∈X.fs,X.H₀ b=none
structure Inv (X:Cx)(Z:List (Addr×Obj))(σ:List (Option V))(H:Hp)(s:Shared):Prop where
 ok:X.Ok
 os:s.os=X.s₀.os
 bare:AllBare s.gens
 base:Un X.fs X.ex X.H₀ H X.s₀.heap s.heap
 loc:∃m,s.heap.Ns X.env.locals m/\∀(i:Nat)(x:Str)(v:V),X.N[i]?=some x->σ[i]?=some (some v)->oN X.env.scope x->∃u,RelV v u/\Ud X.env s.heap m x u
 cell:∀x c,X.env.cells.lookup x=some c->∃v,s.heap.IsCell c v
 free:H X.env.locals=none
 freeC:∀x c,X.env.cells.lookup x=some c->H c=none
 pin:∀p∈X.pn++Z,s.heap.get? p.1=some p.2/\H p.1=none/\p.1≠X.env.locals/\p.1∉X.fs/\∀v,p.2.data ≠ .cell v
 hok:HOk X.prog X.w H s.heap
 len:σ.length=X.N.length
variable {X:Cx}
section
variable {σ:List (Option V)}{s:Shared}
theorem Cx.Ok.nofr (ok:X.Ok){b:Addr}{o:Obj}(e:X.base.get? b=some o):b∉X.fs:=fun hb=>by have:=(ok.funs.mem hb).1;rw[e] at this;cases this
theorem Inv.bs (I:Inv X Z σ H s):∀b o,X.base.get? b=some o->s.heap.get? b=some o/\H b=none:=fun b o e=>
 ⟨I.base.keep b o (I.ok.bs b o e).1 (I.ok.bs b o e).2 (I.ok.nofr e) (I.ok.noex b o e),I.base.free b o (I.ok.bs b o e).1 (I.ok.bs b o e).2 (I.ok.noex b o e)⟩
theorem Inv.bk (I:Inv X Z σ H s):∀b o,X.base.get? b=some o->s.heap.get? b=some o:=fun b o e=>(I.bs b o e).1
theorem Inv.mod (I:Inv X Z σ H s):Mod X.K X.mg X.base:=I.ok.mod
theorem Inv.kIn (I:Inv X Z σ H s):X.K.In s.heap:=I.ok.mod.kin.keeps I.bk
theorem Inv.fr (I:Inv X Z σ H s):∃m,Fr X.base X.env.locals s.heap m:=let ⟨m,a,_⟩:=I.loc
 ⟨m,a,I.bk,VL I.ok.bsz I.ok.above⟩
theorem Inv.lt (I:Inv X Z σ H s):X.env.locals<s.heap.objs.size:=let ⟨_,a,_⟩:=I.loc;a.lt
theorem Inv.sz (I:Inv X Z σ H s):X.s₀.heap.objs.size<=s.heap.objs.size:=VL I.ok.above (Nat.le_of_lt I.lt)
theorem Inv.nofs (I:Inv X Z σ H s){a:Addr}(h:s.heap.objs.size<=a):a∉X.fs:=fun hb=>by obtain⟨_,o,b,_⟩:=I.ok.funs.mem hb;exact absurd (Ve (Va b) (VL I.sz h)) (VI _)
theorem Inv.cne (I:Inv X Z σ H s):∀x c,X.env.cells.lookup x=some c->c≠X.env.locals:=fun x c e z=>by obtain⟨v,o,a,hd⟩:=I.cell x c e;obtain⟨m,⟨o',es,f,b,d,_⟩,_⟩:=I.loc;rw[z,b] at a;cases a;rw[d] at hd;cases hd
theorem Inv.funs (I:Inv X Z σ H s):s.heap.FunFrames X.base X.outer:=by
 have all:∀(l:List Env),(∀b∈bU l,b∈X.fs)->X.s₀.heap.FunFrames X.base l->s.heap.FunFrames X.base l:=by intro l;induction l with|nil=>(intro _ _;trivial)|cons env r f=>intro d g;obtain⟨h,⟨L,o,a,i,j,hd⟩,k⟩:=g;have c:L∈X.fs:=d L (by unfold bU;rw[filterMap_cons,a];exact Vc);obtain⟨m,e⟩:=I.base.slot L o j (I.ok.frf L c) c fun z=>I.ok.exfs L z c;exact⟨h,⟨L,_,a,i,e,hd⟩,f (fun b hb=>d b (by unfold bU;rw[filterMap_cons,a];exact Vb _ hb)) k⟩
 exact all X.outer (fun _ hb=>hb) I.ok.funs
theorem Inv.stack (I:Inv X Z σ H s):s.heap.FunFrames X.base X.stack:=by rcases I.ok.stk with e|⟨e,a⟩;rw[e];exact I.funs;rw[e];obtain⟨m,b,_⟩:=I.loc;refine .cons (by rw[I.ok.kind];decide) a b ?_ I.funs;exact Heap.get?_none_of_le (VL I.ok.bsz I.ok.above)
theorem Inv.stkSub (I:Inv X Z σ H s):∀b∈bU X.stack,b∈X.env.locals::X.fs:=fun b hb=>by rcases I.ok.stk with e|⟨e,a⟩;rw[e] at hb;exact Vb _ hb;rw[e] at hb;unfold bU at hb;rw[filterMap_cons,a] at hb;exact hb
theorem Inv.stkFree (I:Inv X Z σ H s):∀b∈bU X.stack,H b=none:=fun b hb=>by rcases Vg.mp (I.stkSub b hb) with e|hb;rw[e];exact I.free;obtain⟨_,o,a,_⟩:=I.ok.funs.mem hb;exact I.base.free b o a (I.ok.frf b hb) fun z=>I.ok.exfs b z hb
theorem Inv.step {g':Array GenState}{d':Drawn}{ch:List Addr}(I:Inv X Z σ H s)
  (h:∀b∈ch,(b∈X.ex∨X.s₀.heap.objs.size<=b)/\b≠X.env.locals/\(∀x c,X.env.cells.lookup x=some c->c≠b)/\∀p∈X.pn++Z,p.1≠b)
  (keep:∀b o,b≠X.env.locals->b∉X.fs->b∉ch->s.heap.get? b=some o->H b=none->h'.get? b=some o)
  (slot:∀b o,b≠X.env.locals->b∈X.fs->b∉ch->s.heap.get? b=some o->H b=none->∃A,h'.get? b=some { o with slots:=A }) (free:∀b o,b∉ch->s.heap.get? b=some o->H b=none->H' b=none)
  (there:∀b o,b∉ch->s.heap.get? b=some o->∃o',h'.get? b=some o')
  (tups:∀b xs,H b=some (.tup xs)->H' b=some (.tup xs)) (frzs:∀b o u,H b=some (.frz o u)->H' b=some (.frz o u)) (tbls:∀b ps,H b=some (.tbl ps)->∃more,H' b=some (.tbl (ps++more)))
  (ns:∀m,s.heap.Ns X.env.locals m->h'.Ns X.env.locals m) (hok:HOk X.prog X.w H' h') (J:AllBare g'):
  Inv X Z σ H' { s with heap:=h',gens:=g',drawn:=d',toks:=t' }:=by
 have C:∀b o,X.s₀.heap.get? b=some o->b≠X.env.locals:=fun b o e=>Vh (Ve (Va e) I.ok.above)
 have y:∀b o,X.s₀.heap.get? b=some o->b∉X.ex->b∉ch:=fun b o e a hb=>by rcases(h b hb).1 with z|z;exact a z;exact absurd (Ve (Va e) z) (VI _)
 have D:∀x c,X.env.cells.lookup x=some c->∀v,s.heap.IsCell c v->h'.IsCell c v:=fun x c e v Y=>by obtain⟨o,g,hd⟩:=Y;have j:c∉ch:=fun z=>(h c z).2.2.1 x c e rfl;by_cases E:c∈X.fs;obtain⟨A,q⟩:=slot c o (I.cne x c e) E j g (I.freeC x c e);exact⟨_,q,hd⟩;exact⟨o,keep c o (I.cne x c e) E j g (I.freeC x c e),hd⟩
 refine⟨I.ok,I.os,J,⟨fun b o e n hb a=>?_,fun b o e n hb a=>?_,fun b o e n a=>?_,fun b o e a=>?_,fun b xs e=>tups b xs (I.base.tups b xs e),fun b o xs e=>frzs b o xs (I.base.frzs b o xs e),fun b ps e=>?_⟩,?_,fun x c e=>?_,?_,fun x c e=>?_,fun p F=>?_,hok,I.len⟩
 .exact keep b o (C b o e) hb (y b o e a) (I.base.keep b o e n hb a) (I.base.free b o e n a)
 .obtain⟨A,f⟩:=I.base.slot b o e n hb a;obtain⟨B,t⟩:=slot b _ (C b o e) hb (y b o e a) f (I.base.free b o e n a);exact⟨B,t⟩
 .obtain⟨o',f⟩:=I.base.there b o e a;exact free b o' (y b o e a) f (I.base.free b o e n a)
 .obtain⟨o',f⟩:=I.base.there b o e a;exact there b o' (y b o e a) f
 .obtain⟨m1,f⟩:=I.base.tbls b ps e;obtain⟨m2,t⟩:=tbls b _ f;exact⟨m1++m2,by rw[t,Array.append_assoc]⟩
 .obtain⟨m,K,L⟩:=I.loc
  refine⟨m,ns m K,fun i x v f t M=>?_⟩;obtain⟨u,r,l⟩:=L i x v f t M;refine⟨u,r,?_⟩;rcases l with l|⟨k,c,e,z⟩
  .exact .inl l
  .exact .inr ⟨k,c,e,D x c e _ z⟩
 .obtain⟨v,z⟩:=I.cell x c e;exact⟨v,D x c e v z⟩
 .obtain⟨m,⟨o,_,_,g,_⟩,_⟩:=I.loc;exact free _ o (fun z=>(h _ z).2.1 rfl) g I.free
 .obtain⟨v,o,g,hd⟩:=I.cell x c e;exact free c o (fun z=>(h c z).2.2.1 x c e rfl) g (I.freeC x c e)
 .obtain⟨e,n,ne,G,d⟩:=I.pin p F;have j:p.1∉ch:=fun z=>(h p.1 z).2.2.2 p F rfl;exact⟨keep p.1 p.2 ne G j e n,free p.1 p.2 j e n,ne,G,d⟩
theorem Inv.un (I:Inv X Z σ H s)(u:Un X.fs [] H H' s.heap h')(hok:HOk X.prog X.w H' h'):Inv X Z σ H' { s with heap:=h',toks:=t' }:=by
 obtain⟨m,⟨o,es,j,c,r⟩,_⟩:=id I.loc;obtain⟨k,f⟩:=u.any c I.free (by simp);exact I.step (g':=s.gens) (d':=s.drawn) (ch:=[]) (fun _ z=>nomatch z) (fun b o _ hb _ e n=>u.keep b o e n hb (by simp)) (fun b o _ hb _ e n=>u.slot b o e n hb (by simp)) (fun b o _ e n=>u.free b o e n (by simp)) (fun b o _ e=>u.there b o e (by simp)) u.tups u.frzs u.tbls (fun l g=>by
  obtain⟨o',h,a,d,i⟩:=g;rw[c] at d;cases d
  exact⟨_,h,a,f,i⟩) hok I.bare
theorem Inv.call {g':Array GenState}{d':Drawn}{ch:List Addr}(I:Inv X Z σ H s)(u:Un (bU X.stack) ch H H' s.heap h')(hok:HOk X.prog X.w H' h')(j:AllBare g')
  (g:∀b∈ch,(b∈X.ex∨X.s₀.heap.objs.size<=b)/\b≠X.env.locals/\(∀x c,X.env.cells.lookup x=some c->c≠b)/\∀p∈X.pn++Z,p.1≠b):
  Inv X Z σ H' { s with heap:=h',gens:=g',drawn:=d',toks:=t' }:=by
 obtain⟨m,⟨o,es,t,h,r⟩,_⟩:=id I.loc;obtain⟨v,d⟩:=u.any h I.free fun z=>(g _ z).2.1 rfl
 exact I.step (ch:=ch) g (fun b o d hb a e n=>u.keep b o e n (fun z=>(Vg.mp (I.stkSub b z)).elim d hb) a) (fun b o _ _ a e n=>u.any e n a) (fun b o a e n=>u.free b o e n a) (fun b o a e=>u.there b o e a) u.tups u.frzs u.tbls (fun y k=>by
  obtain⟨o',l,f,i,q⟩:=k;rw[h] at i;cases i
  exact⟨_,l,f,d,q⟩) hok j
theorem Inv.turned (I:Inv X Z σ H s)(k:∀b o,b≠it->s.heap.get? b=some o->h'.get? b=some o)(g:H it=none)(d:it≠X.env.locals)
  (h1:it∈X.ex∨X.s₀.heap.objs.size<=it) (Y:∀x c,X.env.cells.lookup x=some c->c≠it) (h:∀p∈X.pn++Z,p.1≠it):Inv X Z σ H { s with heap:=h',toks:=t' }:=by
 have f:∀b u,H b=some u->b≠it:=fun b u e z=>by rw[z,g] at e;cases e
 refine I.step (g':=s.gens) (d':=s.drawn) (ch:=[it]) (fun b hb=>?_) (fun b o _ _ a e _=>k b o (fun z=>a (by simp [z])) e) (fun b o _ _ a e _=>⟨o.slots,k b o (fun z=>a (by simp [z])) e⟩) (fun _ _ _ _ n=>n)
  (fun b o a e=>⟨o,k b o (fun z=>a (by simp [z])) e⟩) (fun _ _ e=>e) (fun _ _ _ e=>e) (fun b ps e=>⟨#[],by rw[e];simp⟩) (fun m i=>?_) (fun b u e=>?_) I.bare
 .have e:b=it:=by simpa using hb
  subst e;exact⟨h1,d,Y,h⟩
 .obtain⟨o,es,j,l,r⟩:=i;exact⟨o,es,j,k _ o (Ne.symm d) l,r⟩
 .refine(I.hok b u e).stay (fun c v a q=>k c v ?_ q) (fun _ q=>q) fun _ _ q=>q
  rcases a with z|z
  .rw[z];exact f b u e
  .exact f c _ z
theorem Inv.tok (I:Inv X Z σ H s)(t:Nat):Inv X Z σ H { s with toks:=t }:=I.un (h':=s.heap) (t':=t) Un.refl I.hok
theorem Inv.kept (I:Inv X Z σ H s)(k:∀b u,s.heap.get? b=some u->h'.get? b=some u):Inv X Z σ H { s with heap:=h',toks:=t' }:=I.un (Un.kept k) (I.hok.kept k)
theorem Inv.laid {o:HO}(I:Inv X Z σ H s)(k:∀b u,s.heap.get? b=some u->h'.get? b=some u)(c:s.heap.objs.size<=a)(new:ObjOk X.prog X.w (ax H a o) h' a o):Inv X Z σ (ax H a o) { s with heap:=h',toks:=t' }:=I.un (Un.laid k c (I.hok.fresh c)) (I.hok.laid k c new)
theorem Inv.write {x e:Addr}{o:HO}(I:Inv X Z σ H s)(a:rB (H x))(he:e=x∨H e=some (.own x))(k:∀b u,b≠e->s.heap.get? b=some u->h'.get? b=some u)(c:∃u,h'.get? e=some u)
  (new:ObjOk X.prog X.w (ax H x o) h' x o):Inv X Z σ (ax H x o) { s with heap:=h',toks:=t' }:=I.un (Un.write a he k c) (I.hok.write a he k c new)
theorem Inv.pins_of {pins':List (Addr×Obj)}(I:Inv X Z σ H s)(h:∀p∈pins',s.heap.get? p.1=some p.2/\H p.1=none/\p.1≠X.env.locals/\p.1∉X.fs/\∀v,p.2.data ≠ .cell v):Inv X pins' σ H s:=⟨I.ok,I.os,I.bare,I.base,I.loc,I.cell,I.free,I.freeC,fun p a=>(Vo.mp a).elim (fun z=>I.pin p (V6 _ z)) (h p),I.hok,I.len⟩
theorem zb {N:List Str}(c:N.Nodup){i j:Nat}{x:Str}(a:N[i]?=some x)(b:N[j]?=some x):i=j:=by obtain⟨h1,d⟩:=U7.mp a;obtain⟨Y,e⟩:=U7.mp b;exact(List.getElem_inj c).mp (d.trans e.symm)
theorem Gx {M:Model}{A:Around}{E:Value->Shared->Prop}{v:V}{Q:Unit->Shared->Prop}(I:Inv X Z σ H s)(hN:X.N.Nodup)(J:X.N[i]?=some x)(t:lI X.env.scope x)(r:RelV v u)
  (h:∀s',Inv X Z (σ.set i (some v)) H s'->(∃a,Heap.SameBut a s.heap s'.heap/\(a=X.env.locals∨X.env.cells.lookup x=some a))->Q () s') (hf:lf X x:=by first|exact .inl rfl|exact .inr rfl|assumption):wpAny M A (storeName X.env x u) Q E s:=by
 obtain⟨m,U,hl⟩:=id I.loc;have i6:(X.env.scope.kind == .class||(X.env.scope.kind == .module&&X.env.locals != X.env.globals))=false:=by rw[I.ok.kind];rfl
 have D:i<σ.length:=by rw[I.len];exact(U7.mp J).1
 have cne:=I.cne
 have fX:∀{a:Addr}{h':Heap},(∃o,s.heap.get? a=some o/\H a=none)->Heap.SameBut a s.heap h'->HOk X.prog X.w H h':=fun {a h'} ha f b ob e=>by obtain⟨_,_,B⟩:=ha;refine(I.hok b ob e).stay (fun c S l q=>(f.2 c ?_).trans q) (fun _ q=>q) fun _ _ q=>q;rintro rfl;rcases l with rfl|l;rw[B] at e;cases e;rw[B] at l;cases l
 rcases t with F|F
 .refine wpAny_storeName_local F U (fun h' gC f=>?_) i6
  obtain⟨oL,_,_,W,_⟩:=id U;refine h _ ⟨I.ok,I.os,I.bare,⟨fun b o e n hb t=>?_,fun b o e n hb t=>?_,I.base.free,fun b o e t=>?_,I.base.tups,I.base.frzs,I.base.tbls⟩,⟨_,gC,fun j y Y g C e3=>?_⟩,fun y c e=>?_,I.free,I.freeC,fun p hp=>?_,fX ⟨oL,W,I.free⟩ f,by simpa using I.len⟩ ⟨_,f,.inl rfl⟩
  .exact(f.2 b (Vh (Ve (Va e) I.ok.above))).trans (I.base.keep b o e n hb t)
  .obtain⟨sl,g⟩:=I.base.slot b o e n hb t;exact⟨sl,(f.2 b (Vh (Ve (Va e) I.ok.above))).trans g⟩
  .obtain⟨o',g⟩:=I.base.there b o e t;exact⟨o',(f.2 b (Vh (Ve (Va e) I.ok.above))).trans g⟩
  .by_cases G:j=i
   .subst G;rw[J] at g;cases g;rw[WQ D] at C;cases C;exact⟨u,r,.inl ⟨F,by simp⟩⟩
   .rw[List.getElem?_set_ne (Ne.symm G)] at C
    obtain⟨u',r',q⟩:=hl j y Y g C e3;refine⟨u',r',?_⟩;rcases q with ⟨k,e⟩|⟨k,c,e,z⟩
    .refine .inl ⟨k,?_⟩;have:y≠x:=fun e=>G (zb hN g (e▸J));simp [this,e]
    .exact .inr ⟨k,c,e,z.sameBut f (cne y c e)⟩
  .obtain⟨S,z⟩:=I.cell y c e;exact⟨S,z.sameBut f (cne y c e)⟩
  .obtain⟨e,n,ne,nf,d⟩:=I.pin p hp;exact⟨(f.2 p.1 ne).trans e,n,ne,nf,d⟩
 .have pV:X.fn x=true:=by
   rcases hf with z|z
   .exact z
   .rw[z] at F;cases F
  obtain⟨c,l⟩:=I.ok.has x (.inl F);obtain⟨S,z⟩:=I.cell x c l;refine wpAny_storeName_cell I.ok.kind F l z (fun h' K f=>?_);obtain⟨R,L,O⟩:=id z;refine h { s with heap:=h' } ⟨I.ok,I.os,I.bare,⟨fun b o e n hb t=>?_,fun b o e n hb t=>?_,I.base.free,fun b o e t=>?_,I.base.tups,I.base.frzs,I.base.tbls⟩,⟨m,U.sameBut f (Ne.symm (cne x c l)),fun j y Y g C e3=>?_⟩,fun y T e=>?_,I.free,I.freeC,fun p hp=>?_,fX ⟨R,L,I.freeC x c l⟩ f,by simpa using I.len⟩ ⟨c,f,.inr l⟩
  .exact(f.2 b (Vh (Ve (Va e) (I.ok.cab x c pV l)))).trans (I.base.keep b o e n hb t)
  .obtain⟨sl,g⟩:=I.base.slot b o e n hb t;exact⟨sl,(f.2 b (Vh (Ve (Va e) (I.ok.cab x c pV l)))).trans g⟩
  .obtain⟨o',g⟩:=I.base.there b o e t;exact⟨o',(f.2 b (Vh (Ve (Va e) (I.ok.cab x c pV l)))).trans g⟩
  .by_cases G:j=i
   .subst G;rw[J] at g;cases g;rw[WQ D] at C;cases C;exact⟨u,r,.inr ⟨.inl F,c,l,K⟩⟩
   .rw[List.getElem?_set_ne (Ne.symm G)] at C
    obtain⟨u',r',q⟩:=hl j y Y g C e3;refine⟨u',r',?_⟩;rcases q with q|⟨k,T,e,z'⟩
    .exact .inl q
    .refine .inr ⟨k,T,e,z'.sameBut f ?_⟩;rintro rfl;exact G (zb hN g (I.ok.inj _ _ _ e l▸J))
  .by_cases P:T=c
   .subst P;exact⟨_,K⟩
   .obtain⟨w2,z2⟩:=I.cell y T e;exact⟨w2,z2.sameBut f P⟩
  .obtain⟨e,n,ne,nf,d⟩:=I.pin p hp;refine⟨(f.2 p.1 ?_).trans e,n,ne,nf,d⟩;intro q;rw[q,L] at e;have q':R=p.2:=Vq e;exact d S (by rw[<- q'];exact O)
theorem qN {M:Model}{A:Around}{E:Value->Shared->Prop}{v:V}{Q:Unit->Shared->Prop}(I:Inv X Z σ H s)(a:X.N.Nodup)(b:X.N[i]?=some x)(c:lI X.env.scope x)(r:RelV v u)
  (h:∀s',Inv X Z (σ.set i (some v)) H s'->Q () s') (d:lf X x:=by first|exact .inl rfl|exact .inr rfl|assumption):wpAny M A (storeName X.env x u) Q E s:=
 Gx I a b c r (fun s' e _=>h s' e) d
theorem Inv.call' {s':Shared}{ch:List Addr}(I:Inv X Z σ H s)(a:s'.os=s.os)(u:Un (bU X.stack) ch H H' s.heap s'.heap)(hok:HOk X.prog X.w H' s'.heap)(d:AllBare s'.gens)
  (f:∀b∈ch,(b∈X.ex∨X.s₀.heap.objs.size<=b)/\b≠X.env.locals/\(∀x c,X.env.cells.lookup x=some c->c≠b)/\∀p∈X.pn++Z,p.1≠b):Inv X Z σ H' s':=by
 obtain⟨h',g',d',t',o'⟩:=s';have e:o'=s.os:=a;subst e;exact I.call (g':=g') (t':=t') (d':=d') u hok d f
end
abbrev XK:=Value->Option Addr->Hp->Prop
abbrev St:=List (Option V)
abbrev VK:=V->Hp->Prop
abbrev TE:=St->Hp->VK->Prop
abbrev TT:=St->Hp->(Bool->Hp->Prop)->Prop
abbrev TA:=St->Hp->(List V->Hp->Prop)->Prop
structure a7 where
 nx:St->Hp->Prop
 rt:VK
 bk:St->Hp->Prop:=fun _ _=>False
 ct:St->Hp->Prop:=fun _ _=>False
abbrev TS:=a7->St->Hp->Prop
def EP (X:Cx)(Z:List (Addr×Obj))(a:St)(Q:VK)(u:Value)(s':Shared):Prop:=∃v H',Inv X Z a H' s'/\RelV v u/\Q v H'
def TP (X:Cx)(Z:List (Addr×Obj))(a:St)(Q:Bool->Hp->Prop)(b:Bool)(s':Shared):Prop:=∃H',Inv X Z a H' s'/\Q b H'
def AP (X:Cx)(Z:List (Addr×Obj))(a:St)(Q:List V->Hp->Prop)(B:List Value)(s':Shared):Prop:=∃vs H',Inv X Z a H' s'/\Vals vs B/\Q vs H'
def SP (X:Cx)(Z:List (Addr×Obj))(D:a7)(f:Flow)(s':Shared):Prop:=match f with
 | .next=>∃ a H',Inv X Z a H' s'/\D.nx a H'
 | .brk=>∃ a H',Inv X Z a H' s'/\D.bk a H'
 | .cont=>∃ a H',Inv X Z a H' s'/\D.ct a H'
 | .ret u=>∃v a H',Inv X Z a H' s'/\RelV v u/\D.rt v H'
def PE (X:Cx)(e:Expr)(t:TE):Prop:=∀(Z:List (Addr×Obj))(s:Shared)(a:St)(H:Hp)(Q:VK),Inv X Z a H s->t a H Q->wpAny (model X.prog X.w) X.A (eval e X.env) (EP X Z a Q) X.xe s
def PT (X:Cx)(e:Expr)(t:TT):Prop:=∀(Z:List (Addr×Obj))(s:Shared)(a:St)(H:Hp)(Q:Bool->Hp->Prop),Inv X Z a H s->t a H Q->wpAny (model X.prog X.w) X.A (isTrue e X.env (eval e X.env)) (TP X Z a Q) X.xe s
def PW (X:Cx)(e:Expr)(t:TT):Prop:=∀(b:Sem Value)(Z:List (Addr×Obj))(s:Shared)(a:St)(H:Hp)(Q:Bool->Hp->Prop),Inv X Z a H s->t a H Q->wpAny (model X.prog X.w) X.A (isTrue e X.env b) (TP X Z a Q) X.xe s
variable {σ:St}{ta te:TE}
theorem PW.pt {t:TT}(h:PW X e t):PT X e t:=h _
def PA (X:Cx)(es:List Expr)(t:TA):Prop:=∀(pos:Pos)(Z:List (Addr×Obj))(s:Shared)(σ:St)(H:Hp)(Q:List V->Hp->Prop),Inv X Z σ H s->t σ H Q->wpAny (model X.prog X.w) X.A (spliced (backTo pos (starEach es X.env))) (AP X Z σ Q) X.xe s
def PS (X:Cx)(st:Stmt)(t:TS):Prop:=∀(Z:List (Addr×Obj))(s:Shared)(σ:St)(H:Hp)(D:a7),Inv X Z σ H s->t D σ H->wpAny (model X.prog X.w) X.A (exec st X.env) (SP X Z D) X.xe s
def PSs (X:Cx)(st:List Stmt)(t:TS):Prop:=∀(Z:List (Addr×Obj))(s:Shared)(σ:St)(H:Hp)(D:a7),Inv X Z σ H s->t D σ H->wpAny (model X.prog X.w) X.A (execs st X.env) (SP X Z D) X.xe s
theorem az {t:Sem q}{Q b:q -> Shared->Prop}{M:Model}{A:Around}{E:Value->Shared->Prop}{s:Shared}(h:wpAny M A t Q E s)(c:∀a s,Q a s->b a s):wpAny M A t b E s:=VE h c fun _ _ x=>x
section
def tE (i:Nat):TE:=fun σ H Q=>∃v,σ[i]?=some (some v)/\Q v H
def tC (v:V):TE:=fun _ H Q=>Q v H
theorem CP (g:X.N[i]?=some x)(j:oN X.env.scope x)(hd:(x==("__debug__":Str))=false:=by decide)(k:(x==("__classdict__":Str))=false:=by decide):PE X (.Name x pos) (tE i):=by intro Z s σ H Q I h;obtain⟨v,e,h⟩:=h;obtain⟨m,n,o⟩:=I.loc;obtain⟨u,r,l⟩:=o i x v g e j;have d:EP X Z σ Q u s:=⟨v,H,I,r,h⟩;rcases l with ⟨b,p⟩|⟨b,c,f,a⟩;exact wpAny_Name (wpAny_loadName_local I.ok.kind b n p d) hd;rcases b with b|b;exact wpAny_Name (wpAny_loadName_cell I.ok.kind b f a d) hd;exact wpAny_Name (wpAny_loadName_free I.ok.kind b f a d k) hd
theorem oE {i j pos}:PE X (.Constant (.int i) j pos) (tC (.int i)):=fun _ _ _ H _ I h=>wpAny_Constant_int ⟨.int i,H,I.tok _,⟨_,rfl⟩,h⟩
theorem LL {b j pos}:PE X (.Constant (.bool b) j pos) (tC (.bl b)):=fun _ _ _ H _ I h=>Constant_bool ⟨.bl b,H,I,rfl,h⟩
theorem tD {j pos}:PE X (.Constant .none j pos) (tC .non):=fun _ _ _ H _ I h=>Constant_none ⟨.non,H,I,rfl,h⟩
theorem N0 {x j pos}:PE X (.Constant (.str x) j pos) (tC (.str x)):=fun _ _ _ H _ I h=>Calls.Constant_str ⟨.str x,H,I.tok _,⟨_,rfl⟩,h⟩
def Gl (X:Cx)(x:Str):Prop:=X.env.kindOf x=some .globalImplicit
theorem nY {E:Value->Shared->Prop}{s:Shared}(I:Inv X Z σ H s)(a:Gl X x)(b:X.mg x=some u)(h:Q u s)
  (hd:(x==("__debug__":Str))=false:=by decide):wpAny (model X.prog X.w) X.A (eval (.Name x pos) X.env) Q E s:=
 Ww I.ok.kind a (Xi (by rw[I.ok.glob];exact I.mod.glob.keeps I.bk) b h) hd
theorem mI {E:Value->Shared->Prop}{s:Shared}(I:Inv X Z σ H s)(a:Gl X x)(b:X.mg x=none)(c:bootBuiltins x=some u)(h:Q u s)
  (d:x≠"__name__":=by decide) (hd:(x==("__debug__":Str))=false:=by decide):wpAny (model X.prog X.w) X.A (eval (.Name x pos) X.env) Q E s:=by
 obtain⟨e,h1,Y⟩:=I.mod.blt;exact Ww I.ok.kind a (Calls.loadGlobal_builtin (by rw[I.ok.glob];exact I.mod.glob.keeps I.bk) b (by rw[I.ok.blt];exact h1.keeps I.bk) ((Y x d).trans c) h) hd
theorem jj {v:V}(a:Gl X x)(b:X.mg x=some u)(r:RelV v u)(hd:(x==("__debug__":Str))=false:=by decide):PE X (.Name x pos) (tC v):=fun _ _ _ H _ I h=>nY I a b ⟨v,H,I,r,h⟩ hd
theorem my {v:V}(a:Gl X x)(b:X.mg x=none)(c:bootBuiltins x=some u)(r:RelV v u)(d:x≠"__name__":=by decide)(hd:(x==("__debug__":Str))=false:=by decide):PE X (.Name x pos) (tC v):=fun _ _ _ H _ I h=>mI I a b c ⟨v,H,I,r,h⟩ d hd
variable {a b:Expr}{tb:TE}
def tB (t:TE):TT:=fun σ H Q=>t σ H fun x a=>∃c,x=.bl c/\Q c a
theorem ly {t:TE}(h:PE X e t)(he:∀a,isTrue e X.env a=(do let v ← a;standAt e.pos;holding [v] (truthy v)):=by intro _;rfl):PT X e (tB t):=by intro Z s σ H Q I b;refine isTrue_plain (az (h Z s σ H _ I b) fun v j z=>?_) (he _);obtain⟨x,c,f,g,i⟩:=z;obtain⟨d,rfl,q⟩:=i;cases g;exact V0 ⟨c,f,q⟩
variable {r rQ:TT}{ah:List Expr}
def IV (t u:TT):TT:=fun σ H Q=>t σ H fun c a=>if c=true then u σ a Q else Q false a
def AZ (t u:TT):TT:=fun σ H Q=>t σ H fun c a=>if c=true then Q true a else u σ a Q
def IU (t:TT):TT:=fun σ H Q=>t σ H fun c a=>Q (!c) a
theorem NW (b:PT X a r):PW X (.BoolOp .And [a] pos) r:=by intro d Z s σ H Q I h;refine isTrue_and (az (b Z s σ H Q I h) fun c f e=>?_);cases c with|true=>exact isTrue_and_nil e|false=>exact e
theorem qr (b:PT X a r):PW X (.BoolOp .Or [a] pos) r:=by intro d Z s σ H Q I h;refine isTrue_or (az (b Z s σ H Q I h) fun c f e=>?_);cases c with|false=>exact isTrue_or_nil e|true=>exact e
theorem CO (g:PT X a r)(hb:PW X (.BoolOp .And (b::ah) pos) rQ):PW X (.BoolOp .And (a::b::ah) pos) (IV r rQ):=by intro i Z s σ H Q I h;refine isTrue_and (az (g Z s σ H _ I h) fun c j z=>?_);obtain⟨d,e,f⟩:=z;cases c with|true=>exact hb i Z j σ d Q e f|false=>exact⟨d,e,f⟩
theorem mx (g:PT X a r)(hb:PW X (.BoolOp .Or (b::ah) pos) rQ):PW X (.BoolOp .Or (a::b::ah) pos) (AZ r rQ):=by intro i Z s σ H Q I h;refine isTrue_or (az (g Z s σ H _ I h) fun c j z=>?_);obtain⟨d,e,f⟩:=z;cases c with|true=>exact⟨d,e,f⟩|false=>exact hb i Z j σ d Q e f
theorem j3 (b:PT X a r):PT X (.UnaryOp .Not a pos) (IU r):=by intro Z s σ H Q I h;exact isTrue_not (b Z s σ H (fun c d=>Q (!c) d) I h)
def Ct (ta tb:TE):TE:=fun σ H Q=>ta σ H fun x a=>∃c,x=.bl c/\if c=true then tb σ a Q else Q (.bl false) a
def IT (ta tb:TE):TE:=fun σ H Q=>ta σ H fun x a=>∃c,x=.bl c/\if c=true then Q (.bl true) a else tb σ a Q
def Cr (ta:TE):TE:=fun σ H Q=>ta σ H fun x a=>∃c,x=.bl c/\Q (.bl (!c)) a
theorem yF {op}{t:TE}(h:PE X a t):PE X (.BoolOp op [a] pos) t:=fun Z s σ H Q I b=>BoolOp_one (h Z s σ H Q I b)
theorem yE (g:PE X a ta)(hb:PE X (.BoolOp .And (b::ah) pos) tb):PE X (.BoolOp .And (a::b::ah) pos) (Ct ta tb):=by intro Z s σ H Q I h;refine BoolOp_and (az (g Z s σ H _ I h) fun v i z=>?_);obtain⟨x,e,f,j,d⟩:=z;obtain⟨c,rfl,d⟩:=d;cases j;refine V0 ?_;cases c with|true=>exact hb Z i σ e Q f d|false=>exact⟨.bl false,e,f,rfl,d⟩
theorem Cq (g:PE X a ta)(hb:PE X (.BoolOp .Or (b::ah) pos) tb):PE X (.BoolOp .Or (a::b::ah) pos) (IT ta tb):=by intro Z s σ H Q I h;refine BoolOp_or (az (g Z s σ H _ I h) fun v i z=>?_);obtain⟨x,e,f,j,d⟩:=z;obtain⟨c,rfl,d⟩:=d;cases j;refine V0 ?_;cases c with|false=>exact hb Z i σ e Q f d|true=>exact⟨.bl true,e,f,rfl,d⟩
theorem Cp (d:PE X a ta):PE X (.UnaryOp .Not a pos) (Cr ta):=by intro Z s σ H Q I h;refine UnaryOp_ (az (d Z s σ H _ I h) fun v i z=>?_);obtain⟨x,e,f,g,b⟩:=z;obtain⟨c,rfl,b⟩:=b;cases g;exact not_of (V0 ⟨.bl (!c),e,f,rfl,b⟩)
def A0 (t:TT)(ta tb:TE):TE:=fun σ H Q=>t σ H fun c a=>if c=true then ta σ a Q else tb σ a Q
theorem RA {c:Expr}(j:PT X c r)(k:PE X a ta)(hb:PE X b tb):PE X (.IfExp c a b pos) (A0 r ta tb):=by intro Z s σ H Q I h;refine wpAny_IfExp (az (j Z s σ H _ I h) fun d e z=>?_);obtain⟨f,g,i⟩:=z;cases d with|true=>exact k Z e σ f Q g i|false=>exact hb Z e σ f Q g i
end
def SqL (K:W.Frag)(H:Hp)(a:Addr)(xs:List V):Prop:=Rd H a (.lst xs) ∨
  ∃(o:Obj)(G:Array Value)(n:Nat),K.lookup a=some o/\o.cls=.type "list"/\o.dict=none/\o.data=.seq G n/\G.size<=sizeLine/\Vals xs G.toList
def SqT (K:W.Frag)(H:Hp)(a:Addr)(xs:List V):Prop:=Rd H a (.tup xs) ∨
  ∃(o:Obj)(G:Array Value)(n:Nat),K.lookup a=some o/\o.cls=.type "tuple"/\o.data=.seq G n/\G.size<=sizeLine/\Vals xs G.toList
noncomputable def Uc:Value->Option V
 | .none=>some .non
 | .bool b=>some (.bl b)
 | .int i _=>some (.int i)
 | .str x _=>some (.str x)
 | .bytes b _=>some (.byt b)
 | .float b _=>some (.flt b)
 | .ref a=>some (.ref a)
 | .type n=>some (.ty n)
 |_=>none
theorem RelV.abs {x:V}(r:RelV x u):Uc u=some x:=by cases x with|non=>(cases r;rfl)|bl _=>(cases r;rfl)|int _=>(obtain⟨t,rfl⟩:=r;rfl)|str _=>(obtain⟨t,rfl⟩:=r;rfl)|byt _=>(obtain⟨t,rfl⟩:=r;rfl)|flt _=>(obtain⟨t,rfl⟩:=r;rfl)|ref _=>(cases r;rfl)|ty _=>cases r;rfl
theorem RelV.inj {x:V}(r:RelV x u)(q:RelV y u):x=y:=Vq (r.abs.symm.trans q.abs)
theorem Vals.inj {xs a:List V}{B:List Value}(h:Vals xs B)(g:Vals a B):xs=a:=by induction h generalizing a with|nil=>(cases g;rfl)|cons r _ i=>cases g with|cons b t=>rw[r.inj b,i t]
section
variable {s:Shared}{ys:List V}
theorem SqL.of (h:H a=some (.lst xs)):SqL K H a xs:=.inl (.inl h)
theorem SqT.of (h:H a=some (.tup xs)):SqT K H a xs:=.inl (.inl h)
theorem Inv.list (I:Inv X Z σ H s)(h:SqL X.K H a xs):∃G:List Value,Vals xs G/\PlainL s.heap a G.toArray/\xs.length<=sizeLine:=by rcases h with h|⟨o,G,n,b,c,hd,d,f,r⟩;obtain⟨z,G,n,r,e⟩:=h.ok I.hok;exact⟨G,r,⟨_,n,e,rfl,rfl,rfl⟩,z⟩;refine⟨G.toList,r,⟨o,n,I.kIn a o b,c,hd,by simpa using d⟩,?_⟩;have e:=r.length;simp only [VD] at e;lia
theorem Inv.tuple (I:Inv X Z σ H s)(h:SqT X.K H a xs):∃G:List Value,Vals xs G/\IsTup s.heap a G.toArray/\xs.length<=sizeLine:=by rcases h with h|⟨o,G,n,b,c,d,f,r⟩;obtain⟨z,G,r,p⟩:=h.ok I.hok;exact⟨G,r,p.tup,z⟩;refine⟨G.toList,r,⟨o,I.kIn a o b,c,n,by simpa using d⟩,?_⟩;have e:=r.length;simp only [VD] at e;lia
theorem Inv.list_inj (I:Inv X Z σ H s)(h:SqL X.K H a xs)(h':SqL X.K H a ys):xs=ys:=by
 obtain⟨G,r,⟨o,n,e,_,_,d⟩,_⟩:=I.list h;obtain⟨its',c,⟨o',g,b,_,_,d'⟩,_⟩:=I.list h';rw[e] at b;cases b;rw[d] at d';injection d' with f _;have:G=its':=by simpa using V8 Array.toList f
 subst this;exact r.inj c
theorem Inv.tuple_inj (I:Inv X Z σ H s)(h:SqT X.K H a xs)(h':SqT X.K H a ys):xs=ys:=by
 obtain⟨G,r,⟨o,e,_,n,d⟩,_⟩:=I.tuple h;obtain⟨its',c,⟨o',b,_,g,d'⟩,_⟩:=I.tuple h';rw[e] at b;cases b;rw[d] at d';injection d' with f _;have:G=its':=by simpa using V8 Array.toList f
 subst this;exact r.inj c
end
noncomputable abbrev Cx.wish (X:Cx)(E:Value->Shared->Prop):Cx:={ X with xe:=E }
abbrev Cx.nox (X:Cx):Cx:=X.wish fun _ _=>False
theorem Cx.Ok.wish (ok:X.Ok)(E:Value->Shared->Prop):(X.wish E).Ok:=⟨ok.mod,ok.kind,ok.glob,ok.blt,ok.above,ok.inj,ok.has,ok.cab,ok.hd,ok.frames,ok.stk,ok.exf,ok.bs,ok.bsz,ok.noex,ok.exfs,ok.funs,ok.frf⟩
theorem Cx.Ok.unwish {E:Value->Shared->Prop}(ok:(X.wish E).Ok):X.Ok:=⟨ok.mod,ok.kind,ok.glob,ok.blt,ok.above,ok.inj,ok.has,ok.cab,ok.hd,ok.frames,ok.stk,ok.exf,ok.bs,ok.bsz,ok.noex,ok.exfs,ok.funs,ok.frf⟩
section
variable {s:Shared}{E:Value->Shared->Prop}
theorem Inv.wish (I:Inv X Z σ H s)(E:Value->Shared->Prop):Inv (X.wish E) Z σ H s:=⟨I.ok.wish E,I.os,I.bare,I.base,I.loc,I.cell,I.free,I.freeC,I.pin,I.hok,I.len⟩
theorem Inv.unwish (I:Inv (X.wish E) Z σ H s):Inv X Z σ H s:=⟨I.ok.unwish,I.os,I.bare,I.base,I.loc,I.cell,I.free,I.freeC,I.pin,I.hok,I.len⟩
theorem SP.unwish {D:a7}{f:Flow}{s':Shared}(h:SP (X.wish E) Z D f s'):SP X Z D f s':=by cases f with|next=>(obtain⟨a,H',I,q⟩:=h;exact⟨a,H',I.unwish,q⟩)|brk=>(obtain⟨a,H',I,q⟩:=h;exact⟨a,H',I.unwish,q⟩)|cont=>(obtain⟨a,H',I,q⟩:=h;exact⟨a,H',I.unwish,q⟩)|ret u=>obtain⟨v,a,H',I,r,q⟩:=h;exact⟨v,a,H',I.unwish,r,q⟩
theorem PSs.nox {st:List Stmt}{t:TS}(h:PSs X.nox st t):PSs X st t:=fun Z s σ H D I a=>
 VE (h Z s σ H D (I.wish _) a) (fun _ _ q=>q.unwish) fun _ _ z=>False.elim z
end
section
variable {r:List Stmt}{t u:TS}
def iN:TS:=fun D σ H=>D.nx σ H
def yh (t u:TS):TS:=fun D σ H=>t { D with nx:=u D } σ H
theorem pss_nil:PSs X [] iN:=fun _ _ σ H _ I h=>Xb ⟨σ,H,I,h⟩
theorem fG (h1:PS X st t)(Y:PSs X r u):PSs X (st::r) (yh t u):=by intro Z s σ H D I h;refine W5 (az (h1 Z s σ H { D with nx:=u D } I h) fun f b q=>?_);cases f with|next=>(obtain⟨a,H',c,q⟩:=q;exact Y Z b a H' D c q)|ret v=>exact q|brk=>exact q|cont=>exact q
theorem fV (h1:PS X st t):PSs X [st] t:=by intro Z s σ H D I h;refine W5 (az (h1 Z s σ H D I h) fun f a q=>?_);cases f with|next=>exact Xb q|ret v=>exact q|brk=>exact q|cont=>exact q
theorem ps_pass:PS X (.Pass pos) iN:=fun _ _ σ H _ I h=>wpAny_Pass ⟨σ,H,I,h⟩
theorem Inv.quiet {s:Shared}(I:Inv X Z σ H s):interactive X.env=false:=by simp [interactive,I.ok.kind]
def Co (te:TE):TS:=fun D σ H=>te σ H fun _ a=>D.nx σ a
theorem uk (he:PE X e te)(a:swapsWith e none pos.line X.env=pure false:=by rfl):PS X (.Expr e pos) (Co te):=by intro Z s σ H D I h;exact wpAny_Expr_any (az (he Z s σ H _ I h) fun v f z=>by obtain⟨x,b,c,g,d⟩:=z;exact ⟨σ,b,c,d⟩) I.quiet a
def IQ (te:TE):TS:=fun D σ H=>te σ H D.rt
theorem mG (he:PE X e te):PS X (.Return (some e) pos) (IQ te):=by intro Z s σ H D I h;exact wpAny_Return_some (az (he Z s σ H _ I h) fun v f z=>by obtain⟨x,a,b,c,d⟩:=z;exact ⟨x,σ,a,b,c,d⟩)
def IP (c:TT)(t u:TS):TS:=fun D σ H=>c σ H fun b a=>if b=true then t D σ a else u D σ a
theorem nW {c:Expr}{a b:List Stmt}{e:TT}(k:PT X c e)(l:PSs X a t)(hb:PSs X b u):PS X (.If c a b pos) (IP e t u):=by intro Z s σ H D I h;refine wpAny_If (az (k Z s σ H _ I h) fun d f z=>?_);obtain⟨g,i,j⟩:=z;cases d with|true=>exact l Z f σ g D i j|false=>exact hb Z f σ g D i j
end
abbrev TG:=V->St->Hp->(St->Hp->Prop)->Prop
abbrev lH:=List V->St->Hp->(St->Hp->Prop)->Prop
def PG (X:Cx)(b:Expr)(t:TG):Prop:=∀(Z:List (Addr×Obj))(s:Shared)(σ:St)(H:Hp)(v:V)(u:Value)(Q:St->Hp->Prop),Inv X Z σ H s->RelV v u->t v σ H Q →wpAny (model X.prog X.w) X.A (assign b X.env u) (fun _ s'=>∃ a H',Inv X Z a H' s'/\Q a H') X.xe s
def PGs (X:Cx)(ts:List Expr)(t:lH):Prop:=∀(Z:List (Addr×Obj))(s:Shared)(σ:St)(H:Hp)(vs:List V)(B:List Value)(Q:St->Hp->Prop),Inv X Z σ H s->Vals vs B->t vs σ H Q →wpAny (model X.prog X.w) X.A (assignInOrder ((assignEach ts X.env).map (·.2)) B) (fun _ s'=>∃ a H',Inv X Z a H' s'/\Q a H') X.xe s
abbrev mN:=V->V->V->Hp->(Hp->Prop)->Prop
def IM (X:Cx)(t:mN):Prop:=∀(Z:List (Addr×Obj))(s:Shared)(σ:St)(H:Hp)(o i v:V)(a b u:Value)(Q:Hp->Prop),Inv X Z σ H s->RelV o a->RelV i b->RelV v u->t o i v H Q →wpAny (model X.prog X.w) X.A (setItem a b u) (fun _ s'=>∃H',Inv X Z σ H' s'/\Q H') X.xe s
variable {g:TG}
section
def qA (i:Nat):TG:=fun v σ H Q=>Q (σ.set i (some v)) H
theorem qZ (a:X.N.Nodup)(b:X.N[i]?=some x)(c:lI X.env.scope x)(d:lf X x:=by first|exact .inl rfl|exact .inr rfl|assumption):PG X (.Name x pos) (qA i):=by intro Z s σ H v u Q I r h;exact wpAny_assign_Name (qN I a b c r (fun s' e=>⟨_,H,e,h⟩) d)
def qe:lH:=fun vs σ H Q=>vs=[]/\Q σ H
def Cn (t:TG)(u:lH):lH:=fun vs σ H Q=>∃v r,vs=v::r/\t v σ H fun a H'=>u r a H' Q
theorem pgs_nil:PGs X [] qe:=by intro Z s σ H vs B Q I r h;obtain⟨e,h⟩:=h;subst e;cases r;exact assignInOrder_nil ⟨σ,H,I,h⟩
theorem zY {t:TG}{u:lH}(h1:PG X e t)(Y:PGs X es u)
  (b:(assignEach (e::es) X.env).map (·.2)=assign e X.env::(assignEach es X.env).map (·.2):=by rfl):PGs X (e::es) (Cn t u):=by
 intro Z s σ H vs B Q I r h;obtain⟨v,k,c,h⟩:=h;subst c
 cases r with
 |cons r d=>rw[b];refine assignInOrder_cons (az (h1 Z s σ H _ _ _ I r h) fun _ f z=>?_);obtain⟨a,g,i,j⟩:=z;exact Y Z f a g _ _ Q i d j
def IL (K:W.Frag)(n:Nat)(t:lH):TG:=fun v σ H Q=>∃a xs,v=.ref a/\SqT K H a xs/\xs.length=n/\t xs σ H Q
theorem Dw {k:Nat}{t:lH}{n:Nat}(f:X.calm=true)(h:PGs X es t)
  (g:(assignEach es X.env).length=n:=by rfl) (i:(assignEach es X.env).findIdx? (·.1)=none:=by rfl):PG X (.Tuple es k pos) (IL X.K n t):=by
 intro Z s σ H v u Q I r c;obtain⟨a,xs,j,l,m,c⟩:=c;subst j;cases r;obtain⟨G,d,p,x⟩:=I.tuple l;refine assign_Tuple_tuple (I.ok.hd f) p (by simp [g,<- m,d.length]) i fun h' q=>?_;have w:Inv X Z σ H { s with heap:=h' }:=I.kept (t':=s.toks) fun b o e=>q b o (Vh (Va e)) e;exact h Z _ σ H xs _ Q w (by simpa using d) c
def IK (to ti:TE)(t:mN):TG:=fun v σ H Q=>to σ H fun o a=>ti σ a fun i b=>t o i v b fun c=>Q σ c
theorem Mx {o i:Expr}{to ti:TE}{t:mN}(c:PE X o to)(d:PE X i ti)(e:IM X t)
  (f:∀v,assign (.Subscript o i pos) X.env v=(do
   let a ← holding [v] (eval o X.env)
   let b ← holding [v,a] (eval i X.env)
   standAt pos
   holding [v,a,b] (setItem a b v)
   release [v,a,b] []):=by intro _;rfl):PG X (.Subscript o i pos) (IK to ti t):=by
 intro Z s σ H v u Q I r h;rw[f];refine UZ (Vx (az (c Z s σ H _ I h) fun a g Y=>?_));obtain⟨x,j,k,l,m⟩:=Y;refine UZ (Vx (az (d Z g σ j _ k m) fun b n W=>?_));obtain⟨y,p,q,w,z⟩:=W;refine UZ (WU (UZ (Vx (az (e Z n σ p x y v a b u _ q l w r z) fun _ s3 V=>?_))));obtain⟨A,B,C⟩:=V;exact wpAny_release ⟨σ,A,B,C⟩
def nV (te:TE)(g:TG):TS:=fun D σ H=>te σ H fun x a=>g x σ a D.nx
theorem yD (he:PE X e te)(a:PG X S g)(b:swapsWithSole [S] e pos.line X.env=pure false:=by rfl)(c:swappedStores [S] e X.env=pure none:=by rfl)
  (h1:(assignEach [S] X.env).map (·.2)=[assign S X.env]:=by rfl):PS X (.Assign [S] e pos) (nV te g):=by
 intro Z s σ H D I h;refine wpAny_Assign_stores (az (he Z s σ H _ I h) fun v d z=>?_) b c;obtain⟨x,f,i,j,k⟩:=z;rw[h1];exact az (a Z d σ f x v _ i j k) fun _ l q=>q
theorem lD (a:X.N.Nodup)(b:X.N[i]?=some x)(c:lI X.env.scope x)(he:PE X e te)(d:swapsWith e (some (.Name x J)) pos.line X.env=pure false:=by rfl)(f:lf X x:=by first|exact .inl rfl|exact .inr rfl|assumption):PS X (.Assign [.Name x J] e pos) (nV te (qA i)):=by intro Z s σ H D I h;refine wpAny_Assign_Name (az (he Z s σ H _ I h) fun v n z=>?_) d;obtain⟨y,g,j,k,l⟩:=z;exact qN j a b c k (fun o m=>⟨_,g,m,l⟩) f
def CN (c:TT)(tb:TS):TS:=fun D σ H=>∃W:Nat->St->Hp->Prop,(∃m,W m σ H)/\∀m σ H,W m σ H →c σ H fun b d=>if b=true then ∃N:St->Hp->Prop,(∀ a H',N a H'->∃e,e<m/\W e a H')/\tb { D with nx:=N,ct:=N,bk:=D.nx } σ d else D.nx σ d
theorem OI {c:Expr}{q:TT}{tb:TS}(r:PassesOwn (model X.prog X.w) X.A X.env X.xe)(z:PT X c q)(hb:PSs X body tb):PS X (.While c body [] pos) (CN q tb):=by intro Z s σ H D I h;obtain⟨W,⟨B,C⟩,E⟩:=h;refine wpAny_While (codeAny_whileLoop (fun n s'=>∃ e H',Inv X Z e H' s'/\W n e H') ?_ B ⟨σ,H,I,C⟩);rintro n F ⟨d,t,G,J⟩;refine WR r (az (z Z F d t _ G (E n d t J)) fun b K Y=>?_);obtain⟨u,x,i⟩:=Y;cases b with|true=>(obtain⟨N,y,i⟩:=i;rw[Vm rfl];refine WR r (az (hb Z K d u _ x i) fun f s3 j=>?_);cases f with|next=>(obtain⟨a,g,k,l⟩:=j;obtain⟨m,o,p⟩:=y a g l;exact⟨m,o,a,g,k,p⟩)|cont=>(obtain⟨a,g,k,l⟩:=j;obtain⟨m,o,p⟩:=y a g l;exact⟨m,o,a,g,k,p⟩)|brk=>exact j|ret v=>exact j)|false=>rw[Vi U3];exact Xb ⟨d,u,x,i⟩
end
structure It where
 go:Nat->Hp->Prop
 yld:Nat->Hp->V->Hp->Prop
 stop:Nat->Hp->Prop
def cK (X:Cx)(Z:List (Addr×Obj))(H:Hp)(b:Addr):Prop:=H b=none/\b≠X.env.locals/\b∉X.fs/\(b∈X.ex∨X.s₀.heap.objs.size<=b)/\(∀x c,X.env.cells.lookup x=some c->c≠b)/\∀p∈X.pn++Z,p.1≠b
theorem Inv.fpOk {s:Shared}(I:Inv X Z σ H s)(hb:s.heap.objs.size<=b)(a:H' b=none):cK X Z H' b:=by refine⟨a,Wb (Ve I.lt hb),I.nofs hb,.inr (VL I.sz hb),fun x c e z=>?_,fun p d z=>?_⟩;obtain⟨v,q⟩:=I.cell x c e;exact absurd (Ve q.lt (by rw[z];exact hb)) (VI _);exact absurd (Ve (Va (I.pin p d).1) (by rw[z];exact hb)) (VI _)
structure dy (P:Program)(w:World)(K:W.Frag)(S:Expr)(J:It)(fp:List Addr)(it:Addr)(tn:Nat->Heap->Prop):Prop where
 mem:it∈fp
 obj:∀i h,tn i h->∀b∈fp,∃o,h.get? b=some o/\∀v,o.data ≠ .cell v
 keep:∀i h h',tn i h->(∀b∈fp,∀o,h.get? b=some o->h'.get? b=some o)->tn i h'
 item:∀(X:Cx),X.prog=P->X.w=w->X.K=K->X.calm=true->∀(i:Nat)(Z:List (Addr×Obj))(s:Shared)(σ:St)(H:Hp)(E:Value->Shared->Prop),Inv X Z σ H s->(∀b∈fp,cK X Z H b)->tn i s.heap->J.go i H →wpAny (model P w) X.A (pyNext (.ref it)) (fun r s1=>∃u,r=some u ∧wpAny (model P w) X.A (letOwnedTupleGo S (.ref it) u) (fun _ s2=>∃x H',Inv X Z σ H' s2/\RelV x u/\J.yld i H x H'/\tn (i+1) s2.heap/\∀b∈fp,H' b=none) E s1) E s
 done:∀(X:Cx),X.prog=P->X.w=w->X.K=K->X.calm=true->∀(i:Nat)(Z:List (Addr×Obj))(s:Shared)(σ:St)(H:Hp)(E:Value->Shared->Prop),Inv X Z σ H s->(∀b∈fp,cK X Z H b)->tn i s.heap->J.stop i H →wpAny (model P w) X.A (pyNext (.ref it)) (fun r s1=>r=none/\Inv X Z σ H s1) E s
 self:∀(A:Around)(i:Nat)(s:Shared)(Q:Value->Shared->Prop)(E:Value->Shared->Prop),tn i s.heap->Q (.ref it) s->wpAny (model P w) A (pyIter (.ref it)) Q E s
abbrev TI:=St->Hp->(It->Hp->Prop)->Prop
def AN (X:Cx)(Z:List (Addr×Obj))(σ:St)(S:Expr)(R:It->Hp->Prop)(d:Value)(a:Shared):Prop:=∃(it:Addr)(fp:List Addr)(c:Nat->Heap->Prop)(J:It)(H':Hp),d=.ref it/\Inv X Z σ H' a/\dy X.prog X.w X.K S J fp it c/\c 0 a.heap/\(∀b∈fp,cK X Z H' b)/\R J H'
def PI (X:Cx)(S iter:Expr)(a:TI):Prop:=∀(Z:List (Addr×Obj))(s:Shared)(σ:St)(H:Hp)(R:It->Hp->Prop),Inv X Z σ H s->a σ H R →wpAny (model X.prog X.w) X.A (eval iter X.env) (fun v b=>wpAny (model X.prog X.w) X.A (pyIter v) (AN X Z σ S R) X.xe b) X.xe s
theorem y9 {M:Model}{A:Around}{E:Value->Shared->Prop}{s:Shared}{o:Obj}{n:String}{vs:Array Value}{Q:Unit->Shared->Prop}(b:s.heap.get? it=some o)(c:o.cls=.type n)(hd:o.data=.fields vs)
  (d : ["enumerate","zip","dict_itemiterator","dict_reverseitemiterator","odict_iterator","itertools.zip_longest","itertools.pairwise"].contains n=false) (a:Q () s):wpAny M A (letOwnedTupleGo S (.ref it) u) Q E s:=by
 unfold letOwnedTupleGo
 cases S <;> first
  |exact U2 a
  | (cases u <;> first
    |exact U2 a
    | (refine UZ (wpAny_load b ?_)
       rw[c,hd];show wpAny M A (if (["enumerate","zip","dict_itemiterator","dict_reverseitemiterator","odict_iterator","itertools.zip_longest","itertools.pairwise"].contains n&&vs[0]? == some (rawInt _))=true then _ else _) Q E s;rw[Vi (by intro h;rw[d,Bool.false_and] at h;cases h)]
       exact U2 a))
noncomputable def Jg (K:W.Frag)(a:Addr):It:=⟨fun i H=>∃xs x,SqL K H a xs/\xs[i]?=some x,fun i H x H'=>H'=H/\∀xs,SqL K H a xs->xs[i]?=some x,fun i H=>∃xs,SqL K H a xs/\xs.length<=i⟩
noncomputable def km (K:W.Frag)(a:Addr):It:=⟨fun i H=>∃xs x,SqT K H a xs/\xs[i]?=some x,fun i H x H'=>H'=H/\∀xs,SqT K H a xs->xs[i]?=some x,fun i H=>∃xs,SqT K H a xs/\xs.length<=i⟩
noncomputable def uU (lo:Int)(n:Nat):It:=⟨fun i _=>i<n,fun i H x H'=>H'=H/\x=.int (lo+i),fun i _=>n<=i⟩
theorem S6 (a it:Addr):dy P w K S (Jg K a) [it] it (fun i h=>h.IsListIter it a i) where
 mem:=by simp
 obj:=fun i h st b hb=>by
  have e:b=it:=by simpa using hb
  subst e;obtain⟨o,e,c,d⟩:=st;exact⟨o,e,fun v z=>by rw[d] at z;cases z⟩
 keep:=fun i h h' st k=>st.at fun o e=>k it (by simp) o e
 item:=by intro X hP hw hK hc i Z s σ H E I hf st hg;subst hP hw hK;obtain⟨xs,x,hq,hx⟩:=hg;obtain⟨G,rv,p,hz⟩:=I.list hq;obtain⟨u,hu,ru⟩:=rv.get hx;obtain⟨f0,f1,f2,f3,f4,f5⟩:=hf it (by simp);refine wpAny_pyNext_list_item st p.isList (x:=u) (by simpa using hu) fun h' iP sb=>?_;have I1:Inv X Z σ H { s with heap:=h' }:=I.turned (t':=s.toks) (fun b o hb e=>(sb.2 b hb).trans e) f0 f1 f3 f4 f5;obtain⟨o,e,c,d⟩:=id iP;exact⟨u,rfl,y9 (s:={ s with heap:=h' }) e c d (by decide) ⟨x,H,I1,ru,⟨rfl,fun ys hy=>by rw[I.list_inj hy hq];exact hx⟩,iP,fun b hb=>(hf b hb).1⟩⟩
 done:=by intro X hP hw hK hc i Z s σ H E I hf st hg;subst hP hw hK;obtain⟨xs,hq,hx⟩:=hg;obtain⟨G,rv,p,hz⟩:=I.list hq;obtain⟨f0,f1,f2,f3,f4,f5⟩:=hf it (by simp);have hl:=rv.length;exact wpAny_pyNext_list_end (I.ok.hd hc) st p.isList (by simp;lia) fun h' eb=>⟨rfl,I.turned (t':=s.toks) (fun b o hb e=>eb b o hb e) f0 f1 f3 f4 f5⟩
 self:=fun _ _ _ _ _ st h=>wpAny_pyIter_listiter st h
theorem FG (a it:Addr):dy P w K S (km K a) [it] it (fun i h=>h.IsTupleIter it a i) where
 mem:=by simp
 obj:=fun i h st b hb=>by
  have e:b=it:=by simpa using hb
  subst e;obtain⟨o,e,c,d⟩:=st;exact⟨o,e,fun v z=>by rw[d] at z;cases z⟩
 keep:=fun i h h' st k=>st.at fun o e=>k it (by simp) o e
 item:=by intro X hP hw hK hc i Z s σ H E I hf st hg;subst hP hw hK;obtain⟨xs,x,hq,hx⟩:=hg;obtain⟨G,rv,p,hz⟩:=I.tuple hq;obtain⟨u,hu,ru⟩:=rv.get hx;obtain⟨f0,f1,f2,f3,f4,f5⟩:=hf it (by simp);refine wpAny_pyNext_tuple_item st (show s.heap.IsTuple a G.toArray from p) (x:=u) (by simpa using hu) fun h' iP sb=>?_;have I1:Inv X Z σ H { s with heap:=h' }:=I.turned (t':=s.toks) (fun b o hb e=>(sb.2 b hb).trans e) f0 f1 f3 f4 f5;obtain⟨o,e,c,d⟩:=id iP;exact⟨u,rfl,y9 (s:={ s with heap:=h' }) e c d (by decide) ⟨x,H,I1,ru,⟨rfl,fun ys hy=>by rw[I.tuple_inj hy hq];exact hx⟩,iP,fun b hb=>(hf b hb).1⟩⟩
 done:=by intro X hP hw hK hc i Z s σ H E I hf st hg;subst hP hw hK;obtain⟨xs,hq,hx⟩:=hg;obtain⟨G,rv,p,hz⟩:=I.tuple hq;obtain⟨f0,f1,f2,f3,f4,f5⟩:=hf it (by simp);have hl:=rv.length;exact wpAny_pyNext_tuple_end (I.ok.hd hc) st (show s.heap.IsTuple a G.toArray from p) (by simp;lia) fun h' eb=>⟨rfl,I.turned (t':=s.toks) (fun b o hb e=>eb b o hb e) f0 f1 f3 f4 f5⟩
 self:=fun _ _ _ _ _ st h=>wpAny_pyIter_tupleiter st h
theorem Q2 (it:Addr)(lo:Int)(n:Nat):dy P w K S (uU lo n) [it] it (fun i h=>IsRangeIter h it (lo+(i:Nat)*1) ((n:Int)-(i:Nat)) 1) where
 mem:=by simp
 obj:=fun i h st b hb=>by
  have e:b=it:=by simpa using hb
  subst e;exact⟨_,st,fun v z=>by
   have z':Data.fields _=Data.cell v:=z
   cases z'⟩
 keep:=fun i h h' st k=>k it (by simp) _ st
 item:=by intro X hP hw hK hc i Z s σ H E I hf st hg;subst hP hw hK;obtain⟨f0,f1,f2,f3,f4,f5⟩:=hf it (by simp);have W:=Walks.range (prog:=X.prog) (w:=X.w) (I.ok.hd hc) it lo 1 n;refine W.item i s _ _ hg st fun v h' tk hv iP kk=>?_;obtain⟨t,rfl⟩:=hv;have I1:Inv X Z σ H { s with heap:=h',toks:=tk }:=I.turned (fun b o hb e=>kk b o (by simpa using hb) e) f0 f1 f3 f4 f5;refine⟨_,rfl,y9 (s:={ s with heap:=h',toks:=tk }) (n:="range_iterator") iP rfl rfl (by decide) ⟨.int (lo+i),H,I1,⟨t,?_⟩,⟨rfl,rfl⟩,iP,fun b hb=>(hf b hb).1⟩⟩;rw[Int.mul_one]
 done:=by intro X hP hw hK hc i Z s σ H E I hf st hg;subst hP hw hK;obtain⟨f0,f1,f2,f3,f4,f5⟩:=hf it (by simp);exact wpAny_pyNext_range_end (I.ok.hd hc) st (by have:n<=i:=hg;lia) fun h' eb=>⟨rfl,I.turned (t':=s.toks) (fun b o hb e=>eb b o hb e) f0 f1 f3 f4 f5⟩
 self:=fun _ _ _ _ _ st h=>wpAny_pyIter_rangeiter st h
section
def Ub (K:W.Frag)(tl:TE):TI:=fun σ H R=>tl σ H fun x b=>∃a,x=.ref a/\(∃xs,SqT K b a xs)/\R (km K a) b
theorem Cm {l:Expr}{tl:TE}(f:PE X l tl):PI X S l (Ub X.K tl):=by
 intro Z s σ H R I h;refine az (f Z s σ H _ I h) fun v c z=>?_;obtain⟨x,g,d,i,j⟩:=z;obtain⟨a,e,⟨xs,k⟩,q⟩:=j;subst e;cases i;obtain⟨G,m,p,n⟩:=d.tuple k;refine WN (show c.heap.IsTuple a G.toArray from p) ?_;refine⟨c.heap.objs.size,[c.heap.objs.size],_,_,g,rfl,d.kept (t':=c.toks) fun b o e=>U0 _ e,FG a _,⟨_,U8 _ rfl,rfl,rfl⟩,fun b hb=>?_,q⟩;have e:b=c.heap.objs.size:=by simpa using hb
 subst e;exact d.fpOk (U5 _) (d.hok.fresh (U5 _))
theorem OH {s:Shared}{R:It->Hp->Prop}{E:Value->Shared->Prop}{lo a:Int}{t u v:Tok}{tk:Nat}(I:Inv X Z σ H s)(h1 : -(2 ^ 62)<=lo)(Y:lo<2 ^ 62)(d : -(2 ^ 62)<=a)(f:a<2 ^ 62)
  (q:R (uU lo (a-lo).toNat) H):wpAny (model X.prog X.w) X.A (pyIter (.ref s.heap.objs.size)) (AN X Z σ S R) E { s with heap:=s.heap.push { cls:=.type "range",data:=.fields #[.int lo t,.int a u,.int 1 v] },toks:=tk }:=by
 refine wpAny_pyIter_range (IsRange.new ..) (small_one h1 Y d f) ?_;have c:Inv X Z σ H { s with heap:=s.heap.push { cls:=.type "range",data:=.fields #[.int lo t,.int a u,.int 1 v] },toks:=tk }:=I.kept fun b o e=>U0 _ e
 refine⟨(s.heap.push { cls:=.type "range",data:=.fields #[.int lo t,.int a u,.int 1 v] }).objs.size,[(s.heap.push { cls:=.type "range",data:=.fields #[.int lo t,.int a u,.int 1 v] }).objs.size],_,_,H,rfl,c.kept (t':=tk) fun b o e=>U0 _ e,Q2 _ lo (a-lo).toNat,?_,fun b hb=>?_,q⟩
 .have g:lo+((0:Nat):Int)*1=lo:=by simp
  have h:(((a-lo).toNat:Nat):Int)-((0:Nat):Int)=Builtin.Range.rangeSize lo a 1:=by rw[rangeSize_one];split <;> lia
  show IsRangeIter _ _ (lo+((0:Nat):Int)*1) ((((a-lo).toNat:Nat):Int)-((0:Nat):Int)) 1;rw[g,h];exact U8 _ rfl
 .have e:b=(s.heap.push { cls:=.type "range",data:=.fields #[.int lo t,.int a u,.int 1 v] }).objs.size:=by simpa using hb
  subst e;exact c.fpOk (U5 _) (c.hok.fresh (U5 _))
def Cj (ta:TA):TI:=fun σ H R=>ta σ H fun vs a=>∃j:Int,vs=[.int j] /\ -(2 ^ 62)<=j/\j<2 ^ 62/\R (uU 0 j.toNat) a
theorem Qm {a:Expr}{ta:TA}(c:Gl X "range")(d:X.mg "range"=none)(f:PA X [a] ta)(g:starEach [a] X.env=[(false,eval a X.env)]:=by rfl):PI X S (.Call (.Name "range" p) [a] [] pos) (Cj ta):=by intro Z s σ H R I h;refine Call_ (mI I c d boot_range (WY (az (f pos Z s σ H _ I h) fun B n z=>?_) g rfl));obtain⟨vs,o,i,k,b⟩:=z;obtain⟨j,e,b,l,q⟩:=b;subst e;cases k with|cons r m=>cases m;obtain⟨t,rfl⟩:=r;exact call_range_1 (OH i (by lia) (by lia) b l (by simpa using q))
def IJ (d:TI)(g:TG)(tb:TS):TS:=fun D σ H=>d σ H fun J e=>∃W:Nat->Nat->St->Hp->Prop,(∃m,W 0 m σ e)/\∀i m σ H,W i m σ H →(J.stop i H/\D.nx σ H)∨(J.go i H/\∃N:St->Hp->Prop,(∀ a H',N a H'->∃c,c<m/\W (i+1) c a H')/\∀x H',J.yld i H x H'->g x σ H' fun b f=>tb { D with nx:=N,ct:=N,bk:=D.nx } b f)
noncomputable def qQ (fp:List Addr)(h:Heap):List (Addr×Obj):=fp.filterMap fun b=>(h.get? b).map fun o=>(b,o)
theorem uO {h:Heap}{o:Obj}(hb:b∈fp)(e:h.get? b=some o):(b,o)∈qQ fp h:=mem_filterMap.mpr ⟨b,hb,by rw[e];rfl⟩
theorem Ql {h:Heap}{p:Addr×Obj}(a:p∈qQ fp h):p.1∈fp/\h.get? p.1=some p.2:=by obtain⟨b,hb,e⟩:=mem_filterMap.mp a;cases q:h.get? b with|none=>(rw[q] at e;cases e)|some o=>rw[q] at e;have c:(b,o)=p:=Vq e;subst c;exact⟨hb,q⟩
theorem Inv.pinned {s:Shared}(I:Inv X Z σ H s)(c:∀b∈fp,cK X Z H b)(f:∀b∈fp,∃o,s.heap.get? b=some o/\∀v,o.data ≠ .cell v):Inv X (Z++qQ fp s.heap) σ H s:=I.pins_of fun p g=>(Vo.mp g).elim (fun z=>I.pin p (VP _ z)) fun z=>by obtain⟨hb,e⟩:=Ql z;obtain⟨h,f1,i,_⟩:=c p.1 hb;obtain⟨o,a,d⟩:=f p.1 hb;rw[e] at a;cases a;exact⟨e,h,f1,i,d⟩
theorem Inv.unpinned {pl:List (Addr×Obj)}{s:Shared}(I:Inv X (Z++pl) σ H s):Inv X Z σ H s:=I.pins_of fun p a=>I.pin p (VP _ (V6 _ a))
theorem Ea {P:TI}{tb:TS}(t:PassesOwn (model X.prog X.w) X.A X.env X.xe)(Q:X.calm=true)(hi:PI X S iter P)(hg:PG X S g)(hb:PSs X body tb)
  (hs:∀x,foldedSetIterable iter X.env x=pure x:=by intro _;rfl):PS X (.For S iter body [] pos) (IJ P g tb):=by
 intro Z s σ H D I h;refine wpAny_For (az (hi Z s σ H _ I h) fun v s1 h1=>az h1 fun se s2 Y=>?_) hs;obtain⟨it,fp,R,J,H2,e,I2,T,E,U,W,⟨m0,w0⟩,b8⟩:=Y;subst e;have F:∀{H':Hp},(∀b∈fp,H' b=none)->∀b∈fp,cK X Z H' b:=fun hn b hb=>⟨hn b hb,(U b hb).2⟩;refine codeAny_forLoop_any (fun n s'=>∃i c H',Inv X Z c H' s'/\R i s'.heap/\(∀b∈fp,H' b=none)/\W i n c H') ?_ m0 ⟨0,σ,H2,I2,E,fun b hb=>(U b hb).1,w0⟩;rintro n s3 ⟨i,j,C,V,y,z,w3⟩;rcases b8 i n j C w3 with ⟨stop,qn⟩|⟨go,N,hN,step⟩
 .refine WR t (az (T.done X rfl rfl rfl Q i Z s3 j C X.xe V (F z) y stop) fun r s4 z0=>?_);obtain⟨G,I4⟩:=z0;subst G;exact Xb ⟨j,C,I4,qn⟩
 .refine WR t (az (T.item X rfl rfl rfl Q i Z s3 j C X.xe V (F z) y go) fun r s4 z1=>?_);obtain⟨u,G,h4⟩:=z1
  subst G;refine WR t (az h4 fun _ s5 z2=>?_);obtain⟨x,H5,I5,r5,y5,q,K⟩:=z2;have L:=I5.pinned (F K) (T.obj _ _ q);refine WR t (az (hg _ s5 j H5 x u _ L r5 (step x H5 y5)) fun _ s6 z3=>?_);obtain⟨M,H6,I6,q6⟩:=z3;refine WR t (az (hb _ s6 M H6 _ I6 q6) fun f O p=>?_);have again:∀{a:St}{k:Hp},Inv X (Z++qQ fp s5.heap) a k O->N a k->∃m,m<n/\∃i c H',Inv X Z c H' O/\R i O.heap/\(∀b∈fp,H' b=none)/\W i m c H':=fun {a k} l B=>by obtain⟨m',hm,w7⟩:=hN a k B;refine⟨m',hm,i+1,a,k,l.unpinned,T.keep _ _ _ q fun b hb o e=>(l.pin (b,o) (VP _ (VP _ (uO hb e)))).1,fun b hb=>?_,w7⟩;obtain⟨o,e,d⟩:=T.obj _ _ q b hb;exact(l.pin (b,o) (VP _ (VP _ (uO hb e)))).2.1
  cases f with
  |next=>obtain⟨a,k,l,B⟩:=p;exact again l B
  |cont=>obtain⟨a,k,l,B⟩:=p;exact again l B
  |brk=>obtain⟨a,k,l,p⟩:=p;exact⟨a,k,l.unpinned,p⟩
  |ret v=>obtain⟨x7,a,k,l,r7,p⟩:=p;exact⟨x7,a,k,l.unpinned,r7,p⟩
end
theorem NV {tb:TS}{D:a7}(Pv:Nat->St->Hp->Prop)(h0:Pv 0 σ H)(j:∀i σ H,i<=xs.length->Pv i σ H->SqT K H a xs)
  (k:∀i x σ H,xs[i]?=some x->Pv i σ H->g x σ H fun b d=>tb { D with nx:=Pv (i+1),ct:=Pv (i+1),bk:=D.nx } b d) (hd:∀ σ H,Pv xs.length σ H->D.nx σ H):
  ∃W:Nat->Nat->St->Hp->Prop,(∃m,W 0 m σ H)/\∀i m σ H,W i m σ H →((km K a).stop i H/\D.nx σ H)∨((km K a).go i H/\∃N:St->Hp->Prop,(∀ c H',N c H'->∃f,f<m/\W (i+1) f c H')/\∀x H',(km K a).yld i H x H'->g x σ H' fun b d=>tb { D with nx:=N,ct:=N,bk:=D.nx } b d):=by
 refine⟨fun i m σ H=>m=xs.length-i/\i<=xs.length/\Pv i σ H,⟨xs.length,by simp,VW _,h0⟩,?_⟩;rintro i m σ H ⟨rfl,l,p⟩;have q:=j i σ H l p
 by_cases h:i<xs.length
 .refine .inr ⟨⟨xs,xs[i],q,by simp [h]⟩,Pv (i+1),fun c H' n=>⟨xs.length-(i+1),by lia,rfl,h,n⟩,fun x H' y=>?_⟩;obtain⟨e,y⟩:=y;subst e;exact k i x σ _ (y xs q) p
 .have e:i=xs.length:=by lia
  subst e;exact .inl ⟨⟨xs,q,U5 _⟩,hd σ H p⟩
abbrev R2:=V->V->Hp->VK->Prop
def OpR (X:Cx)(f:Value->Value->Sem Value)(r:R2):Prop:=∀(Z:List (Addr×Obj))(s:Shared)(σ:St)(H:Hp)(x y:V)(v u:Value)(Q:VK),Inv X Z σ H s->RelV x v->RelV y u->r x y H Q →wpAny (model X.prog X.w) X.A (f v u) (EP X Z σ Q) X.xe s
def AK (X:Cx)(f:Value->Sem Value)(r:V->Hp->VK->Prop):Prop:=∀(Z:List (Addr×Obj))(s:Shared)(σ:St)(H:Hp)(x:V)(v:Value)(Q:VK),Inv X Z σ H s->RelV x v->r x H Q →wpAny (model X.prog X.w) X.A (f v) (EP X Z σ Q) X.xe s
def c8 (X:Cx)(f:Value)(r:List V->Hp->VK->Prop):Prop:=∀(Z:List (Addr×Obj))(s:Shared)(σ:St)(H:Hp)(xs:List V)(B:List Value)(Q:VK),Inv X Z σ H s->Vals xs B->r xs H Q →wpAny (model X.prog X.w) X.A (call f B) (EP X Z σ Q) X.xe s
def Ua (X:Cx)(r:V->Hp->(Bool->Hp->Prop)->Prop):Prop:=∀(Z:List (Addr×Obj))(s:Shared)(σ:St)(H:Hp)(x:V)(v:Value)(Q:Bool->Hp->Prop),Inv X Z σ H s->RelV x v->r x H Q →wpAny (model X.prog X.w) X.A (truthy v) (TP X Z σ Q) X.xe s
def oQ (r:R2)(ta tb:TE):TE:=fun σ H Q=>ta σ H fun x a=>tb σ a fun y b=>r x y b Q
def vX (r:V->Hp->VK->Prop)(ta:TE):TE:=fun σ H Q=>ta σ H fun x a=>r x a Q
def rI (C:Int->Int->Prop)(g:Int->Int->V):R2:=fun x y H Q=>∃i j,x=.int i/\y=.int j/\C i j/\Q (g i j) H
def ju (g:Int->Int->V):R2:=fun x y H Q=>∃i j,x=.int i/\y=.int j/\Q (g i j) H
def rU (g:Int->V):V->Hp->VK->Prop:=fun x H Q=>∃i,x=.int i/\Q (g i) H
variable {r r':R2}
section
variable {a b c:Expr}{tb tc:TE}
theorem yg (g:PE X a ta)(hb:PE X b tb){Z:List (Addr×Obj)}{s:Shared}{σ:St}{H:Hp}{R:V->V->Hp->Prop}(I:Inv X Z σ H s)
  (h:ta σ H fun x e=>tb σ e fun y c=>R x y c) {Q:Value->Shared->Prop} {f:Value->Value->Sem Value}
  (i:∀v u d x y c,Inv X Z σ c d->RelV x v->RelV y u->R x y c->wpAny (model X.prog X.w) X.A (f v u) Q X.xe d):
  wpAny (model X.prog X.w) X.A (eval a X.env) (fun v s₁=>wpAny (model X.prog X.w) X.A (eval b X.env) (fun u s₂=>wpAny (model X.prog X.w) X.A (f v u) Q X.xe s₂) X.xe s₁) X.xe s:=by
 refine az (g Z s σ H _ I h) fun v j z=>?_;obtain⟨x,e,k,l,m⟩:=z;refine az (hb Z j σ e _ k m) fun u d t=>?_;obtain⟨y,c,n,o,p⟩:=t;exact i v u d x y c n l o p
theorem om {op:Operator}(c:OpR X (binaryOp op) r)(d:PE X a ta)(hb:PE X b tb):PE X (.BinOp a op b pos) (oQ r ta tb):=by intro Z s σ H Q I h;exact wpAny_BinOp (yg d hb I h fun v u e x y f g i j q=>c Z e σ f x y v u Q g i j q)
theorem CU {op:UnaryOp}{r:V->Hp->VK->Prop}(b:AK X (unaryOp op) r)(c:PE X a ta):PE X (.UnaryOp op a pos) (vX r ta):=by intro Z s σ H Q I h;exact UnaryOp_ (az (c Z s σ H _ I h) fun v d z=>by obtain⟨x,e,f,g,i⟩:=z;exact b Z d σ e x v Q f g i)
theorem rV {f:Value->Value->Sem Value}{C:Int->Int->Prop}{g:Int->Int->Int}
  (rule:∀(i j:Int)(t u:Tok)(s:Shared)(Q:Value->Shared->Prop)(E:Value->Shared->Prop),C i j->Q (.int (g i j) s.toks) { s with toks:=s.toks+1 }->wpAny (model X.prog X.w) X.A (f (.int i t) (.int j u)) Q E s):
  OpR X f (rI C fun i j=>.int (g i j)):=by
 intro Z s σ H x y v u Q I a b h;obtain⟨i,j,rfl,rfl,c,q⟩:=h;obtain⟨t,rfl⟩:=a;obtain⟨t',rfl⟩:=b;exact rule i j t t' s _ _ c ⟨.int (g i j),H,I.tok _,⟨_,rfl⟩,q⟩
theorem II {f:Value->Value->Sem Value}{g:Int->Int->Int}
  (rule:∀(i j:Int)(t u:Tok)(s:Shared)(Q:Value->Shared->Prop)(E:Value->Shared->Prop),Q (.int (g i j) s.toks) { s with toks:=s.toks+1 }->wpAny (model X.prog X.w) X.A (f (.int i t) (.int j u)) Q E s):
  OpR X f (ju fun i j=>.int (g i j)):=by
 intro Z s σ H x y v u Q I a b h;obtain⟨i,j,rfl,rfl,q⟩:=h;obtain⟨t,rfl⟩:=a;obtain⟨t',rfl⟩:=b;exact rule i j t t' s _ _ ⟨.int (g i j),H,I.tok _,⟨_,rfl⟩,q⟩
theorem tu {f:Value->Value->Sem Value}{g:Int->Int->Bool}
  (rule:∀(i j:Int)(t u:Tok)(s:Shared)(Q:Value->Shared->Prop)(E:Value->Shared->Prop),Q (.bool (g i j)) s->wpAny (model X.prog X.w) X.A (f (.int i t) (.int j u)) Q E s):
  OpR X f (ju fun i j=>.bl (g i j)):=by
 intro Z s σ H x y v u Q I a b h;obtain⟨i,j,rfl,rfl,q⟩:=h;obtain⟨t,rfl⟩:=a;obtain⟨t',rfl⟩:=b;exact rule i j t t' s _ _ ⟨.bl (g i j),H,I,rfl,q⟩
def IH (i j:Int):Prop:=0<=j/\j<=1000000/\i.natAbs<2 ^ 64
def CMul (i j:Int):Prop:=(-(2 ^ 64)<i/\i<2 ^ 64)∨(-(2 ^ 64)<j/\j<2 ^ 64)
theorem CMul.ok {i j:Int}(h:CMul i j):IntMulOk i j:=by rcases h with ⟨h1,Y⟩|⟨h1,Y⟩;exact .of_left (intBits_le_64 h1 Y);exact .of_right (intBits_le_64 h1 Y)
theorem op_add:OpR X (binaryOp .Add) (ju fun i j=>.int (i+j)):=II fun _ _ _ _ _ _ _ q=>add_int q
theorem Qk:OpR X (binaryOp .Sub) (ju fun i j=>.int (i-j)):=II fun _ _ _ _ _ _ _ q=>sub_int q
theorem op_mul:OpR X (binaryOp .Mult) (rI CMul fun i j=>.int (i*j)):=rV fun _ _ _ _ _ _ _ a q=>mul_int q a.ok
theorem Mw:OpR X (binaryOp .Mod) (rI (fun _ j=>0<j) fun i j=>.int (i % j)):=rV fun i j _ _ _ _ _ a q=>by have h1:(0:Int)<j:=a;exact mod_int' (by lia) (by rw[Int.fmod_eq_emod_of_nonneg i (by lia)];exact q)
theorem Mv:OpR X (binaryOp .Pow) (rI IH fun i j=>.int (i ^ j.toNat)):=rV fun _ _ _ _ _ _ _ a q=>pow_int_small a.1 a.2.1 a.2.2 q
theorem Jl {f:Value->Sem Value}{g:Int->Int}
  (rule:∀(i:Int)(t:Tok)(s:Shared)(Q:Value->Shared->Prop)(E:Value->Shared->Prop),Q (.int (g i) s.toks) { s with toks:=s.toks+1 }->wpAny (model X.prog X.w) X.A (f (.int i t)) Q E s):
  AK X f (rU fun i=>.int (g i)):=by
 intro Z s σ H x v Q I a h;obtain⟨i,rfl,q⟩:=h;obtain⟨t,rfl⟩:=a;exact rule i t s _ _ ⟨.int (g i),H,I.tok _,⟨_,rfl⟩,q⟩
theorem D9:AK X (unaryOp .USub) (rU fun i=>.int (-i)):=Jl fun _ _ _ _ _ q=>neg_int q
end
noncomputable def yf:V->V->Bool
 | .non,.non=>true | .non,.int _=>true | .int _,.non=>true | .non,.bl _=>true | .bl _,.non=>true | .non,.str _=>true | .str _,.non=>true
 | .int _,.int _=>true | .bl _,.bl _=>true | .str _,.str _=>true | .byt _,.byt _=>true
 | .int _,.str _=>true | .str _,.int _=>true | .bl _,.str _=>true | .str _,.bl _=>true
 |_,_=>false
def A7:R2:=fun x y H Q=>yf x y=true/\Q (.bl (decide (x=y))) H
def A5:R2:=fun x y H Q=>yf x y=true/\Q (.bl (!decide (x=y))) H
theorem Dv {i j:Int}:decide (V.int i=V.int j)=(i==j):=by rw[Bool.eq_iff_iff];simp
theorem CM {i j:Bool}:decide (V.bl i=V.bl j)=(i==j):=by rw[Bool.eq_iff_iff];simp
theorem Du {i j:Str}:decide (V.str i=V.str j)=(i==j):=by rw[Bool.eq_iff_iff];simp
theorem Dt {i j:Array UInt8}:decide (V.byt i=V.byt j)=(i.toList==j.toList):=by rw[Bool.eq_iff_iff];cases i;cases j;simp
section
variable {a b c:Expr}{tb tc:TE}
theorem bh {s:Shared}{Q:VK}{k a:Bool}(I:Inv X Z σ H s)(q:Q (.bl k) H)(e:k=a):EP X Z σ Q (.bool a) s:=by subst e;exact⟨.bl k,H,I,rfl,q⟩
theorem NU:OpR X (compareOp .Eq) A7:=by intro Z s σ H x y v u Q I c a h;obtain⟨b,q⟩:=h;cases x with|non=>(cases c;cases y with|non=>(cases a;exact PySem.EqNone.eq_none_none (bh I q (by simp)))|bl j=>(cases a;exact PySem.EqNone.eq_none_bool (bh I q (by simp)))|int j=>(obtain⟨t',rfl⟩:=a;exact PySem.EqNone.eq_none_int (bh I q (by simp)))|str j=>(obtain⟨t',rfl⟩:=a;exact PySem.EqNone.eq_none_str (bh I q (by simp)))|_=>exact absurd (show false=true from b) U3)|bl i=>(cases c;cases y with|non=>(cases a;exact PySem.EqNone.eq_bool_none (bh I q (by simp)))|bl j=>(cases a;exact eq_bool (bh I q CM))|str j=>(obtain⟨t',rfl⟩:=a;exact PySem.EqMixed.eq_bool_str (bh I q (by simp)))|_=>exact absurd (show false=true from b) U3)|int i=>(obtain⟨t,rfl⟩:=c;cases y with|non=>(cases a;exact PySem.EqNone.eq_int_none (bh I q (by simp)))|int j=>(obtain⟨t',rfl⟩:=a;exact eq_int (bh I q Dv))|str j=>(obtain⟨t',rfl⟩:=a;exact PySem.EqMixed.eq_int_str (bh I q (by simp)))|_=>exact absurd (show false=true from b) U3)|str i=>(obtain⟨t,rfl⟩:=c;cases y with|non=>(cases a;exact PySem.EqNone.eq_str_none (bh I q (by simp)))|bl j=>(cases a;exact PySem.EqMixed.eq_str_bool (bh I q (by simp)))|int j=>(obtain⟨t',rfl⟩:=a;exact PySem.EqMixed.eq_str_int (bh I q (by simp)))|str j=>(obtain⟨t',rfl⟩:=a;exact eq_str (bh I q Du))|_=>exact absurd (show false=true from b) U3)|byt i=>(obtain⟨t,rfl⟩:=c;cases y with|byt j=>(obtain⟨t',rfl⟩:=a;exact PySem.W.eq_bytes (bh I q Dt))|_=>exact absurd (show false=true from b) U3)|_=>cases y <;> exact absurd (show false=true from b) U3
theorem Ci:OpR X (compareOp .NotEq) A5:=by intro Z s σ H x y v u Q I c a h;obtain⟨b,q⟩:=h;cases x with|non=>(cases c;cases y with|non=>(cases a;exact PySem.EqNone.ne_none_none (bh I q (by simp)))|bl j=>(cases a;exact PySem.EqNone.ne_none_bool (bh I q (by simp)))|int j=>(obtain⟨t',rfl⟩:=a;exact PySem.EqNone.ne_none_int (bh I q (by simp)))|str j=>(obtain⟨t',rfl⟩:=a;exact PySem.EqNone.ne_none_str (bh I q (by simp)))|_=>exact absurd (show false=true from b) U3)|bl i=>(cases c;cases y with|non=>(cases a;exact PySem.EqNone.ne_bool_none (bh I q (by simp)))|bl j=>(cases a;exact ne_bool (bh I q (V8 not CM)))|str j=>(obtain⟨t',rfl⟩:=a;exact PySem.EqMixed.ne_bool_str (bh I q (by simp)))|_=>exact absurd (show false=true from b) U3)|int i=>(obtain⟨t,rfl⟩:=c;cases y with|non=>(cases a;exact PySem.EqNone.ne_int_none (bh I q (by simp)))|int j=>(obtain⟨t',rfl⟩:=a;exact ne_int (bh I q (V8 not Dv)))|str j=>(obtain⟨t',rfl⟩:=a;exact PySem.EqMixed.ne_int_str (bh I q (by simp)))|_=>exact absurd (show false=true from b) U3)|str i=>(obtain⟨t,rfl⟩:=c;cases y with|non=>(cases a;exact PySem.EqNone.ne_str_none (bh I q (by simp)))|bl j=>(cases a;exact PySem.EqMixed.ne_str_bool (bh I q (by simp)))|int j=>(obtain⟨t',rfl⟩:=a;exact PySem.EqMixed.ne_str_int (bh I q (by simp)))|str j=>(obtain⟨t',rfl⟩:=a;exact ne_str (bh I q (V8 not Du)))|_=>exact absurd (show false=true from b) U3)|byt i=>(obtain⟨t,rfl⟩:=c;cases y with|byt j=>(obtain⟨t',rfl⟩:=a;exact PySem.W.ne_bytes (bh I q (V8 not Dt)))|_=>exact absurd (show false=true from b) U3)|_=>cases y <;> exact absurd (show false=true from b) U3
theorem ye:OpR X (compareOp .Lt) (ju fun i j=>.bl (decide (i<j))):=tu fun _ _ _ _ _ _ _ q=>lt_int q
theorem yd:OpR X (compareOp .LtE) (ju fun i j=>.bl (decide (i<=j))):=tu fun _ _ _ _ _ _ _ q=>le_int q
theorem LK:OpR X (compareOp .Gt) (ju fun i j=>.bl (decide (j<i))):=tu fun _ _ _ _ _ _ _ q=>gt_int q
theorem LJ:OpR X (compareOp .GtE) (ju fun i j=>.bl (decide (j<=i))):=tu fun _ _ _ _ _ _ _ q=>ge_int q
theorem OpR.or {f:Value->Value->Sem Value}(h:OpR X f r)(h':OpR X f r'):OpR X f (fun x y H Q=>r x y H Q∨r' x y H Q):=by intro Z s σ H x y v u Q I a b q;rcases q with q|q;exact h Z s σ H x y v u Q I a b q;exact h' Z s σ H x y v u Q I a b q
theorem Qj (b:Expr){op:CmpOp}(h:op ≠ .In:=by decide)(Y:op ≠ .NotIn:=by decide):behindInMarks op b=false:=by
 have c:(op==CmpOp.In)=false:=by cases op <;> first|rfl|exact absurd rfl h
 have d:(op==CmpOp.NotIn)=false:=by cases op <;> first|rfl|exact absurd rfl Y
 cases b with|Set a k p=>(show (k==0&&(_||_)&&_)=false;rw[c,d];cases k==0 <;> rfl)|_=>rfl
theorem NT {op:CmpOp}(c:OpR X (compareOp op) r)(d:PE X a ta)(hb:PE X b tb)(e:behindInMarks op b=false):PE X (.Compare a [op] [b] pos) (oQ r ta tb):=by intro Z s σ H Q I h;exact wpAny_Compare1 (yg d hb I h fun v u f x y g i j k q=>c Z f σ g x y v u Q i j k q) e
def yA (t:TE):TT:=fun σ H Q=>t σ H fun x H'=>∃k,x=.bl k/\Q k H'
theorem Fi {op:CmpOp}(d:OpR X (compareOp op) r)(f:PE X a ta)(hb:PE X b tb)(g:behindInMarks op b=false):PT X (.Compare a [op] [b] pos) (yA (oQ r ta tb)):=by
 intro Z s σ H Q I h;refine wpAny_isTrue_Compare1 (az (f Z s σ H _ I h) fun v i ⟨x,j,l,m,n⟩=>az (hb Z i σ j _ l n) fun u o ⟨y,p,q,t,w⟩=>
  az (d Z o σ p x y v u _ q m t w) fun c s3 ⟨z,A,B,C,k,e,D⟩=>?_) g
 subst e;cases C;exact V0 ⟨A,B,D⟩
def yZ (r r':R2)(ta tb tc:TE):TE:=fun σ H Q=>ta σ H fun x b=>tb σ b fun y c=>r x y c fun z a=>∃k,z=.bl k ∧(if k=true then tc σ a fun d e=>r' y d e Q else Q (.bl false) a)
theorem OG {op f:CmpOp}(m:OpR X (compareOp op) r)(n:OpR X (compareOp f) r')(o:PE X a ta)(hb:PE X b tb)(p:PE X c tc)
  (q:lastMarks [op,f] [b,c]=false:=by with_unfolding_all rfl):PE X (.Compare a [op,f] [b,c] pos) (yZ r r' ta tb tc):=by
 intro Z s σ H Q I h
 refine Compare_chain (az (o Z s σ H _ I h) fun v t ⟨x,w,A,B,C⟩=>chain_link (az (hb Z t σ w _ A C) fun u D ⟨y,E,F,g,G⟩=>
  az (m Z D σ E x y v u _ F B g G) fun d s3 ⟨z,i,j,J,k,e,l⟩=>?_)) q
 subst e;cases J;refine V0 ?_
 cases k with
 |false=>exact ite_ff ⟨.bl false,i,j,rfl,l⟩
 |true=>exact ite_tt (chain_last (az (p Z s3 σ i _ j l) fun K L Y=>by obtain⟨M,N,O,P,R⟩:=Y;exact n Z L σ N y M u K Q O g P R))
theorem yJ {op f:CmpOp}(m:OpR X (compareOp op) r)(n:OpR X (compareOp f) r')(o:PE X a ta)(hb:PE X b tb)(p:PE X c tc)
  (q:lastMarks [op,f] [b,c]=false:=by with_unfolding_all rfl):PT X (.Compare a [op,f] [b,c] pos) (yA (yZ r r' ta tb tc)):=by
 intro Z s σ H Q I h
 refine isTrue_chain (az (o Z s σ H _ I h) fun v t ⟨x,w,A,B,C⟩=>test_link (az (hb Z t σ w _ A C) fun u D ⟨y,E,F,g,G⟩=>
  az (m Z D σ E x y v u _ F B g G) fun d s3 ⟨z,i,j,J,k,e,l⟩=>?_)) q
 subst e;cases J;refine V0 ?_
 cases k with
 |false=>obtain⟨k',K,L⟩:=l;cases K;exact ite_ff ⟨i,j,L⟩
 |true=>refine ite_tt (test_last (az (p Z s3 σ i _ j l) fun M N ⟨O,P,R,S,T⟩=>az (n Z N σ P y O u M _ R g S T) fun d' s5 z0=>?_));obtain⟨z2,U,V,W,k2,Y,q5⟩:=z0;subst Y;cases W;exact V0 ⟨U,V,q5⟩
def tq (K:W.Frag)(x:V)(H:Hp)(k:Bool):Prop:=match x with
 | .non=>k=false
 | .bl b=>k=b
 | .int i=>k=(i != 0)
 | .str y=>y.length<=sizeLine/\k=((y.length:Int) != 0)
 | .byt y=>y.size<=sizeLine/\k=((y.size:Int) != 0)
 | .ref p=>(∃xs,SqL K H p xs/\k=!xs.isEmpty)∨(∃xs,SqT K H p xs/\k=!xs.isEmpty)∨∃a,H p=some (.dK a)/\k=!a.isEmpty
 |_=>False
theorem Q1 {a:List (I × V)}{vs:List (I × Value)}(r:KV a vs):(!vs.isEmpty)=!a.isEmpty:=by cases r <;> rfl
theorem FF (r:Vals xs G):(!G.toArray.isEmpty)=!xs.isEmpty:=by cases r <;> simp
theorem mF:(sizeLine:Nat)<2 ^ 63:=by rw[Vr];decide
theorem Mu:Ua X (fun x H Q=>∃k,tq X.K x H k/\Q k H):=by intro Z s σ H x v Q I d h;obtain⟨k,e,q⟩:=h;have o:=mF;have u:=Vr;cases x with|non=>(cases d;have a:k=false:=e;subst a;exact truthy_none ⟨H,I,q⟩)|bl b=>(cases d;have a:k=b:=e;subst a;exact V0 ⟨H,I,q⟩)|int i=>(obtain⟨t,rfl⟩:=d;have a:k=(i != 0):=e;subst a;exact PySem.P.truthy_int ⟨H,I,q⟩)|str y=>(obtain⟨t,rfl⟩:=d;obtain⟨l,a⟩:y.length<=sizeLine/\k=((y.length:Int) != 0):=e;subst a;exact PySem.P.truthy_str (by lia) ⟨H,I.tok _,q⟩)|byt y=>(obtain⟨t,rfl⟩:=d;obtain⟨l,a⟩:y.size<=sizeLine/\k=((y.size:Int) != 0):=e;subst a;exact PySem.W.truthy_bytes (by lia) ⟨H,I.tok _,q⟩)|ref p=>(cases d;have a:(∃xs,SqL X.K H p xs/\k=!xs.isEmpty)∨(∃xs,SqT X.K H p xs/\k=!xs.isEmpty)∨∃f,H p=some (.dK f)/\k=!f.isEmpty:=e;rcases a with ⟨xs,g,a⟩|⟨xs,g,a⟩|⟨f,g,a⟩;subst a;obtain⟨G,r,pl,j⟩:=I.list g;have c:=r.length;exact wpAny_truthy_list pl.isList (by simp only [Vd];lia) ⟨H,I.tok _,by rw[FF r];exact q⟩;subst a;obtain⟨G,r,pl,j⟩:=I.tuple g;have c:=r.length;exact truthy_tuple pl (by simp only [Vd];lia) ⟨H,I.tok _,by rw[FF r];exact q⟩;subst a;obtain⟨j,n,vs,r,m⟩:f.length<=sizeLine/\(p==sysModules)=false/\∃vs,KV f vs/\s.heap.DictOf (fH X.prog X.w) p vs:=I.hok p _ g;have c:f.length=vs.length:=Paired.length r;exact wpAny_truthy_dict n m (by lia) ⟨H,I.tok _,by rw[Q1 r];exact q⟩)|_=>exact(show False from e).elim
theorem Fh (c:PE X a ta)(he:∀b,isTrue a X.env b=(do let v ← b;standAt a.pos;holding [v] (truthy v))):PT X a (fun σ H Q=>ta σ H fun x H'=>∃k,tq X.K x H' k/\Q k H'):=by intro Z s σ H Q I h;exact isTrue_plain (az (c Z s σ H _ I h) fun v d z=>by obtain⟨x,e,f,g,i⟩:=z;exact Mu Z d σ e x v Q f g i) (he _)
theorem Q0:OpR X (binaryOp .Add) (fun x y H Q=>∃i j,x=.str i/\y=.str j/\i.length+j.length<=sizeLine/\Q (.str (i++j)) H):=by intro Z s σ H x y v u Q I a b h;obtain⟨i,j,rfl,rfl,c,q⟩:=h;obtain⟨t,rfl⟩:=a;obtain⟨t',rfl⟩:=b;exact add_str (fun t' tk=>⟨.str (i++j),H,I.tok _,⟨_,rfl⟩,q⟩) c
theorem gK {x:V}(r:Vals [x] B):∃u,B=[u]/\RelV x u:=by cases r with|cons a b=>cases b;exact⟨_,rfl,a⟩
theorem sV {x:V}(r:Vals [x,y] B):∃u a,B=[u,a]/\RelV x u/\RelV y a:=by cases r with|cons b c=>cases c with|cons d e=>cases e;exact⟨_,_,rfl,b,d⟩
theorem Qi:c8 X (.type "int") (fun xs H Q=>(∃i,xs=[.int i]/\Q (.int i) H)∨∃k,xs=[.bl k]/\Q (.int (if k then 1 else 0)) H):=by intro Z s σ H xs B Q I r h;rcases h with ⟨i,rfl,q⟩|⟨k,rfl,q⟩;obtain⟨u,rfl,t,rfl⟩:=gK r;exact call_int_int ⟨.int i,H,I,⟨_,rfl⟩,q⟩;obtain⟨u,rfl,a⟩:=gK r;cases a;exact call_int_bool ⟨.int (if k then 1 else 0),H,I.tok _,⟨_,rfl⟩,q⟩
end
structure ObjM (h:Heap)(x U C:Addr)(mA:Str->Option Value):Prop where
 obj:h.get? x=some (PySem.W.instObj C U)
 ns:h.Ns1 U mA
 ne:U≠x
theorem tM {h:Heap}{b:Str->Option Value}(n:h.Ns1 U b):∃od,h.get? U=some od/\∀name,PySem.W.lookIn name od=some (b name):=by
 obtain⟨o,es,k,c,hd,d,_,f⟩:=n;refine⟨o,c,fun name=>?_⟩;have e:=f name;unfold nsFind findBy at e;rw[<- Array.find?_toList] at e;unfold PySem.W.lookIn;rw[hd];dsimp only;split;rename_i y q;rw[q] at e;exact V8 some e;rename_i q;rw[q] at e;have a:es.toList.any (·.refKey)=false:=by rw[List.any_eq_false];intro y g;obtain⟨z,t,i⟩:=d y (Array.mem_toList_iff.mp g);simp [DictEntry.refKey,i]
 have j:¬es.toList.any (·.refKey)=true:=by rw[a];exact U3
 rw[Vi j];exact V8 some e
theorem ObjM.look {h:Heap}{x:Addr}{a:Str->Option Value}(I:ObjM h x U C a):∃od,PySem.W.InstAt h x (PySem.W.instObj C U) C (some od)/\∀name,PySem.W.lookIn name od=some (a name):=let ⟨od,b,c⟩:=tM I.ns
 ⟨od,⟨I.obj,rfl,rfl,b⟩,c⟩
theorem RelO.some_of {v:V}{o:Option Value}(r:RelO (some v) o):∃u,o=some u/\RelV v u:=by cases o with|none=>exact(show False from r).elim|some u=>exact⟨u,rfl,r⟩
theorem Sq {v:V}(r:RelV v u):PySem.W.handedIn u=true:=by cases v with|non=>(cases (show u=Value.none from r);rfl)|bl b=>(cases (show u=Value.bool b from r);rfl)|int i=>(obtain⟨t,e⟩:=(show ∃t,u=Value.int i t from r);cases e;rfl)|str x=>(obtain⟨t,e⟩:=(show ∃t,u=Value.str x t from r);cases e;rfl)|byt b=>(obtain⟨t,e⟩:=(show ∃t,u=Value.bytes b t from r);cases e;rfl)|flt b=>(obtain⟨t,e⟩:=(show ∃t,u=Value.float b t from r);cases e;rfl)|ref a=>(cases (show u=Value.ref a from r);rfl)|ty n=>cases (show u=Value.type n from r);rfl
section
variable {h:Heap}{fs nD:List (Str×V)}
theorem NS (hok:HOk P w H h)(e:H a=some (.ins C U fs)):∃b,ObjM h a U C b/\(∀f,RelO (fs.lookup f) (b f))/\PySem.Within b (fs.map (·.1))/\fs.length<=1000/\H U=some (.own a):=by obtain⟨d,z,ne,ob,b,n,r,q⟩:=(show ObjOk P w H h a (.ins C U fs) from hok a _ e);exact⟨b,⟨ob,n,ne⟩,r,q,z,d⟩
end
structure Cls (K:W.Frag)(C:Addr):Prop where
 pg:PySem.W.plainGet K C Str.empty=true
 hd:PySem.W.hasDictIn K C=true
 po:PySem.W.plainOver K C=true
 sa:PySem.W.findIn K (.ref C) "__setattr__"=some (some (.builtin "object.__setattr__"))
theorem Cls.get (c:Cls K C)(f:Str):PySem.W.plainGet K C f=true:=c.pg
section
variable {s:Shared}{fs:List (Str×V)}{f:Str}{v:V}{A:Around}{E:Value->Shared->Prop}
theorem QP (hb:attributeBase e f env (eval e env)=eval e env)
  (h:wpAny (model prog w) A (eval e env) (fun o s₁=>wpAny (model prog w) A (getAttr o f true) Q E s₁) E s):wpAny (model prog w) A (eval (.Attribute e f pos) env) Q E s:=
 Attribute_any_ h (by rw[arm_eval_Attribute,hb])
end
section
variable {s:Shared}{A:Around}{E:Value->Shared->Prop}{c:Value}{b:Bool}
inductive bJ (K:W.Frag)(H:Hp):V->Value->Prop where
 |non:bJ K H .non (.type "NoneType")
 |bl (x:Bool):bJ K H (.bl x) (.type "bool")
 |int (i:Int):bJ K H (.int i) (.type "int")
 |str (x:Str):bJ K H (.str x) (.type "str")
 |flt (x:UInt64):bJ K H (.flt x) (.type "float")
 |lst {a:Addr} {xs:List V} (e:H a=some (.lst xs)):bJ K H (.ref a) (.type "list")
 |frz {a:Addr} {o:Obj} {xs:List V} (e:H a=some (.frz o (.lst xs))):bJ K H (.ref a) (.type "list")
 |tup {a:Addr} {xs:List V} (e:H a=some (.tup xs)):bJ K H (.ref a) (.type "tuple")
 |dK {a:Addr} {ag:List (aw×V)} (e:H a=some (.dK ag)):bJ K H (.ref a) (.type "dict")
 |dT {a:Addr} {ag:List (List aw×V)} (e:H a=some (.dT ag)):bJ K H (.ref a) (.type "dict")
 |ins {a C U:Addr} {fs:List (Str×V)} (e:H a=some (.ins C U fs)) (cl:Cls K C) (ha:PySem.W.findIn K (.ref C) "__class__"=some (some (.builtin "object.__class__")))
   (hn:PySem.W.specialIn K (.builtin "object.__class__") "__get__"=some (some (.builtin "getset_descriptor.__get__"))) (sr:PySem.W.takesIn K (.builtin "object.__class__")=some true)
   (hm:PySem.W.mroIn K C (.type "object")=some true):bJ K H (.ref a) (.ref C)
theorem Qh {x:V}{t:Value}(I:Inv X Z σ H s)(d:RelV x u)(ty:bJ X.K H x t)(e:PySem.W.kitOne X.K t c=some b)(h:∀tk,Q (.bool b) { s with toks:=tk }):wpAny (model X.prog X.w) A (call (.builtin "isinstance") [u,c]) Q E s:=by cases ty with|non=>(cases (show u=Value.none from d);exact VZ PySem.W.kitx_none I.kIn True.intro e (fun z=>nomatch z) h)|bl y=>(cases (show u=Value.bool y from d);exact VZ PySem.W.kitx_bool I.kIn True.intro e (fun z=>nomatch z) h)|int i=>(obtain⟨t,q⟩:=(show ∃t,u=Value.int i t from d);cases q;exact VZ PySem.W.kitx_int I.kIn True.intro e (fun z=>nomatch z) h)|str y=>(obtain⟨t,q⟩:=(show ∃t,u=Value.str y t from d);cases q;exact VZ PySem.W.kitx_str I.kIn True.intro e (fun z=>nomatch z) h)|flt y=>(obtain⟨t,q⟩:=(show ∃t,u=Value.float y t from d);cases q;exact VZ PySem.W.kitx_float I.kIn True.intro e (fun z=>nomatch z) h)| @lst a xs f=>(cases (show u=Value.ref a from d);obtain⟨_,_,n,_,h1⟩:=(show ObjOk X.prog X.w H s.heap a (.lst xs) from I.hok a _ f);exact VZ PySem.W.kitx_list I.kIn ⟨_,h1,rfl⟩ e (fun z=>nomatch z) h)| @frz a ob xs f=>(cases (show u=Value.ref a from d);obtain⟨_,_,_,n,_,h1⟩:=(show ObjOk X.prog X.w H s.heap a (.frz ob (.lst xs)) from I.hok a _ f);exact VZ PySem.W.kitx_list I.kIn ⟨_,h1,rfl⟩ e (fun z=>nomatch z) h)| @tup a xs f=>(cases (show u=Value.ref a from d);obtain⟨_,_,_,p⟩:=(show ObjOk X.prog X.w H s.heap a (.tup xs) from I.hok a _ f);obtain⟨o,h1,Y,_⟩:=p;exact VZ PySem.W.kitx_tuple I.kIn ⟨o,h1,Y⟩ e (fun z=>nomatch z) h)| @dK a g f=>(cases (show u=Value.ref a from d);obtain⟨_,_,vs,_,p⟩:=(show ObjOk X.prog X.w H s.heap a (.dK g) from I.hok a _ f);obtain⟨o,es,j,h1,Y,_⟩:=p;exact VZ PySem.W.kitx_dict I.kIn ⟨o,h1,Y.1⟩ e (fun z=>nomatch z) h)| @dT a g f=>(cases (show u=Value.ref a from d);obtain⟨_,_,xs,_,o,es,j,h1,Y,_⟩:=(show ObjOk X.prog X.w H s.heap a (.dT g) from I.hok a _ f);exact VZ PySem.W.kitx_dict I.kIn ⟨o,h1,Y.1⟩ e (fun z=>nomatch z) h)| @ins a C U fs f cl k l m r=>cases (show u=Value.ref a from d);obtain⟨v,O,_⟩:=NS I.hok f;obtain⟨od,J,_⟩:=O.look;exact VZ (PySem.W.kitx_own (cl.get _) cl.hd k l m r) I.kIn J e (fun z=>nomatch z) h
end
structure Room (k:Nat)(A:Around):Prop where
 hd:A.handled=none
 gd:A.guards=some []
 dp:A.depth+3*k+5<recursionLimit
 un:A.units+16*k+200<cLine
theorem Room.mono {k:Nat}{A:Around}(r:Room k A)(h:j<=k):Room j A:=⟨r.hd,r.gd,by have:=r.dp;lia,by have:=r.un;lia⟩
theorem Room.deeper {k:Nat}{A:Around}(r:Room (k+1) A)(env:Env):Room k (A.deeper env):=⟨r.hd,r.gd,by have:=r.dp;show A.depth+1+3*k+5<_;lia,by have:=r.un;show A.units+3+16*k+200<_;lia⟩
theorem Hf {A:Around}{a:List (Str×Value)}:(A.under (.builtin "type.__call__" ⟨.ref C::B,a⟩)).depth=A.depth+1:=by first|rfl|simp [Around.under,Code.weight,Code.isCreation,Code.isGuard,Code.isCaller,Code.frames,Code.isFrame,guardIds]
theorem Hc {A:Around}{a:List (Str×Value)}:(A.under (.builtin "type.__call__" ⟨.ref C::B,a⟩)).units=A.units+1:=by first|rfl|simp [Around.under,Code.cUnits,Code.frames,Code.isFrame]
theorem make_guards {A:Around}{a:List (Str×Value)}:(A.under (.builtin "type.__call__" ⟨.ref C::B,a⟩)).guards=A.guards:=by first|rfl|simp [Around.under,Code.guards,pushGuards,Code.isGuard,guardIds]
theorem Room.make {k:Nat}{A:Around}(r:Room (k+1) A)(C:Addr)(B:List Value)(a:List (Str×Value)):Room k (A.under (.builtin "type.__call__" ⟨.ref C::B,a⟩)):=⟨r.hd,make_guards.trans r.gd,by have:=r.dp;rw[Hf];lia,by have:=r.un;rw[Hc];lia⟩
theorem Room.depth {k:Nat}{A:Around}(r:Room k A):A.depth<recursionLimit:=by have:=r.dp;lia
theorem Room.units {k:Nat}{A:Around}(r:Room k A):A.units+64<cLine:=by have:=r.un;lia
def iM:TA:=fun _ H Q=>Q [] H
def ka (ta:TE)(a:TA):TA:=fun σ H Q=>ta σ H fun x b=>a σ b fun xs c=>Q (x::xs) c
section
variable {t:TA}
theorem pa_nil:PA X [] iM:=fun _ _ _ _ H Q I h=>Calls.spliced_nil ⟨[],H,I,.nil,h⟩
theorem fj (a:PE X e te)(b:PA X es t)(c:starEach (e::es) X.env=(false,eval e X.env)::starEach es X.env:=by rfl):PA X (e::es) (ka te t):=by intro pos Z s σ H Q I h;rw[c];show wpAny _ _ (spliced ((false,eval e X.env)::backTo pos (starEach es X.env))) _ _ s;refine Calls.spliced_cons (az (a Z s σ H _ I h) fun u d z=>?_);obtain⟨x,f,g,i,j⟩:=z;exact az (b pos Z d σ f _ g j) fun B o y=>by obtain⟨xs,k,l,m,n⟩:=y;exact ⟨x::xs,k,l,.cons i m,n⟩
def T9 (t:TA):TE:=fun σ H Q=>t σ H fun xs a=>xs.length<=sizeLine/\∀p,a p=none->Q (.ref p) (ax a p (.tup xs))
def T8 (t:TA):TE:=fun σ H Q=>t σ H fun xs a=>xs.length<=sizeLine/\∀p,a p=none->Q (.ref p) (ax a p (.lst xs))
theorem D8 {x1}(h:PA X es t):PE X (.Tuple es x1 pos) (T9 t):=by intro Z s σ H Q I f;refine wpAny_Tuple_spliced (az (h pos Z s σ H _ I f) fun B a ⟨xs,c,d,r,z,q⟩=>⟨by rw[<- r.length];exact z,?_⟩);have g:c a.heap.objs.size=none:=d.hok.fresh (U5 _);refine⟨.ref a.heap.objs.size,ax c a.heap.objs.size (.tup xs),d.laid (t':=a.toks) (fun b u e=>U0 _ e) (U5 _) ?_,rfl,q _ g⟩;exact⟨z,B,r,⟨_,U8 _ rfl,rfl,_,rfl,rfl⟩⟩
theorem zM (h:PA X es t):PE X (.List es pos) (T8 t):=by intro Z s σ H Q I f;refine wpAny_List_spliced (az (h pos Z s σ H _ I f) fun B a ⟨xs,c,d,r,z,q⟩=>⟨by rw[<- r.length];exact z,?_⟩);have g:c a.heap.objs.size=none:=d.hok.fresh (U5 _);refine⟨.ref a.heap.objs.size,ax c a.heap.objs.size (.lst xs),d.laid (t':=a.toks) (fun b u e=>U0 _ e) (U5 _) ?_,rfl,q _ g⟩;exact⟨z,B,0,r,U8 _ rfl⟩
end
abbrev Sp:=List V->Hp->VK->XK->Prop
abbrev jE:=List Env->Hp->Shared->XK->Value->Shared->Prop
structure Env0 (P:Program)(w:World)(K:W.Frag)(mg:Str->Option Value)(base:Heap)(A:Around)(outer:List Env)(s:Shared)(H:Hp):Prop where
 frames:A.frames=some outer
 mod:Mod K mg base
 bs:∀b o,base.get? b=some o->s.heap.get? b=some o/\H b=none
 bsz:base.objs.size<=s.heap.objs.size
 funs:s.heap.FunFrames base outer
 frf:∀b∈bU outer,H b=none
 hok:HOk P w H s.heap
 bare:AllBare s.gens
def CE (outer:List Env)(P:Program)(w:World)(H:Hp)(s:Shared)(Q:VK)(u:Value)(s':Shared):Prop:=∃v H',s'.os=s.os/\AllBare s'.gens/\Un (bU outer) [] H H' s.heap s'.heap/\HOk P w H' s'.heap/\RelV v u/\Q v H'
def CR (CX:jE)(outer:List Env)(P:Program)(w:World)(H:Hp)(s:Shared)(Q:VK)(E:XK)(r:Result)(s':Shared):Prop:=match r with
 | .ok (.ret u)=>CE outer P w H s Q u s'
 | .ok _=>False
 | .error e=>CX outer H s E e s'
structure FnOk (P:Program)(w:World)(K:W.Frag)(mg:Str->Option Value)(base:Heap)(CX:jE)(k:Nat)(f:Addr)(fd:FuncData)(ps:List Str)(sp:Sp):Prop where
 len:∀vs H Q E,sp vs H Q E->vs.length=ps.length
 run:∀(A:Around)(outer:List Env)(s:Shared)(H:Hp)(args:Args)(B:List Value)(vs:List V)(Q:VK)(E:XK),Room k A->Env0 P w K mg base A outer s H->BindsTo s fd args (ps.zip B)->Vals vs B->sp vs H Q E →codeAny (model P w) A (.call (.ref f) args) (CR CX outer P w H s Q E) s
variable {CX:jE}
theorem FnOk.mono {k:Nat}{f:Addr}{sp:Sp}(F:FnOk P w K mg base CX j f fd ps sp)(h:j<=k):FnOk P w K mg base CX k f fd ps sp:=⟨F.len,fun A outer s H args B vs Q E a=>F.run A outer s H args B vs Q E (a.mono h)⟩
theorem Env0.make {A:Around}{outer:List Env}{s:Shared}(e:Env0 P w K mg base A outer s H)(C:Addr)(B:List Value)(a:List (Str×Value)):Env0 P w K mg base (A.under (.builtin "type.__call__" ⟨.ref C::B,a⟩)) outer s H:=⟨by first|exact e.frames | (simpa [Around.under,Code.envs,Code.isFrame,pushEnvs] using e.frames),e.mod,e.bs,e.bsz,e.funs,e.frf,e.hok,e.bare⟩
section
variable {s s':Shared}
theorem Inv.env0 (I:Inv X Z σ H s):Env0 X.prog X.w X.K X.mg X.base X.A X.stack s H:=⟨I.ok.frames,I.ok.mod,I.bs,VL I.ok.bsz I.sz,I.stack,I.stkFree,I.hok,I.bare⟩
theorem Inv.after {Q:VK}(I:Inv X Z σ H s)(h:CE X.stack X.prog X.w H s Q u s'):EP X Z σ Q u s':=by obtain⟨v,H',os,bare,un,hok,r,q⟩:=h;obtain⟨c,g,d,t,a⟩:=s';obtain rfl:a=s.os:=os;exact⟨v,H',I.call (h':=c) (g':=g) (d':=d) (t':=t) (ch:=[]) un hok bare (fun b z=>absurd z (by simp)),r,q⟩
end
def Cz (sp:Sp)(a:List V)(E:XK)(t:TA):TE:=fun σ H Q=>t σ H fun vs b=>sp (vs++a) b Q E
def Binds (K:W.Frag)(fd:FuncData)(ps:List Str)(a:List Value):Prop:=∀(s:Shared)(B:List Value),K.In s.heap->(B++a).length=ps.length->BindsTo s fd ⟨B,[]⟩ (ps.zip (B++a))
theorem Binds.all (h:∀B:List Value,B.length=ps.length->bindArgs fd ⟨B,[]⟩=pure (ps.zip B)):Binds K fd ps []:=fun s B _ a=>by rw[Vk] at a ⊢;exact .of_eq (h B a)
def tV (CX:jE)(X:Cx)(E:XK):Prop:=∀(Z:List (Addr×Obj))(σ:St)(H:Hp)(s:Shared)(e:Value)(s':Shared),Inv X Z σ H s->CX X.stack H s E e s'->X.xe e s'
section
variable {k:Nat}{f:Addr}{sp:Sp}{kU:List V}{ds:List Value}{E:XK}{m:Str}{o:Expr}{t:TA}
theorem NZ {s:Shared}{Q:VK}(F:FnOk X.prog X.w X.K X.mg X.base CX k f fd ps sp)(c:Room k X.A)(hb:Binds X.K fd ps ds)(hd:Vals kU ds)(d:tV CX X E)
  (I:Inv X Z σ H s) (r:Vals vs B) (h:sp (vs++kU) H Q E):wpAny (model X.prog X.w) X.A (call (.ref f) B) (EP X Z σ Q) X.xe s:=by
 have b:Vals (vs++kU) (B++ds):=r.append hd;have g:(B++ds).length=ps.length:=by rw[<- b.length];exact F.len _ _ _ _ h
 refine Wj (V3 (F.run X.A X.stack s H ⟨B,[]⟩ (B++ds) (vs++kU) Q E c I.env0 (hb s B I.kIn g) b h) fun r s' a=>?_)
 cases r with
 |error e=>exact d Z σ H s e s' I a
 |ok fl=>
  cases fl with
  |ret u=>exact I.after a
  |next=>exact False.elim a
  |brk=>exact False.elim a
  |cont=>exact False.elim a
theorem oF (F:FnOk X.prog X.w X.K X.mg X.base CX k f fd ps sp)(c:Room k X.A)(d:Gl X x)(g:X.mg x=some (.ref f))(i:PySem.W.keepIn X.K (.ref f)=true)(hb:Binds X.K fd ps ds)(hd:Vals kU ds)(j:tV CX X E)
  (l:PA X (e::es) t) (m:(x==("__debug__":Str))=false:=by decide) (he:starEach (e::es) X.env=(false,eval e X.env)::starEach es X.env:=by rfl) (a:(backTo pos (starEach es X.env)).any (·.1)=false:=by rfl):
  PE X (.Call (.Name x p) (e::es) [] pos) (Cz sp kU E t):=by
 intro Z s σ H Q I h;refine Wa (nY I d g ?_ m);refine WO (h₀:=X.base) I.ok.mod.kin i (az (l pos Z s σ H _ I h) fun B n ⟨vs,o,b,r,q⟩=>⟨b.kIn,?_⟩) he a;exact NZ F c hb hd j b r q
end
structure aB (N P:List Str)(sc:Scope):Prop where
 kind:sc.kind=.function
 co:sc.isCoroutine=false
 gen:sc.isGenerator=false
 nd:N.Nodup
 pre:N.take P.length=P
 par:∀x∈P,sc.names.lookup x=some .local∨sc.names.lookup x=some .cell
 nofree:∀y∈sc.names,y.2 ≠ .free
theorem EE {kindOf:Str->Option NameKind}:∀{binds:List (Str×Value)}{m:Str->Option Value},(∀v,(x,v)∉binds)->bindL kindOf binds m x=m x
 |[],_,_=>rfl
 | (n,v)::r,m,h=>by
  unfold bindL;rw[EE fun w a=>h w (Vb _ a)];split;have:x≠n:=by rintro rfl;exact h v Vc
  simp [this];rfl
theorem ED {kindOf:Str->Option NameKind}:∀{binds:List (Str×Value)}{m:Str->Option Value},(∀v,(x,v)∉binds)->bindC kindOf binds m x=m x
 |[],_,_=>rfl
 | (n,v)::r,m,h=>by
  unfold bindC;rw[ED fun w a=>h w (Vb _ a)];split;rfl;have:x≠n:=by rintro rfl;exact h v Vc
  simp [this]
theorem EC {kindOf:Str->Option NameKind}{x:Str}{v:Value}:∀{P:List Str}{vs:List Value}{i:Nat}{m:Str->Option Value},P.Nodup->P[i]?=some x->vs[i]?=some v->kindOf x=some .local →bindL kindOf (P.zip vs) m x=some v
 |[],_,_,_,_,h,_,_=>by simp at h
 |_::_,[],_,_,_,_,h,_=>by simp at h
 |p::P,w::vs,0,m,nd,h1,Y,a=>by simp at h1 Y;subst h1;subst Y;show bindL kindOf ((p,w)::P.zip vs) m p=_;unfold bindL;rw[EE fun v b=>(nodup_cons.mp nd).1 (of_mem_zip b).1,Vm a];simp
 |p::P,w::vs,i+1,m,nd,h1,Y,a=>by show bindL kindOf ((p,w)::P.zip vs) m x=_;unfold bindL;exact EC (i:=i) (nodup_cons.mp nd).2 (by simpa using h1) (by simpa using Y) a
theorem EB {kindOf:Str->Option NameKind}{x:Str}{v:Value}:∀{P:List Str}{vs:List Value}{i:Nat}{m:Str->Option Value},P.Nodup->P[i]?=some x->vs[i]?=some v->kindOf x≠some .local →bindC kindOf (P.zip vs) m x=some v
 |[],_,_,_,_,h,_,_=>by simp at h
 |_::_,[],_,_,_,_,h,_=>by simp at h
 |p::P,w::vs,0,m,nd,h1,Y,a=>by simp at h1 Y;subst h1;subst Y;show bindC kindOf ((p,w)::P.zip vs) m p=_;unfold bindC;rw[ED fun v b=>(nodup_cons.mp nd).1 (of_mem_zip b).1,Vi a];simp
 |p::P,w::vs,i+1,m,nd,h1,Y,a=>by show bindC kindOf ((p,w)::P.zip vs) m x=_;unfold bindC;exact EB (i:=i) (nodup_cons.mp nd).2 (by simpa using h1) (by simpa using Y) a
noncomputable def dO (N:List Str)(vs:List V):St:=vs.map some++List.replicate (N.length-vs.length) none
noncomputable def j2 (CX:jE)(P:Program)(w:World)(K:W.Frag)(mg:Str->Option Value)(base:Heap)(N:List Str)(L:Str)(scope:Scope)(f:Addr)(cd:Value)(A:Around)(outer:List Env)(s:Shared)(H:Hp)(E:XK):Cx where
 prog:=P
 w:=w
 K:=K
 mg:=mg
 base:=base
 A:=A.deeper (envOfC L scope s.heap.objs.size f cd)
 N:=N
 s₀:=s
 H₀:=H
 env:=envOfC L scope s.heap.objs.size f cd
 outer:=outer
 stack:=envOfC L scope s.heap.objs.size f cd::outer
 ex:=[]
 calm:=true
 fn:=fun _=>true
 pn:=[]
 xe:=fun e s'=>wpAny (model P w) (A.deeper (envOfC L scope s.heap.objs.size f cd)) (leaving (envOfC L scope s.heap.objs.size f cd) e) (fun _ iX=>CX outer H s E e iX) (fun e' iX=>CX outer H s E e' iX) s'
theorem D7 {a:Scope}{n:Nat}(h:a.names.lookup x=some .cell):∃c,(cellsFrom n a.names []).lookup x=some c:=by have q:=PySem.W.cellsFrom_some a.names n [] (.inl h);exact Option.isSome_iff_exists.mp q
theorem Ds {N:List Str}{f:Addr}{cd:Value}{A:Around}{outer:List Env}{s m:Shared}{E:XK}
  (S:aB N ps scope) (hd:A.handled=none) (d:Env0 P w K mg base A outer s H) (I:vs.length=ps.length) (r:Vals vs B)
  (x:InCallC s s.heap.objs.size (bindL (envOfC L scope s.heap.objs.size f cd).kindOf (ps.zip B) fun _=>none) (cellsFrom (s.heap.objs.size+1) scope.names []) (bindC (envOfC L scope s.heap.objs.size f cd).kindOf (ps.zip B) fun _=>none) m):
  Inv (j2 CX P w K mg base N L scope f cd A outer s H E) [] (dO N vs) H m:=by
 have D:ps.length<=N.length:=by have:=V8 List.length S.pre;rw[VU] at this;lia
 obtain⟨h1,tk,rfl,o⟩:=x.done;have eU:∀b:Addr,b∉(j2 CX P w K mg base N L scope f cd A outer s H E).ex:=fun b z=>absurd (show b∈([]:List Addr) from z) (by simp)
 refine⟨⟨d.mod,S.kind,rfl,rfl,U5 _,fun y z c h1 Y=>?_,fun y g=>?_,fun y c _ h=>?_,fun _=>hd,Around.frames_deeper d.frames,.inr ⟨rfl,rfl⟩,fun b z=>absurd z (eU b),d.bs,d.bsz,fun b _ _=>eU b,fun b z=>absurd z (eU b),d.funs,d.frf⟩,rfl,d.bare,Un.kept o,⟨_,x.toInCall.ns,fun i y v h1 Y J=>?_⟩,fun y c h=>⟨_,x.cell y c h⟩,d.hok.fresh (U5 _),fun y c h=>?_,fun p j=>absurd (show p∈([]:List (Addr×Obj)) from j) (by simp),d.hok.kept o,?_⟩
 .exact name_of_addr x.apart (Xa h1) (Xa Y)
 .have g:scope.names.lookup y=some .cell∨scope.names.lookup y=some .free:=g
  rcases g with g|g
  .exact D7 g
  .exact absurd rfl (S.nofree _ (Xa g))
 .exact Nat.le_of_lt (x.above y c (Xa h))
 .have l:i<vs.length:=by
   unfold dO at Y
   by_cases l:i<vs.length
   .exact l
   .rw[Vn (by simpa using l)] at Y
    rw[List.getElem?_replicate] at Y
    split at Y <;> cases Y
  have F:vs[i]?=some v:=by unfold dO at Y;rw[Vy (by simpa using l),Vl] at Y;cases e:vs[i]? with|none=>(rw[e] at Y;cases Y)|some a=>rw[e] at Y;cases Y;rfl
  obtain⟨u,t,G⟩:=r.get F;have j:ps[i]?=some y:=by rw[<- S.pre,List.getElem?_take_of_lt (by lia)];exact h1
  have C:ps.Nodup:=by rw[<- S.pre];exact S.nd.sublist (take_sublist _ _)
  refine⟨u,G,?_⟩;rcases S.par y (VF j) with k|k
  .exact .inl ⟨k,EC C j t k⟩
  .obtain⟨c,e⟩:=D7 (n:=s.heap.objs.size+1) k;refine .inr ⟨.inl k,c,e,?_⟩;have q:=x.cell y c e;rw[EB C j t (by show scope.names.lookup y≠_;rw[k];decide)] at q;exact q
 .exact d.hok.fresh (Nat.le_of_lt (x.above y c (Xa h)))
 .unfold dO;show _=N.length;rw[U9,U6,List.length_replicate];lia
theorem BP {k:Nat}{f:Addr}{a:Arguments}{kV m d:Value}
  {F:Array (Option Value)} {N ps:List Str} {sp:Sp} (lk:K.lookup f=some ⟨R,od,.func (PySem.W.fnOf name L a body scope M kV m O an d ct),F⟩) (G:PySem.W.codeIn K d L=true) (S:aB N ps scope)
  (len:∀vs H Q E,sp vs H Q E->vs.length=ps.length)
  (T:∀(A:Around)(outer:List Env)(s:Shared)(H:Hp)(vs:List V)(Q:VK)(E:XK),Room k (A.deeper (envOfC L scope s.heap.objs.size f d))->sp vs H Q E →∃t,PSs (j2 CX P w K mg base N L scope f d A outer s H E) body t/\t { nx:=fun _ H'=>Q .non H',rt:=Q } (dO N vs) H):
  FnOk P w K mg base CX (k+1) f (PySem.W.fnOf name L a body scope M kV m O an d ct) ps sp:=by
 refine⟨len,fun A outer s H args B vs Q E j i hb r p=>?_⟩;have U:=len _ _ _ _ p;have z:K.In s.heap:=i.mod.kin.keeps fun b o e=>(i.bs b o e).1;have X:s.heap.NoLimit:=i.mod.nolimit.keeps fun b o e=>(i.bs b o e).1
 have g:∀y∈ps.zip B,scope.names.lookup y.1=some .local∨(scope.names.lookup y.1=some .cell/\((cellsFrom (s.heap.objs.size+1) scope.names []).lookup y.1).isSome=true):=fun z0 Y=>by obtain⟨n,v⟩:=z0;rcases S.par n (of_mem_zip Y).1 with q|q;exact .inl q;exact .inr ⟨q,PySem.W.cellsFrom_some _ _ _ (.inl q)⟩
 refine codeAny_call_function j.depth (z _ _ lk) rfl S.co S.gen rfl (PySem.W.codeRec_of z G) (hb _ _ _ _ ?_);refine wpAny_newFunctionEnv_cells S.kind g fun env he C x=>?_;subst he;refine⟨X.keeps x.toInCall.keep,codeAny_func ?_⟩;obtain⟨t,Z,hq⟩:=T A outer s H vs Q E (j.deeper _) p;have I:Inv (j2 CX P w K mg base N L scope f d A outer s H E) [] (dO N vs) H C:=Ds S j.hd i U r x;refine VE (Z [] C (dO N vs) H _ I hq) (fun fl s' h=>?_) fun e s' h=>h
 have D:∀{c:St}{H':Hp}{v:V}{u:Value},Inv (j2 CX P w K mg base N L scope f d A outer s H E) [] c H' s'->RelV v u->Q v H'->CE outer P w H s Q u s':=fun {c H' v u} J l q=>⟨v,H',J.os,J.bare,J.base,J.hok,l,q⟩
 cases fl with
 |ret u=>obtain⟨v,c,H',J,l,q⟩:=h;exact D J l q
 |next=>obtain⟨c,H',J,q⟩:=h;exact D (v:=V.non) (u:=Value.none) J rfl q
 |brk=>obtain⟨_,_,_,q⟩:=h;exact False.elim q
 |cont=>obtain⟨_,_,_,q⟩:=h;exact False.elim q
section
variable {t:TA}{r:List V->Hp->VK->Prop}
def rP (r:List V->Hp->VK->Prop)(t:TA):TE:=fun σ H Q=>t σ H fun vs a=>r vs a Q
theorem fe (b:c8 X (.builtin id) r)(c:Gl X x)(d:X.mg x=none)(f:bootBuiltins x=some (.builtin id))(g:PA X (e::es) t)(i:x≠"__name__":=by decide)(j:(x==("__debug__":Str))=false:=by decide)
  (he:starEach (e::es) X.env=(false,eval e X.env)::starEach es X.env:=by rfl) (a:(backTo pos (starEach es X.env)).any (·.1)=false:=by rfl):PE X (.Call (.Name x p) (e::es) [] pos) (rP r t):=by
 intro Z s σ H Q I h;refine Wa (mI I c d f ?_ i j);exact PyProof.Rows.callWith_builtin1 (az (g pos Z s σ H _ I h) fun B k z=>by obtain⟨vs,l,m,n,o⟩:=z;exact b Z k σ l vs B Q m n o) he a
theorem oK (b:c8 X (.type T) r)(c:Gl X x)(d:X.mg x=none)(f:bootBuiltins x=some (.type T))(g:PA X (e::es) t)(i:x≠"__name__":=by decide)(j:(x==("__debug__":Str))=false:=by decide)
  (he:starEach (e::es) X.env=(false,eval e X.env)::starEach es X.env:=by rfl) (a:(backTo pos (starEach es X.env)).any (·.1)=false:=by rfl):PE X (.Call (.Name x p) (e::es) [] pos) (rP r t):=by
 intro Z s σ H Q I h;refine Wa (mI I c d f ?_ i j);exact WY (az (g pos Z s σ H _ I h) fun B k ⟨vs,l,m,n,o⟩=>b Z k σ l vs B Q m n o) he a
end
end
section
variable {b:Addr}{w:World}{Q:Value->Shared->Prop}{lo j:Option Int}{prog:Program}
section
variable {A:Around}{E:Value->Shared->Prop}{s:Shared}
theorem cat_tup {t:Addr}{c ws:List Value}(q:IsTup s.heap t c.toArray)(hb:IsTup s.heap b ws.toArray)(j:c ≠ [])
  (h1:ws=[]->Q (.ref t) s) (r:ws ≠ []->Q (.ref s.heap.objs.size) { s with heap:=s.heap.push { cls:=.type "tuple",data:=.seq (c++ws).toArray } })
  (hsz:c.length+ws.length<=sizeLine):wpAny (model prog w) A (binaryOp .Add (.ref t) (.ref b)) Q E s:=by
 obtain⟨⟨cls,dd,data,k⟩,h,l,n,hd⟩:=id q;obtain⟨⟨m,d,data2,f⟩,a,g,o,p⟩:=id hb;simp only at l hd g p;subst l hd g p;have e:c.toArray++ws.toArray=(c++ws).toArray:=by simp
 by_cases i:ws=[]
 .exact concat_meets ⟨_,h,rfl⟩ ⟨_,a,rfl⟩ noFill_tuple_add seq_tuple_add PySem.F.slot_tuple_add PySem.F.entry_tuple_add (PySem.F.args_tuple_add_2 _ _)
   (tuple_addW1 t b c.toArray ws.toArray n o dd d k f (by simpa using j) (by simp [i])) ⟨h,a,h1 i⟩
 .refine concat_meets ⟨_,h,rfl⟩ ⟨_,a,rfl⟩ noFill_tuple_add seq_tuple_add PySem.F.slot_tuple_add PySem.F.entry_tuple_add (PySem.F.args_tuple_add_2 _ _)
   (tuple_addW2 t b c.toArray ws.toArray n o dd d k f (by simpa using j) (by simpa using i) (by rw[Vd,Vd];exact hsz)) ⟨h,a,?_⟩
  rw[e];exact r i
noncomputable def sIx (n d:Nat):Option Int->Nat
 |none=>d
 |some v=>if v<0 then (v+(n:Int)).toNat else min v.toNat n
theorem sIx_nat (n d k:Nat):sIx n d (some (k:Int))=min k n:=by show(if (k:Int)<0 then ((k:Int)+(n:Int)).toNat else min (k:Int).toNat n)=min k n;rw[Vi (by lia),VX]
theorem Mr (n d:Nat)(hd:d<=n)(o:Option Int):sIx n d o<=n:=by cases o with|none=>exact hd|some v=>show(if v<0 then (v+(n:Int)).toNat else min v.toNat n)<=n;by_cases a:v<0;rw[Vm a];lia;rw[Vi a];exact Nat.min_le_right _ _
theorem Dr (v:Int)(n d:Nat):(if v<0 then max (v+(n:Int)) 0 else min v (n:Int))=((sIx n d (some v):Nat):Int):=by show(if v<0 then max (v+(n:Int)) 0 else min v (n:Int))=(((if v<0 then (v+(n:Int)).toNat else min v.toNat n):Nat):Int);by_cases a:v<0;simp only [Vm a];lia;simp only [Vi a];lia
theorem QZ (lo j:Option Int)(n:Nat):Builtin.Slice.sliceAdjust lo j 1 (n:Int)=(((sIx n 0 lo:Nat):Int),((sIx n n j:Nat):Int)):=by
 have h1:¬ ((1:Int)<0):=by lia
 unfold Builtin.Slice.sliceAdjust;simp only [h1,if_false];refine Prod.ext ?_ ?_;cases lo with|none=>rfl|some v=>exact Dr v n 0
 cases j with|none=>rfl|some v=>exact Dr v n n
theorem QY (i j:Nat):Builtin.Slice.slicePlaces (i:Int) (j:Int) 1=j-i:=by
 unfold Builtin.Slice.slicePlaces;have h1:(1:Int)>0:=by lia
 simp only [h1,if_true,Int.ediv_one];split <;> lia
theorem FE {v:Value}{o:Option Int}{Q:Option Int->Shared->Prop}(p:IsPart v o)(h:Q o s):wpAny (model prog w) A (Builtin.Slice.slicePartIndex v) Q E s:=by cases p with|none=>exact slicePart_none h|int i t=>exact slicePart_int h
theorem HB {e:Addr}{c d:Value}{n:Nat}{Q:Int×Int×Nat->Shared->Prop}(f:s.heap.IsSliceOf e c d .none)(pl:IsPart c lo)(g:IsPart d j)
  (h:Q (((sIx n 0 lo:Nat):Int),1,sIx n n j-sIx n 0 lo) s):wpAny (model prog w) A (Builtin.Slice.sliceApplied (.ref e) (pure (n:Int))) Q E s:=by
 obtain⟨os,a,i,b⟩:=id f;unfold Builtin.Slice.sliceApplied Builtin.Slice.sliceFields;refine UZ (UZ (VC a b (x:=c) rfl (UZ (VC a b (x:=d) rfl (UZ (VC a b (x:=.none) rfl (U2 ?_)))))));refine UZ (slicePart_none ?_);show wpAny _ _ (if ((1:Int)==0)=true then _ else _) _ _ s;rw[Vi (by decide)];refine UZ (FE pl (UZ (FE g (UZ (U2 ?_)))));show wpAny _ _ (match Builtin.Slice.sliceAdjust lo j 1 (n:Int) with | (lo,j)=>pure (lo,(1:Int),Builtin.Slice.slicePlaces lo j 1)) _ _ s;rw[QZ lo j n];show wpAny _ _ (pure (((sIx n 0 lo:Nat):Int),(1:Int),Builtin.Slice.slicePlaces ((sIx n 0 lo:Nat):Int) ((sIx n n j:Nat):Int) 1)) _ _ s;rw[QY];exact U2 h
theorem OF (xs:Array Value)(i k:Nat):((List.range k).filterMap fun(m:Nat)=>xs[((i:Int)+(m:Int)*1).toNat]?).toArray=((xs.toList.drop i).take k).toArray:=by
 have e:(fun(m:Nat)=>xs[((i:Int)+(m:Int)*1).toNat]?)=fun m=>xs[i+m]? := by
  funext m
  have:((i:Int)+(m:Int)*1).toNat=i+m:=by lia
  rw[this]
 rw[e];have:=pick_run xs i k;rw[List.filterMap_map] at this;have a:((fun x=>xs[x]?)∘fun x=>i+x)=fun m=>xs[i+m]? := rfl;rw[a] at this;rw[this]
theorem getItem_tuple_cut {t d:Addr}{a:Array Value}{f g:Value}(b:IsTup s.heap t a)(i:s.heap.IsSliceOf d f g .none)(pl:IsPart f lo)(k:IsPart g j)
  (l:¬ (sIx a.size 0 lo=0/\sIx a.size a.size j=a.size))
  (h:Q (.ref s.heap.objs.size) { s with heap:=s.heap.push { cls:=.type "tuple",data:=.seq ((a.toList.drop (sIx a.size 0 lo)).take (sIx a.size a.size j-sIx a.size 0 lo)).toArray } })
  (hsz:a.size<=sizeLine):wpAny (model prog w) A (getItem (.ref t) (.ref d)) Q E s:=by
 have c:sizeOk (.seq ((a.toList.drop (sIx a.size 0 lo)).take (sIx a.size a.size j-sIx a.size 0 lo)).toArray):=by show((a.toList.drop (sIx a.size 0 lo)).take (sIx a.size a.size j-sIx a.size 0 lo)).toArray.size<=sizeLine;rw[Vd,VU,Wt,VD];omega
 have u:sIx a.size a.size j<=a.size:=Mr _ _ (U5 _) j;obtain⟨os,e,n,o⟩:=id i;have p:s.TypeIs (.ref d) "slice":=⟨os,e,n⟩;unfold getItem
 try with_reducible refine Vx ?_
 first|refine UZ (U2 ?_)|skip
 refine UZ (wpAny_sequenceKey b.typeIs (by decide) ?_)
 refine UZ (VH (name:=Str.ofString "__getitem__") b.typeIs WI
  (VJ WI b.typeIs entry_tuple_getitem ?_ (args_tuple_getitem _ _)))
 show wpAny _ _ (Builtin.Tuple.tupleItemsOf (.ref t) >>= _) _ _ s;refine UZ (tupleItemsOf_ b ?_);refine UZ (wpAny_typeOf p ?_);rw[Vm (by decide)];refine UZ (HB i pl k ?_);have r:¬ ((((sIx a.size 0 lo:Nat):Int)==0&&(1:Int)==1&&(sIx a.size a.size j-sIx a.size 0 lo)==a.size)=true):=by intro q;rw[U1,U1] at q;have v:((sIx a.size 0 lo:Nat):Int)=0:=eq_of_beq q.1.1;have x:sIx a.size a.size j-sIx a.size 0 lo=a.size:=eq_of_beq q.2;exact l ⟨by omega,by omega⟩
 show wpAny _ _ (if (((sIx a.size 0 lo:Nat):Int)==0&&(1:Int)==1&&(sIx a.size a.size j-sIx a.size 0 lo)==a.size)=true then _ else _) _ _ s;rw[Vi r,OF]
 first
  |exact UZ (m:=Builtin.Tuple.tupleExact _) (Vu (U2 ⟨_,rfl,U2 h⟩) c)
  |exact UZ (m:=Builtin.Tuple.tupleExact _) (Vu (UZ (U2 (U2 ⟨_,rfl,U2 h⟩))) c)
  |exact UZ (UZ (m:=Builtin.Tuple.tupleExact _) (Vu (U2 (U2 ⟨_,rfl,U2 h⟩)) c))
  |exact UZ (UZ (m:=Builtin.Tuple.tupleExact _) (Vu (U2 ⟨_,rfl,U2 h⟩) c))
end
end
section
abbrev TO:=St->Hp->(Option Int->Hp->Prop)->Prop
def PO (X:Cx)(e:Option Expr)(t:TO):Prop:=∀(b:List (Addr×Obj))(s:Shared)(a:St)(H:Hp)(Q:Option Int->Hp->Prop),Inv X b a H s->t a H Q →wpAny (model X.prog X.w) X.A (evalPart e X.env) (fun u s'=>∃o H',Inv X b a H' s'/\IsPart u o/\Q o H') X.xe s
def jG:TO:=fun _ H Q=>Q none H
def LH (t:TE):TO:=fun a H Q=>t a H fun x b=>∃i,x=.int i/\Q (some i) b
variable {xs:List V}{B C:List Value}{u:Value}{H H':Hp}{a b:Addr}{P prog:Program}{w:World}{h':Heap}{q x:Type}{e:Expr}{X:Cx}{G:List (Addr×Obj)}{J:St}{t' j:Nat}{Q:Value->Shared->Prop}{pos L M O:Pos}{R S:TE}{y:V}{es:List Expr}{r Y:R2}{U:List (aw×V)}{env:Env}{name:Str}{id T:String}{ns:List Int}
theorem QX:∀{B:List Value},Vals (ns.map V.int) B->IntsAre B ns:=by induction ns with|nil=>(intro B r;rw[map_nil] at r;cases r;exact .nil)|cons n ns a=>intro B r;rw[VB] at r;cases r with|cons b c=>obtain⟨t,e⟩:=b;subst e;exact .cons n t (a c)
section
variable {lo Z:Option Expr}{tl th:TO}{p2:Pos}
theorem po_none:PO X none jG:=by intro G s J H Q I h;rw[evalPart_none];exact U2 ⟨none,H,I,.none,h⟩
theorem NR (h:PE X e S):PO X (some e) (LH S):=by intro G s J H Q I a;rw[evalPart_some];refine az (h G s J H _ I a) fun u g z=>?_;obtain⟨x,b,c,d,f⟩:=z;obtain⟨i,rfl,q⟩:=f;obtain⟨t,rfl⟩:=d;exact⟨some i,b,c,.int i t,q⟩
def SlR (X:Cx)(r:V->Option Int->Option Int->Hp->VK->Prop):Prop:=∀(G:List (Addr×Obj))(s:Shared)(J:St)(H:Hp)(x:V)(v a b:Value)(lo Z:Option Int)(c:Addr)(Q:VK),Inv X G J H s->RelV x v->s.heap.IsSliceOf c a b .none->IsPart a lo->IsPart b Z->r x lo Z H Q →∃T id,typeLookup (.type T) "__getitem__"=pure (some (.builtin id))/\s.TypeIs v T/\wpAny (model X.prog X.w) X.A (getItem v (.ref c)) (EP X G J Q) X.xe s
theorem SlR.or {r Y:V->Option Int->Option Int->Hp->VK->Prop}(h:SlR X r)(h':SlR X Y):SlR X (fun x lo Z H Q=>r x lo Z H Q∨Y x lo Z H Q):=by intro G s J H x v a b lo Z c Q I d e pl f q;rcases q with q|q;exact h G s J H x v a b lo Z c Q I d e pl f q;exact h' G s J H x v a b lo Z c Q I d e pl f q
def AY (r:V->Option Int->Option Int->Hp->VK->Prop)(S:TE)(tl th:TO):TE:=fun J H Q=>S J H fun x a=>tl J a fun l b=>th J b fun u c=>r x l u c Q
theorem OE {r:V->Option Int->Option Int->Hp->VK->Prop}(f:SlR X r)(he:PE X e S)(g:PO X lo tl)(i:PO X Z th):PE X (.Subscript e (.Slice lo Z none p2) pos) (AY r S tl th):=by intro G s J H Q I h;refine Subscript_ (az (he G s J H _ I h) fun v j Y=>?_);obtain⟨x,k,m,n,o⟩:=Y;refine wpAny_Slice (az (g G j J k _ m o) fun a p ⟨l,t,y,pl,z⟩=>az (i G p J t _ y z) fun c s3 W=>?_);obtain⟨u,d,B,C,D⟩:=W;rw[evalPart_none];refine U2 ?_;have E:Inv X G J d { s3 with heap:=s3.heap.push { cls:=.type "slice",data:=.fields #[a,c,.none] } }:=B.kept (t':=s3.toks) fun b ob q=>U0 _ q;obtain⟨T,id,F,K,L⟩:=f G { s3 with heap:=s3.heap.push { cls:=.type "slice",data:=.fields #[a,c,.none] } } J d x v a c l u s3.heap.objs.size Q E n (Heap.IsSliceOf.new ..) pl C D;show wpAny (model X.prog X.w) X.A (subscriptTail e (.Slice lo Z none p2) v (.ref s3.heap.objs.size)) (EP X G J Q) X.xe { s3 with heap:=s3.heap.push { cls:=.type "slice",data:=.fields #[a,c,.none] } };exact tail_any (ops:=[.ref s3.heap.objs.size,v]) K F L (by with_unfolding_all rfl)
def jg (xs:List V)(lo Z:Option Int):List V:=(xs.drop (sIx xs.length 0 lo)).take (sIx xs.length xs.length Z-sIx xs.length 0 lo)
theorem Gw (xs:List V)(lo Z:Option Int):(jg xs lo Z).length<=xs.length:=by unfold jg;rw[VU,Wt];lia
def T7 (K:W.Frag):V->Option Int->Option Int->Hp->VK->Prop:=fun x lo Z H Q=>∃a xs,x=.ref a/\SqT K H a xs ∧¬ (sIx xs.length 0 lo=0/\sIx xs.length xs.length Z=xs.length)/\∀p,H p=none->Q (.ref p) (ax H p (.tup (jg xs lo Z)))
theorem Mq:SlR X (T7 X.K):=by
 intro G s J H x v l m lo Z n Q I f g pl i h;obtain⟨a,xs,rfl,j,k,q⟩:=h;cases f;obtain⟨C,r,d,e⟩:=I.tuple j;have c:C.toArray.size=xs.length:=by rw[Vd];exact r.length.symm
 refine⟨"tuple",_,PyProof.Rows.slot_tuple_getitem.lookup,d.typeIs,?_⟩;refine getItem_tuple_cut d g pl i (by rw[c];exact k) ?_ (by rw[c];exact e);rw[c];refine⟨.ref s.heap.objs.size,_,I.laid (t':=s.toks) (o:=.tup (jg xs lo Z)) (fun b ob q=>U0 _ q) (U5 _) ?_,rfl,q _ (I.hok.fresh (U5 _))⟩;exact⟨VL (Gw xs lo Z) e,_,(r.drop (sIx xs.length 0 lo)).take (sIx xs.length xs.length Z-sIx xs.length 0 lo),IsTupN.new _ _⟩
def Up (K:W.Frag):R2:=fun x y H Q=>∃a b xs c,x=.ref a/\y=.ref b/\SqT K H a xs/\SqT K H b c/\xs ≠ []/\xs.length+c.length<=sizeLine ∧(c=[]->Q (.ref a) H)/\(c ≠ []->∀p,H p=none->Q (.ref p) (ax H p (.tup (xs++c))))
theorem Vals.nil_iff (r:Vals xs B):B=[]↔xs=[]:=by cases r with|nil=>simp|cons _ _=>simp
theorem NQ:OpR X (binaryOp .Add) (Up X.K):=by intro G s J H x y v u Q I g i h;obtain⟨a,b,xs,j,rfl,rfl,k,hb,l,e,m,n⟩:=h;cases g;cases i;obtain⟨C,d,p,_⟩:=I.tuple k;obtain⟨f,c,p2,_⟩:=I.tuple hb;refine cat_tup p p2 (fun z=>l (d.nil_iff.mp z)) (fun z=>⟨.ref a,H,I,rfl,m (c.nil_iff.mp z)⟩) (fun z=>?_) (by rw[<- d.length,<- c.length];exact e);refine⟨.ref s.heap.objs.size,_,I.laid (t':=s.toks) (o:=.tup (xs++j)) (fun b ob q=>U0 _ q) (U5 _) ?_,rfl,n (fun w=>z (c.nil_iff.mpr w)) _ (I.hok.fresh (U5 _))⟩;exact⟨by rw[U9];exact e,_,d.append c,IsTupN.new _ _⟩
end
noncomputable def gz (n:Nat)(i:Int):Option Nat:=if 0<=i then (if i<n then some i.toNat else none) else if -(n:Int)<=i then some (i+n).toNat else none
def atI {q : Type}(xs:List q)(i:Int):Option q := (gz xs.length i).bind fun j=>xs[j]?
theorem Dq {n:Nat}{i:Int}(h:gz n i=some j):seqIndex? i n=some j/\j<n /\ -(n:Int)<=i/\i<n:=by unfold gz at h;by_cases h0:0<=i;rw[Vm h0] at h;by_cases h1:i<n;rw[Vm h1] at h;have e:i.toNat=j:=Vq h;exact⟨by rw[seqIndex_of h0 h1,e],by lia,by lia,h1⟩;rw[Vi h1] at h;cases h;rw[Vi h0] at h;by_cases h1 : -(n:Int)<=i;rw[Vm h1] at h;have e:(i+n).toNat=j:=Vq h;exact⟨by rw[seqIndex_neg (by lia) h1,e],by lia,h1,by lia⟩;rw[Vi h1] at h;cases h
theorem zl {xs:List q}{i:Int}{v:q}(h:atI xs i=some v):∃j,seqIndex? i xs.length=some j/\xs[j]?=some v/\j<xs.length /\ -(xs.length:Int)<=i/\i<xs.length:=by unfold atI at h;cases e:gz xs.length i with|none=>(rw[e] at h;cases h)|some j=>rw[e] at h;obtain⟨h1,a,b,c⟩:=Dq e;exact⟨j,h1,h,a,b,c⟩
theorem Dp {xs:List q}{v:q}(h:xs[j]?=some v):atI xs (j:Int)=some v:=by
 have a:j<xs.length:=(U7.mp h).1;have e:gz xs.length (j:Int)=some j:=by unfold gz;rw[Vm (by lia),Vm (by lia)];simp
 unfold atI;rw[e];exact h
theorem OD (xs:List q)(v : q):atI (xs++[v]) (-1)=some v:=by
 have a:(xs++[v]).length=xs.length+1:=by simp
 have e:gz (xs++[v]).length (-1)=some xs.length:=by unfold gz;rw[a,Vi (by decide),Vm (by lia)];congr 1;lia
 unfold atI;rw[e];show(xs++[v])[xs.length]?=some v;simp
def NP (b:Expr):Prop:=∀o i,subscripted b false o i=operate [o,i] (getItem o i)
def IxR (X:Cx)(r:R2):Prop:=∀(b a:Expr)(G:List (Addr×Obj))(s:Shared)(J:St)(H:Hp)(x y:V)(v u:Value)(Q:VK),Inv X G J H s->RelV x v->RelV y u->r x y H Q →subscripted a false v u=operate [v,u] (getItem v u)->wpAny (model X.prog X.w) X.A (subscriptTail b a v u) (EP X G J Q) X.xe s
def Je (X:Cx)(id:String)(r:V->List V->Hp->VK->Prop):Prop:=∀(G:List (Addr×Obj))(s:Shared)(J:St)(H:Hp)(x:V)(xs:List V)(v:Value)(B:List Value)(Q:VK),Inv X G J H s->RelV x v->Vals xs B->r x xs H Q →wpAny (model X.prog X.w) X.A (call (.builtin id) (v::B)) (EP X G J Q) X.xe s
section
variable {a b:Expr}{tb:TE}
theorem IxR.or (h:IxR X r)(h':IxR X Y):IxR X (fun x y H Q=>r x y H Q∨Y x y H Q):=by intro a b G s J H x y v u Q I c d q e;rcases q with q|q;exact h a b G s J H x y v u Q I c d q e;exact h' a b G s J H x y v u Q I c d q e
theorem qE (c:IxR X r)(d:PE X a R)(hb:PE X b tb)(e:NP b):PE X (.Subscript a b pos) (oQ r R tb):=by intro G s J H Q I h;exact Subscript_ (yg d hb I h fun v u f x y g i j k q=>c a b G f J g x y v u Q i j k q (e _ _))
def IG (K:W.Frag):R2:=fun x y H Q=>∃p xs i v,x=.ref p/\y=.int i/\SqL K H p xs/\atI xs i=some v/\Q v H
def IF (K:W.Frag):R2:=fun x y H Q=>∃p xs i v,x=.ref p/\y=.int i/\SqT K H p xs/\atI xs i=some v/\Q v H
def oX:R2:=fun x y H Q=>∃z i c,x=.str z/\y=.int i/\z.length<=sizeLine/\atI z.cps.toList i=some c/\Q (.str ⟨#[c]⟩) H
theorem ix_list:IxR X (IG X.K):=by
 intro a b G s J H x y v u Q I g k h d;obtain⟨p,xs,i,z,rfl,rfl,l,he,q⟩:=h;cases g;obtain⟨t,rfl⟩:=k;obtain⟨C,r,pl,D⟩:=I.list l;obtain⟨j,h1,m,E,n,o⟩:=zl he;obtain⟨w,e,A⟩:=r.get m;have B:=r.length;have F:=mF;have f:EP X G J Q w s:=⟨z,H,I,A,q⟩;by_cases h0:0<=i;have c:i.toNat=j:=by rw[seqIndex_of h0 o] at h1;exact Vq h1
 exact item_listR pl.isList h0 (by lia) (by rw[c];simpa using e) f d;have c:(i+(C.toArray.size:Int)).toNat=j:=by rw[seqIndex_neg (by lia) n] at h1;rw[Vd,<- B];exact Vq h1
 exact subscriptTail_builtinR (x:=w) pl.isList.typeIs slot_list_getitem.lookup
  (wpAny_getItem_list_neg (Q:=fun r s'=>r=w/\EP X G J Q r s') pl.isList (by lia) (by rw[Vd] <;> lia) (by lia) (by rw[c];simpa using e) ⟨rfl,f⟩) d
theorem ix_tup:IxR X (IF X.K):=by
 intro a b G s J H x y v u Q I c d h e;obtain⟨p,xs,i,z,rfl,rfl,f,he,q⟩:=h;cases c;obtain⟨t,rfl⟩:=d;obtain⟨C,r,pl,o⟩:=I.tuple f;obtain⟨j,h1,g,A,B,D⟩:=zl he;obtain⟨w,k,l⟩:=r.get g;have m:=r.length;have E:=mF;have n:EP X G J Q w s:=⟨z,H,I,l,q⟩;exact subscriptTail_builtinR (x:=w) pl.typeIs slot_tuple_getitem.lookup
  (getItem_tuple (j:=j) (Q:=fun r s'=>r=w/\EP X G J Q r s') pl (by lia) (by lia) (by rw[Vd,<- m];exact h1) (by simpa using k) ⟨rfl,n⟩) e
theorem Mp:IxR X oX:=by
 intro a b G s J H x y v u Q I d e h f;obtain⟨z,i,c,rfl,rfl,p,he,q⟩:=h;obtain⟨t,rfl⟩:=d;obtain⟨t',rfl⟩:=e;obtain⟨j,h1,g,r,k,l⟩:=zl he;have m:z.cps.toList.length=z.length:=by simp [Str.length]
 rw[m] at h1 k l;have w:=mF;exact tail_any (typeIs_str s z t) slot_str_getitem.lookup (getItem_str (c:=c) (by
  have n:decide (i < -(2 ^ 63:Int))=false:=Wk (by lia);have o:decide (i ≥ 2 ^ 63)=false:=Wk (by lia)
  rw[n,o,Bool.or_false]) (by rw[h1];simpa using g) ⟨.str ⟨#[c]⟩,H,I.tok _,⟨_,rfl⟩,q⟩) f
def A6 (K:W.Frag):R2:=fun x y H Q=>IG K x y H Q∨IF K x y H Q∨oX x y H Q
theorem Mo:IxR X (A6 X.K):=ix_list.or (ix_tup.or Mp)
theorem QW (C:List Value)(n j:Nat)(u:Value):Obj.mapSeq (·.setIfInBounds j u) { cls:=.type "list",data:=.seq C.toArray n }={ cls:=.type "list",data:=.seq (C.set j u).toArray n }:=by simp [Obj.mapSeq]
theorem Inv.lst {G:List (Addr×Obj)}{J:St}{H:Hp}{s:Shared}{p:Addr}{xs:List V}(I:Inv X G J H s)(h:H p=some (.lst xs)):∃(C:List Value)(n:Nat),Vals xs C/\s.heap.get? p=some { cls:=.type "list",data:=.seq C.toArray n }/\xs.length<=sizeLine:=by obtain⟨z,C,n,r,e⟩:=I.hok p _ h;exact⟨C,n,r,e,z⟩
theorem Inv.lstUpd {s:Shared}{p:Addr}{a:List V}{its':List Value}{n c:Nat}{f:Obj->Obj}(I:Inv X G J H s)(h:H p=some (.lst xs))
  (g:s.heap.get? p=some { cls:=.type "list",data:=.seq C.toArray n }) (d:f { cls:=.type "list",data:=.seq C.toArray n }={ cls:=.type "list",data:=.seq its'.toArray c }) (r:Vals a its') (i:a.length<=sizeLine) (t:Nat):
  Inv X G J (ax H p (.lst a)) { s with heap:=s.heap.update p f,toks:=t }:=by
 have e:(s.heap.update p f).get? p=some { cls:=.type "list",data:=.seq its'.toArray c }:=by rw[Vs f g (by rw[d] <;> rfl),d]
 refine I.write (x:=p) (e:=p) (by rw[h];trivial) (.inl rfl) (fun b u hb q=>(Vv _ _ (Ne.symm hb)).trans q) ⟨_,e⟩ ?_;exact⟨i,its',c,r,e⟩
def kA:V->V->V->Hp->(Hp->Prop)->Prop:=fun o i v H Q=>∃p xs k j,o=.ref p/\i=.int k/\H p=some (.lst xs)/\gz xs.length k=some j/\Q (ax H p (.lst (xs.set j v)))
theorem OC:IM X kA:=by
 intro G s J H o i v z A u Q I l m w h;obtain⟨p,xs,k,j,rfl,rfl,d,x,q⟩:=h;cases l;obtain⟨t,rfl⟩:=m;obtain⟨C,n,r,a,y⟩:=I.lst d;obtain⟨h1,B,e,f⟩:=Dq x;have b:=r.length;have D:=mF;have g:Inv X G J (ax H p (.lst (xs.set j v))) { s with heap:=s.heap.update p (Obj.mapSeq (·.setIfInBounds j u)) }:=I.lstUpd d a (QW C n j u) (r.set w j) (by rw[length_set];exact y) s.toks;by_cases h0:0<=k;have c:k.toNat=j:=by rw[seqIndex_of h0 f] at h1;exact Vq h1
 exact PySem.W.ki_setAt a h0 (by lia) (by rw[Vd,<- b];exact f) (by rw[c];exact⟨_,g,q⟩);have c:(k+(C.toArray.size:Int)).toNat=j:=by rw[seqIndex_neg (by lia) e] at h1;rw[Vd,<- b];exact Vq h1
 exact PySem.W.ki_setBack a (by lia) (by rw[Vd,<- b];exact e) (by lia) (by rw[c];exact⟨_,g,q⟩)
theorem S5 (lo a:Option Int)(n:Nat):(sliceBounds lo a none n).1=((sIx n 0 lo:Nat):Int)/\(sliceBounds lo a none n).2.1=((sIx n n a:Nat):Int)/\(sliceBounds lo a none n).2.2=1:=by
 refine⟨?_,?_,rfl⟩;cases lo with
 |none=>simp [sliceBounds,sIx]
 |some i=>
  simp only [sliceBounds,sIx,Option.getD_none,show(1:Int)>0 by decide,if_true];by_cases h:i<0;simp only [h,if_true] <;> lia
  simp only [h,if_false] <;> lia
 cases a with
 |none=>simp [sliceBounds,sIx]
 |some i=>
  simp only [sliceBounds,sIx,Option.getD_none,show(1:Int)>0 by decide,if_true];by_cases h:i<0;simp only [h,if_true] <;> lia
  simp only [h,if_false] <;> lia
theorem Ti (C:List Value)(lo a:Option Int):slicePick C.toArray lo a none=((C.drop (sIx C.length 0 lo)).take (sIx C.length C.length a-sIx C.length 0 lo)).toArray:=by obtain⟨h1,b,c⟩:=S5 lo a C.toArray.size;unfold slicePick;rw[h1,b,c];simp only [sliceRange_one,pick_run,Vd] <;> rfl
def ID (K:W.Frag):V->Option Int->Option Int->Hp->VK->Prop:=fun x lo b H Q=>∃a xs,x=.ref a/\SqL K H a xs/\∀p,H p=none->Q (.ref p) (ax H p (.lst (jg xs lo b)))
theorem sl_list:SlR X (ID X.K):=by intro G s J H x v l m lo d n Q I f g pl i h;obtain⟨a,xs,rfl,j,q⟩:=h;cases f;obtain⟨C,r,e,k⟩:=I.list j;have c:=r.length;refine⟨"list",_,slot_list_getitem.lookup,e.isList.typeIs,?_⟩;refine wpAny_getItem_list_slice e.isList g pl i .none (by simp) ?_ (by rw[Vd] <;> lia);rw[Ti,<- c];refine⟨.ref s.heap.objs.size,_,I.laid (t':=s.toks) (o:=.lst (jg xs lo d)) (fun b ob q=>U0 _ q) (U5 _) ?_,rfl,q _ (I.hok.fresh (U5 _))⟩;exact⟨VL (Gw xs lo d) k,_,0,(r.drop (sIx xs.length 0 lo)).take (sIx xs.length xs.length d-sIx xs.length 0 lo),U8 _ rfl⟩
noncomputable def ez:V->Bool
 | .non=>true
 | .bl _=>true
 | .int _=>true
 | .str _=>true
 |_=>false
noncomputable def jb:V->V->Bool
 | .non,.non=>true
 | .bl a,.bl b=>a==b
 | .bl a,.int b=>(if a then 1 else 0)==b
 | .int a,.bl b=>a==(if b then 1 else 0)
 | .int a,.int b=>a==b
 | .str a,.str b=>a==b
 |_,_=>false
theorem tU {A:Around}{s:Shared}{x:V}{v:Value}(d:RelV y u)(c:RelV x v)(f:ez y=true)(e:ez x=true):SeqAt.EqAt A s u v (jb y x):=by cases y with|non=>(cases d;cases x with|non=>(cases c;exact SeqAt.EqAt.same _)|bl b=>(cases c;exact SeqAt.EqAt.none_bool b)|int b=>(obtain⟨t,rfl⟩:=c;exact SeqAt.EqAt.none_int b t)|str b=>(obtain⟨t,rfl⟩:=c;exact SeqAt.EqAt.none_str b t)|_=>exact absurd (show false=true from e) U3)|bl a=>(cases d;cases x with|non=>(cases c;exact SeqAt.EqAt.bool_none a)|bl b=>(cases c;exact SeqAt.EqAt.bool_bool a b)|int b=>(obtain⟨t,rfl⟩:=c;exact SeqAt.EqAt.bool_int a b t)|str b=>(obtain⟨t,rfl⟩:=c;exact SeqAt.EqAt.bool_str a b t)|_=>exact absurd (show false=true from e) U3)|int a=>(obtain⟨t',rfl⟩:=d;cases x with|non=>(cases c;exact SeqAt.EqAt.int_none a t')|bl b=>(cases c;exact SeqAt.EqAt.int_bool a t' b)|int b=>(obtain⟨t,rfl⟩:=c;exact SeqAt.EqAt.int_int a t' b t)|str b=>(obtain⟨t,rfl⟩:=c;exact SeqAt.EqAt.int_str a t' b t)|_=>exact absurd (show false=true from e) U3)|str a=>(obtain⟨t',rfl⟩:=d;cases x with|non=>(cases c;exact SeqAt.EqAt.str_none a t')|bl b=>(cases c;exact SeqAt.EqAt.str_bool a t' b)|int b=>(obtain⟨t,rfl⟩:=c;exact SeqAt.EqAt.str_int a t' b t)|str b=>(obtain⟨t,rfl⟩:=c;exact SeqAt.EqAt.str_str a t' b t)|_=>exact absurd (show false=true from e) U3)|_=>exact absurd (show false=true from f) U3
def fO (x:V)(u:Value):Bool:=match u with
 | .none=>jb .non x
 | .bool b=>jb (.bl b) x
 | .int i _=>jb (.int i) x
 | .str z _=>jb (.str z) x
 |_=>false
theorem CK {x:V}(r:RelV y u)(f:ez y=true):fO x u=jb y x:=by cases y with|non=>(cases r;rfl)|bl b=>(cases r;rfl)|int i=>(obtain⟨t,rfl⟩:=r;rfl)|str z=>(obtain⟨t,rfl⟩:=r;rfl)|_=>exact absurd (show false=true from f) U3
theorem qT {x:V}:∀{xs:List V}{B:List Value},Vals xs B->xs.all ez=true->B.any (fO x)=xs.any fun y=>jb y x
 |_,_,.nil,_=>rfl
 |y::xs,u::B,.cons r t,f=>by rw[all_cons,U1] at f;rw[any_cons,any_cons,CK r f.1,qT t f.2]
theorem qX {A:Around}{s:Shared}{x:V}{v:Value}(b:RelV x v)(c:ez x=true):∀{xs:List V}{B:List Value},Vals xs B->xs.all ez=true->∀u∈B,SeqAt.EqAt A s u v (fO x u)
 |_,_,.nil,_=>fun u a=>by cases a
 |y::xs,u::B,.cons r t,f=>fun d a=>by rw[all_cons,U1] at f;rcases Vg.mp a with rfl|a;rw[CK r f.1];exact tU r b f.1 c;exact qX b c t f.2 d a
def iu (x:V)(xs:List V):Bool:=xs.any fun y=>jb y x
def wg (K:W.Frag)(neg:Bool):R2:=fun x y H Q=>∃p xs,y=.ref p/\(SqL K H p xs∨SqT K H p xs)/\ez x=true/\xs.all ez=true/\Q (.bl (if neg then !iu x xs else iu x xs)) H
theorem Qg:OpR X (compareOp .In) (wg X.K false):=by intro G s J H x y v u Q I c e h;obtain⟨p,xs,rfl,a,d,fs,q⟩:=h;cases e;rcases a with a|a;obtain⟨C,r,pl,f⟩:=I.list a;refine SeqAt.in_listAt (fO x) pl.isList (fun w b=>qX c d r fs w (by simpa using b)) ⟨.bl _,H,I,rfl,?_⟩;rw[show C.toArray.any (fO x)=C.any (fO x) by simp,qT r fs];exact q;obtain⟨C,r,pl,f⟩:=I.tuple a;refine SeqAt.in_tupleAt (fO x) pl (fun w b=>qX c d r fs w (by simpa using b)) ⟨.bl _,H,I,rfl,?_⟩;rw[show C.toArray.any (fO x)=C.any (fO x) by simp,qT r fs];exact q
theorem S4:OpR X (compareOp .NotIn) (wg X.K true):=by intro G s J H x y v u Q I c e h;obtain⟨p,xs,rfl,a,d,fs,q⟩:=h;cases e;rcases a with a|a;obtain⟨C,r,pl,f⟩:=I.list a;refine SeqAt.notIn_listAt (fO x) pl.isList (fun w b=>qX c d r fs w (by simpa using b)) ⟨.bl _,H,I,rfl,?_⟩;rw[show C.toArray.any (fO x)=C.any (fO x) by simp,qT r fs];exact q;obtain⟨C,r,pl,f⟩:=I.tuple a;refine SeqAt.notIn_tupleAt (fO x) pl (fun w b=>qX c d r fs w (by simpa using b)) ⟨.bl _,H,I,rfl,?_⟩;rw[show C.toArray.any (fO x)=C.any (fO x) by simp,qT r fs];exact q
theorem tX:c8 X (.builtin "len") (fun xs H Q=>∃p b,xs=[.ref p]/\(SqL X.K H p b∨SqT X.K H p b)/\Q (.int b.length) H):=by intro G s J H xs B Q I r h;obtain⟨p,b,rfl,c,q⟩:=h;obtain⟨u,rfl,d⟩:=gK r;cases d;have f:=mF;rcases c with c|c;obtain⟨C,Y,pl,e⟩:=I.list c;have a:=Y.length;exact Calls.call_len_list pl.isList (by simp only [Vd] <;> lia) ⟨.int b.length,H,I.tok _,⟨s.toks+1,by rw[Vd,a]⟩,q⟩;obtain⟨C,Y,pl,e⟩:=I.tuple c;have a:=Y.length;exact len_tuple pl (by simp only [Vd] <;> lia) ⟨.int b.length,H,I.tok _,⟨s.toks+1,by rw[Vd,a]⟩,q⟩
theorem S3:c8 X (.builtin "len") (fun xs H Q=>∃z,xs=[.str z]/\z.length<=sizeLine/\Q (.int z.length) H):=by intro G s J H xs B Q I r h;obtain⟨z,rfl,a,q⟩:=h;obtain⟨u,rfl,t,rfl⟩:=gK r;have b:=mF;exact len_str (by lia) ⟨.int z.length,H,I.tok _,⟨_,rfl⟩,q⟩
theorem S2:c8 X (.type "list") (fun xs H Q=>∃p a,xs=[.ref p]/\(SqL X.K H p a∨SqT X.K H p a)/\∀l,H l=none->Q (.ref l) (ax H l (.lst a))):=by
 intro G s J H xs B Q I r h;obtain⟨p,a,rfl,d,q⟩:=h;obtain⟨u,rfl,m⟩:=gK r;cases m;have k:∀(C:List Value),Vals a C->a.length<=sizeLine->∀(h':Heap)(c:Nat),(∀b o',s.heap.get? b=some o'->h'.get? b=some o') →h'.get? s.heap.objs.size=some { cls:=.type "list",dict:=none,data:=.seq C.toArray c,slots:=#[] }->EP X G J Q (.ref s.heap.objs.size) { s with heap:=h' }:=fun C Y f h' c kp e=>
  ⟨.ref s.heap.objs.size,_,I.laid (t':=s.toks) kp (U5 _) (show ObjOk X.prog X.w _ h' _ (.lst a) from⟨f,C,c,Y,e⟩),rfl,q _ (I.hok.fresh (U5 _))⟩
 rcases d with d|d;obtain⟨C,Y,pl,f⟩:=I.list d;have g:=Y.length;obtain⟨o,i,j,n,hd⟩:=pl.isList;exact call_list_seq p (.inl rfl) i j hd (fun h' c kp e=>k C Y f h' c kp e) (by simp only [Vd] <;> lia);obtain⟨C,Y,pl,f⟩:=I.tuple d;have g:=Y.length;obtain⟨o,i,j,n,hd⟩:=pl;exact call_list_seq p (.inr rfl) i j hd (fun h' c kp e=>k C Y f h' c kp e) (by simp only [Vd] <;> lia)
theorem HJ:c8 X (.type "tuple") (fun xs H Q=>∃p a,xs=[.ref p]/\((SqL X.K H p a/\∀l,H l=none->Q (.ref l) (ax H l (.tup a)))∨(SqT X.K H p a/\Q (.ref p) H))):=by intro G s J H xs B Q I r h;obtain⟨p,a,rfl,h⟩:=h;obtain⟨u,rfl,i⟩:=gK r;cases i;rcases h with ⟨c,q⟩|⟨c,q⟩;obtain⟨C,Y,pl,d⟩:=I.list c;have f:=Y.length;refine call_tuple_list pl.isList (fun h' kp=>?_) (by simp only [Vd] <;> lia);have g:Inv X G J H { s with heap:=h' }:=I.kept (t':=s.toks) kp;have j:Inv X G J (ax H h'.objs.size (.tup a)) { s with heap:=h'.push { cls:=.type "tuple",data:=.seq C.toArray } }:=g.laid (t':=s.toks) (fun b o e=>U0 _ e) (U5 _) (show ObjOk X.prog X.w _ _ _ (.tup a) from⟨d,C,Y,IsTupN.new _ _⟩);exact⟨.ref h'.objs.size,_,j,rfl,q _ (g.hok.fresh (U5 _))⟩;obtain⟨C,Y,pl,d⟩:=I.tuple c;exact call_tuple_same pl ⟨.ref p,H,I,rfl,q⟩
def AW (K:W.Frag)(T:String)(x:V)(H:Hp):Prop:=match x with
 | .str _=>T="str"
 | .int _=>T="int"
 | .ref p=>(T="list"/\∃xs,SqL K H p xs)∨(T="tuple"/\∃o,K.lookup p=some o/\o.cls=.type "tuple"/\o.dict=none) ∨
   (T="dict"/\((∃U,H p=some (.dK U))∨∃U,H p=some (.dT U)))∨(T="set"/\∃S n,H p=some (.set S n))
 |_=>False
theorem NY {s:Shared}{x:V}{v:Value}(I:Inv X G J H s)(r:RelV x v)(ty:AW X.K T x H):s.TypeIs v T/\∀a,v=.ref a->∃ob,s.heap.get? a=some ob/\ob.dict=none:=by
 cases x with
 |str z=>(obtain⟨t,rfl⟩:=r;cases (show T="str" from ty);exact⟨typeIs_str s z t,fun _ e=>nomatch e⟩)|int i=>(obtain⟨t,rfl⟩:=r;cases (show T="int" from ty);exact⟨typeIs_int s i t,fun _ e=>nomatch e⟩)
 |ref p=>
  cases r;rcases ty with ⟨rfl,xs,f⟩|⟨rfl,o,b,g,hd⟩|⟨rfl,b⟩|⟨rfl,S,n,b⟩;obtain⟨C,_,pl,_⟩:=I.list f;refine⟨pl.isList.typeIs,fun a e=>?_⟩;cases e;obtain⟨o,n,e,c,hd,_⟩:=pl;exact⟨o,e,hd⟩;refine⟨⟨o,I.kIn p o b,g⟩,fun a e=>?_⟩;cases e;exact⟨o,I.kIn _ o b,hd⟩;have z:∃o,s.heap.get? p=some o/\o.ExactDict:=by rcases b with ⟨U,b⟩|⟨U,b⟩;obtain⟨_,_,_,_,o,_,_,e,ex,_⟩:=I.hok p _ b;exact⟨o,e,ex⟩;obtain⟨_,_,_,_,o,_,_,e,ex,_⟩:=I.hok p _ b;exact⟨o,e,ex⟩
  obtain⟨o,e,ex⟩:=z;refine⟨⟨o,e,ex.1⟩,fun a d=>?_⟩;cases d;exact⟨o,e,ex.2.1⟩;obtain⟨o,_,_,_,e,ex,_⟩:=I.hok p _ b;refine⟨⟨o,e,ex.1⟩,fun a d=>?_⟩;cases d;exact⟨o,e,ex.2.1⟩
 |_=>exact False.elim ty
def vY (K:W.Frag)(T:String)(r:V->List V->Hp->VK->Prop)(to:TE)(t:TA):TE:=fun J H Q=>to J H fun x a=>AW K T x a/\t J a fun xs b=>r x xs b Q
variable {o:Expr}{to:TE}{t:TA}{r:V->List V->Hp->VK->Prop}
theorem y8 (d:PlainAttrs T)(slot:Slot T name id)(f:typeOf (.builtin id)=pure (.type "method_descriptor"))(g:Je X id r)(i:PE X o to)(j:PA X (e::es) t)
  (k:attributeBase o name X.env (eval o X.env)=eval o X.env:=by rfl)
  (l:((backTo O (starEach (e::es) X.env)).all (fun x => !x.1)&&(backToKw O (keywordEach [] X.env)).all (fun x=>x.1.isSome)
   && decide ((e::es).length+([]:List Keyword).length+(if ([]:List Keyword).isEmpty then 0 else 1)<30))=true:=by rfl)
  (m:(M.endLine==O.line)=true:=by rfl) (n:starEach (e::es) X.env=(false,eval e X.env)::starEach es X.env:=by rfl) (p:(backTo O (starEach es X.env)).any (·.1)=false:=by rfl):
  PE X (.Call (.Attribute o name M) (e::es) [] O) (vY X.K T r to t):=by
 intro G s J H Q I h;refine wpAny_Call_method_late k l m rfl (az (i G s J H _ I h) fun v q Z=>?_);obtain⟨x,u,a,b,ty,w⟩:=Z;obtain⟨h1,y⟩:=NY a b ty;refine⟨T,id,d,slot,f,h1,y,?_⟩;have c:=j O G q J u _ a w;rw[n] at c ⊢;refine Calls.callWith_builtin (by show(false||(backTo O (starEach es X.env)).any (·.1))=false;rw[p] <;> rfl) (Calls.evalArgs_plain ?_);exact az c fun B z Y=>by obtain⟨A,C,D,E,F⟩:=Y;exact g G z J C x A v B Q D b E F
end
def Uq (X:Cx)(id:String)(r:V->List V->Hp->VK->Prop):Prop:=∀(G:List (Addr×Obj))(s:Shared)(J:St)(H:Hp)(x:V)(xs:List V)(v:Value)(B:List Value)(Q:VK),Inv X G J H s->RelV x v->Vals xs B->r x xs H Q →wpAny (model X.prog X.w) X.A (call (.builtin id) (v::B)) (EP X G J Q) X.xe s
theorem Vals.one {x:V}{c:List Value}(h:Vals [x] c):∃u,c=[u]/\RelV x u:=by cases h with|cons r h=>cases h;exact⟨_,rfl,r⟩
theorem Vals.rep (h:Vals xs B):∀k:Nat,Vals (List.replicate k xs).flatten (List.replicate k B).flatten
 | 0=>.nil
 |k+1=>by rw[WK,WK,flatten_cons,flatten_cons];exact Vals.append h (Vals.rep h k)
theorem zH (C:List Value):∀(k:Nat)(a:List Value),List.foldl (fun b c=>b++c) a.toArray (List.replicate k C.toArray)=(a++(List.replicate k C).flatten).toArray
 | 0,a=>by simp
 |k+1,a=>by
  have e:a.toArray++C.toArray=(a++C).toArray:=by simp
  have d:(a++C)++(List.replicate k C).flatten=a++(List.replicate (k+1) C).flatten:=by rw[WK,flatten_cons,W7]
  rw[<- d,<- zH C k (a++C),<- e,WK,foldl_cons]
section
variable {s:Shared}{l:Addr}{Z I:List V}
theorem Inv.lset {its':List Value}{n:Nat}{f:Array Value->Array Value}(I:Inv X G J H s)(a:H l=some (.lst xs))
  (e:s.heap.get? l=some { cls:=.type "list",data:=.seq C.toArray n }) (b:f C.toArray=its'.toArray) (c:Vals Z its') (d:Z.length<=sizeLine):
  Inv X G J (ax H l (.lst Z)) { s with heap:=s.heap.update l (Obj.mapSeq f),toks:=t' }:=by
 have q:=PySem.IsL.update e f;rw[b] at q;refine I.write (x:=l) (e:=l) (by rw[a];exact trivial) (.inl rfl) (fun h u hb g=>(Vv s.heap (Obj.mapSeq f) (Ne.symm hb)).trans g) ⟨_,q⟩ ?_;exact⟨d,its',_,c,q⟩
theorem Inv.lnew (I:Inv X G J H s)(a:Vals Z C)(b:Z.length<=sizeLine):Inv X G J (ax H s.heap.objs.size (.lst Z)) { s with heap:=s.heap.push { cls:=.type "list",data:=.seq C.toArray },toks:=t' }:=I.laid (fun _ _ q=>U0 _ q) (U5 _) ⟨b,C,0,a,U8 _ rfl⟩
theorem Inv.fresh (I:Inv X G J H s):H s.heap.objs.size=none:=I.hok.fresh (U5 _)
theorem Inv.lstM (I:Inv X G J H s)(a:H l=some (.lst xs)):xs.length<=sizeLine/\∃(C:List Value)(n:Nat),Vals xs C/\xs.length=C.length/\s.heap.get? l=some { cls:=.type "list",data:=.seq C.toArray n }:=by obtain⟨z,C,n,r,e⟩:=I.hok l _ a;exact⟨z,C,n,r,r.length,e⟩
theorem Tg {n:Nat}(h:n<=sizeLine):Builtin.List.listTooLong n=false:=by unfold Builtin.List.listTooLong;exact Wk (by lia)
end
section
def gu:V->List V->Hp->VK->Prop:=fun x a H Q=>∃l xs y,x=.ref l/\a=[y]/\H l=some (.lst xs)/\xs.length<sizeLine/\Q .non (ax H l (.lst (xs++[y])))
theorem Hj:Uq X "list.append" gu:=by intro G s J H x f v B Q I b c h;obtain⟨l,xs,y,rfl,rfl,a,g,q⟩:=h;cases b;obtain⟨u,rfl,d⟩:=c.one;obtain⟨z,C,n,r,i,e⟩:=I.lstM a;refine call_meets F.slot_list_append ⟨_,e,rfl⟩ F.entry_list_append (F.args_list_append_2 _ _) (PySem.list_append l C.toArray n u (by rw[Vd];lia)) ⟨e,?_⟩;refine⟨.non,_,I.lset (its':=C++[u]) a e (by simp) (r.append (.cons d .nil)) ?_,rfl,q⟩;rw[U9,length_singleton];lia
def oZ:R2:=fun x y H Q=>∃l b xs a,x=.ref l/\y=.ref b/\H l=some (.lst xs)/\H b=some (.lst a)/\xs.length+a.length<=sizeLine/\∀p,H p=none->Q (.ref p) (ax H p (.lst (xs++a)))
theorem op_cat:OpR X (binaryOp .Add) oZ:=by
 intro G s J H x y v u Q I c d h;obtain⟨l,b,xs,m,rfl,rfl,f,hB,o,q⟩:=h;cases c;cases d;obtain⟨z,C,n,r,p,e⟩:=I.lstM f;obtain⟨t,a,w,g,i,j⟩:=I.lstM hB;refine PySem.P.add_list e j ?_ (by rw[Vd,Vd];lia);have k:C.toArray++a.toArray=(C++a).toArray:=by simp
 rw[k];exact⟨.ref _,_,I.lnew (t':=s.toks) (r.append g) (by rw[U9];lia),rfl,q _ I.fresh⟩
def oW:R2:=fun x y H Q=>∃l k xs,x=.ref l/\y=.int k/\H l=some (.lst xs) /\ -(2 ^ 63)<=k/\k<2 ^ 63/\xs.length*k.toNat<=sizeLine ∧∀p,H p=none->Q (.ref p) (ax H p (.lst (List.replicate k.toNat xs).flatten))
theorem ug (xs:List q)(k:Nat):(List.replicate k xs).flatten.length=k*xs.length:=by induction k with|zero=>simp|succ k a=>rw[WK,flatten_cons,U9,a,Nat.succ_mul,Nat.add_comm]
theorem op_rep:OpR X (binaryOp .Mult) oW:=by
 intro G s J H x y v u Q I g i h;obtain⟨l,k,xs,rfl,rfl,j,h1,o,f,q⟩:=h;cases g;obtain⟨t,rfl⟩:=i;obtain⟨z,C,n,r,p,e⟩:=I.lstM j;have b:C.toArray.size*k.toNat<=sizeLine:=by rw[Vd,<- p];exact f
 have w:¬C.toArray.size*k.toNat>(2 ^ 63-1) / 8:=by
  have:(sizeLine:Nat)<=(2 ^ 63-1) / 8:=by decide
  lia
 have A:¬ (!Builtin.List.listFitsIndex k)=true:=by rw[fitsIndex_both h1 o];exact U3
 have B:¬Builtin.List.listTooLong (C.toArray.size*k.toNat)=true:=by rw[Tg b];exact U3
 have D:List.foldl (fun c d=>c++d) #[] (List.replicate (if C.toArray.isEmpty=true then 0 else k.toNat) C.toArray)=(List.replicate k.toNat C).flatten.toArray:=by
  have E:∀m:Nat,List.foldl (fun c d=>c++d) #[] (List.replicate m C.toArray)=(List.replicate m C).flatten.toArray:=fun m=>by have:=zH C m [];rw[VY] at this;exact this
  rw[E];cases C with|nil=>simp|cons a Y=>rw[Vi (by simp)]
 refine wpAny_binaryOp_repeat_ref (T:="list") (U:="int") (by decide) ⟨_,e,rfl⟩ (fun s'=>typeIs_int s' k t) noFill_list_mul F.fills_int_mul F.slot_int_rmul repeat_list F.slot_int_index.lookup
  (call_meets F.slot_int_rmul (typeIs_int s k t) F.entry_int_rmul (F.args_int_rmul_2 _ _) (int___rmul___int_list k t l C.toArray n)
   ⟨e,rfl,⟨_,e,rfl⟩,call_meets F.slot_list_mul ⟨_,e,rfl⟩ F.entry_list_mul (F.args_list_mul_2 _ _) (AutoListH.list___mul___list_int_3 l C.toArray n k t A w B) ⟨e,?_⟩⟩)
 rw[D];exact⟨.ref _,_,I.lnew (t':=s.toks) (r.rep k.toNat) (by rw[ug,Nat.mul_comm];exact f),rfl,q _ I.fresh⟩
end
section
variable [DecidableEq x]
noncomputable def gM (U:List (x × V))(k : x):Option V:=(U.find? fun a=>decide (a.1=k)).map (·.2)
noncomputable def ee (U:List (x × V))(k : x)(v:V):List (x × V):=if (U.any fun a=>decide (a.1=k))=true then U.map (fun a=>if a.1=k then (a.1,v) else a) else U++[(k,v)]
theorem Ao {p:x × V}{r:List (x × V)}{k:x}(e:p.1=k):gM (p::r) k=some p.2:=by simp [gM,Wy,e]
theorem An {p:x × V}{r:List (x × V)}{k:x}(e:¬p.1=k):gM (p::r) k=gM r k:=by simp [gM,Wy,e]
theorem Gz (k : x):∀U:List (x × V),(U.any fun a=>decide (a.1=k))=(gM U k).isSome
 |[]=>rfl
 |p::r=>by rw[any_cons];by_cases e:p.1=k;simp only [Ao e,Vj e,Bool.true_or,Option.isSome_some];rw[An e,Wk e,Bool.false_or];exact Gz k r
theorem Am (U:List (x × V))(k : x)(v:V):(ee U k v).length<=U.length+1:=by unfold ee;split;rw[U6];lia;rw[U9,Vw,length_nil];lia
theorem RelO.isSome_eq {o:Option V}{u:Option Value}(r:RelO o u):o.isSome=u.isSome:=by
 cases o with
 |none=>cases u with
  |none=>rfl
  |some _=>exact(show False from r).elim
 |some _=>cases u with
  |none=>exact(show False from r).elim
  |some _=>rfl
theorem KV.val {U:List (x × V)}{d:List (x × Value)}(r:KV U d)(k : x):RelO (gM U k) (valueAt d k):=by
 unfold KV at r;induction r with
 |nil=>exact True.intro
 | @cons p q ps a h t f=>
  obtain⟨h1,g⟩:=h;by_cases e:p.1=k;have c:q.1=k:=h1.symm.trans e;have b:valueAt (q::a) k=some q.2:=by simp [valueAt,Wy,c]
  rw[Ao e,b];exact g;have c:¬q.1=k:=fun z=>e (h1.trans z);have b:valueAt (q::a) k=valueAt a k:=by simp [valueAt,Wy,c]
  rw[An e,b];exact f
theorem KV.any {U:List (x × V)}{b:List (x × Value)}(r:KV U b)(k : x):(U.any fun a=>decide (a.1=k))=b.any fun a=>decide (a.1=k):=by unfold KV at r;induction r with|nil=>rfl|cons h t c=>rw[any_cons,any_cons,c,h.1]
theorem KV.repl {U:List (x × V)}{b:List (x × Value)}(r:KV U b)(k : x){y:V}{u:Value}(c:RelV y u):KV (U.map fun a=>if a.1=k then (a.1,y) else a) (b.map fun a=>if a.1=k then (a.1,u) else a):=by unfold KV at r ⊢;induction r with|nil=>exact .nil| @cons p q ps g h t d=>rw[VB,VB];refine .cons ?_ d;obtain⟨h1,f⟩:=h;by_cases e:p.1=k;rw[Vm e,Vm (h1.symm.trans e)];exact⟨h1,c⟩;rw[Vi e,Vi (fun z=>e (h1.trans z))];exact⟨h1,f⟩
theorem KV.put {U:List (x × V)}{a:List (x × Value)}(r:KV U a)(k : x){y:V}{u:Value}(b:RelV y u):KV (ee U k y) (stored a k u):=by unfold ee stored;rw[r.any k];by_cases e:(a.any fun c=>decide (c.1=k))=true;rw[Vm e,Vm e];exact r.repl k b;rw[Vi e,Vi e];exact Paired.snoc r ⟨rfl,b⟩
theorem KV.length {U:List (x × V)}{a:List (x × Value)}(r:KV U a):U.length=a.length:=Paired.length r
end
theorem uh {k:aw}(r:RelV (kV k) u):(fH P w).is k u=true:=by cases k with|inl i=>(obtain⟨t,e⟩:=(show ∃t,u=Value.int i t from r);subst e;exact Sj P w i t)|inr x=>obtain⟨t,e⟩:=(show ∃t,u=Value.str x t from r);subst e;exact Si P w x t
theorem EA:∀{a:List aw}{B:List Value},Vals (a.map kV) B->ItemsAre (fH P w) a B
 |[],_,r=>by rw[map_nil] at r;cases r;exact .nil
 |k::a,_,r=>by rw[VB] at r;cases r with|cons h t=>exact .cons (uh h) (EA t)
abbrev KT (H:Hp):List (List aw×V)->List (List aw×Addr×Value)->Prop:=Paired fun p q=>p.1=q.1/\H q.2.1=some (.tup (p.1.map kV))/\RelV p.2 q.2.2
theorem KT.val {U:List (List aw×V)}{xs:List (List aw×Addr×Value)}(r:KT H U xs)(k:List aw):RelO (gM U k) ((atKey xs k).map (·.2)):=by
 induction r with
 |nil=>exact True.intro
 | @cons p q ps a h t d=>
  obtain⟨h1,_,f⟩:=h;by_cases e:p.1=k;have c:q.1=k:=h1.symm.trans e;have b:atKey (q::a) k=some q.2:=by simp [atKey,Wy,c]
  rw[Ao e,b];exact f;have c:¬q.1=k:=fun z=>e (h1.trans z);have b:atKey (q::a) k=atKey a k:=by simp [atKey,Wy,c]
  rw[An e,b];exact d
theorem KT.repl {U:List (List aw×V)}{xs:List (List aw×Addr×Value)}(r:KT H U xs)(k:List aw){y:V}{u:Value}(c:RelV y u):KT H (U.map fun a=>if a.1=k then (a.1,y) else a) (xs.map (putAt k u)):=by induction r with|nil=>exact .nil| @cons p q ps g h t d=>rw[VB,VB];refine .cons ?_ d;obtain⟨h1,b,f⟩:=h;unfold putAt;by_cases e:p.1=k;rw[Vm e,Vm (h1.symm.trans e)];exact⟨h1,b,c⟩;rw[Vi e,Vi (fun z=>e (h1.trans z))];exact⟨h1,b,f⟩
theorem KT.put {U:List (List aw×V)}{xs:List (List aw×Addr×Value)}(r:KT H U xs)(k:List aw){b:Addr}{y:V}{u:Value}(hb:H b=some (.tup (k.map kV)))(a:RelV y u):KT H (ee U k y) (storedH xs k b u):=by
 have e:(U.any fun c=>decide (c.1=k))=(atKey xs k).isSome:=by rw[Gz,(r.val k).isSome_eq,Option.isSome_map]
 unfold ee storedH;rw[e];by_cases q:(atKey xs k).isSome=true;rw[Vm q,Vm q];exact r.repl k a;rw[Vi q,Vi q];exact Paired.snoc r ⟨rfl,hb,a⟩
theorem KT.keeps {U:List (List aw×V)}{xs:List (List aw×Addr×Value)}(r:KT H U xs)(c:∀b a,H b=some (.tup a)->H' b=some (.tup a)):KT H' U xs:=Paired.mapP r fun _ _ z=>⟨z.1,c _ _ z.2.1,z.2.2⟩
section
variable {h:Heap}
theorem Cg {u:HO}(ok:HOk P w H h)(e:Rd H a u):ObjOk P w H h a u:=e.ok ok
theorem qL (ok:HOk P w H h)(e:Rd H a (.dK U)):U.length<=sizeLine/\(a==sysModules)=false/\∃b,KV U b/\h.DictOf (fH P w) a b:=show ObjOk P w H h a (.dK U) from Cg ok e
theorem CT (ok:HOk P w H h)(e:H a=some (.dK U)):U.length<=sizeLine/\(a==sysModules)=false/\∃b,KV U b/\h.DictOf (fH P w) a b:=qL ok (.inl e)
theorem zp {b:List aw}(ok:HOk P w H h)(e:H a=some (.tup (b.map kV))):(tupleKind (fH P w)).is h b a:=by obtain⟨_,C,r,o,h1,c,n,d,_⟩:=(show ObjOk P w H h a (.tup (b.map kV)) from ok a _ e);exact⟨o,C.toArray,n,h1,c,d,by simpa using EA r⟩
theorem y6 {U:List (List aw×V)}(ok:HOk P w H h)(e:Rd H a (.dT U)):U.length<=sizeLine/\(a==sysModules)=false ∧∃xs,KT H U xs/\h.DictOfH (tupleKind (fH P w)) a xs:=by
 obtain⟨z,y,xs,r,o,es,d,h1,f,g,i,j⟩:=(show ObjOk P w H h a (.dT U) from Cg ok e);refine⟨z,y,xs,r,o,es,d,h1,f,g,i,fun x b=>?_,j⟩;have all:∀{l:List (List aw×V)}{m:List (List aw×Addr×Value)},KT H l m->∀x∈m,(tupleKind (fH P w)).is h x.1 x.2.1:=by intro l m q;induction q with|nil=>(intro x b;exact nomatch b)| @cons p q ps n c t k=>intro x b;rcases Vg.mp b with e|b;subst e;exact zp ok (by rw[<- c.1];exact c.2.1);exact k x b
 exact all r x b
theorem Uo {U:List (List aw×V)}(ok:HOk P w H h)(e:H a=some (.dT U)):U.length<=sizeLine/\(a==sysModules)=false ∧∃xs,KT H U xs/\h.DictOfH (tupleKind (fH P w)) a xs:=y6 ok (.inl e)
end
def DGet (H:Hp)(a:Addr)(y:V)(r:Option V):Prop:=(∃U k,Rd H a (.dK U)/\y=kV k/\r=gM U k)∨∃U k b,Rd H a (.dT U)/\y=.ref b/\H b=some (.tup (k.map kV))/\r=gM U k
def DPut (H:Hp)(a:Addr)(y v:V)(H':Hp):Prop:=(∃U k,H a=some (.dK U)/\y=kV k/\U.length<sizeLine/\H'=ax H a (.dK (ee U k v))) ∨
 ∃U k b,H a=some (.dT U)/\y=.ref b/\H b=some (.tup (k.map kV))/\U.length<sizeLine/\H'=ax H a (.dT (ee U k v))
theorem DGet.k {k:aw}(e:H a=some (.dK U)):DGet H a (kV k) (gM U k):=.inl ⟨U,k,.inl e,rfl,rfl⟩
theorem DPut.k {k:aw}{v:V}(e:H a=some (.dK U))(b:U.length<sizeLine):DPut H a (kV k) v (ax H a (.dK (ee U k v))):=.inl ⟨U,k,e,rfl,b,rfl⟩
section
variable {s:Shared}{v:V}{r:Value}{o:Option V}{A:Around}{E:Value->Shared->Prop}
theorem Inv.big (I:Inv X G J H s):sysModules<s.heap.objs.size:=by have h:mainGlobals<s.heap.objs.size:=(I.mod.glob.keeps I.bk).lt;exact Nat.lt_trans (by decide) h
theorem Qe (n:A.units+1<cLine)(I:Inv X G J H s)(g:DGet H a y (some v))(m:RelV y u)(h:∀c s',Inv X G J H s'->RelV v c->Q c s'):wpAny (model X.prog X.w) A (getItem (.ref a) u) Q E s:=by rcases g with ⟨U,k,e,d,l⟩|⟨U,k,b,e,d,q,l⟩;subst d;obtain⟨z,hd,r,f,dd⟩:=qL I.hok e;obtain⟨c,i,j⟩:=RelO.some_of (v:=v) (o:=valueAt r k) (by rw[l];exact f.val k);exact wpAny_getItem_of (uh m) dd.mapOf i (h c _ (I.tok _) j);subst d;cases (show u=Value.ref b from m);obtain⟨z,hd,xs,f,dd⟩:=y6 I.hok e;obtain⟨c,i,j⟩:=RelO.some_of (v:=v) (o:=(atKey xs k).map (·.2)) (by rw[l];exact f.val k);obtain⟨p,t,x⟩:=Option.map_eq_some_iff.mp i;refine wpAny_getItem_heap (tupleKind_room_in1 n) (zp I.hok q) dd t ?_;rw[x];exact h c _ (I.tok _) j
theorem zy {ob:HO}(I:Inv X G J H s)(c:rB (H a))(d:Heap.SameBut a s.heap h')(he:∃q,h'.get? a=some q)(new:ObjOk X.prog X.w (ax H a ob) h' a ob):Inv X G J (ax H a ob) { s with heap:=h',toks:=t' }:=I.write (x:=a) (e:=a) c (.inl rfl) (fun b q hb z=>(d.2 b hb).trans z) he new
theorem zo {b:List (aw×Value)}(z:U.length<=sizeLine)(hd:(a==sysModules)=false)(c:KV U b)(dd:h'.DictOf (fH P w) a b):ObjOk P w H' h' a (.dK U):=⟨z,hd,b,c,dd⟩
theorem Qd {Q:Unit->Shared->Prop}(D:A.units+1<cLine)(I:Inv X G J H s)(g:DPut H a y v H')(t:RelV y u)(x:RelV v r)(h:∀s',Inv X G J H' s'->Q () s'):wpAny (model X.prog X.w) A (setItem (.ref a) u r) Q E s:=by
 rcases g with ⟨U,k,e,j,l,m⟩|⟨U,k,b,e,j,B,l,m⟩;subst j m;obtain⟨z,hd,F,d,dd⟩:=CT I.hok e;have n:F.length<=sizeLine:=by rw[<- d.length];exact z
 have o:(ee U k v).length<=sizeLine:=by have:=Am U k v;lia
 refine wpAny_setItem_pairs (hsz:=n) (uh t) dd fun h' f p=>h _ ?_;have he:∃q,h'.get? a=some q:=let ⟨q,_,_,i,_⟩:=f;⟨q,i⟩
 exact zy I (by rw[e];exact True.intro) p he (zo o hd (d.put k x) f);subst j m;cases (show u=Value.ref b from t);obtain⟨z,hd,xs,d,dd⟩:=Uo I.hok e;have n:xs.length<=sizeLine:=by rw[<- Paired.length d];exact z
 have o:(ee U k v).length<=sizeLine:=by have:=Am U k v;lia
 refine wpAny_setItem_heap (hsz:=n) (tupleKind_room_in1 D) (zp I.hok B) dd fun h' f p=>h _ ?_;obtain⟨q,es,K,i,L,M,N,_,O⟩:=f;refine zy I (by rw[e];exact True.intro) p ⟨q,i⟩ ⟨o,hd,_,(d.put k B x).keeps fun c P C=>?_,q,es,K,i,L,M,N,O⟩;rw[aD (Qp C e (fun z=>nomatch z))];exact C
end
section
variable {s:Shared}{k:aw}{A:Around}{E:Value->Shared->Prop}
theorem Um (I:Inv X G J H s)(e:Rd H a (.dK U))(h:∀t s',Inv X G J H s'->Q (.int U.length t) s'):wpAny (model X.prog X.w) A (call (.builtin "len") [.ref a]) Q E s:=by obtain⟨z,hd,c,b,dd⟩:=qL I.hok e;refine call_len_dict hd dd (by rw[<- b.length];rw[Vr] at z;lia) ?_;rw[<- b.length];exact h _ _ (I.tok _)
end
def BQ (i:Expr):Prop:=∀a b,subscripted i false a b=operate [a,b] (getItem a b)
theorem Qc {A:Around}{E:Value->Shared->Prop}{s:Shared}{b a:Expr}
  (e:typeLookup (.type T) "__getitem__"=pure (some (.builtin id))) (f:BQ a)
  (h:wpAny (model prog w) A (eval b env) (fun o s₁=>wpAny (model prog w) A (eval a env) (fun i s₂=>s₂.TypeIs o T/\wpAny (model prog w) A (getItem o i) Q E s₂) E s₁) E s):
  wpAny (model prog w) A (eval (.Subscript b a pos) env) Q E s:=by
 refine Subscript_ (VE h (fun o s₁ h₁=>VE h₁ (fun i s₂ h₂=>?_) fun _ _ x=>x) fun _ _ x=>x);obtain⟨d,h₂⟩:=h₂;unfold subscriptTail;refine UZ ?_;rw[getitemInPython_of_ne d.not_modules];refine UZ (wpAny_specialOf d e ?_);have c:wpAny (model prog w) A (subscripted a false o i) (fun r s₃=>wpAny (model prog w) A (letTemporaryGo b o r >>= fun _=>pure r) Q E s₃) E s₂:=by rw[f o i];exact wpAny_operating (VE h₂ (fun r s₃ h₃=>UZ (wpAny_letTemporaryGo (U2 h₃))) fun _ _ x=>x)
 first
  |exact U2 (UZ c)
  |exact UZ (U2 (UZ c))
  |exact UZ c
theorem Sh {s:Shared}{o:Option V}(I:Inv X G J H s)(g:DGet H a y o):s.TypeIs (.ref a) "dict":=by rcases g with ⟨U,k,e,_,_⟩|⟨U,k,b,e,_,_,_⟩;obtain⟨_,_,c,_,dd⟩:=qL I.hok e;exact dd.typeIs;obtain⟨_,_,xs,_,dd⟩:=y6 I.hok e;exact dd.typeIs
def Ul (c ty:TE):TE:=fun J H Q=>c J H fun x d=>ty J d fun y b=>∃a v,x=.ref a/\DGet b a y (some v)/\Q v b
def Cf (c ty tv:TE):TS:=fun D J H=>tv J H fun v d=>c J d fun x e=>ty J e fun y f=>∃a b,x=.ref a/\DPut f a y v b/\D.nx J b
section
variable {o i Z:Expr}{I:Pos}{td ty tv:TE}
theorem Sg (c:X.A.units+1<cLine)(d:PE X o td)(e:PE X i ty)(f:BQ i):PE X (.Subscript o i pos) (Ul td ty):=by intro G s J H Q I h;refine Qc PySem.F.slot_dict_getitem.lookup f (az (d G s J H _ I h) fun u j ⟨x,k,l,m,n⟩=>az (e G j J k _ l n) fun z B Z=>?_);obtain⟨y,p,b,q,a,v,ex,g,r⟩:=Z;subst ex;obtain rfl:u=Value.ref a:=m;exact⟨Sh b g,Qe c b g q fun C s3 t w=>⟨v,p,t,w,r⟩⟩
theorem NO (b:X.A.units+1<cLine)(c:PE X o td)(d:PE X i ty)(e:PE X Z tv)(f:swapsWith Z (some (.Subscript o i L)) pos.line X.env=pure false):PS X (.Assign [.Subscript o i L] Z pos) (Cf td ty tv):=by intro G s J H D I h;refine wpAny_Assign_Subscript (az (e G s J H _ I h) fun r j ⟨v,k,l,m,n⟩=>az (c G j J k _ l n) fun u p ⟨x,q,t,w,z⟩=>az (d G p J q _ t z) fun M s3 Y=>?_) f;obtain⟨y,N,B,C,a,E,ex,g,F⟩:=Y;subst ex;obtain rfl:u=Value.ref a:=w;exact Qd b B g C m fun O K=>⟨J,E,K,F⟩
end
theorem D6 (h:Heap)(hb:sysModules<h.objs.size):ObjOk P w H (h.push { cls:=.type "dict",data:=.dict #[] }) h.objs.size (.dK []):=⟨VW _,V5.mpr (Ne.symm (Vh hb)),[],.nil,Heap.DictOf.new h⟩
def lM:TE:=fun _ H Q=>∀p,H p=none->Q (.ref p) (ax H p (.dK []))
section
theorem pe_dnewK:PE X (.Dict [] [] pos) lM:=fun G s J H Q I h=>
 wpAny_Dict_empty ⟨.ref s.heap.objs.size,_,I.laid (a:=s.heap.objs.size) (o:=.dK []) (t':=s.toks) (fun _ _ q=>U0 _ q) (U5 _) (D6 s.heap I.big),rfl,h _ (I.hok.fresh (U5 _))⟩
end
def lr:List (TE×TE)->St->Hp->(List (V×V)->Hp->Prop)->Prop
 |[],_,H,Q=>Q [] H
 | (tk,tv)::r,J,H,Q=>tk J H fun x a=>tv J a fun y b=>lr r J b fun ps c=>Q ((x,y)::ps) c
abbrev VV:List (V×V)->List (Value×Value)->Prop:=Paired fun p q=>RelV p.1 q.1/\RelV p.2 q.2
def rz (X:Cx)(pos:Pos)(a:List (Option Expr))(b:List Expr)(c:List (TE×TE)):Prop:=∀(G:List (Addr×Obj))(s:Shared)(J:St)(H:Hp)(Q:List (V×V)->Hp->Prop),Inv X G J H s->lr c J H Q →wpAny (model X.prog X.w) X.A (evalPairs (pairTrees a b X.env pos)) (fun d s'=>∃ps H',Inv X G J H' s'/\VV ps d/\Q ps H') X.xe s
theorem NN:rz X pos [] [] []:=fun G s J H Q I h=>pairTrees_nil_walk ⟨[],H,I,.nil,h⟩
theorem OB {k v:Expr}{a:List (Option Expr)}{b:List Expr}{tk tv:TE}{c:List (TE×TE)}(d:PE X k tk)(e:PE X v tv)(f:rz X pos a b c):rz X pos (some k::a) (v::b) ((tk,tv)::c):=fun G s J H Q I h=>
 pairTrees_cons_walk (az (d G s J H _ I h) fun u g ⟨x,i,j,l,m⟩=>az (e G g J i _ j m) fun B n ⟨y,o,p,q,r⟩=>
  az (f G n J o _ p r) fun ws s3 Z=>by obtain⟨ps,t,w,z,A⟩:=Z;exact ⟨(x,y)::ps,t,w,.cons ⟨l,q⟩ z,A⟩)
def lq (U more:List (aw×V)):List (aw×V):=more.foldl (fun b a=>ee b a.1 a.2) U
theorem KV.merge:∀{more:List (aw×V)}{b:List (aw×Value)}{U:List (aw×V)}{a:List (aw×Value)},KV more b->KV U a->KV (lq U more) (merged a b):=by
 intro more b U a r;unfold KV at r;induction r generalizing U a with
 |nil=>(intro q;exact q)
 | @cons p q ps f h t c=>
  intro d;have e:KV (ee U p.1 p.2) (stored a q.1 q.2):=by have:=d.put p.1 h.2;rw[<- h.1];exact this
  exact c e
theorem Hi:∀(more U:List (aw×V)),(lq U more).length<=U.length+more.length
 |[],U=>by show U.length<=U.length+0;lia
 |p::r,U=>by have h1:=Hi r (ee U p.1 p.2);have a:=Am U p.1 p.2;show(lq (ee U p.1 p.2) r).length<=_;rw[Vw];lia
theorem FD {P:Program}{w:World}:∀{U:List (aw×V)}{ws:List (Value×Value)},VV (U.map fun e=>(kV e.1,e.2)) ws->∃d,Carries (fH P w) ws d/\KV U d
 |[],_,r=>by rw[map_nil] at r;cases r;exact⟨[],True.intro,.nil⟩
 |p::U,_,r=>by rw[VB] at r;cases r with| @cons a b g bs h t=>obtain⟨d,c,q⟩:=FD (P:=P) (w:=w) t;obtain⟨b1,f⟩:=b;exact⟨(p.1,f)::d,⟨uh h.1,rfl,c⟩,.cons ⟨rfl,h.2⟩ q⟩
def Ce (c:List (TE×TE)):TE:=fun J H Q=>∀p,H p=none->lr c J (ax H p (.dK [])) fun ps a=>a p=some (.dK [])/\∃U:List (aw×V),ps=U.map (fun b=>(kV b.1,b.2))/\U.length<=15/\Q (.ref p) (ax a p (.dK (lq [] U)))
theorem NM {b:List (Option Expr)}{d:List Expr}{f:List (TE×TE)}(h:rz X pos b d f)(j:b.all (·.isSome)=true)(k:b.length=d.length)(h0:b ≠ [])
  (l:b.length<=15):PE X (.Dict b d pos) (Ce f):=by
 intro G s J H Q I q;have m:=I.hok.fresh (U5 s.heap.objs.size);have n:=I.laid (a:=s.heap.objs.size) (o:=.dK []) (h':=s.heap.push { cls:=.type "dict",data:=.dict #[] }) (t':=s.toks) (fun _ _ q=>U0 _ q) (U5 _) (D6 s.heap I.big);refine wpAny_Dict_walk (knd:=fH X.prog X.w) j k h0 l (az (h G _ J _ _ n (q _ m)) fun ws D Z=>?_);obtain⟨ps,E,g,p,e,U,r,lk,t⟩:=Z;subst r;obtain⟨u,c,v⟩:=FD (P:=X.prog) (w:=X.w) p;obtain⟨z,hd,x,y,dd⟩:=CT g.hok e;cases y;refine⟨u,c,dd,fun h' i A=>⟨.ref s.heap.objs.size,_,?_,rfl,t⟩⟩;have B:(lq [] U).length<=sizeLine:=by have h1:=Hi U [];rw[length_nil] at h1;rw[Vr];lia
 have he:∃q,h'.get? s.heap.objs.size=some q:=let ⟨q,_,_,C,_⟩:=i;⟨q,C⟩
 exact zy g (by rw[e];exact True.intro) A he (zo B hd (v.merge .nil) i)
section
variable {s:Shared}{A:Around}{E:Value->Shared->Prop}
theorem OA (I:Inv X G J H s)(e:Rd H a (.dK U))(h:∀p s',H p=none->Inv X G J (ax H p (.dK U)) s'->Q (.ref p) s'):wpAny (model X.prog X.w) A (call (.type "dict") [.ref a]) Q E s:=by obtain⟨z,hd,i,c,dd⟩:=qL I.hok e;refine kt_call_dict hd dd (by rw[<- c.length];exact z) fun h' f g=>?_;refine h _ _ (I.hok.fresh (U5 _)) (I.laid (a:=s.heap.objs.size) (o:=.dK U) (t':=s.toks) (fun b q d=>?_) (U5 _) (zo z (V5.mpr (Ne.symm (Vh I.big))) c f));exact(g.2 b (Vh (Va d))).trans (U0 _ d)
end
end
namespace Att
open PySem.W PySem.Calls
theorem TJ {P:Params}{h:Heap}:∀(ns:List Int)(c:List Value),WellAll P h c (ns.map WData.int)->IntsAre c ns:=by intro ns;induction ns with|nil=>(intro c w;rw[map_nil] at w;cases w;exact .nil)|cons n ns d=>intro c w;rw[VB] at w;cases w with|cons a b=>cases a;exact .cons _ _ (d _ b)
theorem Qa {l:OpenLaw}{n:Nat}(o:l.most=some n){P:Params}{h:Heap}{args:List WData}{i:List Value}
  (j:l.row.toRowW.claim.pre args=true) (f:WellAll P h i args):
  ∃a k ns,i=[Value.ref a]/\args=[WData.list (ns.map WData.int)]/\h.get? a=some { cls:=.type "list",data:=.seq k.toArray }/\IntsAre k ns/\ns.length<=n:=by
 have g:WShape.hasAll [] args [.list .int]=true:=(pre_splitW j).1;have m:l.pre.holds [] { args:=args }=true:=(pre_splitW j).2;obtain⟨d,r,rfl,h1,p⟩:=hasAllW_cons g;obtain rfl:=hasAllW_nil p;obtain⟨xs,rfl,s⟩:=hasW_list h1;obtain⟨ns,rfl⟩:=items_int s
 have b:ns.length<=n:=by
  unfold OpenLaw.pre at m;have c:(WTm.not (.lt (.lit (.int (n:Int))) (.len (.arg 0)))).holds [] { args:=[.list (ns.map .int)] }=true:=by have c:=(holds_andW m).1;rw[o] at c;exact c
  have e:=condW_of c (w_not (w_lt w_lit (w_len_list (w_arg rfl))));rw[U6] at e;refine Nat.le_of_not_lt fun q=>?_;have t:(n:Int)<((ns.length:Nat):Int):=by lia
  first| (rw[Vj t] at e;exact absurd e (by decide))| (simp at e;lia)
 cases f with
 |cons u v=>
  cases v
  cases u with
  |list w x=>exact⟨_,_,ns,rfl,rfl,w,TJ ns _ x,b⟩
theorem P9 (l:OpenLaw)(args:List WData):l.row.toRowW.claim.post args (.bool true) args=true:=postW_of (r:=l.row.toRowW) (X:=(true==true))
  (show WShape.has [] (.bool true) .bool=true by first|rfl|decide|simp [WShape.has,WShape.arms,WShape.armsAll])
  (show(WTm.eq .res (.lit (.bool true))).value [] { args:=args,res:=some (.bool true),after:=args }=some (.bool (true==true)) from w_eq_bool (w_res rfl) w_lit) rfl
theorem attach_call {l:OpenLaw}{n:Nat}{q:Program}{loose:List Str}{XP:(Str->Option Value)->Heap->Prop}{YP:World->Heap->Prop}{d:DefRec}
  (v:l.most=some n) (x:d.params.defaults=[])
  (call:∀(w:World)(s₀ s₁:Shared)(mg i:Str->Option Value)(e:Addr)(o:Obj)(j cd k:Value)(a:Addr)(c:List Value)(ns:List Int),Ground q loose [] XP w s₀ mg i s₁.heap->YP w s₁.heap →s₁.heap.get? e=some o->o.data=.func (docDef d.name d.params d.body d.scope j cd k)->s₁.heap.CodeRec cd d.name->mg d.name=some (.ref e) →s₁.heap.get? a=some { cls:=.type "list",data:=.seq c.toArray }->IntsAre c ns->ns.length<=n->s₁.gens = #[] →codeAny (model l.prog w) callerA (.call (.ref e) ⟨[.ref a],[]⟩) (fun r s'=>r=.ok (.ret (.bool true))/\OldK s₁.heap s'.heap/\s'.os=s₁.os/\AllBare s'.gens) s₁):
  WalkO q loose XP YP l.row.toRowW d [] (fun f c=>PySem.call f c):=by
 intro w s₀ s₁ mg i G Y e o j cd k y kV z hd A t m B args K L C u M p D;obtain rfl:y=.none:=Dflts.none t x;obtain rfl:kV=.none:=Dflts.noKw t;obtain⟨a,c,ns,rfl,rfl,g,b,h⟩:=Qa v C p;refine enter_call (V3 (call w s₀ s₁ mg i e o j cd k a c ns G Y z (fd_plain hd) A m g b h B) fun r s' E=>?_);obtain⟨rfl,F,H,I⟩:=E;exact⟨.inl ⟨.bool true,.bool true,[],rfl,fun _=>rfl,.bool true,P9 l _,fun _=>⟨List.Pairwise.nil,fun _ J=>(nomatch J)⟩⟩,F,H,I⟩
end Att
section
variable {xs:List V}{B:List Value}{x r:Str}{H H':Hp}{a it C:Addr}{P prog:Program}{w:World}{h' h1 base:Heap}{q u:Type}{X:Cx}{G:List (Addr×Obj)}{L:St}{N i j:Nat}{pos M p:Pos}{K:W.Frag}{st:Stmt}{O:TE}{es ifs:List Expr}{U iter elt:Expr}{g:TG}{fp:List Addr}{env:Env}{mg:Str->Option Value}{CX:jE}{y:FuncData}{ps N':List Str}{scope:Scope}{I ct J:Value}{Y od:Option Addr}{ns:List Int}{cl:List (Str×Addr)}
theorem Ez:∀{a:List Value}{ns:List Int},IntsAre a ns->Vals (ns.map V.int) a
 |_,_,.nil=>.nil
 |_,_,.cons n t h=>.cons ⟨t,rfl⟩ (Ez h)
def AJ (H:Hp):Prop:=∀b,H b=none∨∃o xs,H b=some (.frz o (.lst xs))
theorem Oz {t:Str->Option Value}{k:Nat}{A:Addr}{sp:Sp}{s₁:Shared}{c:List Value}
  (D:K.In s₁.heap) (E:s₁.heap.Ns mainGlobals mg) (hb:s₁.heap.Ns builtinsNs t) (S:∀x:Str,x≠"__name__"->t x=bootBuiltins x) (T:s₁.heap.NoLimit) (U:s₁.gens = #[])
  (l:s₁.heap.get? a=some { cls:=.type "list",data:=.seq c.toArray }) (G:IntsAre c ns) (I:ns.length<=sizeLine) (W:Room k callerA)
  (F:∀base:Heap,K.In base->base.Ns mainGlobals mg->FnOk P w K mg base CX k A y [x] sp) (X:∀(s:Shared)(u:Value),BindsTo s y ⟨[u],[]⟩ [(x,u)])
  (Y:∀H:Hp,AJ H->SqL K H a (ns.map V.int)->sp [.ref a] H (fun v _=>v=.bl true) fun _ _ _=>False)
  (Z:∀H e s',CX [] H s₁ (fun _ _ _=>False) e s'->False):
  codeAny (model P w) callerA (.call (.ref A) ⟨[.ref a],[]⟩) (fun r s'=>r=.ok (.ret (.bool true))/\OldK s₁.heap s'.heap/\s'.os=s₁.os/\AllBare s'.gens) s₁:=by
 have J:=Ez G;have f:=G.length
 have L:∀H:Hp,AJ H->SqL K H a (ns.map V.int)->HOk P w H s₁.heap->(∀b,H b≠none->b=a)->(H a≠none->K.lookup a=none) →codeAny (model P w) callerA (.call (.ref A) ⟨[.ref a],[]⟩) (fun r s'=>r=.ok (.ret (.bool true))/\OldK s₁.heap s'.heap/\s'.os=s₁.os/\AllBare s'.gens) s₁:=by
  intro H M hS hok N hK;have O:∀{b:Addr}{o:Obj},s₁.heap.get? b=some o->H b=none->(j5 s₁.heap H).get? b=some o:=fun e n=>OJ e n;have eU:∀{b:Addr}{o:Obj}{es:Array DictEntry}{g:Nat},s₁.heap.get? b=some o->o.data=.dict es g->H b=none:=fun {b o es g} e d=>by cases q:H b with|none=>rfl|some u=>have B:b=a:=N b (by rw[q];simp);subst B;rw[l] at e;cases e;have d':Data.seq c.toArray _=Data.dict es g:=d;cases d'
  have p:∀{b:Addr}{m:Str->Option Value},s₁.heap.Ns b m->(j5 s₁.heap H).Ns b m:=fun {b m} z0=>(by obtain⟨o,es,g,e,d,r⟩:=z0;exact ⟨o,es,g,O e (eU e d),d,r⟩);have Q:K.In (j5 s₁.heap H):=fun b o e=>O (D b o e) (by
   cases q:H b with
   |none=>rfl
   |some u=>
    have B:b=a:=N b (by rw[q];simp);subst B
    rw[hK (by rw[q];simp)] at e;cases e)
  have hM:Mod K mg (j5 s₁.heap H):=⟨Q,p E,⟨t,p hb,S⟩,let ⟨mc,h1,h2⟩:=T;⟨mc,p h1,h2⟩⟩;have e0:Env0 P w K mg (j5 s₁.heap H) callerA [] s₁ H:=⟨rfl,hM,fun b o e=>NX e,Nat.le_of_eq (Qo _ _),trivial,fun b hb=>absurd (show b∈([]:List Addr) from hb) (by simp),hok,.of_eq U⟩;refine V3 ((F _ Q (p E)).run callerA [] s₁ H ⟨[.ref a],[]⟩ [.ref a] [.ref a] _ _ W e0 (X s₁ (.ref a)) (.cons rfl .nil) (Y H M hS)) fun r s' h=>?_;cases r with|error e=>exact(Z H e s' h).elim|ok fl=>cases fl with|next=>exact False.elim h|brk=>exact False.elim h|cont=>exact False.elim h|ret u=>obtain⟨v,H',os,bare,un,i,r',q⟩:=h;have q':v=.bl true:=q;subst q';obtain rfl:u=Value.bool true:=r';refine⟨rfl,OldK.of_keep fun b o e=>?_,os,bare⟩;cases q:H b with|none=>exact un.keep b o e q (by intro z;exact absurd (show b∈([]:List Addr) from z) (by simp)) (by simp)|some u=>rcases M b with z|⟨ob,xs,z⟩;rw[q] at z;cases z;have z2:=un.frzs b ob _ z;obtain⟨R,_⟩:=hok b _ z;obtain⟨e2,_⟩:=i b _ z2;rw[e] at R;cases R;exact e2
 cases C:K.lookup a with
 |some o=>have e:=D a o C;rw[l] at e;cases e;refine L (fun _=>none) (fun _=>.inl rfl) (.inr ⟨_,c.toArray,_,C,rfl,rfl,rfl,by rw[Vd,f];exact I,by simpa using J⟩) (fun b u z=>by have j:(none:Option HO)=some u:=z;cases j) (fun b z=>absurd rfl z) fun z=>absurd rfl z
 |none=>
  refine L (fun b=>if b=a then some (.frz { cls:=.type "list",data:=.seq c.toArray } (.lst (ns.map V.int))) else none) (fun b=>?_) (.inl (.inr ⟨{ cls:=.type "list",data:=.seq c.toArray },Vm rfl⟩)) (fun b u z=>?_) (fun b z=>?_) fun _=>C
  .by_cases hb:b=a
   .exact .inr ⟨_,_,Vm hb⟩
   .exact .inl (Vi hb)
  .by_cases hb:b=a
   .have j:=(Vm hb).symm.trans z;cases j;subst hb;exact⟨l,by rw[U6];exact I,c,_,J,l⟩
   .have j:=(Vi hb).symm.trans z;cases j
  .by_cases hb:b=a
   .exact hb
   .exact absurd (Vi hb) z
theorem walk_of {l:PySem.W.OpenLaw}{n k:Nat}{q:Program}{loose:List Str}{XP:(Str->Option Value)->Heap->Prop}{YP:World->Heap->Prop}{d:DefRec}{K:Params->W.Frag}{CX:World->jE}{sp:World->Sp}
  (z:l.most=some n) (A:n<=sizeLine) (B:d.params.defaults=[]) (C:Room k callerA)
  (D:∀(w:World)(h:Heap),YP w h->(K w.params).In h)
  (F:∀(w:World)(mg:Str->Option Value)(m:Addr)(h:Heap),(K w.params).In h->h.Ns mainGlobals mg->mg d.name=some (.ref m) →∃y:FuncData,(∀(s:Shared)(u:Value),BindsTo s y ⟨[u],[]⟩ [(x,u)]) ∧∀base:Heap,(K w.params).In base->base.Ns mainGlobals mg->FnOk l.prog w (K w.params) mg base (CX w) k m y [x] (sp w))
  (E:∀(w:World)(H:Hp)(a:Addr)(ns:List Int),ns.length<=n->AJ H->SqL (K w.params) H a (ns.map V.int)->sp w [.ref a] H (fun v _=>v=.bl true) fun _ _ _=>False)
  (J:∀(w:World)(H:Hp)(s:Shared)(e:Value)(s':Shared),CX w [] H s (fun _ _ _=>False) e s'->False):
  PySem.W.WalkO q loose XP YP l.row.toRowW d [] (fun f r=>PySem.call f r):=by
 refine Att.attach_call z B fun w s₀ s₁ mg P m o I cd Q a r ns G Y R hd S p j i c L=>?_;have t:=D w _ Y;obtain⟨y,hb,M⟩:=F w mg m _ t G.T.g p;exact Oz t G.T.g G.T.b G.T.builtins G.T.nolimit L j i (VL c A) C M hb (fun H N O=>E w H a ns c N O) fun H e s'=>J w H s₁ e s'
abbrev bX:jE:=fun _ _ _ _ _ _=>False
abbrev E0:XK:=fun _ _ _=>False
theorem qS:tV bX X E0:=fun _ _ _ _ _ _ _ h=>h.elim
structure Fun (K:W.Frag)(x r:Str)(st:Stmt)(f:Addr)(y:FuncData):Prop where
 ex:∃(J:Value)(od:Option Addr)(kV bF I:Value)(Y:Option Addr)(aG ct:Value)(ei:Array (Option Value)),y=PySem.W.fnOf x r (fg st) (di st) (aR st) .none kV bF I Y aG ct/\K.lookup f=some ⟨J,od,.func y,ei⟩/\PySem.W.codeIn K aG r=true
 kp:PySem.W.keepIn K (.ref f)=true
section
theorem Fun.ok {f:Addr}{N:List Str}{k:Nat}{sp:Sp}(F:Fun K x r st f y)(S:aB N ps (aR st))(len:∀a H Q E,sp a H Q E->a.length=ps.length)
  (c:∀(b:Value)(A:Around)(outer:List Env)(s:Shared)(H:Hp)(a:List V)(Q:VK)(E:XK),Room k (A.deeper (envOfC r (aR st) s.heap.objs.size f b))->sp a H Q E →∃t,PSs (j2 bX P w K mg base N r (aR st) f b A outer s H E).nox (di st) t/\t { nx:=fun _ H'=>Q .non H',rt:=Q } (dO N a) H):FnOk P w K mg base bX (k+1) f y ps sp:=by
 obtain⟨J,od,kV,i,I,Y,b,ct,j,rfl,lk,d⟩:=F.ex;refine BP lk d S len fun A outer s H a Q E e g=>?_;obtain⟨t,h,q⟩:=c b A outer s H a Q E e g;exact⟨t,h.nox,q⟩
theorem Fun.binds {f:Addr}(F:Fun K x r st f y)
  (h:∀(kV a I:Value)(Y:Option Addr)(b ct:Value)(B:List Value),B.length=ps.length->bindArgs (PySem.W.fnOf x r (fg st) (di st) (aR st) .none kV a I Y b ct) ⟨B,[]⟩=pure (ps.zip B)):Binds K y ps []:=by
 obtain⟨J,od,kV,a,I,Y,b,ct,c,rfl,lk,d⟩:=F.ex;exact .all (h kV a I Y b ct)
theorem Mn {f:Addr}{d:Array (Option Value)}{kV b a:Value}(l:K.lookup f=some ⟨J,od,.func (PySem.W.fnOf x r (fg st) (di st) (aR st) .none kV b I Y a ct),d⟩)
  (c:PySem.W.codeIn K a r=true) (k:PySem.W.keepIn K (.ref f)=true):Fun K x r st f (PySem.W.fnOf x r (fg st) (di st) (aR st) .none kV b I Y a ct):=⟨⟨J,od,kV,b,I,Y,a,ct,d,rfl,l,c⟩,k⟩
end
section
theorem pv (i:Nat){x:Str}{pos:Pos}(a:X.N[i]?=some x:=by rfl)(b:oN X.env.scope x:=by first|exact Or.inl rfl|exact Or.inr (Or.inl rfl)|exact Or.inr (Or.inr rfl))(hd:(x==("__debug__":Str))=false:=by decide)
  (c:(x==("__classdict__":Str))=false:=by decide):PE X (.Name x pos) (tE i):=CP a b hd c
end
theorem oM {A B:Prop}(h:B):if false=true then A else B:=by rw[Vi U3];exact h
theorem AI {A B:Prop}(h:A):if true=true then A else B:=by rw[Vm rfl];exact h
theorem aE {c A B:Prop}[Decidable c](h1:c->A)(a:¬c->B):if c then A else B:=by by_cases h:c;rw[Vm h];exact h1 h;rw[Vi h];exact a h
def Same (H H':Hp):Prop:=∀b o,H b=some o->H' b=some o
theorem Same.refl (H:Hp):Same H H:=fun _ _ h=>h
theorem Same.trans {d e:Hp}(a:Same H d)(b:Same d e):Same H e:=fun c o h=>b c o (a c o h)
theorem Same.free (e:Same H H'){l:Addr}(h:H' l=Option.none):H l=Option.none:=by cases q:H l with|none=>rfl|some o=>rw[e l o q] at h;cases h
theorem Same.seq (e:Same H H')(h:SqL K H a xs):SqL K H' a xs:=by rcases h with (h|⟨o,h⟩)|h;exact .inl (.inl (e _ _ h));exact .inl (.inr ⟨o,e _ _ h⟩);exact .inr h
section
theorem P8:c8 X (.builtin "len") (fun xs H Q=>∃a b,xs=[V.ref a]/\H a=some (.dK b)/\Q (.int b.length) H):=by intro G s L H xs B Q I r h;obtain⟨a,b,rfl,c,q⟩:=h;obtain⟨u,rfl,d⟩:=gK r;cases d;exact Um I (.inl c) fun t s' e=>⟨.int b.length,H,e,⟨t,rfl⟩,q⟩
end
section
variable {A:Around}{E:Value->Shared->Prop}{R:Result->Shared->Prop}{s:Shared}
theorem S0 {a:Expr}{it b:Value}(I:Nat->Shared->Prop)
  (f:∀n s,I n s->wpAny (model prog w) A (pyNext it) (fun r d=>match r with
   |none=>R (.ok .next) d
   |some v=>wpAny (model prog w) A (letOwnedTupleGo a it v) (fun _ e=>wpAny (model prog w) A (assign a env v) (fun _ g=>
     wpAny (model prog w) A (forIn ifs true fun c r=>if r=true then do let ok ← isTrue c env (eval c env);pure (ForInStep.yield ok) else pure (ForInStep.yield r)) (fun ok s3=>
      if ok=true then wpAny (model prog w) A (eval elt env) (fun x i=>
       wpAny (model prog w) A (call (.builtin "list.append") [b,x]) (fun _ j=>∃m,m<n/\I m j) (fun _ _=>False) i) (fun _ _=>False) s3
      else ∃m,m<n/\I m s3) (fun _ _=>False) g) (fun _ _=>False) e) (fun _ _=>False) d) (fun _ _=>False) s)
  (n:Nat) (h:I n s):
  codeAny (model prog w) A (.compLoop (.ListComp elt [⟨a,iter,ifs,0⟩] scope pos) 0 it b env) R s:=by
 refine codeAny_loop rfl I (fun n s k=>?_) n h;show wpAny _ A ((compTurn (.ListComp elt [⟨a,iter,ifs,0⟩] scope pos) 0 it b env).onRaise (fun x=>do noteFrame x env;theTreesLotGoes x)) _ _ s;refine wpAny_noted ?_;rw[compTurn_list];refine UZ (WU (UZ (VE (f n s k) (fun r s₁ h₁=>?_) fun _ _ h'=>h'.elim)))
 cases r with
 |none=>exact U2 h₁
 |some v=>
  refine UZ (VE h₁ (fun _ e l=>?_) fun _ _ h'=>h'.elim);refine UZ (VE l (fun _ s₂ h₂=>UZ (VE h₂ (fun ok s₃ h₃=>?_) fun _ _ h'=>h'.elim)) fun _ _ h'=>h'.elim)
  cases ok with
  |false=>exact U2 ⟨rfl,h₃⟩
  |true=>exact UZ (UZ (VE h₃ (fun x s₄ h₄=>UZ (VE h₄ (fun _ s₅ h₅=>U2 (U2 ⟨rfl,h₅⟩)) fun _ _ h'=>h'.elim)) fun _ _ h'=>h'.elim))
end
theorem zS:∀(names:List (Str×NameKind))(a:List (Str×Addr)),(∀n,(n,NameKind.free)∈names->∃c,env.cells.lookup n=some c) →∃cl,(forIn names a fun(x:Str×NameKind) (r:List (Str×Addr))=>match x with
   | (name,kind)=>if (kind==NameKind.free)=true then do let c ← cellOf env name;pure (ForInStep.yield ((name,c)::r)) else pure (ForInStep.yield r):Sem (List (Str×Addr)))=pure cl ∧
   (∀p∈cl,p∈a∨env.cells.lookup p.1=some p.2)/\(∀p∈a,p∈cl)/\(∀n,(n,NameKind.free)∈names->∃c,(n,c)∈cl)
 |[],a,_=>⟨a,by simp,fun p b=>.inl b,fun p b=>b,fun n l=>by cases l⟩
 | (n,k)::r,a,h=>by by_cases f:(k==NameKind.free)=true;have o:k=NameKind.free:=eq_of_beq f;subst o;obtain⟨c,j⟩:=h n (Vc);obtain⟨cl,e,h1,g,i⟩:=zS r ((n,c)::a) fun m d=>h m (Vb _ d);refine⟨cl,?_,fun p b=>?_,fun p b=>g p (Vb _ b),fun m d=>?_⟩;rw[forIn_cons];simp only [f,if_true];unfold cellOf;rw[j];exact e;rcases h1 p b with q|q;rcases Vg.mp q with q|q;subst q;exact .inr j;exact .inl q;exact .inr q;rcases Vg.mp d with q|q;cases q;exact⟨c,g _ Vc⟩;exact i m q;obtain⟨cl,e,h1,g,i⟩:=zS r a fun m d=>h m (Vb _ d);refine⟨cl,?_,h1,g,fun m d=>?_⟩;rw[forIn_cons];simp only [f];exact e;rcases Vg.mp d with q|q;cases q;exact absurd rfl f;exact i m q
theorem FC [BEq u][LawfulBEq u]{b : Type}:∀{l:List (u × b)}{x : u}{c : b},l.lookup x=some c->(x,c)∈l
 |[],_,_,h=>by simp at h
 | (n,k)::r,x,c,h=>by cases a:x==n with|true=>(simp only [Ws,a] at h;cases h;have e:=eq_of_beq a;subst e;exact Vc)|false=>simp only [Ws,a] at h;exact Vb _ (FC h)
theorem FA [BEq u][LawfulBEq u]{d : Type}:∀{l:List (u × d)}{x : u}{c : d},(x,c)∈l->∃a,l.lookup x=some a
 | (n,k)::r,x,c,h=>by cases b:x==n with|true=>exact⟨k,by simp only [Ws,b]⟩|false=>rcases Vg.mp h with q|q;cases q;simp at b;obtain⟨a,e⟩:=FA q;exact⟨a,by simp only [Ws,b];exact e⟩
theorem Hv (h:∀n,(n,NameKind.free)∈scope.names->∃c,env.cells.lookup n=some c):∃cl,closureFor scope env=pure cl/\(∀x c,cl.lookup x=some c->env.cells.lookup x=some c)/\∀n,(n,NameKind.free)∈scope.names->∃c,cl.lookup n=some c:=by
 obtain⟨cl,e,h1,_,a⟩:=zS scope.names [] h;refine⟨cl,?_,fun x c b=>?_,fun n d=>?_⟩;have f:closureFor scope env=((forIn scope.names ([]:List (Str×Addr)) fun(x:Str×NameKind) (r:List (Str×Addr))=>match x with| (name,kind)=>if (kind==NameKind.free)=true then do let c ← cellOf env name;pure (ForInStep.yield ((name,c)::r)) else pure (ForInStep.yield r):Sem (List (Str×Addr))) >>= fun r=>pure r):=rfl
 rw[f,e];rfl;rcases h1 _ (FC b) with q|q;cases q;exact q;obtain⟨c,g⟩:=a n d;exact FA g
noncomputable def dZ (X:Cx)(N':List Str)(scope:Scope)(cl:List (Str×Addr))(C:Addr)(ex:List Addr)(s0:Shared)(H0:Hp):Cx:={ X with N:=N',s₀:=s0,H₀:=H0,env:=compEnvC scope cl C X.env,outer:=X.stack,stack:=X.stack,ex:=ex,fn:=fun _=>false,pn:=[],xe:=fun _ _=>False }
section
variable {s:Shared}
theorem Inv.track {o:HO}(I:Inv X G L H s)(f:cK X G H a)(new:ObjOk X.prog X.w (ax H a o) s.heap a o):Inv X G L (ax H a o) s:=by
 obtain⟨j,f1,t,k,l,m⟩:=f;have ne:∀b u,H b=some u->b≠a:=fun b u e=>cm e j;refine⟨I.ok,I.os,I.bare,⟨I.base.keep,I.base.slot,fun b ob e n h=>?_,I.base.there,fun b xs e=>?_,fun b ob u e=>?_,fun b ps e=>?_⟩,I.loc,I.cell,?_,fun x c e=>?_,fun p i=>?_,fun b u e=>?_,I.len⟩;have hb:b≠a:=by rintro rfl;rcases k with z|z;exact h z;exact absurd (Ve (Va e) z) (VI _)
 rw[aD hb];exact I.base.free b ob e n h;have q:=I.base.tups b xs e;rw[aD (ne _ _ q)];exact q;have q:=I.base.frzs b ob u e;rw[aD (ne _ _ q)];exact q;obtain⟨more,q⟩:=I.base.tbls b ps e;exact⟨more,by rw[aD (ne _ _ q)];exact q⟩;rw[aD (Ne.symm f1)];exact I.free;rw[aD (l x c e)];exact I.freeC x c e;obtain⟨e,n,g,r,d⟩:=I.pin p i;exact⟨e,by rw[aD (m p i)];exact n,g,r,d⟩;by_cases hb:b=a;subst hb;rw[aY] at e;cases e;exact new;rw[aD hb] at e;exact(I.hok b u e).stay (fun c v _ q=>q) (fun c q=>by rw[aD (ne _ _ q)];exact q) fun c xs q=>by rw[aD (ne _ _ q)];exact q
end
def PTs (X:Cx)(ifs:List Expr)(t:TT):Prop:=∀(G:List (Addr×Obj))(s:Shared)(L:St)(H:Hp)(Q:Bool->Hp->Prop),Inv X G L H s->t L H Q →wpAny (model X.prog X.w) X.A (forIn ifs true fun c r=>if r=true then do let ok ← isTrue c X.env (eval c X.env);pure (ForInStep.yield ok) else pure (ForInStep.yield r)) (TP X G L Q) X.xe s
def jF:TT:=fun _ H Q=>Q true H
theorem Sf:PTs X [] jF:=fun _ _ _ H _ I h=>wpAny_tests_nil ⟨H,I,h⟩
theorem tW {c:Expr}{t:TT}(h:PT X c t):PTs X [c] t:=fun G s L H Q I q=>wpAny_tests_one (h G s L H Q I q)
noncomputable def oz (src:List (Option Nat))(L:St):St:=src.map fun o=>match o with|some j=>(L[j]?).getD none|none=>none
def tK (src:List (Option Nat))(h:TI)(g:TG)(tt:TT)(O:TE):TE:=fun L H Q=>h L H fun J j=>∃W:Nat->Nat->List V->St->Hp->Prop,(∃m,W 0 m [] (oz src L) j)/\∀i m c d H,W i m c d H →(J.stop i H/\∀l,H l=none->Q (.ref l) (ax H l (.lst c))) ∨
 (J.go i H/\c.length<sizeLine/\∀x H',J.yld i H x H'->g x d H' fun a k=>tt a k fun b f=>
  if b=true then O a f fun v n=>∃e,e<m/\W (i+1) e (c++[v]) a n else ∃e,e<m/\W (i+1) e c a f)
section
variable {src:List (Option Nat)}{Z:TI}{tt:TT}
theorem Ai {env:Env}:∀{names:List (Str×NameKind)}{x:Str}{k:NameKind},(names.map fun(n,k)=>if (k==NameKind.free&&env.scope.kind == .function&&env.kindOf n==some .cell) then (n,NameKind.cell) else (n,k)).lookup x=some k →(k=.cell∨k=.free)->(∀y∈names,y.2 ≠ .cell)->(x,NameKind.free)∈names
 |[],_,_,h,_,_=>by simp at h
 | (n,a)::r,x,k,h,d,f=>by
  have j:=@Ai env r x k;have h':List.lookup x ((if (a==NameKind.free&&env.scope.kind == .function&&env.kindOf n==some .cell)=true then (n,NameKind.cell) else (n,a))::(r.map fun(n,k)=>if (k==NameKind.free&&env.scope.kind == .function&&env.kindOf n==some .cell) then (n,NameKind.cell) else (n,k)))=some k:=h;by_cases g:x=n;subst g;by_cases c:a=.free;subst c;exact Vc;have e:(a==NameKind.free)=false:=by simpa using c
  rw[e] at h';simp only [Bool.false_and,Bool.false_eq_true,if_false,Ws,W6] at h';have i:a=k:=Vq h';rcases d with q|q;exact absurd (i.trans q) (f (x,a) Vc);exact absurd (i.trans q) c;have e:(x==n)=false:=by simpa using g
  have l:(r.map fun(n,k)=>if (k==NameKind.free&&env.scope.kind == .function&&env.kindOf n==some .cell) then (n,NameKind.cell) else (n,k)).lookup x=some k:=by by_cases b:(a==NameKind.free&&env.scope.kind == .function&&env.kindOf n==some .cell)=true;rw[Vm b] at h';simp only [Ws,e] at h';exact h';rw[Vi b] at h';simp only [Ws,e] at h';exact h'
  exact Vb _ (j l d fun y m=>f y (Vb _ m))
structure a8 (X:Cx)(scope:Scope)(N':List Str)(src:List (Option Nat)):Prop where
 kind:scope.kind=.function
 cell:∀y∈scope.names,y.2 ≠ .cell
 names:∀x∈scope.names,x.2=.local->scope.names.lookup x.1=some .local
 fr:∀n,(n,NameKind.free)∈scope.names->X.env.kindOf n=some .cell∨X.env.kindOf n=some .free
 excl:∀n,(n,NameKind.free)∈scope.names->¬scope.names.lookup n=some .local
 len:N'.length=src.length
 src:∀(i j:Nat),src[i]?=some (some j)->∃x:Str,N'[i]?=some x/\X.N[j]?=some x/\(x,NameKind.free)∈scope.names
theorem Hu {D:Addr}{s3:Shared}{tk:Nat}(S:a8 X scope N' src)(a:Inv X G L H s3)
  (A:∀x c,cl.lookup x=some c->X.env.cells.lookup x=some c) (M:∀n,(n,NameKind.free)∈scope.names->∃c,cl.lookup n=some c) (E:C=s3.heap.objs.size)
  (F:∀b∈D::fp,cK X G H b) (Z:∀b∈D::fp,b<s3.heap.objs.size) (gB:h1.Ns C (fun _=>none)) (I:∀b o,s3.heap.get? b=some o->h1.get? b=some o):
  Inv (dZ X N' scope cl C (D::fp) s3 H) [] (oz src L) H { s3 with heap:=h1,toks:=tk }:=by
 have pk:∀b o,s3.heap.get? b=some o->b≠C:=fun b o e=>by rw[E];exact Vh (Va e)
 have HC:H C=none:=a.hok.fresh (Nat.le_of_eq E.symm)
 have ok:(dZ X N' scope cl C (D::fp) s3 H).Ok:=by refine⟨a.ok.mod,S.kind,a.ok.glob,a.ok.blt,Nat.le_of_eq E.symm,fun x y c N K=>a.ok.inj x y c (A x c N) (A y c K),fun x B=>?_,fun x c z=>absurd z U3,a.ok.hd,a.ok.frames,.inl rfl,fun b hb=>⟨?_,fun x c e=>?_⟩,a.bs,VL a.ok.bsz a.sz,fun b o e hb=>?_,fun b hb=>?_,a.stack,a.stkFree⟩;refine M x ?_;rcases B with z|z;exact Ai (env:=X.env) (show((scope.names.map _).lookup x)=some .cell from z) (.inl rfl) S.cell;exact Ai (env:=X.env) (show((scope.names.map _).lookup x)=some .free from z) (.inr rfl) S.cell;show b≠C;rw[E];exact Vh (Z b hb);exact(F b hb).2.2.2.2.1 x c (A x c e);rcases(F b hb).2.2.2.1 with z|z;exact a.ok.noex b o e z;exact absurd (Ve (Ve (Va e) a.ok.bsz) z) (VI _);intro z;have O:b∈bU X.stack:=z;rcases Vg.mp (a.stkSub b O) with q|q;exact(F b hb).2.1 q;exact(F b hb).2.2.1 q
 refine⟨ok,rfl,a.bare,Un.kept I,⟨_,gB,fun i x v N K e3=>?_⟩,fun x c e=>?_,HC,fun x c e=>a.freeC x c (A x c e),fun p hp=>absurd (show p∈([]:List (Addr×Obj)) from hp) (by simp),a.hok.kept I,?_⟩
 .have w:(src.map fun o=>match o with|some j=>(L[j]?).getD none|none=>none)[i]?=some (some v):=K
  rw[Vl] at w
  cases q:src[i]? with
  |none=>rw[q] at w;cases w
  |some o=>
   rw[q] at w
   cases o with
   |none=>cases w
   |some j=>
    obtain⟨g,P,Q,s⟩:=S.src i j q;have ex:g=x:=Vq (P.symm.trans N);subst ex
    have ev:L[j]?=some (some v):=by cases T:L[j]? with|none=>simp [T] at w|some o=>simp [T] at w;rw[w]
    obtain⟨m,hn,hl⟩:=a.loc;have f:=S.fr g s
    obtain⟨u,r,l⟩:=hl j g v Q ev (by
     rcases f with z|z
     .exact .inr (.inl z)
     .exact .inr (.inr z))
    refine⟨u,r,.inr ⟨?_,?_⟩⟩
    .rcases e3 with z|z|z
     .exfalso
      have O:(scope.names.map fun(n,k)=>if (k==NameKind.free&&X.env.scope.kind == .function&&X.env.kindOf n==some .cell) then (n,NameKind.cell) else (n,k)).lookup g=some .local:=z;rcases l with ⟨k,_⟩|⟨_,c,U,t⟩
      .rcases f with y|y <;> (rw[y] at k;cases k)
      .exact(show False by
        have:=S.names;have hm:=s;clear K w
        have JS:∀(names:List (Str×NameKind)),(names.map fun(n,k)=>if (k==NameKind.free&&X.env.scope.kind == .function&&X.env.kindOf n==some .cell) then (n,NameKind.cell) else (n,k)).lookup g=some .local →names.lookup g=some .local:=by
         intro names;induction names with
         |nil=>(intro h;simp at h)
         |cons y r V=>
          obtain⟨n,k⟩:=y;intro h;have h':List.lookup g ((if (k==NameKind.free&&X.env.scope.kind == .function&&X.env.kindOf n==some .cell)=true then (n,NameKind.cell) else (n,k))::(r.map fun(n,k)=>if (k==NameKind.free&&X.env.scope.kind == .function&&X.env.kindOf n==some .cell) then (n,NameKind.cell) else (n,k)))=some .local:=h;by_cases B:(g==n)=true;by_cases d:(k==NameKind.free&&X.env.scope.kind == .function&&X.env.kindOf n==some .cell)=true;rw[Vm d] at h';simp only [Ws,B] at h';cases h';rw[Vi d] at h';simp only [Ws,B] at h' ⊢;exact h';have W:(g==n)=false:=by simpa using B
          by_cases d:(k==NameKind.free&&X.env.scope.kind == .function&&X.env.kindOf n==some .cell)=true;rw[Vm d] at h';simp only [Ws,W] at h' ⊢;exact V h';rw[Vi d] at h';simp only [Ws,W] at h' ⊢;exact V h'
        have z2:=JS _ O;obtain⟨Y,d⟩:=M g s
        exact S.excl g s z2)
     .exact .inl z
     .exact .inr z
    .rcases l with ⟨k,_⟩|⟨_,c,U,t⟩
     .rcases f with y|y <;> (rw[y] at k;cases k)
     .obtain⟨Y,d⟩:=M g s;have e:=A g Y d;rw[U] at e;cases e;obtain⟨J,R,hd⟩:=t;exact⟨c,d,J,I c J R,hd⟩
 .obtain⟨v,J,R,hd⟩:=a.cell x c (A x c e);exact⟨v,J,I c J R,hd⟩
 .show(src.map _).length=N'.length;rw[U6,S.len]
theorem Fz {D:Addr}{l:List (Addr×Obj)}{g:St}{s3 a:Shared}{h:List V}(i:Inv X G L H s3)(j:C=s3.heap.objs.size)
  (c:∀b∈D::fp,cK X G H b) (m:∀b∈D::fp,b<s3.heap.objs.size) (d:Inv (dZ X N' scope cl C (D::fp) s3 H) l g H' a) (p:H' D=none) (pl:a.heap.PlainList D B.toArray) (q:Vals h B) (r:h.length<=sizeLine)
  (k:Heap.SameBut C a.heap h'):Inv X G L (ax H' D (.lst h)) { a with heap:=h' }:=by
 have J:Inv X G L H' a:=i.call' d.os d.base d.hok d.bare (ch:=D::fp) fun b hb=>⟨(c b hb).2.2.2.1,(c b hb).2.1,(c b hb).2.2.2.2.1,(c b hb).2.2.2.2.2⟩;have f:cK X G H' C:=i.fpOk (Nat.le_of_eq j.symm) d.free;have s:Inv X G L H' { a with heap:=h' }:=J.turned (t':=a.toks) (fun b o hb e=>(k.2 b hb).trans e) f.1 f.2.1 f.2.2.2.1 f.2.2.2.2.1 f.2.2.2.2.2;have t:D≠C:=by rw[j];exact Vh (m D Vc)
 obtain⟨n,e⟩:=pl;have u:=c D Vc;exact s.track ⟨p,u.2⟩ ⟨r,B,n,q,(k.2 D t).trans e⟩
theorem D5 {D:Addr}{tn:Nat->Heap->Prop}{J:It}{F:St}{s3 s4:Shared}{R:Result->Shared->Prop}{W:Nat->Nat->List V->St->Hp->Prop}{m0:Nat}{Q:List V->Hp->Prop}
  (hc:X.calm=true) (T:dy X.prog X.w X.K U J fp it tn) (I3:Inv X G L H s3) (hC:C=s3.heap.objs.size)
  (hf:∀b∈D::fp,cK X G H b) (bT:∀b∈D::fp,b<s3.heap.objs.size) (nC:D∉fp) (IY:Inv (dZ X N' scope cl C (D::fp) s3 H) [] F H s4) (st:tn 0 s4.heap) (pl:s4.heap.PlainList D #[])
  (hg:PG (dZ X N' scope cl C (D::fp) s3 H) U g) (ht:PTs (dZ X N' scope cl C (D::fp) s3 H) ifs tt) (he:PE (dZ X N' scope cl C (D::fp) s3 H) elt O) (w0:W 0 m0 [] F H)
  (b8:∀i m f a H,W i m f a H->(J.stop i H/\Q f H)∨(J.go i H/\f.length<sizeLine/\∀x H',J.yld i H x H'->g x a H' fun k H2=>tt k H2 fun b H3=>
   if b=true then O k H3 fun v H4=>∃l,l<m/\W (i+1) l (f++[v]) k H4 else ∃l,l<m/\W (i+1) l f k H3))
  (aJ:∀I a H' f B s,Inv (dZ X N' scope cl C (D::fp) s3 H) s a H' I->H' D=none->I.heap.PlainList D B.toArray->Vals f B->f.length<=sizeLine->Q f H'->R (.ok .next) I):
  codeAny (model X.prog X.w) X.A (.compLoop (.ListComp elt [⟨U,iter,ifs,0⟩] scope pos) 0 (.ref it) (.ref D) (compEnvC scope cl C X.env)) R s4:=by
 have eY:(dZ X N' scope cl C (D::fp) s3 H).env=compEnvC scope cl C X.env:=rfl;generalize t:dZ X N' scope cl C (D::fp) s3 H=Y at *;have e1:Y.prog=X.prog:=by rw[<- t];rfl
 have e2:Y.w=X.w:=by rw[<- t];rfl
 have e3:Y.K=X.K:=by rw[<- t];rfl
 have e4:Y.A=X.A:=by rw[<- t];rfl
 have e5:Y.calm=true:=by rw[<- t];exact hc
 have e6:Y.xe=fun _ _=>False:=by rw[<- t];rfl
 have e7:Y.env.locals=C:=by rw[eY];rfl
 have e8:Y.ex=D::fp:=by rw[<- t];rfl
 have e9:Y.pn=[]:=by rw[<- t];rfl
 have UW:Y.fs=bU X.stack:=by rw[<- t];rfl
 have BL:∀x c,Y.env.cells.lookup x=some c->∀b∈D::fp,c≠b:=fun x c e b hb=>(IY.ok.exf b (by rw[e8];exact hb)).2 x c e;have wF:∀b∈D::fp,b∉Y.fs:=fun b hb=>IY.ok.exfs b (by rw[e8];exact hb)
 have BI:∀(s:List (Addr×Obj))(H':Hp),(∀p∈s,p.1=D)->∀b∈fp,H' b=none->cK Y s H' b:=fun s H' h b hb hn=>
  ⟨hn,by rw[e7,hC];exact Vh (bT b (Vb _ hb)),wF b (Vb _ hb),.inl (by rw[e8];exact Vb _ hb),fun x c e=>BL x c e b (Vb _ hb),fun p pJ z=>by
   rw[e9,VY] at pJ;have q:=h p pJ;rw[z] at q;rw[q] at hb
   exact nC hb⟩
 have Lg:∀(s:List (Addr×Obj))(H':Hp),(∀p∈s,p.1≠D)->H' D=none->cK Y s H' D:=fun s H' h hn=>
  ⟨hn,by rw[e7,hC];exact Vh (bT D Vc),wF D Vc,.inl (by rw[e8];exact Vc),fun x c e=>BL x c e D Vc,fun p pJ=>by
   rw[e9,VY] at pJ
   exact h p pJ⟩
 have T':dy Y.prog Y.w Y.K U J fp it tn:=by rw[e1,e2,e3];exact T
 rw[<- eY,<- e1,<- e2,<- e4]
 refine S0 (fun n s'=>∃i f B a H',Inv Y [] a H' s'/\tn i s'.heap/\(∀b∈fp,H' b=none)/\H' D=none/\s'.heap.PlainList D (B:List Value).toArray/\Vals f B/\f.length<=sizeLine/\W i n f a H') ?_ m0
  ⟨0,[],[],F,H,IY,st,fun b hb=>(hf b (Vb _ hb)).1,(hf D Vc).1,pl,.nil,VW _,w0⟩
 rintro n I ⟨i,f,B,a,Z,I5,st5,fr5,hD5,pl5,y,hz5,w5⟩;obtain⟨E,pK⟩:=id pl5
 have I5':Inv Y [(D,{ cls:=.type "list",data:=.seq B.toArray E })] a Z I:=I5.pins_of fun p h=>by
  rw[VS] at h;subst h;exact⟨pK,hD5,by rw[e7,hC];exact Vh (bT D Vc),wF D Vc,fun v z=>by
   have z':Data.seq B.toArray E=Data.cell v:=z
   cases z'⟩
 have f5:∀b∈fp,cK Y [(D,{ cls:=.type "list",data:=.seq B.toArray E })] Z b:=fun b hb=>BI _ _ (fun p h=>by rw[VS] at h;rw[h]) b hb (fr5 b hb);rcases b8 i n f a Z w5 with ⟨stop,q⟩|⟨go,hz,step⟩
 .refine az (T'.done Y rfl rfl rfl e5 i _ I a Z (fun _ _=>False) I5' f5 st5 stop) fun r s6 z0=>?_;obtain⟨hr,I6⟩:=z0;subst hr;exact aJ s6 a Z f B _ I6 hD5 ⟨E,(I6.pin (D,_) (VP _ Vc)).1⟩ y hz5 q
 .refine az (T'.item Y rfl rfl rfl e5 i _ I a Z (fun _ _=>False) I5' f5 st5 go) fun r s6 z1=>?_;obtain⟨u,hr,h6⟩:=z1
  subst hr;refine az h6 fun _ s7 z2=>?_;obtain⟨x,H7,I7,r7,y7,M,fr7⟩:=z2;have f7:∀b∈fp,cK Y [(D,{ cls:=.type "list",data:=.seq B.toArray E })] H7 b:=fun b hb=>BI _ _ (fun p h=>by rw[VS] at h;rw[h]) b hb (fr7 b hb);have I7':=I7.pinned f7 (T.obj _ _ M);have hx:=hg _ s7 a H7 x u _ I7' r7 (step x H7 y7);rw[e6] at hx;refine az hx fun _ s8 z3=>?_;obtain⟨j,H8,I8,q8⟩:=z3;have hx2:=ht _ s8 j H8 _ I8 q8;rw[e6] at hx2;have kL:∀{σ9:St}{N:Hp}{s9:Shared},Inv Y ([(D,{ cls:=.type "list",data:=.seq B.toArray E })]++qQ fp s7.heap) σ9 N s9->tn (i+1) s9.heap/\(∀b∈fp,N b=none)/\N D=none/\s9.heap.get? D=some { cls:=.type "list",data:=.seq B.toArray E }:=fun {σ9 N s9} P=>by have pD:=P.pin (D,_) (VP _ (V6 _ Vc));refine⟨T.keep _ _ _ M fun b hb o e=>(P.pin (b,o) (VP _ (VP _ (uO hb e)))).1,fun b hb=>?_,pD.2.1,pD.1⟩;obtain⟨o,e,d⟩:=T.obj _ _ M b hb;exact(P.pin (b,o) (VP _ (VP _ (uO hb e)))).2.1
  refine az hx2 fun ok s9 z4=>?_;obtain⟨N,P,q9⟩:=z4
  cases ok with
  |false=>rw[Vi U3] at q9;rw[Vi U3];obtain⟨l,hm,w9⟩:=q9;obtain⟨k1,k2,k3,k4⟩:=kL P;exact⟨l,hm,i+1,f,B,j,N,P.pins_of (fun p h=>nomatch h),k1,k2,k3,⟨E,k4⟩,y,hz5,w9⟩
  |true=>
   rw[Vm rfl] at q9;rw[Vm rfl];have hx3:=he _ s9 j N _ P q9;rw[e6] at hx3;refine az hx3 fun xv gk z5=>?_;obtain⟨v,S,I10,r10,l,hm,w10⟩:=z5;obtain⟨k1,k2,k3,k4⟩:=kL I10;have hl:=y.length;refine wpAny_list_append_plain ⟨E,k4⟩ (fun h' JD sb=>?_) (by rw[Vd];lia);have fD:=Lg [] S (fun p h=>nomatch h) k3;have Ur:Inv Y [] j S { gk with heap:=h' }:=(I10.pins_of (pins':=[]) fun p h=>nomatch h).turned (t':=gk.toks) (fun b o hb e=>(sb.2 b hb).trans e) fD.1 fD.2.1 fD.2.2.2.1 fD.2.2.2.2.1 fD.2.2.2.2.2;refine⟨l,hm,i+1,f++[v],B++[xv],j,S,Ur,T.keep _ _ _ k1 (fun b hb o e=>(sb.2 b ?_).trans e),k2,k3,?_,y.append (.cons r10 .nil),?_,w10⟩
   .intro z;rw[z] at hb;exact nC hb
   .rw[show(B++[xv]).toArray=B.toArray.push xv by simp];exact JD
   .rw[U9,length_singleton];exact hz
theorem zx (hc:X.calm=true)(S:a8 X scope N' src)(hi:PI X U iter Z)
  (hb:∀cl C ex s0 H0,PG (dZ X N' scope cl C ex s0 H0) U g/\PTs (dZ X N' scope cl C ex s0 H0) ifs tt/\PE (dZ X N' scope cl C ex s0 H0) elt O)
  (hs:∀x,foldedSetIterable iter X.env x=pure x:=by intro _;rfl):PE X (.ListComp elt [⟨U,iter,ifs,0⟩] scope pos) (tK src Z g tt O):=by
 intro G s L H Q I h;obtain⟨cl,i,dn,fM⟩:=Hv (scope:=scope) (env:=X.env) fun n r=>I.ok.has n (S.fr n r);rw[eval_ListComp];refine wpAny_comprehension_free (use:=none) rfl hs i S.kind S.names ?_;refine az (hi G s L H _ I h) fun v s1 h1=>az h1 fun se a h2=>?_;obtain⟨it,fp,tn,J,p,e,t,T,j,f2,W,⟨m0,w0⟩,b8⟩:=h2;subst e;refine Vu (wpAny_newFunctionEnv S.cell (by intro y hy;simp at hy) (fun h₁ u₁ E₁=>?_) S.kind);dsimp only at u₁ E₁ ⊢;generalize c:a.heap.push { cls:=.type "list",dict:=none,data:=.seq ([]:List Value).toArray }=d at u₁ E₁ ⊢;have hsz:d.objs.size=a.heap.objs.size+1:=by rw[<- c,Vz]
 have F:Inv X G L p { a with heap:=d }:=t.kept (t':=a.toks) fun b o e=>by rw[<- c];exact U0 _ e
 have fD:cK X G p a.heap.objs.size:=t.fpOk (U5 _) (t.hok.fresh (U5 _));have nC:a.heap.objs.size∉fp:=fun hm=>by obtain⟨o,e,_⟩:=T.obj 0 _ j _ hm;exact VI _ (Va e)
 have K:∀b∈a.heap.objs.size::fp,cK X G p b:=fun b hb=>by rcases Vg.mp hb with z|z;rw[z];exact fD;exact f2 b z
 have M:∀b∈a.heap.objs.size::fp,b<d.objs.size:=fun b hb=>by rcases Vg.mp hb with z|z;rw[z,hsz];exact WL _;obtain⟨o,e,_⟩:=T.obj 0 _ j b z;rw[hsz];exact WC (Va e)
 have kp:∀b o,d.get? b=some o->h₁.get? b=some o:=fun b o e=>E₁.extBut b o (Vh (Va e)) (U0 _ e);have wL:∀b o,a.heap.get? b=some o->h₁.get? b=some o:=fun b o e=>kp b o (by rw[<- c];exact U0 _ e);have hZ:h₁.PlainList a.heap.objs.size #[]:=⟨_,kp _ _ (by rw[<- c];exact U8 _ rfl)⟩;have V:tn 0 h₁:=T.keep _ _ _ j fun b _ o e=>wL b o e;have IY:=Hu (N':=N') (src:=src) (scope:=scope) (cl:=cl) (C:=d.objs.size) (D:=a.heap.objs.size) (fp:=fp) (s3:={ a with heap:=d }) (h1:=h₁) (tk:=a.toks) S F dn fM rfl K M u₁ kp;obtain⟨hg,ht,he⟩:=hb cl d.objs.size (a.heap.objs.size::fp) { a with heap:=d } p
 have f:=D5 (R:=compPost (model X.prog X.w) X.A X.xe none (EP X G L Q) (.ref a.heap.objs.size) d.objs.size) (elt:=elt) (iter:=iter) (ifs:=ifs) (pos:=pos) (Q:=fun N H=>∀l,H l=none->Q (.ref l) (ax H l (.lst N)))
  hc T F rfl K M nC IY V hZ hg ht he w0 b8 (fun s5 σc H' N B aZ k Y pl rv hz q=>by
   obtain⟨m,r,_⟩:=k.loc;refine⟨m,r,fun h' P=>⟨.ref a.heap.objs.size,ax H' a.heap.objs.size (.lst N),?_,rfl,q _ Y⟩⟩
   exact Fz F rfl K M k Y pl rv hz P)
 exact codeAny_compStart_list f (T.self _ 0 _ _ _ V f)
end
section
theorem P7:OpR X (compareOp .LtE) (fun x y H Q=>∃i j,x=.str i/\y=.str j/\Q (.bl (!decide (j.cps.toList<i.cps.toList))) H):=by intro G s L H x y v u Q I a b h;obtain⟨i,j,rfl,rfl,q⟩:=h;obtain⟨t,rfl⟩:=a;obtain⟨t',rfl⟩:=b;exact PySem.P.le_str ⟨.bl _,H,I,rfl,q⟩
theorem P6:OpR X (compareOp .Gt) (fun x y H Q=>∃i j,x=.str i/\y=.str j/\Q (.bl (decide (j.cps.toList<i.cps.toList))) H):=by intro G s L H x y v u Q I a b h;obtain⟨i,j,rfl,rfl,q⟩:=h;obtain⟨t,rfl⟩:=a;obtain⟨t',rfl⟩:=b;exact PySem.P.gt_str ⟨.bl _,H,I,rfl,q⟩
def oU:V->Option Int->Option Int->Hp->VK->Prop:=fun x lo a H Q=>∃z,x=.str z/\z.length<=sizeLine/\Q (.str (Txt.slice z lo a)) H
theorem Mm:SlR X oU:=by intro G s L H x v r w lo n y Q I o p pl g h;obtain⟨z,rfl,c,q⟩:=h;obtain⟨t,rfl⟩:=o;refine⟨"str",_,F.slot_str_getitem.lookup,typeIs_str _ _ _,?_⟩;obtain⟨os,a,d,b⟩:=id p;have e:∀t' k,EP X G L Q (.str (Txt.slice z lo n) t') { s with toks:=k }:=fun t' k=>⟨.str _,H,I.tok _,⟨_,rfl⟩,q⟩;cases pl with|none=>(cases g with|none=>exact Xh (l:=none) (u:=none) (st:=none) ⟨os,a,d,b⟩ rfl (post_val_or_str ⟨VL (Txt.slice_le z _ _) c,e⟩)|int j f=>exact Xh (l:=none) (u:=some (j,f)) (st:=none) ⟨os,a,d,b⟩ rfl (post_val_or_str ⟨VL (Txt.slice_le z _ _) c,e⟩))|int i m=>cases g with|none=>exact Xh (l:=some (i,m)) (u:=none) (st:=none) ⟨os,a,d,b⟩ rfl (post_val_or_str ⟨VL (Txt.slice_le z _ _) c,e⟩)|int j f=>exact Xh (l:=some (i,m)) (u:=some (j,f)) (st:=none) ⟨os,a,d,b⟩ rfl (post_val_or_str ⟨VL (Txt.slice_le z _ _) c,e⟩)
theorem oh:c8 X (.builtin "isinstance") (fun xs H Q=>∃x T ty b,xs=[x,.ty T]/\bJ X.K H x ty/\PySem.W.kitOne X.K ty (.type T)=some b/\Q (.bl b) H):=by intro G s L H xs B Q I r h;obtain⟨x,T,ty,b,rfl,h1,a,q⟩:=h;obtain⟨u,c,rfl,d,e⟩:=sV r;cases (show c=Value.type T from e);exact Qh I d h1 a fun tk=>⟨.bl b,H,I.tok _,rfl,q⟩
theorem D4:∀{bs:List Bool}{B:List Value},Vals (bs.map V.bl) B->B=bs.map Value.bool
 |[],B,r=>by cases r;rfl
 |b::bs,B,r=>by cases r with|cons a c=>cases a;rw[D4 c];rfl
theorem QV (bs:List Bool):((List.range bs.length).all fun i=>(bs[i]?).getD true)=bs.all id:=by rw[Bool.eq_iff_iff,V7,V7];constructor;intro h b hb;obtain⟨i,c,rfl⟩:=List.getElem_of_mem hb;have:=h i (mem_range.mpr c);simpa [U4 c] using this;intro h i c;have a:=mem_range.mp c;rw[U4 a];exact h _ (WA a)
theorem Se (f:X.calm=true):c8 X (.builtin "all") (fun xs H Q=>∃(p:Addr)(bs:List Bool),xs=[.ref p]/\SqL X.K H p (bs.map V.bl)/\Q (.bl (bs.all id)) H):=by
 intro G s L H xs B Q I r h;obtain⟨p,bs,rfl,g,q⟩:=h;obtain⟨u,rfl,j⟩:=gK r;cases j;obtain⟨t,k,pl,w⟩:=I.list g;have e:=D4 k;subst e;have l:p<s.heap.objs.size:=by obtain⟨_,e,_⟩:=pl.isList;exact Va e
 refine call_all_walk (wpAny_pyIter_list pl.isList ?_);refine⟨s.heap.objs.size,[s.heap.objs.size,p],[s.heap.objs.size],(bs.map Value.bool).toArray.size,_,_,fun i=>(bs[i]?).getD true,rfl,Walks.list (A:=X.A.in1) (I.ok.hd f) _ p (Vh l) (bs.map Value.bool).toArray,⟨⟨_,U8 _ rfl,rfl,rfl⟩,pl.isList.push _⟩,fun i v s' x E' m d=>?_,fun h' tk n=>?_⟩;have a:(bs.map Value.bool)[i]?=some v:=by simpa using m
 rw[Vl] at a;cases e:bs[i]? with|none=>(rw[e] at a;cases a)|some b=>rw[e] at a;cases a;simp only [e,Option.getD_some] at d;exact V0 d
 have e:((List.range (bs.map Value.bool).toArray.size).all fun i=>(bs[i]?).getD true)=bs.all id:=by rw[Vd,U6];exact QV bs
 rw[e];refine⟨.bl _,H,I.kept fun b o c=>n b o ?_ (U0 _ c),rfl,q⟩;intro z;rw[VS.mp z] at c;exact VI _ (Va c)
def k8 (xs a:List V):Bool:=xs.length==a.length&&(List.range xs.length).all fun j=>jb (xs.getD j .non) (a.getD j .non)
theorem QU (l:X.A.units<cLine):OpR X (compareOp .Eq) (fun x y H Q=>∃a b xs d,x=.ref a/\y=.ref b/\SqL X.K H a xs/\SqL X.K H b d/\xs.all ez=true/\d.all ez=true/\Q (.bl (k8 xs d)) H):=by
 intro G s L H x y v u Q I p t h;obtain⟨a,b,xs,d,rfl,rfl,w,z,B,C,q⟩:=h;cases p;cases t;obtain⟨g,r,pl,P⟩:=I.list w;obtain⟨c,m,f,D⟩:=I.list z;have E:=r.length;have F:=m.length;by_cases n:xs.length=d.length;refine SeqAt.eq_listAt (e:=fun j=>jb (xs.getD j .non) (d.getD j .non)) pl.isList f.isList (by simp only [Vd];lia) l (fun j h1 o=>?_) ?_;simp only [Vd] at h1 o;have g1:xs[j]?=some xs[j]:=U4 (by lia);have g2:d[j]?=some d[j]:=U4 (by lia);obtain⟨J,M,i⟩:=r.get g1;obtain⟨N,O,k⟩:=m.get g2;have k1:g.toArray[j]=J:=by have:g[j]?=some g[j]:=U4 h1;rw[M] at this;simpa using (Vq this).symm
 have k2:c.toArray[j]=N:=by have:c[j]?=some c[j]:=U4 o;rw[O] at this;simpa using (Vq this).symm
 rw[k1,k2,show xs.getD j .non=xs[j] by simp [List.getD,g1],show d.getD j .non=d[j] by simp [List.getD,g2]];exact tU i k (V7.mp B _ (WA _)) (V7.mp C _ (WA _));refine bh I q ?_;unfold k8;rw[Vd,<- E,n];simp;refine SeqAt.eq_list_lengthsAt pl.isList f.isList (by simp only [Vd,bne_iff_ne];lia) l ?_;refine bh I q ?_;unfold k8;rw[V5.mpr n];rfl
end
section
variable {src:List (Option Nat)}{Z:TI}{tt:TT}
theorem Fy {j:Pos}(hc:X.calm=true)(hN:X.N.Nodup)(l9:X.N[i]?=some x)(hx:lI X.env.scope x)(S:a8 X scope N' src)(hi:PI X U iter Z)
  (hb:∀cl C ex s0 H0,PG (dZ X N' scope cl C ex s0 H0) U g/\PTs (dZ X N' scope cl C ex s0 H0) ifs tt/\PE (dZ X N' scope cl C ex s0 H0) elt O)
  (g7:swapsWith (.ListComp elt [⟨U,iter,ifs,0⟩] scope pos) (some (.Name x M)) j.line X.env=pure true:=by rfl)
  (hs:∀x,foldedSetIterable iter X.env x=pure x:=by intro _;rfl)
  (pV:lf X x:=by first|exact .inl rfl|exact .inr rfl|assumption):
  PS X (.Assign [.Name x M] (.ListComp elt [⟨U,iter,ifs,0⟩] scope pos) j) (nV (tK src Z g tt O) (qA i)):=by
 intro G s L H D I h;obtain⟨cl,p,dn,fM⟩:=Hv (scope:=scope) (env:=X.env) fun n P=>I.ok.has n (S.fr n P);rw[exec_Assign_Name_used _ _ _ _ g7];refine UZ (WU (UZ ?_));show wpAny _ _ (do let _ ← comprehension (.ListComp elt [⟨U,iter,ifs,0⟩] scope pos) scope X.env _ (newList []) false (eval iter X.env) (some (assign (.Name x M) X.env))) _ _ s;refine UZ (VE (wpAny_comprehension_free (use:=some (assign (.Name x M) X.env)) (Q:=fun _ s'=>SP X G D .next s') rfl hs p S.kind S.names ?_) (fun _ s' hq=>U2 (U2 hq)) fun _ _ e=>e);refine az (hi G s L H _ I h) fun v s1 h1=>az h1 fun se c h2=>?_;obtain⟨it,fp,tn,J,E,e,V,T,r,f2,W,⟨m0,w0⟩,b8⟩:=h2;subst e;refine Vu (wpAny_newFunctionEnv S.cell (by intro y hy;simp at hy) (fun h₁ Y₁ jQ₁=>?_) S.kind);dsimp only at Y₁ jQ₁ ⊢;generalize f:c.heap.push { cls:=.type "list",dict:=none,data:=.seq ([]:List Value).toArray }=d at Y₁ jQ₁ ⊢;have hsz:d.objs.size=c.heap.objs.size+1:=by rw[<- f,Vz]
 have F:Inv X G L E { c with heap:=d }:=V.kept (t':=c.toks) fun b o e=>by rw[<- f];exact U0 _ e
 have fD:cK X G E c.heap.objs.size:=V.fpOk (U5 _) (V.hok.fresh (U5 _));have nC:c.heap.objs.size∉fp:=fun hm=>by obtain⟨o,e,_⟩:=T.obj 0 _ r _ hm;exact VI _ (Va e)
 have hf:∀b∈c.heap.objs.size::fp,cK X G E b:=fun b hb=>by rcases Vg.mp hb with z|z;rw[z];exact fD;exact f2 b z
 have bT:∀b∈c.heap.objs.size::fp,b<d.objs.size:=fun b hb=>by rcases Vg.mp hb with z|z;rw[z,hsz];exact WL _;obtain⟨o,e,_⟩:=T.obj 0 _ r b z;rw[hsz];exact WC (Va e)
 have kp:∀b o,d.get? b=some o->h₁.get? b=some o:=fun b o e=>jQ₁.extBut b o (Vh (Va e)) (U0 _ e);have wL:∀b o,c.heap.get? b=some o->h₁.get? b=some o:=fun b o e=>kp b o (by rw[<- f];exact U0 _ e);have hZ:h₁.PlainList c.heap.objs.size #[]:=⟨_,kp _ _ (by rw[<- f];exact U8 _ rfl)⟩;have oR:tn 0 h₁:=T.keep _ _ _ r fun b _ o e=>wL b o e;have IY:=Hu (N':=N') (src:=src) (scope:=scope) (cl:=cl) (C:=d.objs.size) (D:=c.heap.objs.size) (fp:=fp) (s3:={ c with heap:=d }) (h1:=h₁) (tk:=c.toks) S F dn fM rfl hf bT Y₁ kp;obtain⟨hg,ht,he⟩:=hb cl d.objs.size (c.heap.objs.size::fp) { c with heap:=d } E
 have k:=D5 (R:=compPost (model X.prog X.w) X.A X.xe (some (assign (.Name x M) X.env)) (fun _ s'=>SP X G D .next s') (.ref c.heap.objs.size) d.objs.size) (elt:=elt) (iter:=iter) (ifs:=ifs) (pos:=pos) (Q:=fun K H=>∀l,H l=none->D.nx (L.set i (some (.ref l))) (ax H l (.lst K)))
  hc T F rfl hf bT nC IY oR hZ hg ht he w0 b8 (fun s5 σc H' K B aZ t hD pl rv hz q=>by
   have IX:Inv X G L (ax H' c.heap.objs.size (.lst K)) s5:=Fz (h':=s5.heap) F rfl hf bT t hD pl rv hz (.refl ..);show wpAny _ _ (assign (.Name x M) X.env (.ref c.heap.objs.size)) _ _ s5;refine wpAny_assign_Name (Gx (v:=.ref c.heap.objs.size) IX hN l9 hx rfl (fun s6 I6 Y=>?_) pV);obtain⟨a,sb,ha⟩:=Y;obtain⟨m,P,_⟩:=t.loc
   have u:cK X G (ax H' c.heap.objs.size (.lst K)) d.objs.size:=F.fpOk (U5 _) (by
    rw[aD (by rw[hsz];exact Wb (WL _))]
    exact t.free)
   have K8:d.objs.size≠a:=by rcases ha with z|z;rw[z];exact u.2.1;exact fun q=>u.2.2.2.2.1 x a z q.symm
   refine⟨m,P.sameBut sb K8,fun h' hs'=>⟨_,_,I6.turned (t':=s6.toks) (fun b o hb e=>(hs'.2 b hb).trans e) u.1 u.2.1 u.2.2.2.1 u.2.2.2.2.1 u.2.2.2.2.2,q _ hD⟩⟩)
 exact codeAny_compStart_list k (T.self _ 0 _ _ _ oR k)
end
section
def yz (_ j:Int):Prop:=0<j/\j<18446744073709551616
theorem Oy:OpR X (binaryOp .FloorDiv) (rI yz fun i j=>.int (i / j)):=rV fun i j _ _ _ _ _ a q=>by have h1:(0:Int)<j:=a.1;have b:j<18446744073709551616:=a.2;refine floordiv_int (by lia) (by rw[Int.fdiv_eq_ediv_of_nonneg i (by lia)];exact q) (.inl (PyProof.noPylong_of_log2 ?_));have c:j.natAbs.log2<64:=(Nat.log2_lt (by lia)).mpr (by lia);lia
theorem QT (l:X.A.units<cLine):OpR X (compareOp .NotEq) (fun x y H Q=>∃a b xs d,x=.ref a/\y=.ref b/\SqL X.K H a xs/\SqL X.K H b d/\xs.all ez=true/\d.all ez=true/\Q (.bl (!k8 xs d)) H):=by
 intro G s L H x y v u Q I p t h;obtain⟨a,b,xs,d,rfl,rfl,z,B,C,D,q⟩:=h;cases p;cases t;obtain⟨g,r,pl,R⟩:=I.list z;obtain⟨c,m,f,E⟩:=I.list B;have F:=r.length;have J:=m.length;by_cases n:xs.length=d.length;refine SeqAt.RcNeAt.lists (e:=fun j=>jb (xs.getD j .non) (d.getD j .non)) pl.isList f.isList (by simp only [Vd];lia) l (fun j h1 o=>?_) X.prog X.w _ _ ?_;simp only [Vd] at h1 o;have g1:xs[j]?=some xs[j]:=U4 (by lia);have g2:d[j]?=some d[j]:=U4 (by lia);obtain⟨M,N,i⟩:=r.get g1;obtain⟨O,P,k⟩:=m.get g2;have k1:g.toArray[j]=M:=by have:g[j]?=some g[j]:=U4 h1;rw[N] at this;simpa using (Vq this).symm
 have k2:c.toArray[j]=O:=by have:c[j]?=some c[j]:=U4 o;rw[P] at this;simpa using (Vq this).symm
 rw[k1,k2,show xs.getD j .non=xs[j] by simp [List.getD,g1],show d.getD j .non=d[j] by simp [List.getD,g2]];exact tU i k (V7.mp C _ (WA _)) (V7.mp D _ (WA _));refine bh I q ?_;unfold k8;rw[Vd,<- F,n];simp;refine SeqAt.RcNeAt.lists_lengths pl.isList f.isList (by simp only [Vd,bne_iff_ne];lia) l X.prog X.w _ _ ?_;refine bh I q ?_;unfold k8;rw[V5.mpr n];rfl
end
noncomputable def lG (kindOf:Str->Option NameKind)(a:List Str)(scope:Scope)(N':List Str)(src:List (Option Nat)):Bool:=(scope.kind == .function)&&(scope.names.all fun y=>(y.2 != .cell)&&(y.2 != .local||scope.names.lookup y.1==some .local)&&(y.2 != .free||((kindOf y.1==some .cell||kindOf y.1==some .free)&&scope.names.lookup y.1 != some .local))) &&(N'.length==src.length)&&((List.range src.length).all fun i=>match src[i]? with
  |some (some j)=>(match N'[i]?,a[j]? with|some x,some y=>x==y&&scope.names.contains (x,NameKind.free)|_,_=>false)
  |_=>true)
theorem HH {src:List (Option Nat)}(f:Scope)(k:X.env.scope=f)(N:List Str)(l:X.N=N)(h:lG (fun x=>f.names.lookup x) N scope N' src=true):a8 X scope N' src:=by subst k l;unfold lG at h;simp only [U1,V7,Vt,bne_iff_ne,ne_eq,Bool.or_eq_true] at h;obtain⟨⟨⟨h1,a⟩,m⟩,o⟩:=h;refine⟨h1,fun y b=>(a y b).1.1,fun y b p=>?_,fun n c=>?_,fun n c=>?_,m,fun i j e=>?_⟩;rcases(a y b).1.2 with z|z;exact absurd p z;exact z;rcases(a _ c).2 with z|z;exact absurd rfl z;exact z.1;rcases(a _ c).2 with z|z;exact absurd rfl z;exact z.2;have r:i<src.length:=(U7.mp e).1;have q:=o i (mem_range.mpr r);rw[e] at q;dsimp only at q;cases d:N'[i]? with|none=>(rw[d] at q;cases q)|some x=>cases g:X.N[j]? with|none=>(rw[d,g] at q;cases q)|some y=>rw[d,g] at q;simp only [U1,Vt] at q;obtain⟨rfl,q⟩:=q;exact⟨x,rfl,rfl,by simpa using q⟩
def Nx (N i:Nat)(P:Prop):Prop:=∃a,a<N-i/\a=N-(i+1)/\i+1<=N/\P
theorem nx {P:Prop}(h:i<N)(p:P):Nx N i P:=⟨_,by lia,rfl,h,p⟩
theorem jn {o:HO}(h:H a=none):Same H (ax H a o):=fun b u e=>by rw[aD (cm e h)];exact e
section
variable {t:TA}
theorem aX (h:PE X (.Name x p) O)(a:PA X es t):PA X (.Name x p::es) (ka O t):=fj h a rfl
theorem T6 {xs:List Expr}(h:PE X (.Tuple xs j p) O)(a:PA X es t):PA X (.Tuple xs j p::es) (ka O t):=fj h a rfl
end
noncomputable def oq:Expr->Option V
 | .Constant (.int i) _ _=>some (.int i)
 | .Constant (.str x) _ _=>some (.str x)
 | .Constant (.bool b) _ _=>some (.bl b)
 | .Constant .none _ _=>some .non
 |_=>none
theorem ng (x:Str) : [x].Nodup:=by simp
section
variable {R:St}{tt:TT}{Q:List V->Hp->Prop}
theorem Ry (Pv:Nat->List V->St->Hp->Prop)(h0:Pv 0 [] R H)(s:∀i d c H,Pv i d c H->SqT K H a xs)
  (o:∀i x d c H,xs[i]?=some x->i<xs.length->Pv i d c H->d.length<sizeLine/\g x c H fun f k=>tt f k fun b h=>
   if b=true then O f h fun v l=>Nx xs.length i (Pv (i+1) (d++[v]) f l) else Nx xs.length i (Pv (i+1) d f h))
  (hd:∀d c H,Pv xs.length d c H->Q d H):
  ∃W:Nat->Nat->List V->St->Hp->Prop,(∃m,W 0 m [] R H)/\∀i m d c H,W i m d c H →((km K a).stop i H/\Q d H)∨((km K a).go i H/\d.length<sizeLine/\∀v H',(km K a).yld i H v H'->g v c H' fun f k=>tt f k fun b h=>
    if b=true then O f h fun v l=>∃j,j<m/\W (i+1) j (d++[v]) f l else ∃j,j<m/\W (i+1) j d f h):=by
 refine⟨fun i m d c H=>m=xs.length-i/\i<=xs.length/\Pv i d c H,⟨_,rfl,VW _,h0⟩,?_⟩;rintro i m d c H ⟨rfl,t,p⟩;have q:=s i d c H p
 by_cases n:i<xs.length
 .have r:xs[i]?=some xs[i]:=U4 n;obtain⟨z,_⟩:=o i _ d c H r n p;refine .inr ⟨⟨xs,xs[i],q,r⟩,z,fun v H' y=>?_⟩;obtain⟨e,y⟩:=y;subst e;exact(o i v d c _ (y xs q) n p).2
 .have e:i=xs.length:=by lia
  subst e;exact .inl ⟨⟨xs,q,U5 _⟩,hd d c H p⟩
end
theorem TL (a:X.K=K):c8 X (.builtin "isinstance") (fun xs H Q=>∃x T ty b,xs=[x,.ty T]/\bJ K H x ty/\PySem.W.kitOne K ty (.type T)=some b/\Q (.bl b) H):=by subst a;exact oh
theorem Tf {l:List q}{c:q}(p : q -> Bool)(h:l[i]?=some c):(l.take (i+1)).filter p=(l.take i).filter p++(if p c=true then [c] else []):=by rw[List.take_add_one,h,filter_append];cases a:p c <;> simp [a]
theorem Same.tup {K:W.Frag}{H H':Hp}{a:Addr}{xs:List V}(e:Same H H')(h:SqT K H a xs):SqT K H' a xs:=by rcases h with (h|⟨o,h⟩)|h;exact .inl (.inl (e _ _ h));exact .inl (.inr ⟨o,e _ _ h⟩);exact .inr h
theorem strs_of:∀{ts:List Str}{B:List Value},Vals (ts.map V.str) B->StrsAre B ts
 |[],_,.nil=>.nil
 |t::ts,_,.cons r a=>by obtain⟨k,rfl⟩:=r;exact .cons t k (strs_of a)
theorem Er:∀{B:List Value}{ts:List Str},StrsAre B ts->Vals (ts.map V.str) B
 |_,_,.nil=>.nil
 |_,_,.cons y t r=>.cons ⟨t,rfl⟩ (Er r)
end
section
open PySem.Builtin PySem.Builtin.Str
variable {x:Str}
theorem NL {n:Nat}{j:Int}(h:(n:Int)<=j):(strSliceIndices none (some j) 1 n).length=n:=by unfold strSliceIndices sliceRange;simp only [show(1:Int)>0 by decide,if_true,U6,Wz];split <;> (try split) <;> (try split) <;> (try simp only [Int.ediv_one]) <;> lia
theorem NK {j:Int}(b:0<x.length)(c:1<=j):0<(Txt.slice x none (some j)).length:=by
 have a:x.cps.toList.length=x.length:=by simp [Str.length]
 by_cases h:j<=x.length;have e:=Vt.mp (slice_closes_to (x:=x) (j:=j) ⟨by lia,by rw[a];exact h⟩);rw[e];show 0<(List.toArray _).size;rw[Vd,VU,Wt,a];lia;have e:Txt.slice x none (some j)=x:=by unfold Txt.slice;rw[NL (show((x.length:Nat):Int)<=j by lia)];simp
 rw[e];exact b
theorem CJ {j:Int}(b:0<=j):((Txt.slice x none (some j)).length:Int)<=j:=by
 have a:x.cps.toList.length=x.length:=by simp [Str.length]
 by_cases h:j<=x.length;have e:=Vt.mp (slice_closes_to (x:=x) (j:=j) ⟨b,by rw[a];exact h⟩);rw[e];show(((List.toArray _).size:Nat):Int)<=j;rw[Vd,VU,Wt,a];lia;have:=Txt.slice_le x none (some j);lia
theorem Ox {i:Int}(h0:0<=i)(h:i<=x.length):((Txt.slice x (some i) none).length:Int)=x.length-i:=by
 have a:x.cps.toList.length=x.length:=by simp [Str.length]
 rw[slice_from_eq h0 h rfl];show(((List.toArray _).size:Nat):Int)=_;rw[Vd,VU,Wt,a];lia
end
section
inductive Th where
 |at (v:V)
 |tup (xs:List Th)
 |lst (xs:List Th)
def lg:V->Bool
 | .str x=>decide (x.length<=1000)
 |v=>ez v
mutual
inductive IsTh (H:Hp):V->Th->Prop where
 |at {v:V} (f:lg v=true):IsTh H v (.at v)
 |tup {a:Addr} {vs:List V} {ts:List Th} (h:H a=some (.tup vs)) (r:IsThs H vs ts):IsTh H (.ref a) (.tup ts)
 |lst {a:Addr} {vs:List V} {ts:List Th} (h:H a=some (.lst vs)) (r:IsThs H vs ts):IsTh H (.ref a) (.lst ts)
inductive IsThs (H:Hp):List V->List Th->Prop where
 |nil:IsThs H [] []
 |cons {v:V} {vs:List V} {t:Th} {ts:List Th} (h:IsTh H v t) (r:IsThs H vs ts):IsThs H (v::vs) (t::ts)
end
def Kp (H H':Hp):Prop:=∀a o,H a=some o->(∀b,o ≠ .dK b)->H' a=some o
variable {H H':Hp}{X:Cx}
theorem Kp.of {b:Hp}(a:Same H b):Kp H b:=fun c o e _=>a c o e
mutual
theorem IsTh.kp {H H':Hp}(k:Kp H H'):∀{v:V}{t:Th},IsTh H v t->IsTh H' v t
 |_,_,.at f=>.at f
 |_,_,.tup h r=>.tup (k _ _ h (fun _ z=>by cases z)) (IsThs.kp k r)
 |_,_,.lst h r=>.lst (k _ _ h (fun _ z=>by cases z)) (IsThs.kp k r)
theorem IsThs.kp {H H':Hp}(k:Kp H H'):∀{a:List V}{ts:List Th},IsThs H a ts->IsThs H' a ts
 |_,_,.nil=>.nil
 |_,_,.cons h r=>.cons (IsTh.kp k h) (IsThs.kp k r)
end
theorem IsThs.len:∀(c:List V){ts:List Th},IsThs H c ts->c.length=ts.length:=by intro c;induction c with|nil=>(intro ts h;cases h;rfl)|cons v c d=>intro ts h;cases h with|cons a b=>rw[Vw,Vw,d b]
theorem IsThs.app:∀(c:List V){ws:List V}{ts d:List Th},IsThs H c ts->IsThs H ws d->IsThs H (c++ws) (ts++d):=by intro c;induction c with|nil=>(intro ws ts d h g;cases h;exact g)|cons v c e=>intro ws ts d h g;cases h with|cons a b=>exact .cons a (e b g)
section
theorem P5 (d:X.A.units<cLine):OpR X (compareOp .Eq) (fun x y H Q=>∃a b xs,x=.ref a/\y=.ref b/\SqL X.K H a xs/\SqL X.K H b []/\Q (.bl xs.isEmpty) H):=by intro p s t H x y v u Q I g i h;obtain⟨a,b,xs,rfl,rfl,k,l,q⟩:=h;cases g;cases i;obtain⟨w,r,pl,z⟩:=I.list k;obtain⟨f,m,c,n⟩:=I.list l;cases m;cases r with|nil=>refine SeqAt.eq_listAt (e:=fun _=>true) pl.isList c.isList rfl d (fun j h1 o=>absurd o (by simp)) ?_;exact bh I q (by simp)|cons B C=>refine SeqAt.eq_list_lengthsAt pl.isList c.isList (by simp) d ?_;exact bh I q rfl
end
end
section
variable {w:World}{Q:Value->Shared->Prop}{lo j:Option Int}{prog:Program}
section
variable {A:Around}{E:Value->Shared->Prop}{s:Shared}
theorem getItem_tuple_all {t c:Addr}{a:Array Value}{e f:Value}(b:IsTup s.heap t a)(g:s.heap.IsSliceOf c e f .none)(pl:IsPart e lo)(k:IsPart f j)
  (i:sIx a.size 0 lo=0/\sIx a.size a.size j=a.size) (h:Q (.ref t) s):wpAny (model prog w) A (getItem (.ref t) (.ref c)) Q E s:=by
 obtain⟨os,d,l,n⟩:=id g;have o:s.TypeIs (.ref c) "slice":=⟨os,d,l⟩;unfold getItem
 try with_reducible refine Vx ?_
 first|refine UZ (U2 ?_)|skip
 refine UZ (wpAny_sequenceKey b.typeIs (by decide) ?_)
 refine UZ (VH (name:=Str.ofString "__getitem__") b.typeIs WI
  (VJ WI b.typeIs entry_tuple_getitem ?_ (args_tuple_getitem _ _)))
 show wpAny _ _ (Builtin.Tuple.tupleItemsOf (.ref t) >>= _) _ _ s;refine UZ (tupleItemsOf_ b ?_);refine UZ (wpAny_typeOf o ?_);rw[Vm (by decide)];refine UZ (HB g pl k ?_);have p:((((sIx a.size 0 lo:Nat):Int)==0&&(1:Int)==1&&(sIx a.size a.size j-sIx a.size 0 lo)==a.size)=true):=by rw[i.1,i.2];simp
 show wpAny _ _ (if (((sIx a.size 0 lo:Nat):Int)==0&&(1:Int)==1&&(sIx a.size a.size j-sIx a.size 0 lo)==a.size)=true then _ else _) _ _ s;rw[Vm p];refine UZ (m:=Builtin.Tuple.tupleIsExact _) (UZ (wpAny_typeOf b.typeIs (U2 ?_)));rw[Vm (by decide)];refine UZ (wpAny_rule ?_);exact U2 ⟨_,rfl,U2 h⟩
end
end
section
variable {xs:List V}{H:Hp}{a it:Addr}{P prog:Program}{w:World}{h':Heap}{e:Expr}{X:Cx}{j:List (Addr×Obj)}{B:St}{t':Nat}{pos:Pos}{K:W.Frag}{lo y:Option Int}{r:List Expr}
section
theorem Ow (h:sIx xs.length 0 lo=0/\sIx xs.length xs.length y=xs.length):jg xs lo y=xs:=by unfold jg;rw[h.1,h.2,drop_zero,Nat.sub_zero,Wf (U5 _)]
def Cd (K:W.Frag):R2:=fun x y H Q=>∃a n xs,x=.ref a/\y=.int n/\SqT K H a xs/\xs ≠ []/\2<=n/\n<=1000/\xs.length<=1000/\∀p,H p=none->Q (.ref p) (ax H p (.tup (List.replicate n.toNat xs).flatten))
theorem TM:fillsNumberSlot (.type "tuple") "mul"=pure false:=PySem.fillsNumberSlot_seq (id:="tuple.__mul__") (r:=some (.builtin "tuple.__rmul__")) F.slot_tuple_mul.lookup (by decide+kernel) F.slot_tuple_rmul.lookup (by decide+kernel)
theorem SY:seqRepeat? (.type "tuple")=pure (some (.builtin "tuple.__mul__")):=by unfold seqRepeat?;rw[PySem.seqSlot_of (T:="tuple") (name:="__mul__") (id:="tuple.__mul__") F.slot_tuple_mul.lookup (by decide+kernel),PySem.seqSlot_of (T:="tuple") (name:="__rmul__") (id:="tuple.__rmul__") F.slot_tuple_rmul.lookup (by decide+kernel)];rfl
theorem SX (a:Int)(t:Tok)(l:Addr)(o:Obj)(b:Array Value)(n:Nat)(c:o.cls=.type "tuple")(hd:o.data=.seq b n):Meets (Builtin.«int.__rmul__» ⟨[.int a t, .ref l], []⟩) (fun _ R s => s.heap.get? l=some o /\ R (.ok (.ret Value.notImplemented)) s) :=.of_wp fun prog w A R s h=>by obtain⟨e,g,d,tk,os⟩:=s;obtain⟨f,h⟩:=h;cases o;cases c;cases hd;wp_walk;exact⟨_,rfl,h⟩
theorem NJ:OpR X (binaryOp .Mult) (Cd X.K):=by
 intro j s B H x y v u Q I i l h;obtain⟨a,k,xs,rfl,rfl,p,w,R,z,S,q⟩:=h;cases i;obtain⟨t,rfl⟩:=l;obtain⟨c,r,e,V⟩:=I.tuple p;obtain⟨o,A,C,n,D⟩:=id e;have d:c.toArray.size=xs.length:=by rw[Vd];exact r.length.symm
 have W:0<xs.length:=We.mpr w;refine wpAny_binaryOp_repeat_ref (T:="tuple") (U:="int") (by decide) e.typeIs (fun s'=>typeIs_int s' k t) TM F.fills_int_mul F.slot_int_rmul SY F.slot_int_index.lookup
  (call_meets F.slot_int_rmul (typeIs_int s k t) F.entry_int_rmul (F.args_int_rmul_2 _ _) (SX k t a o _ n C D)
   ⟨A,rfl,e.typeIs,?_⟩)
 refine VJ F.slot_tuple_mul e.typeIs F.entry_tuple_mul ?_ (F.args_tuple_mul_2 _ _);show wpAny _ _ (asIndex (.int k t) >>= _) _ _ s;refine UZ (VT (show asIndex (.int k t)=pure k from rfl) ?_);have E:¬ (decide (k < -2 ^ 63)||decide (k ≥ 2 ^ 63))=true:=by rw[Bool.or_eq_true,VM,VM];lia
 have g:c.toArray.isEmpty=false:=by cases c with|nil=>rw[Vd] at d;simp at d;lia|cons _ _=>simp
 have G:¬ (c.toArray.isEmpty||k==1)=true:=by rw[g,Bool.false_or,Vt];lia
 have J:¬ (decide (k<=0)||c.toArray.isEmpty)=true:=by rw[g,Bool.or_false,VM];lia
 have Y:(c.toArray.size:Int)*k<=1000*1000:=Int.mul_le_mul (by lia) z (by lia) (by decide);have L:¬ (c.toArray.size:Int)*k>(2 ^ 63-1) / 8:=by lia
 have M:¬Builtin.Tuple.tupleTooMany ((c.toArray.size:Int)*k)=true:=by unfold Builtin.Tuple.tupleTooMany;rw[VM];have:sizeLine=16777216:=Vr;lia
 rw[Vi E];refine UZ (tupleItemsOf_ e ?_);rw[Vi G,Vi J,Vi L,Vi M];have N:List.foldl (fun O P=>O++P) #[] (List.replicate k.toNat c.toArray)=(List.replicate k.toNat c).flatten.toArray:=by have:=zH c k.toNat [];rw[VY] at this;exact this
 rw[N];have f:(List.replicate k.toNat c).flatten.length<=sizeLine:=by rw[ug];have:sizeLine=16777216:=Vr;have Z:k.toNat*c.length<=1000*1000:=Nat.mul_le_mul (by lia) (by rw[Vd] at d;lia);lia
 refine UZ (m:=Builtin.Tuple.tupleExact _) (Vu ?_ (by show _<=sizeLine;rw[Vd];exact f));refine U2 ⟨_,rfl,?_⟩;refine⟨.ref s.heap.objs.size,_,I.laid (t':=s.toks) (o:=.tup (List.replicate k.toNat xs).flatten) (fun b ob q=>U0 _ q) (U5 _) ?_,rfl,q _ (I.hok.fresh (U5 _))⟩;exact⟨by rw[ug];rw[ug] at f;rw[r.length];exact f,_,r.rep k.toNat,IsTupN.new _ _⟩
theorem Ov (d:X.calm=true):c8 X (.builtin "sum") (fun xs H Q=>∃(a:Addr)(ns:List Int),xs=[.ref a]/\SqL X.K H a (ns.map V.int)/\Q (.int ns.sum) H):=by
 intro j s B H xs n Q I r h;obtain⟨a,ns,rfl,e,q⟩:=h;obtain⟨u,rfl,f⟩:=gK r;cases f;obtain⟨g,i,pl,o⟩:=I.list e;have y:=QX i;obtain⟨c,b⟩:=y.allInts.items;have k:(intItems c).toList=g:=by rw[<- b]
 have l:preSum (numAt c) c.size=ns.sum:=by rw[preSum_eq,Wf (by simp),<- nums_intItems,k,y.numsOf]
 refine sum_intListG (I.ok.hd d) (b▸pl.isList) fun h' tk t' m=>?_;rw[l];exact⟨.int ns.sum,H,I.kept m,⟨_,rfl⟩,q⟩
def oV:V->Option Int->Option Int->Hp->VK->Prop:=fun x lo y H Q=>∃a xs,x=.ref a/\H a=some (.tup xs)/\∀p H',Same H H'->H' p=some (.tup (jg xs lo y))->Q (.ref p) H'
theorem sl_tupP:SlR X oV:=by
 intro j s B H x v k l lo y m Q I e f pl g h;obtain⟨a,xs,rfl,c,q⟩:=h;by_cases d:sIx xs.length 0 lo=0/\sIx xs.length xs.length y=xs.length;cases e;obtain⟨n,r,i,t⟩:=I.tuple (SqT.of c);have b:n.toArray.size=xs.length:=by rw[Vd];exact r.length.symm
 refine⟨"tuple",_,PyProof.Rows.slot_tuple_getitem.lookup,i.typeIs,?_⟩;refine getItem_tuple_all i f pl g (by rw[b];exact d) ?_;exact⟨.ref a,H,I,rfl,q a H (Same.refl H) (by rw[Ow d];exact c)⟩;exact Mq j s B H (.ref a) v k l lo y m Q I e f pl g ⟨a,xs,rfl,SqT.of c,d,fun p o=>q p _ (jn o) aY⟩
def kD:R2:=fun x y H Q=>∃a b xs c,x=.ref a/\y=.ref b/\H a=some (.tup xs)/\H b=some (.tup c)/\xs.length+c.length<=sizeLine ∧∀p H',Same H H'->H' p=some (.tup (xs++c))->Q (.ref p) H'
theorem NI:OpR X (binaryOp .Add) kD:=by
 intro j s B H x y v u Q I i k h;obtain⟨a,b,xs,A,rfl,rfl,e,hb,C,q⟩:=h;by_cases l:xs=[];subst l;cases i;cases k;obtain⟨M,D,E,_⟩:=I.tuple (SqT.of e);obtain⟨m,N,G,_⟩:=I.tuple (SqT.of hb);cases D;obtain⟨⟨cls,dd,data,J⟩,o,r,n,hd⟩:=id E;obtain⟨⟨t,f,data2,g⟩,c,d,K,w⟩:=id G;simp only at r hd d w;subst r hd d w;exact concat_meets ⟨_,o,rfl⟩ ⟨_,c,rfl⟩ noFill_tuple_add seq_tuple_add PySem.F.slot_tuple_add PySem.F.entry_tuple_add (PySem.F.args_tuple_add_2 _ _)
  (tuple_addW0 a b _ _ n K dd f J g (by simp)) ⟨o,c,⟨.ref b,H,I,rfl,q b H (Same.refl H) hb⟩⟩
 refine NQ j s B H (.ref a) (.ref b) v u Q I i k ⟨a,b,xs,A,rfl,rfl,SqT.of e,SqT.of hb,l,C,fun z=>?_,fun z p L=>?_⟩;subst z;exact q a H (Same.refl H) (by rw[Vk];exact e);exact q p _ (jn L) aY
theorem D3 {v:V}(h:oq e=some v):PE X e (tC v):=by cases e with|Constant c j p=>(cases c with|int i=>(cases h;exact oE)|str x=>(cases h;exact N0)|bool b=>(cases h;exact LL)|none=>(cases h;exact tD)|_=>cases h)|_=>cases h
end
theorem QS {A:Around}{E:Value->Shared->Prop}{s:Shared}{e l:Addr}(p:e≠it)(c:l≠e)(d:l≠it){a:Array Value}{i:Nat}{Q:Option Value->Shared->Prop}(y:i<a.size)
  (q:(∃g,IsEnum s.heap e it i g)/\s.heap.IsListIter it l i/\s.heap.IsList l a)
  (r:∀T h h' tk,(∃t x,a[i]?=some x/\h = #[.int i t,x])->s.heap.objs.size<=T->IsTupN h' T h->((∃x,IsEnumOut h' e it ((i:Int)+1) x T)/\h'.IsListIter it l (i+1)/\h'.IsList l a/\T≠e/\T≠it)->(∀b o,b ∉ [e,it]->s.heap.get? b=some o->h'.get? b=some o)->Q (some (.ref T)) { s with heap:=h',toks:=tk }):
  wpAny (model prog w) A (pyNext (.ref e)) Q E s:=by
 obtain⟨⟨g,he⟩,j,k⟩:=q;have m:a[i]?=some a[i]:=Array.getElem?_eq_getElem y;refine wpAny_pyNext_enum_item he j k m p fun h' u v z hsz n=>?_;have B:e<s.heap.objs.size:=Va he;have C:it<s.heap.objs.size:=by obtain⟨_,x,_⟩:=j;exact Va x
 exact r s.heap.objs.size #[.int i s.toks,a[i]] h' (s.toks+1) ⟨_,_,m,rfl⟩ (U5 _) ⟨_,z,rfl,_,rfl,rfl⟩
  ⟨⟨_,u⟩,v,k.at fun o x=>n l o c d x,Wb B,Wb C⟩
  fun b o hb x=>n b o (fun f=>hb (by simp [f])) (fun f=>hb (by simp [f])) x
section
variable {s:Shared}
theorem Inv.turnedL {ch:List Addr}(I:Inv X j B H s)(k:∀b o,b∉ch->s.heap.get? b=some o->h'.get? b=some o)(d:∀b∈ch,cK X j H b):Inv X j B H { s with heap:=h',toks:=t' }:=by
 have f:∀b u,H b=some u->b∉ch:=fun b u e z=>by rw[(d b z).1] at e;cases e
 refine I.step (g':=s.gens) (d':=s.drawn) (ch:=ch) (fun b hb=>?_) (fun b o _ _ a e _=>k b o a e) (fun b o _ _ a e _=>⟨o.slots,k b o a e⟩) (fun _ _ _ _ n=>n)
  (fun b o a e=>⟨o,k b o a e⟩) (fun _ _ e=>e) (fun _ _ _ e=>e) (fun b ps e=>⟨#[],by rw[e];simp⟩) (fun m g=>?_) (fun b u e=>?_) I.bare
 obtain⟨w,f1,x,h,i,l⟩:=d b hb;exact⟨h,f1,i,l⟩;obtain⟨o,es,p,t,r⟩:=g;exact⟨o,es,p,k _ o (fun z=>(d _ z).2.1 rfl) t,r⟩;refine(I.hok b u e).stay (fun c v a q=>k c v ?_ q) (fun _ q=>q) fun _ _ q=>q;rcases a with z|z;rw[z];exact f b u e;exact f c _ z
theorem Inv.turnedLaid {ch:List Addr}{o:HO}(I:Inv X j B H s)(k:∀b o,b∉ch->s.heap.get? b=some o->h'.get? b=some o)(g:∀b∈ch,cK X j H b)(h:s.heap.objs.size<=a)(new:ObjOk X.prog X.w (ax H a o) h' a o):Inv X j B (ax H a o) { s with heap:=h',toks:=t' }:=by
 have i:∀b u,H b=some u->b∉ch:=fun b u e z=>by rw[(g b z).1] at e;cases e
 have l:H a=none:=I.hok.fresh h;have f:∀b u,H b=some u->ax H a o b=some u:=fun b u e=>by rw[aD (cm e l)];exact e
 refine I.step (g':=s.gens) (d':=s.drawn) (ch:=ch) (fun b hb=>?_) (fun b o _ _ d e _=>k b o d e) (fun b o _ _ d e _=>⟨o.slots,k b o d e⟩) (fun b u _ e n=>?_)
  (fun b o d e=>⟨o,k b o d e⟩) (fun _ _ e=>f _ _ e) (fun _ _ _ e=>f _ _ e) (fun b ps e=>⟨#[],by rw[f _ _ e];simp⟩) (fun m p=>?_) (fun b u e=>?_) I.bare
 obtain⟨D,f1,E,t,x,y⟩:=g b hb;exact⟨t,f1,x,y⟩;rw[aD (fun z=>by subst z;exact absurd (Ve (Va e) h) (VI _))];exact n;obtain⟨o,es,A,C,r⟩:=p;exact⟨o,es,A,k _ o (fun z=>(g _ z).2.1 rfl) C,r⟩;by_cases hb:b=a;subst hb;rw[aY] at e;cases e;exact new;rw[aD hb] at e;refine(I.hok b u e).stay (fun c v d q=>k c v ?_ q) (fun c q=>f _ _ q) fun c xs q=>f _ _ q;rcases d with z|z;rw[z];exact i b u e;exact i c _ z
end
def Ji (K:W.Frag)(a:Addr):It:=⟨fun i H=>∃xs x,SqL K H a xs/\xs[i]?=some x,fun i H v H'=>∃T x,v=.ref T/\H T=none/\(∀xs,SqL K H a xs->xs[i]?=some x)/\H'=ax H T (.tup [.int i,x]),fun i H=>∃xs,SqL K H a xs/\xs.length=i⟩
theorem P4 {k:Nat}(a e it:Addr)(a5:e≠it):dy P w K (.Tuple r k pos) (Ji K a) [e,it] e (fun i h=>(∃bq,IsEnum h e it (i:Nat) bq)/\h.IsListIter it a i) where
 mem:=by simp
 obj:=fun i h st b hb=>by
  obtain⟨⟨bq,s1⟩,o,s2,_,s3⟩:=st;rcases Vg.mp hb with z|z;subst z;exact⟨_,s1,fun v z=>by cases z⟩;have z:b=it:=by simpa using z
  subst z;exact⟨o,s2,fun v z=>by rw[s3] at z;cases z⟩
 keep:=fun i h h' st k=>by obtain⟨⟨bq,s1⟩,s2⟩:=st;exact⟨⟨bq,k e (by simp) _ s1⟩,s2.at fun o e=>k it (by simp) o e⟩
 item:=by
  intro X hP hw hK hc i j s B H E I hf st hg;subst hP hw hK;obtain⟨xs,x,hq,hx⟩:=hg;obtain⟨af,rv,p,hz⟩:=I.list hq;obtain⟨u,hu,ru⟩:=rv.get hx;have j0:a≠e:=fun z=>by obtain⟨⟨bq,s1⟩,_⟩:=st;obtain⟨o,q1,q2,_⟩:=p.isList;rw[z,s1] at q1;cases q1;injection q2 with q2;exact absurd q2 (by decide)
  have jZ:a≠it:=fun z=>by obtain⟨_,o',s2,s3,_⟩:=st;obtain⟨o,q1,q2,_⟩:=p.isList;rw[z,s2] at q1;cases q1;rw[s3] at q2;injection q2 with q2;exact absurd q2 (by decide)
  have W:=WalksT.enumerate (prog:=X.prog) (w:=X.w) (I.ok.hd hc) e it a a5 j0 jZ af.toArray;have y:i<af.toArray.size:=by rw[Vd];exact(U7.mp hu).1
  refine QS a5 j0 jZ y ⟨st.1,st.2,p.isList⟩ fun T cP h' tk hv hT mj px kk=>?_;obtain⟨t,x',dH,rfl⟩:=hv;have ex:x'=u:=by
   have:af.toArray[i]?=some u:=by simpa using hu
   rw[this] at dH;exact(Vq dH).symm
  subst ex;refine⟨_,rfl,W.go r k pos i T _ _ _ px fun BE iO pE=>?_⟩;have qa:T ∉ [e,it]:=W.apart i T _ px;have cY:H T=none:=I.hok.fresh hT;refine⟨.ref T,_,I.turnedLaid (a:=T) (o:=.tup [.int i,x]) (ch:=[e,it]) (fun b o hb q=>pE b o hb (kk b o hb q)) hf hT ?_,rfl,⟨T,x,rfl,cY,fun ys hy=>by rw[I.list_inj hy hq];exact hx,rfl⟩,⟨iO.1,iO.2.1⟩,fun b hb=>?_⟩;refine⟨by show 2<=sizeLine;decide,[Value.int (i:Nat) t,x'],.cons ⟨t,rfl⟩ (.cons ru .nil),?_⟩;obtain⟨o,q1,q2⟩:=mj;exact⟨o,pE T o qa q1,q2⟩;rw[aD (fun z=>qa (by rw[<- z];exact hb))];exact(hf b hb).1
 done:=by
  intro X hP hw hK hc i j s B H E I hf st hg;subst hP hw hK;obtain⟨xs,hq,hx⟩:=hg;obtain⟨af,rv,p,hz⟩:=I.list hq;have j0:a≠e:=fun z=>by obtain⟨⟨bq,s1⟩,_⟩:=st;obtain⟨o,q1,q2,_⟩:=p.isList;rw[z,s1] at q1;cases q1;injection q2 with q2;exact absurd q2 (by decide)
  have jZ:a≠it:=fun z=>by obtain⟨_,o',s2,s3,_⟩:=st;obtain⟨o,q1,q2,_⟩:=p.isList;rw[z,s2] at q1;cases q1;rw[s3] at q2;injection q2 with q2;exact absurd q2 (by decide)
  have W:=WalksT.enumerate (prog:=X.prog) (w:=X.w) (I.ok.hd hc) e it a a5 j0 jZ af.toArray;have hl:=rv.length;have y:i=af.toArray.size:=by rw[Vd];lia
  subst y;exact W.done s _ _ ⟨st.1,st.2,p.isList⟩ fun h' tk kk=>⟨rfl,I.turnedL (ch:=[e,it]) (fun b o hb q=>kk b o hb q) hf⟩
 self:=by intro A i s Q E st h;obtain⟨⟨bq,s1⟩,_⟩:=st;exact wpAny_pyIter_enum s1 h
end
section
open PySem.Builtin PySem.AutoSeq1
variable {P prog:Program}{w:World}{j:Type}{r:Array Value}
section
variable {B:Around}{G:Value->Shared->Prop}{z:Shared}
theorem Fx {a tp:Addr}{n:Nat}{y:Value}{R:Value->Shared->Prop}(g:z.heap.IsTupleIter a tp n)(t:z.heap.IsTuple tp r)(c:r[n]?=some y)
  (q:∀k,k.IsTupleIter a tp (n+1)->Heap.SameBut a z.heap k->R y { z with heap:=k }):wpAny (model P w) B (SmallTypes.nextOf (.ref a)) R G z:=by
 obtain⟨f,g1,g2,b⟩:=id g;obtain⟨h,d,i,m,e⟩:=t;unfold SmallTypes.nextOf;refine UZ (VH (name:=Str.ofString "__next__") g.typeIs W2 (VJ W2 g.typeIs F.entry_tuple_iterator_next ?_ (F.args_tuple_iterator_next_1 _)));show wpAny _ _ (field (.ref a) 0 >>= _) _ _ z;refine UZ (VC g1 b (x:=.ref tp) rfl ?_);show wpAny _ _ (if (Value.ref tp==Value.none)=true then _ else _) _ _ z;rw[Vi (show ¬ ((Value.ref tp==Value.none)=true) from U3)];show wpAny _ _ (field (.ref a) 1 >>= _) _ _ z;refine UZ (VC g1 b (x:=.int n 0) rfl ?_);show wpAny _ _ (seqItems? (.ref tp) >>= _) _ _ z;refine UZ (Wv d e ?_);simp only [VX,c];refine UZ (VR g1 b (by simp) (U2 ⟨y,rfl,U2 (q _ ?_ (VO ..))⟩));exact⟨_,Vs _ g1 (Obj.isFreed_of_fields (Obj.data_mapFields b _)),(Obj.cls_mapFields ..).trans g2,by rw[Obj.data_mapFields b];simp [rawInt]⟩
theorem SW {b tp:Addr}{n:Nat}{R:Value->Shared->Prop}(hb:B.handled=none)(g:z.heap.IsTupleIter b tp n)(t:z.heap.IsTuple tp r)(d:r[n]?=none)
  (q:∀k e,Heap.ExtBut b z.heap k->(∃o,k.get? e=some o/\o.cls=.type "StopIteration")->G (.ref e) { z with heap:=k }):wpAny (model P w) B (SmallTypes.nextOf (.ref b)) R G z:=by
 obtain⟨i,g1,g2,c⟩:=id g;obtain⟨j,f,l,m,h⟩:=t;unfold SmallTypes.nextOf;refine UZ (VH (name:=Str.ofString "__next__") g.typeIs W2 (VJ W2 g.typeIs F.entry_tuple_iterator_next ?_ (F.args_tuple_iterator_next_1 _)));show wpAny _ _ (field (.ref b) 0 >>= _) _ _ z;refine UZ (VC g1 c (x:=.ref tp) rfl ?_);show wpAny _ _ (if (Value.ref tp==Value.none)=true then _ else _) _ _ z;rw[Vi (show ¬ ((Value.ref tp==Value.none)=true) from U3)];show wpAny _ _ (field (.ref b) 1 >>= _) _ _ z;refine UZ (VC g1 c (x:=.int n 0) rfl ?_);show wpAny _ _ (seqItems? (.ref tp) >>= _) _ _ z;refine UZ (Wv f h ?_);simp only [VX,d];refine UZ (wpAny_rule (UZ (VR g1 c (by simp) ?_)));refine UZ (m:=newExc (.type "StopIteration") []) ?_;simp only [newExc,newTuple];refine UZ (Vu ?_ (by size_fits));refine UZ (m:=firstArgMember _ _) (VT (a:=Value.none) (by first|rfl | (simp only [firstArgMember];rfl)) ?_);refine Vu ?_ (by size_fits)
 delta raiseNew;refine UZ (wpAny_handled ?_)
 first|rw[show B.in1.handled=none from hb] | rw[hb]
 refine UZ (U2 (wpAny_throw ?_));exact q _ _ (((VO ..).extBut.push _).push _) ⟨_,U8 _ rfl,rfl⟩
theorem yY (hb:B.handled=none)(gi tp:Addr)(a5:tp≠gi)(r:Array Value):Draws P w B gi [gi,tp] r.size (fun i v=>r[i]?=some v) (fun i k=>k.IsTupleIter gi tp i/\k.IsTuple tp r) where
 live:=fun _ _ st=>let ⟨o,ho,_⟩:=st.1;⟨o,ho⟩
 frame:=fun _ _ _ st k=>⟨st.1.at fun o e=>k gi (by simp) o e,let ⟨o,q1,q2⟩:=st.2;⟨o,k tp (by simp) o q1,q2⟩⟩
 item:=fun i z R G hi st q=>by refine Fx st.1 st.2 (y:=r[i]) (by simp [hi]) fun k g sb=>?_;refine q _ k z.toks (by simp [hi]) ⟨g,?_⟩ sb;obtain⟨o,q1,q2⟩:=st.2;exact⟨o,(sb.2 tp a5).trans q1,q2⟩
 done:=fun z R G st q=>SW hb st.1 st.2 (by simp) q
theorem JE {A:Around}{a:j}{Q:j->Shared->Prop}{E:Value->Shared->Prop}{s:Shared}(h:∀a,Q a s):wpAny (model prog w) A (pure a) Q E s:=U2 (h a)
theorem P2 (tp:Addr)(r:Array Value)(n:Nat)(dd:Option Addr)(f:Array (Option Value)):Meets (Builtin.«enumerate.__new__» ⟨[.type "enumerate", .ref tp], []⟩) (fun _ R s => s.heap.get? tp=some { cls := .type "tuple", dict := dd, data := .seq r n, slots := f } ∧R (.ok (.ret (.ref (s.heap.push { cls:=.type "tuple_iterator",data:=.fields #[.ref tp,.int 0 0] }).objs.size)))
    { s with heap:=(s.heap.push { cls:=.type "tuple_iterator",data:=.fields #[.ref tp,.int 0 0] }).push { cls:=.type "enumerate",data:=.fields #[.none,.bool false,.ref s.heap.objs.size,rawInt 0,.none,.none] } }):=
 .of_wp fun prog w A R s h=>by
  obtain⟨i,g,d,tk,os⟩:=s;obtain⟨a,h⟩:=h;have c:=sub_enumerate;have e:Heap.IsTuple (Shared.heap ⟨i,g,d,tk,os⟩) tp r:=⟨_,a,rfl,n,rfl⟩;wp_walk using wpAny_loadPart' a
  refine wpAny_stack_any fun st=>JE fun b=>?_;cases b;wp_walk using wpAny_loadPart' a,WN e
  exact⟨_,rfl,h⟩;wp_walk using wpAny_loadPart' a,WN e
  exact⟨_,rfl,h⟩
theorem QR {tp:Addr}{R:Value->Shared->Prop}(t:z.heap.IsTuple tp r)
  (h:∀k,IsEnum k (z.heap.objs.size+1) z.heap.objs.size 0 .none->k.IsTupleIter z.heap.objs.size tp 0->(∀b o,z.heap.get? b=some o->k.get? b=some o)->R (.ref (z.heap.objs.size+1)) { z with heap:=k }):
  wpAny (model P w) B (call (.type "enumerate") [.ref tp]) R G z:=by
 obtain⟨⟨c,dd,i,f⟩,g,a,n,d⟩:=t;simp only at a d;subst a d;refine callType_new F.called_enumerate (by decide) (F.typeCall_enumerate_1 _) (F.newCall_enumerate_1 _) (fun obj=>F.args_object_init_2 obj _) F.entry_enumerate_new (P2 tp r n dd f) ⟨g,?_⟩;have e:(z.heap.push { cls:=.type "tuple_iterator",data:=.fields #[.ref tp,.int 0 0] }).objs.size=z.heap.objs.size+1:=Vz ..;show _/\_;rw[e];have he:=U8 (z.heap.push { cls:=.type "tuple_iterator",data:=.fields #[.ref tp,.int 0 0] }) (o:={ cls:=.type "enumerate",data:=.fields #[.none,.bool false,.ref z.heap.objs.size,rawInt 0,.none,.none] }) rfl;rw[e] at he;exact⟨⟨_,he,rfl⟩,h _ he ⟨_,U0 _ (U8 _ rfl),rfl,rfl⟩ fun b o x=>U0 _ (U0 _ x)⟩
end
end
section
variable {H H':Hp}{P prog:Program}{w:World}{X:Cx}{j:List (Addr×Obj)}{C:St}{it:Addr}{pos p:Pos}{K:W.Frag}{fp:List Addr}{G:List Expr}
theorem Sd {A:Around}{E:Value->Shared->Prop}{s:Shared}{n:Nat}{P:Nat->Value->Prop}{St:Nat->Heap->Prop}(D:Draws prog w A.in1 it fp n P St){e:Addr}(g:e≠it)(h:e∉fp)(z:it∈fp){i:Nat}{Q:Option Value->Shared->Prop}(j:i<n)
  (k:(∃d,IsEnum s.heap e it i d)/\St i s.heap) (l:it<s.heap.objs.size)
  (m:∀T f h' tk,(∃t x,P i x/\f = #[.int i t,x])->s.heap.objs.size<=T->IsTupN h' T f->((∃x,IsEnumOut h' e it ((i:Int)+1) x T)/\St (i+1) h'/\T≠e/\T≠it)->(∀b o,b ∉ [e,it]->s.heap.get? b=some o->h'.get? b=some o)->Q (some (.ref T)) { s with heap:=h',toks:=tk }):
  wpAny (model prog w) A (pyNext (.ref e)) Q E s:=by
 obtain⟨⟨d,he⟩,p⟩:=k;refine wpAny_pyNext_enum_itemD D he p j g h fun x h' tk q r a u hsz v=>?_;have y:e<s.heap.objs.size:=Va he
 exact m s.heap.objs.size #[.int i tk,x] h' (tk+1) ⟨_,_,q,rfl⟩ (U5 _) ⟨_,u,rfl,_,rfl,rfl⟩ ⟨⟨_,r⟩,a,Wb y,Wb l⟩
  fun b o hb x=>v b o (fun c=>hb (by simp [c])) (fun c=>hb (by simp [c])) x
def Jh (K:W.Frag)(a:Addr):It:=⟨fun i H=>∃xs x,SqT K H a xs/\xs[i]?=some x,fun i H v H'=>∃T x,v=.ref T/\H T=none/\(∀xs,SqT K H a xs->xs[i]?=some x)/\H'=ax H T (.tup [.int i,x]),fun i H=>∃xs,SqT K H a xs/\xs.length=i⟩
theorem QQ {k:Nat}(a e it:Addr)(a5:e≠it):dy P w K (.Tuple G k pos) (Jh K a) [e,it] e (fun i h=>(∃bq,IsEnum h e it (i:Nat) bq)/\h.IsTupleIter it a i) where
 mem:=by simp
 obj:=fun i h st b hb=>by
  obtain⟨⟨bq,s1⟩,o,s2,_,s3⟩:=st;rcases Vg.mp hb with z|z;subst z;exact⟨_,s1,fun v z=>by cases z⟩;have z:b=it:=by simpa using z
  subst z;exact⟨o,s2,fun v z=>by rw[s3] at z;cases z⟩
 keep:=fun i h h' st k=>by obtain⟨⟨bq,s1⟩,s2⟩:=st;exact⟨⟨bq,k e (by simp) _ s1⟩,s2.at fun o e=>k it (by simp) o e⟩
 item:=by
  intro X hP hw hK hc i j s C H E I hf st hg;subst hP hw hK;obtain⟨xs,x,hq,hx⟩:=hg;obtain⟨af,rv,p,hz⟩:=I.tuple hq;obtain⟨u,hu,ru⟩:=rv.get hx;have p':s.heap.IsTuple a af.toArray:=p;have j0:a≠e:=fun z=>by obtain⟨⟨bq,s1⟩,_⟩:=st;obtain⟨o,q1,q2,_⟩:=p';rw[z,s1] at q1;cases q1;injection q2 with q2;exact absurd q2 (by decide)
  have jZ:a≠it:=fun z=>by obtain⟨_,o',s2,s3,_⟩:=st;obtain⟨o,q1,q2,_⟩:=p';rw[z,s2] at q1;cases q1;rw[s3] at q2;injection q2 with q2;exact absurd q2 (by decide)
  have W:=WalksT.enumerateD (prog:=X.prog) (w:=X.w) (A:=X.A) (yY (B:=X.A.in1) (I.ok.hd hc) it a jZ af.toArray) e a5 (by simp [a5,Ne.symm j0]) (by simp);have hi:i<af.toArray.size:=by rw[Vd];exact(U7.mp hu).1
  refine Sd (yY (B:=X.A.in1) (I.ok.hd hc) it a jZ af.toArray) a5 (by simp [a5,Ne.symm j0]) (by simp) hi ⟨st.1,st.2,p'⟩ (by obtain⟨_,y,_⟩:=st.2;exact Va y) fun T cP h' tk hv hT mj px kk=>?_;obtain⟨t,x',dH,rfl⟩:=hv;have ex:x'=u:=by
   have:af.toArray[i]?=some u:=by simpa using hu
   rw[this] at dH;exact(Vq dH).symm
  subst ex;refine⟨_,rfl,W.go G k pos i T _ _ _ px fun BE iO pE=>?_⟩;have qa:T ∉ [e,it]:=W.apart i T _ px;have cY:H T=none:=I.hok.fresh hT;refine⟨.ref T,_,I.turnedLaid (a:=T) (o:=.tup [.int i,x]) (ch:=[e,it]) (fun b o hb q=>pE b o hb (kk b o hb q)) hf hT ?_,rfl,⟨T,x,rfl,cY,fun ys hy=>by rw[I.tuple_inj hy hq];exact hx,rfl⟩,⟨iO.1,iO.2.1⟩,fun b hb=>?_⟩;refine⟨by show 2<=sizeLine;decide,[Value.int (i:Nat) t,x'],.cons ⟨t,rfl⟩ (.cons ru .nil),?_⟩;obtain⟨o,q1,q2⟩:=mj;exact⟨o,pE T o qa q1,q2⟩;rw[aD (fun z=>qa (by rw[<- z];exact hb))];exact(hf b hb).1
 done:=by
  intro X hP hw hK hc i j s C H E I hf st hg;subst hP hw hK;obtain⟨xs,hq,hx⟩:=hg;obtain⟨af,rv,p,hz⟩:=I.tuple hq;have p':s.heap.IsTuple a af.toArray:=p;have j0:a≠e:=fun z=>by obtain⟨⟨bq,s1⟩,_⟩:=st;obtain⟨o,q1,q2,_⟩:=p';rw[z,s1] at q1;cases q1;injection q2 with q2;exact absurd q2 (by decide)
  have jZ:a≠it:=fun z=>by obtain⟨_,o',s2,s3,_⟩:=st;obtain⟨o,q1,q2,_⟩:=p';rw[z,s2] at q1;cases q1;rw[s3] at q2;injection q2 with q2;exact absurd q2 (by decide)
  have W:=WalksT.enumerateD (prog:=X.prog) (w:=X.w) (A:=X.A) (yY (B:=X.A.in1) (I.ok.hd hc) it a jZ af.toArray) e a5 (by simp [a5,Ne.symm j0]) (by simp);have hl:=rv.length;have hi:i=af.toArray.size:=by rw[Vd];lia
  subst hi;exact W.done s _ _ ⟨st.1,st.2,p'⟩ fun h' tk kk=>⟨rfl,I.turnedL (ch:=[e,it]) (fun b o hb q=>kk b o hb q) hf⟩
 self:=by intro A i s Q E st h;obtain⟨⟨bq,s1⟩,_⟩:=st;exact wpAny_pyIter_enum s1 h
section
def Cc (K:W.Frag)(c:TA):TI:=fun C H R=>c C H fun d b=>∃a,d=[.ref a]/\(((∃xs,SqL K b a xs)/\R (Ji K a) b)∨((∃xs,SqT K b a xs)/\R (Jh K a) b))
theorem NH {a:Expr}{v:TA}{n:Pos}{kn:Nat}(D:Gl X "enumerate")(E:X.mg "enumerate"=none)(F:PA X [a] v)(L:starEach [a] X.env=[(false,eval a X.env)]:=by rfl):PI X (.Tuple G kn n) (.Call (.Name "enumerate" p) [a] [] pos) (Cc X.K v):=by
 intro j s C H R I h;refine Call_ (mI I D E boot_enumerate (WY (az (F pos j s C H _ I h) fun Q c Z=>?_) L rfl));obtain⟨S,x,d,M,q⟩:=Z;obtain⟨l,e,q⟩:=q;subst e;cases M with
 |cons r N=>
  cases N;cases r;have y:∀{k:Heap}{J:It}{m:Nat->Heap->Prop},(∀b o,c.heap.get? b=some o->k.get? b=some o)->IsEnum k (c.heap.objs.size+1) c.heap.objs.size 0 .none →dy X.prog X.w X.K (.Tuple G kn n) J [c.heap.objs.size+1,c.heap.objs.size] (c.heap.objs.size+1) m->m 0 k->R J x →wpAny (model X.prog X.w) X.A (pyIter (.ref (c.heap.objs.size+1))) (AN X j C (.Tuple G kn n) R) X.xe { c with heap:=k }:=fun {k J m} g f T t0 i=>by
   refine wpAny_pyIter_enum f ?_;refine⟨_,_,m,J,x,rfl,d.kept (t':=c.toks) g,T,t0,fun b hb=>?_,i⟩;rcases Vg.mp hb with z|z;subst z;exact d.fpOk (WD _) (d.hok.fresh (WD _));have z:b=c.heap.objs.size:=by simpa using z
   subst z;exact d.fpOk (U5 _) (d.hok.fresh (U5 _))
  rcases q with ⟨⟨xs,t⟩,i⟩|⟨⟨xs,t⟩,i⟩;obtain⟨B,O,pl,P⟩:=d.list t;exact call_enumerate_list pl.isList fun k f u _ g=>y g f (P4 l _ _ (Nat.succ_ne_self _)) ⟨⟨_,f⟩,u⟩ i;obtain⟨B,O,pl,P⟩:=d.tuple t;exact QR (show c.heap.IsTuple l B.toArray from pl) fun k f u g=>y g f (QQ l _ _ (Nat.succ_ne_self _)) ⟨⟨_,f⟩,u⟩ i
end
noncomputable def ek:V->PyData
 | .bl b=>.bool b
 | .int i=>.int i
 | .str x=>.str x
 |_=>.none
mutual
noncomputable def aC:Th->PyData
 | .at v=>ek v
 | .tup xs=>.tuple (cy xs)
 | .lst xs=>.list (cy xs)
noncomputable def cy:List Th->List PyData
 |[]=>[]
 |x::xs=>aC x::cy xs
end
mutual
theorem zA:∀t:Th,(aC t).hasDict=false
 | .at v=>by cases v <;> simp only [aC,ek,PyData.hasDict]
 | .tup xs=>by simp only [aC,PyData.hasDict];exact Ac xs
 | .lst xs=>by simp only [aC,PyData.hasDict];exact Ac xs
theorem Ac:∀ts:List Th,PyData.hasDictAll (cy ts)=false
 |[]=>by simp only [cy,PyData.hasDictAll]
 |t::ts=>by simp only [cy,PyData.hasDictAll,zA t,Ac ts,Bool.or_self]
end
mutual
theorem za {X:Cx}{j:List (Addr×Obj)}{C:St}{H:Hp}{s:Shared}(I:Inv X j C H s):∀{v:V}{t:Th}{u:Value},IsTh H v t->RelV v u->∃a,Reads s.heap u (aC t) a
 |v,_,u,.at f,r=>by cases v with|non=>(cases r;exact⟨[],.none⟩)|bl b=>(cases r;exact⟨[],.bool b⟩)|int i=>(obtain⟨k,rfl⟩:=r;exact⟨[],.int i k⟩)|str x=>(obtain⟨k,rfl⟩:=r;exact⟨[],.str x k⟩)|_=>cases f
 |_,_,u,.tup h q,r=>by cases r;obtain⟨m,c,p,_⟩:=I.tuple (SqT.of (K:=X.K) h);obtain⟨a,d⟩:=Ab I q c;obtain⟨o,e,g,n,l⟩:=(show s.heap.IsTuple _ m.toArray from p);exact⟨a,.tuple e g l d⟩
 |_,_,u,.lst h q,r=>by cases r;obtain⟨m,c,p,_⟩:=I.list (SqL.of (K:=X.K) h);obtain⟨a,d⟩:=Ab I q c;obtain⟨o,e,g,n,l⟩:=p.isList;exact⟨_,.list e g l d⟩
theorem Ab {X:Cx}{j:List (Addr×Obj)}{C:St}{H:Hp}{s:Shared}(I:Inv X j C H s):∀{b:List V}{ts:List Th}{a:List Value},IsThs H b ts->Vals b a->∃c,ReadsAll s.heap a (cy ts) c
 |_,_,a,.nil,r=>by cases r;exact⟨[],.nil⟩
 |_,_,a,.cons h q,r=>by cases r with|cons d e=>obtain⟨i,f⟩:=za I h d;obtain⟨k,g⟩:=Ab I q e;exact⟨_,.cons f g⟩
end
section
theorem P1 (d:X.A.guards=some []):c8 X (.builtin "repr") (fun xs H Q=>∃(a:Addr)(t:Th),xs=[.ref a]/\IsTh H (.ref a) t/\(aC t).showable=true/\X.A.units+((aC t).depth+1)<cLine/\(aC t).shown.length<=sizeLine/\Q (.str (aC t).shown) H):=by intro j s C H xs l Q I r h;obtain⟨a,t,rfl,f,h1,g,i,q⟩:=h;obtain⟨u,rfl,c⟩:=gK r;obtain⟨m,rd⟩:=za I f c;cases c;exact repr_of_reads' rd h1 (fun z=>by rw[zA] at z;cases z) d g (fun b o e=>e) (fun h' u tk k=>⟨.str _,H,I.kept k,⟨u,rfl⟩,q⟩) i
end
noncomputable def gL:Th->Bool
 | .tup _=>true
 |_=>false
noncomputable def qw:Th->String
 | .at .non=>"NoneType"
 | .at (.bl _)=>"bool"
 | .at (.int _)=>"int"
 | .at (.str _)=>"str"
 | .tup _=>"tuple"
 | .lst _=>"list"
 |_=>""
noncomputable def y4:Th->Bool
 | .at (.bl _)=>true
 |_=>false
noncomputable def uf:Th->Bool
 | .at (.int _)=>true
 | .at (.bl _)=>true
 |_=>false
noncomputable def qU:Th->Bool
 | .at (.int _)=>true
 |_=>false
theorem Rx (t:Th):(uf t && !y4 t)=qU t:=by cases t with| «at» v =>( cases v <;> rfl)|tup xs=>rfl|lst xs=>rfl
theorem qF {v:V}{t:Th}(h:IsTh H v t):bJ K H v (.type (qw t)):=by cases h with| «at» f =>(cases v with|non=>exact .non|bl b=>exact .bl b|int i=>exact .int i|str x=>exact .str x|_=>exact absurd (show false=true from f) U3)|tup e r=>exact .tup e|lst e r=>exact .lst e
structure jo (K:W.Frag):Prop where
 int:∀{H:Hp}{v:V}{t:Th},IsTh H v t->PySem.W.kitOne K (.type (qw t)) (.type "int")=some (uf t)
 bl:∀{H:Hp}{v:V}{t:Th},IsTh H v t->PySem.W.kitOne K (.type (qw t)) (.type "bool")=some (y4 t)
 tup:∀{H:Hp}{v:V}{t:Th},IsTh H v t->PySem.W.kitOne K (.type (qw t)) (.type "tuple")=some (gL t)
theorem Ep:∀(c:List V){ts:List Th}{i:Nat}{v:V},IsThs H c ts->c[i]?=some v->∃t,ts[i]?=some t/\IsTh H v t:=by
 intro c;induction c with
 |nil=>(intro ts i v h e;cases e)
 |cons u c d=>
  intro ts i v h e;cases h with
  |cons a b=>
   cases i with
   |zero=>
    have f:u=v:=by simpa using e
    subst f;exact⟨_,rfl,a⟩
   |succ i=>rw[List.getElem?_cons_succ] at e;obtain⟨t,g,j⟩:=d b e;exact⟨t,by rw[List.getElem?_cons_succ];exact g,j⟩
theorem PB:∀(c:List V){ts:List Th}{i:Nat}{t:Th},IsThs H c ts->ts[i]?=some t->∃v,c[i]?=some v/\IsTh H v t:=by intro c;induction c with|nil=>(intro ts i t h e;cases h;simp at e)|cons v c d=>intro ts i t h e;cases h with|cons a b=>cases i with|zero=>simp at e;subst e;exact⟨v,rfl,a⟩|succ i=>simp at e;obtain⟨w,f,g⟩:=d b e;exact⟨w,by simpa using f,g⟩
theorem ym {v:V}{ts:List Th}(h:IsTh H v (.tup ts)):∃a b,v=.ref a/\H a=some (.tup b)/\IsThs H b ts:=by cases h with|tup e r=>exact⟨_,_,rfl,e,r⟩
theorem yl {v w:V}(h:IsTh H v (.at w)):v=w/\lg w=true:=by cases h with| «at» f => exact ⟨rfl, f⟩
def jA (ts:List Th):List Th:=ts.filter gL
theorem Ey {p:Addr}(s:Same H H')(h:H' p=none):H p=none:=by cases e:H p with|none=>rfl|some o=>rw[s p o e] at h;cases h
end
namespace Srt
def Rsq (p:Array Nat):Prop:=p.toList.Pairwise (· < ·)
variable {P:Program}{w:World}{r:Type}{i j:Nat}
theorem Rsq.lt {p:Array Nat}(h:Rsq p){i j:Nat}(a:i<j)(b:j<p.size):p[i]'(by lia)<p[j]:=by have q:=List.pairwise_iff_getElem.mp h i j (by simpa using Nat.lt_trans a b) (by simpa using b) a;simpa using q
theorem Rsq.le {p:Array Nat}(h:Rsq p){i j:Nat}(a:i<=j)(b:j<p.size):p[i]'(by lia)<=p[j]:=by rcases Nat.lt_or_eq_of_le a with z|z;exact Nat.le_of_lt (h.lt z b);subst z;exact U5 _
theorem zR {p:Array Nat}(h:Rsq p)(x:Nat):∀(f lo j:Nat),j<=p.size->j-lo<=f->lo<=j->(∀i (q:i<p.size),i<lo->p[i]<x)->(∀i (q:i<p.size),j<=i->x<=p[i]) →SetTable.below.go p x f lo j<=p.size/\(∀i (q:i<p.size),i<SetTable.below.go p x f lo j->p[i]<x)/\∀i (q:i<p.size),SetTable.below.go p x f lo j<=i->x<=p[i]
 | 0,lo,j,a,b,c,d,e=>by
  obtain rfl:lo=j:=by lia
  exact⟨a,d,e⟩
 |f+1,lo,j,a,b,c,d,e=>by
  unfold SetTable.below.go;by_cases z:lo<j;rw[Vm z];have k:(lo+j) / 2<p.size:=by lia
  have g:p.getD ((lo+j) / 2) x=p[(lo+j) / 2]:=by rw[Wq,Wl p _ k];rfl
  dsimp only;rw[g];by_cases y:p[(lo+j) / 2]<x;rw[Vm y];exact zR h x f _ j a (by lia) (by lia) (fun i q r=>Nat.lt_of_le_of_lt (h.le (by lia) k) y) e;rw[Vi y];exact zR h x f lo _ (by lia) (by lia) (by lia) d fun i q r=>VL (Nat.le_of_not_lt y) (h.le r q);rw[Vi z];obtain rfl:lo=j:=by lia
  exact⟨a,d,e⟩
theorem Fg {p:Array Nat}(h:Rsq p)(x:Nat):SetTable.below p x<=p.size/\(∀i (q:i<p.size),i<SetTable.below p x->p[i]<x)/\∀i (q:i<p.size),SetTable.below p x<=i->x<=p[i]:=zR h x p.size 0 p.size (U5 _) (by lia) (VW _) (fun i q r=>absurd r (by lia)) fun i q r=>absurd r (by lia)
theorem Ff {p:Array Nat}(h:Rsq p){x n:Nat}(e:n<=p.size)(h1:∀i (q:i<p.size),i<n->p[i]<x)(d:∀i (q:i<p.size),n<=i->x<=p[i]):SetTable.below p x=n:=by obtain⟨a,b,c⟩:=Fg h x;rcases Nat.lt_trichotomy (SetTable.below p x) n with z|z|z;have u:=h1 _ (by lia) z;have v:=c (SetTable.below p x) (by lia) (U5 _);lia;exact z;have u:=b n (by lia) z;have v:=d n (by lia) (U5 _);lia
theorem Rsq.put {p:Array Nat}(h:Rsq p){x:Nat}(n:p[SetTable.below p x]? ≠ some x):Rsq (SetTable.insertAt p (SetTable.below p x) x):=by
 obtain⟨a,b,c⟩:=Fg h x;unfold Rsq;rw[SetTable.toList_insertAt];refine List.pairwise_append.mpr ⟨h.sublist (take_sublist _ _),pairwise_cons.mpr ⟨fun y f=>?_,h.sublist (List.drop_sublist _ _)⟩,fun u o y f=>?_⟩;obtain⟨i,d⟩:=mem_iff_getElem?.mp f;rw[List.getElem?_drop,V9] at d;obtain⟨q,rfl⟩:=W3.mp d;have z:=c _ q (by lia);rcases Nat.lt_or_eq_of_le z with z|z;exact z;exfalso;rcases Nat.eq_zero_or_pos i with e|e;subst e;refine n ?_;rw[W3];exact⟨q,z.symm⟩;have w:=c (SetTable.below p x) (by lia) (U5 _);have v:=h.lt (i:=SetTable.below p x) (j:=SetTable.below p x+i) (by lia) q;lia;obtain⟨i,d⟩:=mem_iff_getElem?.mp o;rw[Xe] at d;have g:u<x:=by by_cases l:i<SetTable.below p x;rw[Vm l,V9] at d;obtain⟨q,rfl⟩:=W3.mp d;exact b i q l;rw[Vi l] at d;cases d
 rcases Vg.mp f with rfl|f;exact g;obtain⟨k,m⟩:=mem_iff_getElem?.mp f;rw[List.getElem?_drop,V9] at m;obtain⟨q,rfl⟩:=W3.mp m;exact Ve g (c _ q (by lia))
def qu (t:SetTable)(j:Nat):Prop:=t.place[SetTable.below t.place j]? ≠ some j
theorem Gy {t:SetTable}(h:∀i,t.slot j ≠ .live i):qu t j:=by intro e;refine h (SetTable.below t.place j) ?_;unfold SetTable.slot;dsimp only;rw[Vm (by rw[e];exact W6 _)]
theorem HG (t:SetTable)(p:SetTable.Probe):(t.advance p).dummy=p.dummy:=by unfold SetTable.advance;split <;> rfl
theorem Ah {t:SetTable}{g:Nat->Int}{h:Int}{d:Option Nat}:∀(f:Nat)(p:SetTable.Probe),(∀x,p.dummy=some x->qu t x)->SetTable.probe.go t g h f p=some (.empty j d)->qu t j/\∀x,d=some x->qu t x
 | 0,p,_,e=>by unfold SetTable.probe.go at e;cases e
 |f+1,p,c,e=>by unfold SetTable.probe.go at e;cases a:t.slot p.j with|empty=>(rw[a] at e;dsimp only at e;cases e;exact⟨Gy fun i z=>(by rw[a] at z;cases z),c⟩)|dummy=>(rw[a] at e;dsimp only at e;refine Ah f _ (fun x b=>?_) e;rw[HG] at b;cases b;exact Gy fun i z=>by rw[a] at z;cases z)|live i=>rw[a] at e;dsimp only at e;split at e;cases e;exact Ah f _ (fun x b=>c x (by rw[HG] at b;exact b)) e
theorem So {t:SetTable}{h:Int}{b:Bool}(e:t.freeSlot h=some (j,b)):qu t j:=by
 unfold SetTable.freeSlot at e;split at e
 .next k d q=>
  obtain⟨a,c⟩:=Ah _ _ (fun x z=>by cases z) q;cases d with|none=>(cases e;exact a)|some x=>cases e;exact c _ rfl
 cases e
theorem uN (t:SetTable)(n:Nat):Rsq (t.standIn n).place:=by show(Array.range n).toList.Pairwise (· < ·);rw[Array.toList_range];exact List.pairwise_lt_range
theorem Sn {t:SetTable}(a:Rsq t.place)(es:Array (Int×Value))(h:Int)(x:Value):Rsq (layNew t es h x).2.1.place/\(layNew t es h x).2.1.led=t.led:=by
 unfold layNew;split
 .next j b e=>
  show Rsq ((t.put j).1.orStandIn _).place/\((t.put j).1.orStandIn _).led=t.led;unfold SetTable.orStandIn;split;exact⟨a.put (So e),rfl⟩;exact⟨uN _ _,rfl⟩
 exact⟨uN _ _,rfl⟩
theorem QO (f:Nat->Option (Nat×Nat))(d:∀j p,f j=some p->p.1=j)(n:Nat):(((List.range n).filterMap f).map (·.1)).Pairwise (· < ·):=by rw[List.pairwise_map,List.pairwise_filterMap];refine List.Pairwise.imp ?_ (List.pairwise_lt_range (n:=n));intro a b c p e q g;rw[d a p e,d b q g];exact c
theorem Hn {t:SetTable}(es:Array (Int×Value))(n:Nat):Rsq (relayAll t es n).2.1.place/\(relayAll t es n).2.1.led=t.led:=by
 unfold relayAll;split
 .next t' order e=>
  dsimp only;split;unfold SetTable.relaid SetTable.laid at e;cases q:SetTable.layClean (SetTable.sizeAbove n-1) (es.map (·.1)) with|none=>(rw[q] at e;cases e)|some owner=>rw[q] at e;cases e;refine⟨?_,rfl⟩;refine QO (fun j=>(owner.getD j none).map fun x=>(j,x)) (fun j p a=>?_) _;cases z:owner.getD j none with|none=>(rw[z] at a;cases a)|some y=>rw[z] at a;cases a;rfl
  exact⟨uN _ _,rfl⟩
 exact⟨uN _ _,rfl⟩
theorem Hb {l:List r}(a:i<l.length):(l[i]::l.eraseIdx i).Perm l:=by rw[List.eraseIdx_eq_take_drop_succ];refine List.perm_middle.symm.trans (List.Perm.of_eq ?_);rw[<- drop_eq_getElem_cons a,take_append_drop]
theorem Eo (f:Nat->Nat):∀(n k:Nat)(l:List r)(out:Array r),l.length<=n->(pickOrder.go f n k l out).toList.Perm (out.toList++l)
 | 0,k,l,out,h=>by obtain rfl:l=[]:=List.length_eq_zero_iff.mp (by lia);unfold pickOrder.go;rw[Vk]
 |n+1,k,l,out,h=>by
  unfold pickOrder.go;cases q:l[f k % l.length]? with
  |none=>
   dsimp only;have:l=[]:=by cases l with|nil=>rfl|cons a t=>have z:=List.getElem?_eq_none_iff.mp q;have w:=Nat.mod_lt (f k) (show 0<(a::t).length from Nat.succ_pos _);lia
   subst this;rw[Vk]
  |some x=>dsimp only;obtain⟨b,c⟩:=U7.mp q;refine(Eo f n (k+1) _ _ (by rw[List.length_eraseIdx_of_lt b];lia)).trans ?_;rw[Array.toList_push,W7];refine List.Perm.append_left _ ?_;subst c;exact Hb b
theorem Aa (f:Nat->Nat)(xs:Array r):(pickOrder f xs).toList.Perm xs.toList:=by refine(Eo f xs.size 0 xs.toList #[] (by simp)).trans ?_;exact List.Perm.of_eq (VY _)
section
variable {M:Model}{A:Around}{E:Value->Shared->Prop}
theorem TK {src:Source}{n:Nat}{s:Shared}{Q:Nat->Shared->Prop}(a:n≠0)(h:∀i d,i<n->Q i { s with drawn:=d }):wpAny M A (choose src n) Q E s:=fun _ _ _=>⟨a,h _ _ (Nat.mod_lt _ (Nat.pos_of_ne_zero a))⟩
theorem Gv:∀(n:Nat)(l:List r)(s:Shared)(Q:List r -> Shared->Prop),l.length<=n->(∀m d,m.Perm l->Q m { s with drawn:=d })->wpAny M A (drawOrder n l) Q E s
 | 0,l,s,Q,h,q=>by obtain rfl:l=[]:=List.length_eq_zero_iff.mp (by lia);unfold drawOrder;exact U2 (q [] s.drawn (List.Perm.refl _))
 |n+1,[],s,Q,h,q=>by unfold drawOrder;exact U2 (q [] s.drawn (List.Perm.refl _))
 |n+1,a::t,s,Q,h,q=>by unfold drawOrder;refine UZ (TK (by simp) fun i d b=>?_);have e:(a::t)[i]?=some (a::t)[i]:=Wl _ i b;rw[e];dsimp only;refine UZ (Gv n _ _ _ (by rw[List.length_eraseIdx_of_lt b];lia) fun m d' c=>?_);exact U2 (q _ d' ((List.Perm.cons _ c).trans (Hb b)))
end
noncomputable def iA (w:World):Bool:=w.params.followText "set-order"
section
variable {A:Around}{E:Value->Shared->Prop}{s:Shared}
theorem zm (b:Bool){s₁:Shared}{a:Unit->Shared->Prop}(q:a () s₁):wpAny (model P w) A (match b with|true=>rule "set.scan.the-table-gave-way" | false=>pure ()) a E s₁:=by cases b;exact U2 q;exact wpAny_rule q
end
end Srt
namespace Srt
abbrev eu (w:World):Obj:={ cls:=.type "set",dict:=none,data:=.set #[] 0 (.fresh 0 0 (!iA w)) }
variable {a b it:Addr}{P:Program}{w:World}{h':Heap}{j:Type}{i u slot:Nat}{Q:Value->Shared->Prop}
section
variable {A:Around}{E:Value->Shared->Prop}{s:Shared}
theorem C4 (a:Value){Q₁:Value->Shared->Prop}(h:Q₁ (.ref s.heap.objs.size) { s with heap:=s.heap.push (eu w) }):codeAny (model P w) A (.call (.builtin "set.__new__") ⟨[.type "set",a],[]⟩) (wants Q₁ E) s:=by
 refine codeAny_of_tree ?_;show wpAny _ A.in1 (checkBuiltinCall "set.__new__" ⟨[.type "set",a],[]⟩ >>= fun _=>again (.builtin "set.__new__" ⟨[.type "set",a],[]⟩)) _ _ s;refine UZ (VT (F.newCall_set_1 a) (U2 ⟨plainId_quiet F.plain_set_new _,WT F.entry_set_new ?k⟩));case k=>
  rw[W4 F.plain_set_new _];have b:=sub_set_self;obtain⟨c,g,d,tk,os⟩:=s;unfold Builtin.«set.__new__» Builtin.Frozenset.newClass;dsimp only
  wp_walk
  refine wpAny_askSetting (U2 ?j)
  case j=>
   simp only [newObj];exact UZ (wpAny_alloc (U2 (U2 h)))
end
theorem sl_next:Slot "set_iterator" "__next__" "set_iterator.__next__":=by
 refine .of (owner:="set_iterator") (n:="__next__") ?_ ?_ ?_ ?_ ?_ ?_;rw[typeLookup_type,builtinLookup_eq_fast];kernel_rfl;decide+kernel;decide+kernel;decide+kernel;first|exact .inl (by decide+kernel)|exact .inr (by decide+kernel)
 rw[isSubtype_type];kernel_rfl
theorem En:Slot "set_iterator" "__iter__" "set_iterator.__iter__":=by
 refine .of (owner:="set_iterator") (n:="__iter__") ?_ ?_ ?_ ?_ ?_ ?_;rw[typeLookup_type,builtinLookup_eq_fast];kernel_rfl;decide+kernel;decide+kernel;decide+kernel;first|exact .inl (by decide+kernel)|exact .inr (by decide+kernel)
 rw[isSubtype_type];kernel_rfl
theorem uD : entryFor table "set_iterator.__next__"=some Builtin.«set_iterator.__next__» := entryFor_of_tree (by kernel_rfl)
theorem QN : entryFor table "set.__iter__"=some Builtin.«frozenset.__iter__» := entryFor_alias (id' := "frozenset.__iter__") (by kernel_rfl) rfl (by decide +kernel) (by kernel_rfl)
theorem QM : entryFor table "set_iterator.__iter__"=some Builtin.«dict_keyiterator.__iter__» := entryFor_alias (id' := "dict_keyiterator.__iter__") (by kernel_rfl) rfl (by decide +kernel) (by kernel_rfl)
theorem uC (a:Value):argsOk "set_iterator.__next__" ⟨[a],[]⟩:=by unfold argsOk;kernel_rfl
theorem QL (a:Value):argsOk "set_iterator.__iter__" ⟨[a],[]⟩:=by unfold argsOk;kernel_rfl
def SAq (h:Heap)(a:Addr)(es:Array (Int×Value))(u:Nat)(t:SetTable):Prop:=∃o,h.get? a=some o/\o.ExactSet/\o.data=.set es u t/\t.fits es.size=true
def SI (h:Heap)(it:Addr)(first:Value)(i:Nat)(a:Addr)(n u:Nat):Prop:=h.get? it=some { cls:=.type "set_iterator",data:=.fields #[first,.int i 0,.ref a,.int n 0,.int u 0] }
section
variable {A:Around}{E:Value->Shared->Prop}{s:Shared}
theorem uB {Q:Bool->Shared->Prop}(h:Q (iA w) s):wpAny (model P w) A setsByText Q E s:=by unfold setsByText;exact UZ (wpAny_askSetting (U2 h))
theorem SI.type {first:Value}{n:Nat}(x:SI s.heap it first i a n u):s.TypeIs (.ref it) "set_iterator":=⟨_,x,rfl⟩
theorem SI.set {f b:Value}{n:Nat}{h:Heap}(x:SI h it f i a n u):SI ((h.update it (Obj.mapFields (·.setIfInBounds 0 b))).update it (Obj.mapFields (·.setIfInBounds 1 (rawInt ((i:Int)+1))))) it b (i+1) a n u:=by have g1:(h.update it (Obj.mapFields (·.setIfInBounds 0 b))).get? it=some { cls:=.type "set_iterator",data:=.fields #[b,.int i 0,.ref a,.int n 0,.int u 0] }:=Vs _ x rfl;exact Vs _ g1 rfl
theorem SI.set1 {f:Value}{n:Nat}{h:Heap}(x:SI h it f i a n u):SI (h.update it (Obj.mapFields (·.setIfInBounds 1 (rawInt ((i:Int)+1))))) it f (i+1) a n u:=Vs _ x rfl
theorem Gu {nx:Nat}{x:Value}{es:Array (Int×Value)}{t:SetTable}{Q:Option Value->Shared->Prop}(b:SI s.heap it (.int slot 0) i a es.size u)(e:SAq s.heap a es u t)
  (f:∀(d:Option (Value×Nat)->Shared->Prop) E',d (some (x,nx)) s->wpAny (model P w) A.in1 (setNext a slot i u) d E' s)
  (q:∀h',SI h' it (.int nx 0) (i+1) a es.size u->Heap.SameBut it s.heap h'->Q (some x) { s with heap:=h' }):wpAny (model P w) A (pyNext (.ref it)) Q E s:=by
 obtain⟨o,g,j,c,h⟩:=e;unfold pyNext;refine UZ (WE (VH (name:=Str.ofString "__next__") b.type sl_next (VJ sl_next b.type uD ?_ (uC _))));unfold Builtin.«set_iterator.__next__»;refine UZ (U2 (UZ (wpAny_fieldsOf b rfl ?_)));dsimp only;refine UZ (W8 g c h ?_);rw[Vi (by simp)];refine UZ (f _ _ ?_);dsimp only;refine UZ (VR b rfl (by simp) ?_);have g1:(s.heap.update it (Obj.mapFields (·.setIfInBounds 0 (rawInt nx)))).get? it=some { cls:=.type "set_iterator",data:=.fields #[.int nx 0,.int i 0,.ref a,.int es.size 0,.int u 0] }:=Vs _ b rfl;refine UZ (VR g1 rfl (by simp) ?_);exact U2 ⟨_,rfl,U2 (q _ b.set ((VO ..).trans (VO ..)))⟩
theorem Gs {es:Array (Int×Value)}{t:SetTable}{Q:Option Value->Shared->Prop}(f:A.handled=none)(d:SI s.heap it (.int slot 0) i a es.size u)(g:SAq s.heap a es u t)
  (h:∀(e:Option (Value×Nat)->Shared->Prop) E',e none s->wpAny (model P w) A.in1 (setNext a slot i u) e E' s)
  (q:∀h',Heap.ExtBut it s.heap h'->Q none { s with heap:=h' }):wpAny (model P w) A (pyNext (.ref it)) Q E s:=by
 obtain⟨o,j,l,c,k⟩:=g;unfold pyNext;refine UZ (WE (VH (name:=Str.ofString "__next__") d.type sl_next (VJ sl_next d.type uD ?_ (uC _))));unfold Builtin.«set_iterator.__next__»;refine UZ (U2 (UZ (wpAny_fieldsOf d rfl ?_)));dsimp only;refine UZ (W8 j c k ?_);rw[Vi (by simp)];refine UZ (h _ _ ?_);dsimp only;refine UZ (VR d rfl (by simp) ?_);refine UZ ?_;simp only [newExc,newTuple];refine UZ (Vu ?_ (by size_fits));refine UZ (m:=firstArgMember _ _) (VT (a:=Value.none) rfl ?_);refine Vu ?_ (by size_fits)
 delta raiseNew
 refine UZ (wpAny_handled ?_);rw[(show A.in1.handled=none from f)];refine UZ (U2 (wpAny_throw ?_));refine UZ (wpAny_isInstance (T:="StopIteration") (b:=true) ⟨_,U8 _ rfl,rfl⟩ isSubtype_stop ?_);exact U2 (q _ (((VO ..).extBut.push _).push _))
theorem Te {tp:Addr}{es:Array (Int×Value)}{t:SetTable}{ps:List Nat}{p:Nat}{e:Int×Value}{Q:Option Value->Shared->Prop}(c:SI s.heap it (.ref tp) i a es.size u)(g:SAq s.heap a es u t)
  (h:s.heap.get? tp=some { cls:=.type "tuple",data:=.seq (ps.map fun(k:Nat)=>Value.int k 0).toArray 0 }) (j:ps[i]?=some p) (he:es[p]?=some e)
  (q:∀h',SI h' it (.ref tp) (i+1) a es.size u->Heap.SameBut it s.heap h'->Q (some e.2) { s with heap:=h' }):wpAny (model P w) A (pyNext (.ref it)) Q E s:=by
 obtain⟨o,d,m,b,f⟩:=g;unfold pyNext;refine UZ (WE (VH (name:=Str.ofString "__next__") c.type sl_next (VJ sl_next c.type uD ?_ (uC _))));unfold Builtin.«set_iterator.__next__»;refine UZ (U2 (UZ (wpAny_fieldsOf c rfl ?_)));dsimp only;refine UZ (W8 d b f ?_);rw[Vi (by simp)];refine UZ (Wv h rfl ?_);have l:(ps.map fun(k:Nat)=>Value.int k 0).toArray[(i:Int).toNat]?=some (.int p 0):=by rw[VX,List.getElem?_toArray,Vl,j];rfl
 dsimp only;rw[l];dsimp only;rw[VX,VX];unfold setNextDrawn;refine UZ (UZ (WV d b f ?_));dsimp only;rw[Vi (by simp),he];refine U2 ?_;refine UZ (VR c rfl (by simp) ?_);exact U2 ⟨_,rfl,U2 (q _ c.set1 (VO ..))⟩
theorem TV {tp:Addr}{es:Array (Int×Value)}{t:SetTable}{ps:List Nat}{Q:Option Value->Shared->Prop}(e:A.handled=none)(c:SI s.heap it (.ref tp) i a es.size u)(f:SAq s.heap a es u t)
  (g:s.heap.get? tp=some { cls:=.type "tuple",data:=.seq (ps.map fun(k:Nat)=>Value.int k 0).toArray 0 }) (h:ps[i]?=none)
  (q:∀h',Heap.ExtBut it s.heap h'->Q none { s with heap:=h' }):wpAny (model P w) A (pyNext (.ref it)) Q E s:=by
 obtain⟨o,j,p,d,l⟩:=f;unfold pyNext;refine UZ (WE (VH (name:=Str.ofString "__next__") c.type sl_next (VJ sl_next c.type uD ?_ (uC _))));unfold Builtin.«set_iterator.__next__»;refine UZ (U2 (UZ (wpAny_fieldsOf c rfl ?_)));dsimp only;refine UZ (W8 j d l ?_);rw[Vi (by simp)];refine UZ (Wv g rfl ?_);have n:(ps.map fun(k:Nat)=>Value.int k 0).toArray[(i:Int).toNat]?=none:=by rw[VX,List.getElem?_toArray,Vl,h];rfl
 dsimp only;rw[n];dsimp only;refine UZ (VR c rfl (by simp) ?_);have g1:(s.heap.update it (Obj.mapFields (·.setIfInBounds 0 (rawInt 0)))).get? it=some { cls:=.type "set_iterator",data:=.fields #[.int 0 0,.int i 0,.ref a,.int es.size 0,.int u 0] }:=Vs _ c rfl;refine UZ (VR g1 rfl (by simp) ?_);refine UZ ?_;simp only [newExc,newTuple];refine UZ (Vu ?_ (by size_fits));refine UZ (m:=firstArgMember _ _) (VT (a:=Value.none) rfl ?_);refine Vu ?_ (by size_fits)
 delta raiseNew
 refine UZ (wpAny_handled ?_);rw[(show A.in1.handled=none from e)];refine UZ (U2 (wpAny_throw ?_));refine UZ (wpAny_isInstance (T:="StopIteration") (b:=true) ⟨_,U8 _ rfl,rfl⟩ isSubtype_stop ?_);exact U2 (q _ ((((VO ..).trans (VO ..)).extBut.push _).push _))
theorem E9 {es:Array (Int×Value)}{t:SetTable}{Q:Option (Value×Nat)->Shared->Prop}(c:SAq s.heap a es u t)(hb:iA w=false)(hd:(!t.plain&&decide (es.size>1))=false)(d:t.led=true)
  (q:Q (match es[SetTable.below t.place slot]?,t.place[SetTable.below t.place slot]? with|some (_,x),some j=>some (x,j+1)|_,_=>none) s):wpAny (model P w) A (setNext a slot i u) Q E s:=by
 obtain⟨o,e,g,b,f⟩:=c;unfold setNext;refine UZ (WV e b f ?_);dsimp only;refine UZ (uB ?_);rw[hb,Vi U3]
 split
 .next z=>
  have z:(!t.plain&&decide (es.size>1))=true:=z;rw[hd] at z;cases z
 .refine UZ ?_;show wpAny (model P w) A (if (!t.led && !es.isEmpty)=true then unsupported "set:maker-not-led" else pure PUnit.unit) _ _ _;rw[d,Vi (by simp)];exact U2 (U2 q)
theorem HF {es:Array (Int×Value)}{t:SetTable}{Q:Option (Value×Nat)->Shared->Prop}(f:SAq s.heap a es u t)(hb:iA w=true)
  (q:Q (((pickOrder (w.params.setOrder a u) es)[i]?).map fun e=>(e.2,slot)) s):wpAny (model P w) A (setNext a slot i u) Q E s:=by
 obtain⟨o,c,g,b,d⟩:=f;unfold setNext;refine UZ (WV c b d ?_);dsimp only;refine UZ (uB ?_);rw[hb,Vm rfl,Vi (by simp)];unfold setWalk;refine UZ (UZ (WV c b d ?_));dsimp only;refine UZ (uB ?_);rw[hb,Vm rfl];refine UZ (wpAny_askSetting (U2 (U2 q)))
end
section
variable {A:Around}
theorem SI.at {h:Heap}{f:Value}{n:Nat}(x:SI h it f i a n u)(k:∀o,h.get? it=some o->h'.get? it=some o):SI h' it f i a n u:=k _ x
theorem SAq.at {h:Heap}{es:Array (Int×Value)}{t:SetTable}(x:SAq h a es u t)(k:∀o,h.get? a=some o->h'.get? a=some o):SAq h' a es u t:=by obtain⟨o,b,r⟩:=x;exact⟨o,k o b,r⟩
theorem zZ {f:Value}{n:Nat}{s:Shared}{E:Value->Shared->Prop}(b:SI s.heap it f i a n u)(h:Q (.ref it) s):wpAny (model P w) A (pyIter (.ref it)) Q E s:=by refine wpAny_pyIter_slot b.type En (VJ En b.type QM ?_ (QL _));show wpAny _ _ (ret (.ref it)) _ _ s;exact U2 ⟨_,rfl,"set_iterator",_,b.type,sl_next.lookup,h⟩
noncomputable def nK (t:SetTable)(i:Nat):Nat:=if i=0 then 0 else t.place.getD (i-1) 0+1
theorem Gr {t:SetTable}(a:Rsq t.place){i:Nat}(b:i<=t.place.size):SetTable.below t.place (nK t i)=i:=by
 unfold nK;by_cases e:i=0;subst e;rw[Vm rfl];exact Ff a (VW _) (fun i q r=>absurd r (by lia)) fun i q r=>VW _;rw[Vi e];have g:t.place.getD (i-1) 0=t.place[i-1]:=by rw[Wq,Wl t.place _ (by lia)];rfl
 rw[g];refine Ff a b (fun k q r=>?_) fun k q r=>?_;exact Nat.lt_succ_of_le (a.le (by lia) (by lia));exact a.lt (by lia) q
theorem Td (hh:A.handled=none)(it a:Addr)(a5:a≠it)(es:Array (Int×Value))(u:Nat)(t:SetTable)(hb:iA w=false)(hd:(!t.plain&&decide (es.size>1))=false)(hl:t.led=true)(hr:Rsq t.place)(hz:t.place.size=es.size):Walks P w A it [it,a] [it] es.size (fun i v=>(es.toList.map (·.2))[i]?=some v) (fun i h=>SI h it (.int (nK t i:Nat) 0) i a es.size u/\SAq h a es u t) where
 sub:=fun b h=>by simp at h;simp [h]
 frame:=fun _ _ _ st hk=>⟨st.1.at fun o e=>hk it (by simp) o e,st.2.at fun o e=>hk a (by simp) o e⟩
 item:=fun i s Q E hi st q=>by
  have hj:t.place[i]?=some t.place[i]:=Wl _ _ (by lia);have he:es[i]?=some es[i]:=Wl es i hi;refine Gu (x:=es[i].2) (nx:=t.place[i]+1) st.1 st.2 (fun Q' E' q'=>E9 st.2 hb hd hl ?_) fun h' si sb=>?_;rw[Gr hr (by lia),hj,he];exact q';have e1:nK t (i+1)=t.place[i]+1:=by unfold nK;rw[Vi (by lia),Nat.add_sub_cancel,Wq,hj];rfl
  refine q _ h' s.toks (by rw[Vl,V9,he];rfl) ⟨by rw[e1];exact si,st.2.at fun o e=>sb.extBut a o a5 e⟩ fun b o cw e=>sb.extBut b o (fun z=>cw (by simp [z])) e
 done:=fun s Q E st q=>by refine Gs hh st.1 st.2 (fun Q' E' q'=>E9 st.2 hb hd hl ?_) fun h' he=>q h' s.toks fun b o cw e=>he b o (fun z=>cw (by simp [z])) e;rw[Gr hr (by lia),getElem?_neg es _ (by lia)];exact q'
 self:=fun _ _ _ _ st q=>zZ st.1 q
theorem Sb (hh:A.handled=none)(it a:Addr)(a5:a≠it)(es:Array (Int×Value))(u:Nat)(t:SetTable)(hb:iA w=true):Walks P w A it [it,a] [it] es.size (fun i v=>((pickOrder (w.params.setOrder a u) es).toList.map (·.2))[i]?=some v) (fun i h=>SI h it (.int (0:Nat) 0) i a es.size u/\SAq h a es u t) where
 sub:=fun b h=>by simp at h;simp [h]
 frame:=fun _ _ _ st hk=>⟨st.1.at fun o e=>hk it (by simp) o e,st.2.at fun o e=>hk a (by simp) o e⟩
 item:=fun i s Q E hi st q=>by
  have sz:(pickOrder (w.params.setOrder a u) es).size=es.size:=by have z:=(Aa (w.params.setOrder a u) es).length_eq;simpa using z
  have he:(pickOrder (w.params.setOrder a u) es)[i]?=some (pickOrder (w.params.setOrder a u) es)[i]:=Wl _ _ (by lia);refine Gu (x:=(pickOrder (w.params.setOrder a u) es)[i].2) (nx:=0) st.1 st.2 (fun Q' E' q'=>HF st.2 hb ?_) fun h' si sb=>?_;rw[he];exact q';refine q _ h' s.toks (by rw[Vl,V9,he];rfl) ⟨si,st.2.at fun o e=>sb.extBut a o a5 e⟩ fun b o cw e=>sb.extBut b o (fun z=>cw (by simp [z])) e
 done:=fun s Q E st q=>by
  have sz:(pickOrder (w.params.setOrder a u) es).size=es.size:=by have z:=(Aa (w.params.setOrder a u) es).length_eq;simpa using z
  refine Gs hh st.1 st.2 (fun Q' E' q'=>HF st.2 hb ?_) fun h' he=>q h' s.toks fun b o cw e=>he b o (fun z=>cw (by simp [z])) e;rw[getElem?_neg _ _ (by lia)];exact q'
 self:=fun _ _ _ _ st q=>zZ st.1 q
theorem Tc (hh:A.handled=none)(it a tp:Addr)(a5:a≠it)(wZ:tp≠it)(es:Array (Int×Value))(u:Nat)(t:SetTable)(ps:List Nat)(dJ:ps.Perm (List.range es.size)):Walks P w A it [it,a,tp] [it] es.size (fun i v=>(ps.map fun p=>(es.getD p (0,.none)).2)[i]?=some v)
   (fun i h=>SI h it (.ref tp) i a es.size u/\SAq h a es u t/\h.get? tp=some { cls:=.type "tuple",data:=.seq (ps.map fun(k:Nat)=>Value.int k 0).toArray 0 }) where
 sub:=fun b h=>by simp at h;simp [h]
 frame:=fun _ _ _ st hk=>⟨st.1.at fun o e=>hk it (by simp) o e,st.2.1.at fun o e=>hk a (by simp) o e,hk tp (by simp) _ st.2.2⟩
 item:=fun i s Q E hi st q=>by
  have lp:ps.length=es.size:=by rw[dJ.length_eq,Wz]
  have hp:ps[i]?=some ps[i]:=Wl _ _ (by lia);have lt:ps[i]<es.size:=mem_range.mp (dJ.mem_iff.mp (WA ..));have he:es[ps[i]]?=some es[ps[i]]:=Wl es ps[i] lt;refine Te st.1 st.2.1 st.2.2 hp he fun h' si sb=>?_;refine q _ h' s.toks ?_ ⟨si,st.2.1.at fun o e=>sb.extBut a o a5 e,sb.extBut tp _ wZ st.2.2⟩ fun b o cw e=>sb.extBut b o (fun z=>cw (by simp [z])) e;rw[Vl,hp,Xc,Wq,he];rfl
 done:=fun s Q E st q=>by
  have lp:ps.length=es.size:=by rw[dJ.length_eq,Wz]
  refine TV hh st.1 st.2.1 st.2.2 (getElem?_neg _ _ (by lia)) fun h' he=>q h' s.toks fun b o cw e=>he b o (fun z=>cw (by simp [z])) e
 self:=fun _ _ _ _ st q=>zZ st.1 q
end
theorem map_range (es:Array (Int×Value)):((List.range es.size).map fun p=>(es.getD p (0,.none)).2)=es.toList.map (·.2):=by refine ext_getElem? fun i=>?_;rw[Vl,Vl];have e:es.toList[i]?=es[i]? := V9;rw[e];by_cases a:i<es.size;rw[List.getElem?_range a,Wl es i a,Xc,Xc,Wq,Wl es i a];rfl;rw[getElem?_neg es i a,Wx (by simpa using a)];rfl
section
variable {A:Around}{E:Value->Shared->Prop}{s:Shared}
theorem DL {M:Model}{c:Prop}[Decidable c]{t e:Sem j}{Q : j -> Shared->Prop}(a:c)(h:wpAny M A t Q E s):wpAny M A (if c then t else e) Q E s:=by rw[Vm a];exact h
theorem Pz:splitId "set.__len__"=some ("set","__len__"):=by decide+kernel
theorem Rw {Q:Bool->Shared->Prop}(c:s.TypeIs (.ref a) "set")(h:Q false s):wpAny (model P w) A (Builtin.List.listLengthHint (.ref a)) Q E s:=by unfold Builtin.List.listLengthHint;refine UZ (wpAny_specialOf c F.slot_set_len.lookup ?_);dsimp only;rw[Pz];dsimp only;refine UZ (wpAny_isInstance (b:=true) c sub_set_self ?_);rw[Vi (by decide)];refine DL (by decide+kernel) ?_;refine UZ (wpAny_typeOf c ?_);exact U2 h
theorem QK (h:a≠b):Builtin.List.listSameRef (.ref a) (.ref b)=false:=by unfold Builtin.List.listSameRef;simp [h]
end
end Srt
section
open PySem.Builtin PySem.AutoSeq1
abbrev nR (h:Heap)(z TI TO:Addr)(a f1:Value):Prop:=h.get? z=some { cls:=.type "zip",dict:=none,data:=.fields #[a,f1,.bool false,.ref TI,.ref TO],slots:=#[] }
variable {b:Addr}{h':Heap}
theorem yC {h:Heap}{t:Addr}{xs:Array Value}(x:h.IsTuple t xs)(a:Heap.ExtBut b h h')(hb:t≠b):h'.IsTuple t xs:=by obtain⟨o,c,d⟩:=x;exact⟨o,a _ _ hb c,d⟩
theorem QI {h:Heap}{t:Addr}{xs:Array Value}(x:h.IsTuple t xs)(o:Obj):(h.push o).IsTuple t xs:=by obtain⟨q,a,b⟩:=x;exact⟨q,U0 _ a,b⟩
end
section
variable {y G sub u:List Value}{x name q:Str}{H H':Hp}{a C L:Addr}{P prog:Program}{w:World}{h' h1 B:Heap}{e:Expr}{X:Cx}{O:List (Addr×Obj)}{R:St}{i j:Nat}{Q:Value->Shared->Prop}{pos p J:Pos}{r:TE}{K:W.Frag}{es:List Expr}{env:Env}{id T newId I:String}{hdct ab:Bool}{sn:List Str}{col:Option Bool}{dd:Option Addr}{k0 k1 k2 k3 k5:Option Value}{S:Addr->Prop}
section
variable {M:Model}{A:Around}{E:Value->Shared->Prop}{nm:Str}{N:Addr}{bs:List Value}{s:Shared}
theorem gN {e:Addr}{o:Obj}(he:s.heap.get? e=some o)(h:Q o.cls s):wpAny M A (typeOf (.ref e)) Q E s:=UZ (wpAny_loadPart he (U2 h))
theorem uA {e:Addr}{o:Obj}{a:Array Value}{Q:Bool->Shared->Prop}(he:s.heap.get? e=some o)(hd:o.data=.fields a)(h:Q false s):wpAny M A (isType (.ref e)) Q E s:=by refine UZ (wpAny_loadPart he (U2 ?_));rw[hd];exact h
theorem zC {base:Value}{Q:Bool->Shared->Prop}(a:s.heap.get? C=some (excClassObj nm q C N bs G hdct sn sub ab col dd k0 k1 k2 k3 k5 newId))(h:Q ((Value.ref C::G).contains base) s):wpAny M A (isSubtype (.ref C) base) Q E s:=by obtain⟨b,g,d,t,os⟩:=s;exact W9 a h
theorem oG {e:Addr}{o:Obj}{base:Value}{Q:Bool->Shared->Prop}(a:s.heap.get? C=some (excClassObj nm q C N bs G hdct sn sub ab col dd k0 k1 k2 k3 k5 newId))(he:s.heap.get? e=some o)(b:o.cls=.ref C)(h:Q ((Value.ref C::G).contains base) s):wpAny M A (isInstance (.ref e) base) Q E s:=by refine UZ (gN he ?_);rw[b];exact zC a h
theorem El {e:Addr}{o:Obj}{a:Array Value}{Q:Unit->Shared->Prop}(he:s.heap.get? e=some o)(hd:o.data=.fields a)(h1:a[1]?=some .none)(h:Q () s):wpAny M A (setFlight (.ref e) none) Q E s:=by refine UZ (VC he hd h1 ?_);exact U2 h
theorem zO {Q:Bool->Shared->Prop}(a:s.heap.get? C=some (excClassObj nm q C N bs G hdct sn sub ab col dd k0 k1 k2 k3 k5 newId))(h:Q true s):wpAny M A (isType (.ref C)) Q E s:=UZ (wpAny_loadPart a (U2 h))
theorem Sa {B:String}(F:ExcBaseFacts B newId I u)(hB:(Value.ref C::G).contains (.type B)=true){f:List Value}{Q:Unit->Shared->Prop}
  (a:s.heap.get? C=some (excClassObj nm q C N bs G hdct sn sub ab col dd k0 k1 k2 k3 k5 newId)) (h:Q () s):wpAny M A (checkBuiltinCall newId { pos:=.ref C::f }) Q E s:=by
 unfold checkBuiltinCall;rw[F.newKind,F.newSplit,F.newRow];refine Wc rfl ?_;refine UZ (zO a ?_);refine Vf rfl ?_;refine UZ (zC a ?_);rw[hB];refine Vf rfl ?_;obtain⟨i,g,d,t,os⟩:=s;refine UZ (wpAny_staticBase_exc a ?_);refine UZ (wpAny_madeBy_exc a ?_);refine Vf (by simp) ?_;have c:∀(b:Bool)(e:Manifest.Signature)(r:Option Value),Bind.printed B b e r=pure B:=fun b e r=>by unfold Bind.printed;rw[F.noStar];rfl
 refine UZ (VT (c _ _ _) ?_);refine UZ (VT (c _ _ _) ?_);exact wpAny_onRaise (U2 h)
theorem Rv {R:Result->Shared->Prop}{B:String}(F:ExcBaseFacts B newId I u)(hB:(Value.ref C::G).contains (.type B)=true)(e:(Value.ref C::G).contains (.type "AttributeError")=false)(f:(Value.ref C::G).contains (.type "NameError")=false){c:List Value}
  (a:s.heap.get? C=some (excClassObj nm q C N bs G hdct sn sub ab col dd k0 k1 k2 k3 k5 newId))
  (h:R (.ok (.ret (.ref (s.heap.objs.size+1)))) { s with heap:=(s.heap.push { cls:=.type "tuple",data:=.seq c.toArray }).push { cls:=.ref C,data:=.fields #[.ref s.heap.objs.size,.none,.none,.none,.bool false,.none] } })
  (i:c.length<=sizeLine):codeAny (model prog w) A (.builtin newId { pos:=.ref C::c }) R s:=by
 refine codeAny_builtinAt F.entry ?_;unfold Builtin.«BaseException.__new__»;refine PySem.wpAt_bind ?_;refine PySem.wpAt_bind (PySem.wpAt_stack fun p below=>?_);refine wpAt_of_wpAny (Wc (Vj F.ends) (U2 ?_));rw[F.owner];refine wpAt_of_wpAny ?_;refine UZ (zO a ?_);refine Vf rfl ?_;refine UZ (zC a ?_);rw[hB];refine Vf rfl ?_;obtain⟨b,g,d,t,os⟩:=s;refine UZ (wpAny_madeHere_exc F.canon a ?_);refine UZ (UZ (W9 a ?_));rw[e];refine Vf rfl (UZ (W9 a ?_));rw[f];refine Vf rfl (U2 ?_);refine UZ (wpAny_newTuple ?_ i);have j:(b.push { cls:=.type "tuple",data:=.seq c.toArray }).get? C=_:=U0 _ a;have k:(#[Value.ref b.objs.size,.none,.none,.none,.bool false,.none]++(List.replicate 0 (rawInt 0)).toArray) = #[Value.ref b.objs.size,.none,.none,.none,.bool false,.none]:=rfl;refine UZ ?_;show wpAny _ _ (newObj (.ref C) (.fields (#[Value.ref b.objs.size,.none,.none,.none,.bool false,.none]++(List.replicate 0 (rawInt 0)).toArray))) _ _ _;rw[k]
 have l:¬ (#[Value.ref b.objs.size,.none,.none,.none,.bool false,.none]:Array Value).size>sizeLine+2:=by show ¬ 6>sizeLine+2;decide
 unfold newObj;simp only [Vi l];refine UZ (wpAny_alloc' ?_);refine UZ (UZ (wpAny_load' (U0 _ j) (U2 ?_)));refine Vf rfl ?_;refine U2 (U2 ?_);show R (.ok (.ret (.ref (b.push { cls:=.type "tuple",data:=.seq c.toArray }).objs.size))) _;rw[Vz];exact h
theorem Tb {x:Sem Value}{Q:Flow->Shared->Prop}(hb:G.contains (Value.type "BaseException")=true)(i:A.handled=none)
  (h:wpAny M A x (fun v a=>∃e b c,v=.ref e/\a.heap.get? C=some (excClassObj nm q C N bs G hdct sn sub ab col dd k0 k1 k2 k3 k5 newId)/\a.heap.get? e=some b/\b.cls=.ref C/\b.data=.fields c/\c[1]?=some .none/\E (.ref e) a) E s):
  wpAny M A (raiseStmt env (some x) none) Q E s:=by
 have d:(Value.ref C::G).contains (Value.type "BaseException")=true:=by rw[Wu,hb,Bool.or_true]
 refine UZ (VE h ?_ fun _ _ z=>z);rintro v a ⟨e,b,c,rfl,f,he,g,hd,h1,z⟩;refine UZ (U2 ?_);refine UZ (Vx ?_);refine UZ (UZ (uA he hd (U2 ?_)));refine UZ (oG f he g ?_);rw[d];refine U2 ?_;refine UZ (uA he hd ?_);refine UZ (UZ (gN he ?_));rw[g];refine UZ (gN f ?_);refine U2 ?_;refine UZ (El he hd h1 ?_);refine UZ (wpAny_handled ?_);rw[i];exact wpAny_throw z
theorem Ta {B j:String}(F:ExcBaseFacts B j I u)(hB:(Value.ref C::G).contains (.type B)=true){e:Addr}{a:Obj}{k:List Value}{Q:Unit->Shared->Prop}
  (c:s.heap.get? C=some (excClassObj nm q C N bs G hdct sn sub ab col dd k0 k1 k2 k3 k5 newId)) (he:s.heap.get? e=some a) (f:a.cls=.ref C) (h:Q () s):wpAny M A (checkBuiltinCall I { pos:=.ref e::k }) Q E s:=by
 unfold checkBuiltinCall;rw[F.initKind,F.initSplit,F.initRow];refine UZ (oG c he f ?_);rw[hB];refine Vf rfl ?_;have l:∀(b:Bool)(i:Manifest.Signature)(r:Option Value),Bind.printed B b i r=pure B:=fun b i r=>by unfold Bind.printed;rw[F.noStar];rfl
 refine UZ ?_;show wpAny M A (Bind.printed "*" true _ (some (.ref e))) _ _ _;refine Vf (by decide) ?_;refine UZ (Vf rfl (gN he ?_));rw[f];obtain⟨m,g,d,t,os⟩:=s;refine UZ (UZ (UZ (wpAny_load' c (U2 (U2 ?_)))));refine U2 ?_;refine UZ (VT (l _ _ _) ?_);refine wpAny_onRaise (VT (check_star_args _ _ _ _ _ _) h)
theorem R9 {R:Result->Shared->Prop}{B f:String}(F:ExcBaseFacts B f I u)(g:I.startsWith "lifetime."=false)(hB:(Value.ref C::G).contains (.type B)=true){e:Addr}{c:Obj}{b:Array Value}{x0:Value}{d:List Value}
  (i:s.heap.get? C=some (excClassObj nm q C N bs G hdct sn sub ab col dd k0 k1 k2 k3 k5 newId)) (he:s.heap.get? e=some c) (j:c.cls=.ref C) (hd:c.data=.fields b) (h0:b[0]?=some x0) (k:d.length<=sizeLine)
  (h:R (.ok (.ret .none)) { s with heap:=(s.heap.push { cls:=.type "tuple",data:=.seq d.toArray }).update e (Obj.mapFields fun a=>a.setIfInBounds 0 (.ref s.heap.objs.size)) }):
  codeAny (model prog w) A (.call (.builtin I) ⟨.ref e::d,[]⟩) R s:=by
 refine codeAny_call_builtin_at (Xg _ g) F.initEntry (Ta F hB i he j ?_)
 have l:0<b.size:=by rcases Wm 0 b.size with z|z;exact z;rw[Wn z] at h0;cases h0
 refine UZ (wpAny_newTuple ?_ k);refine UZ (UZ (VC (U0 _ he) hd h0 ?_));refine UZ (VR (U0 _ he) hd l ?_)
 cases x0 with
 |ref a=>exact wpAny_letGo (U2 h)
 |_=>exact U2 (U2 h)
theorem Ru {e:Addr}{a:Obj}{b v:Value}{Q:Unit->Shared->Prop}(hB:(Value.ref C::G).contains (.type "object")=true)
  (c:s.heap.get? C=some (excClassObj nm q C N bs G hdct sn sub ab col dd k0 k1 k2 k3 k5 newId)) (he:s.heap.get? e=some a) (d:a.cls=.ref C) (h:Q () s):wpAny M A (checkBuiltinCall "object.__setattr__" { pos:=[.ref e,b,v] }) Q E s:=by
 unfold checkBuiltinCall;rw[show builtinKind "object.__setattr__"=some Manifest.AttrKind.slot by exact F.store_ValueError.kind,show splitId "object.__setattr__"=some ("object","__setattr__") by exact F.store_ValueError.split];refine UZ (oG c he d ?_);rw[hB];refine Vf rfl ?_;exact VT (F.store_ValueError.args _ _ _) h
theorem QG {x:Addr}{f:Array Value}{v:Value}{Q:Unit->Shared->Prop}(g:K.In s.heap)(u:K.lookup C=some (excClassObj nm q C N bs G true sn sub ab col dd k0 k1 k2 k3 k5 newId))
  (B:PySem.W.findIn K (.ref C) "__setattr__"=some (some (.builtin "object.__setattr__"))) (D:∀self,refuseLoop self (Str.ofString "__setattr__") (Value.ref C::G)=pure ()) (H:(Value.ref C::G).contains (.type "object")=true) (I:PySem.W.findIn K (.ref C) name=some none)
  (c:s.heap.get? x=some { cls:=.ref C,data:=.fields f })
  (h:∀h',h'.get? x=some { cls:=.ref C,dict:=some s.heap.objs.size,data:=.fields f }->h'.Ns1 s.heap.objs.size (fun y=>if y=name then some v else none)->(∀b o,b≠x->s.heap.get? b=some o->h'.get? b=some o)->Q () { s with heap:=h',toks:=s.toks+2 }):
  wpAny (model prog w) A (setAttr (.ref x) name v) Q E s:=by
 have i:=g _ _ u;have J:PySem.W.InstAt s.heap x { cls:=.ref C,data:=.fields f } C none:=⟨c,rfl,rfl,trivial⟩;have stay:∀b o,s.heap.get? b=some o->s.heap.get? b=some o:=fun _ _ e=>e;refine PySem.W.set_plain g J B ?_;have j : entryFor table "object.__setattr__"=some Builtin.«object.__setattr__» := F.store_ValueError.entry;refine W0 (b := Builtin.«object.__setattr__») F.store_ValueError.slot.plain j ?_;refine Ru H i c rfl ?_;rw[PySem.W.osa_eq,refuse_eq];refine UZ (UZ (gN c ?_));refine UZ (UZ (UZ (wpAny_load i (U2 (U2 (VT (D _) ?_))))));refine UZ (gN c ?_);refine UZ (WB g I _ _ _ _ stay ?_);refine UZ (U2 ?_);refine UZ (U2 ?_);refine Vf rfl ?_;refine UZ (UZ (wpAny_loadPart c ?_));refine UZ (UZ (wpAny_load i (U2 ?_)));refine Vf rfl ?_;refine Vf rfl ?_;refine UZ (wpAny_alloc ?_);have d:=U0 (h:=s.heap) { cls:=Value.type "dict",data:=Data.dict #[] } c;have r:s.heap.objs.size≠x:=fun z=>absurd (Va c) (by rw[<- z];exact VI _);have L:(s.heap.push { cls:=Value.type "dict",data:=Data.dict #[] }).get? s.heap.objs.size=some { cls:=Value.type "dict",data:=Data.dict #[] }:=U8 s.heap rfl;refine UZ (wpAny_update d ?_);refine U2 ?_;have k:((s.heap.push { cls:=Value.type "dict",data:=Data.dict #[] }).update x fun o=>{ cls:=o.cls,dict:=some s.heap.objs.size,data:=o.data,slots:=o.slots }).get? x=some { cls:=.ref C,dict:=some s.heap.objs.size,data:=.fields f }:=Vs _ d rfl;have M:∀b o,b≠x->s.heap.get? b=some o->((s.heap.push { cls:=Value.type "dict",data:=Data.dict #[] }).update x fun o=>{ cls:=o.cls,dict:=some s.heap.objs.size,data:=o.data,slots:=o.slots }).get? b=some o:=fun b o hb e=>(Vv _ _ (Ne.symm hb)).trans (U0 _ e);have O:((s.heap.push { cls:=Value.type "dict",data:=Data.dict #[] }).update x fun o=>{ cls:=o.cls,dict:=some s.heap.objs.size,data:=o.data,slots:=o.slots }).get? s.heap.objs.size=some { cls:=Value.type "dict",data:=Data.dict #[] }:=(Vv _ _ (Ne.symm r)).trans L;have P:=Heap.Ns1.of_empty (a:=s.heap.objs.size) ⟨_,#[],_,O,rfl,(fun e he=>absurd he (by simp)),fun _=>rfl⟩;refine UZ (U2 ?_);refine UZ (wpAny_nsSet1 P fun h' n4 t=>?_);obtain⟨U,R,S,l,m,n⟩:=n4.count (PySem.Within.cons (ns:=[]) name v (fun y T=>absurd rfl T));refine UZ (wpAny_lookBehind l (by rw[m];exact pastItsLine_dict (VL n (by rw[Vw,Vr];decide))) ?_);refine U2 (h h' ?_ n4 fun b o hb e=>?_)
 .rw[t.2 x (Ne.symm r)];exact k
 .have p:b≠s.heap.objs.size:=fun z=>absurd (Va e) (by rw[z];exact VI _);rw[t.2 b p];exact M b o hb e
theorem E8 {e:Addr}{a:Obj}{b:Value}{Q:Unit->Shared->Prop}(hB:(Value.ref C::G).contains (.type "BaseException")=true)
  (c:s.heap.get? C=some (excClassObj nm q C N bs G hdct sn sub ab col dd k0 k1 k2 k3 k5 newId)) (he:s.heap.get? e=some a) (d:a.cls=.ref C) (h:Q () s):wpAny M A (checkBuiltinCall "BaseException.__getattribute__" { pos:=[.ref e,b] }) Q E s:=by
 unfold checkBuiltinCall;rw[show builtinKind "BaseException.__getattribute__"=some Manifest.AttrKind.slot by decide+kernel,show splitId "BaseException.__getattribute__"=some ("BaseException","__getattribute__") by decide+kernel];refine UZ (oG c he d ?_);rw[hB];refine Vf rfl ?_;exact VT (F.args_bexc_ga _ _) h
theorem QD {x:Addr}{ox:Obj}{od:Option Obj}{v:Value}{a:Bool}(c:K.In s.heap)(g:K.lookup C=some (excClassObj nm q C N bs G hdct sn sub ab col dd k0 k1 k2 k3 k5 newId))
  (hB:(Value.ref C::G).contains (.type "BaseException")=true) (J:PySem.W.InstAt s.heap x ox C od) (i:PySem.W.findIn K (.ref C) "__getattribute__"=some (some (.builtin "BaseException.__getattribute__"))) (j:PySem.W.findIn K (.ref C) "__getattr__"=some none)
  (k:PySem.W.findObj K C od name=some (.value v)) (l:PySem.W.handedIn v=true) (h:Q v { s with toks:=s.toks+1 }):wpAny (model prog w) A (getAttr (.ref x) name a) Q E s:=by
 have m:=c _ _ g;obtain⟨d,f,n,_⟩:=id J;have stay:∀b o,s.heap.get? b=some o->s.heap.get? b=some o:=fun _ _ e=>e;refine UZ (wpAny_mkText ?_);refine Vx ?_;refine UZ (gN d ?_);rw[f];refine UZ (WB c i _ _ _ _ stay ?_);refine Vf rfl ?_;refine UZ (Wc rfl (WB c j _ _ _ _ stay ?_));refine UZ (WE (Vx ?_));refine Vf (by cases a <;> rfl) ?_;refine UZ (VT (F.attr_ValueError.ga.bind _) ?_);refine Wj (W0 F.attr_ValueError.ga.plain F.entry_bexc_ga (E8 hB m d f ?_));refine UZ ?_;unfold slotArgs;refine Vf rfl (Vf rfl (U2 ?_));refine UZ (U2 ?_);refine UZ (gN d ?_);rw[f];refine UZ (PySem.W.looks_find c J k _ _ _ _ stay ?_);refine U2 ?_;exact VT (PySem.W.handedOut_of l) h
theorem E7 {R:Result->Shared->Prop}{B:String}(F:ExcBaseFacts B newId I u)(hB:(Value.ref C::G).contains (.type B)=true)(k:(Value.ref C::G).contains (.type "AttributeError")=false)(l:(Value.ref C::G).contains (.type "NameError")=false)
  (j:K.In s.heap) (m:K.lookup C=some (excClassObj nm q C N bs G hdct sn sub ab col dd k0 k1 k2 k3 k5 newId)) (n:PySem.W.findIn K (.ref C) "__init__"=some (some (.ref L))) (p:PySem.W.typeIn K (.ref L)=some (.type "function")) (x:y.length<=sizeLine)
  (h:codeAny (model prog w) (A.under (.builtin "type.__call__" ⟨.ref C::y,[]⟩)) (.call (.ref L) ⟨.ref (s.heap.objs.size+1)::y,[]⟩) (PySem.W.InitBack (s.heap.objs.size+1) R)
   { s with heap:=(s.heap.push { cls:=.type "tuple",data:=.seq y.toArray }).push { cls:=.ref C,data:=.fields #[.ref s.heap.objs.size,.none,.none,.none,.bool false,.none] } }):
  codeAny (model prog w) A (.call (.ref C) ⟨y,[]⟩) R s:=by
 have c:=j _ _ m;refine codeAny_of_tree ?_;refine UZ ?_;obtain⟨a,g,d,t,os⟩:=s;refine wpAny_load' c ?_;refine UZ (UZ (gN c (VT tc_lookup ?_)));refine UZ (VT (tc_bind _) ?_);refine UZ (U2 ?_);refine Wc rfl (U2 ⟨?_,?_⟩)
 .rfl
 refine codeAny_call_builtin_at (Xg _ (by decide+kernel)) entry_typeCall (wpAny_check_type_call_sub c ?_);unfold Builtin.«type.__call__»;refine Vf rfl ?_;refine UZ (UZ (UZ (wpAny_load' c (U2 (U2 ?_)))));refine Vf rfl ?_;refine UZ (wpAny_madeBy_exc c ?_);refine UZ (U2 ?_);refine UZ (Vx (Wj (codeAny_of_tree ?_)));refine UZ (Sa F hB c ?_);refine U2 ⟨Xg _ F.quiet,?_⟩;refine Rv F hB k l c ?_ x;have k1:∀b o,a.get? b=some o->((a.push { cls:=.type "tuple",data:=.seq y.toArray }).push { cls:=.ref C,data:=.fields #[.ref a.objs.size,.none,.none,.none,.bool false,.none] }).get? b=some o:=fun b o e=>U0 _ (U0 _ e);have f:=j.keeps k1
 have he:((a.push { cls:=.type "tuple",data:=.seq y.toArray }).push { cls:=.ref C,data:=.fields #[.ref a.objs.size,.none,.none,.none,.bool false,.none] }).get? (a.objs.size+1)=some { cls:=.ref C,data:=.fields #[.ref a.objs.size,.none,.none,.none,.bool false,.none] }:=by have:=U8 (a.push { cls:=.type "tuple",data:=.seq y.toArray }) (o:={ cls:=.ref C,data:=.fields #[.ref a.objs.size,.none,.none,.none,.bool false,.none] }) rfl;rwa [Vz] at this
 refine UZ (oG (k1 _ _ c) he rfl ?_);refine Vf (by rw[Wu];simp) ?_;refine UZ (Vx (UZ (UZ (gN he ?_))));refine WB f n _ _ _ _ (fun b o e=>e) ?_;refine Vx (UZ (PySem.W.bind_fn f _ p _ _ _ _ (fun b o e=>e) ?_));refine UZ (Wj (V3 h fun r s' i=>?_))
 cases r with
 |error e=>exact i
 |ok fl=>
  cases fl with
  |ret v=>obtain⟨rfl,z⟩:=i;exact U2 (Vf rfl (U2 z))
  |next=>exact i
  |brk=>exact i
  |cont=>exact i
end
structure Nt (fs:List Addr)(e:Addr)(T:Option Addr)(h h':Heap):Prop where
 keep:∀b o,h.get? b=some o->b∉fs->b≠e->some b≠T->h'.get? b=some o
 slot:∀b o,h.get? b=some o->b≠e->some b≠T->∃sl,h'.get? b=some { o with slots:=sl }
structure Ch (S:Addr->Prop)(fs:List Addr)(h h':Heap):Prop where
 keep:∀b o,h.get? b=some o->¬S b->b∉fs->h'.get? b=some o
 slot:∀b o,h.get? b=some o->¬S b->∃sl,h'.get? b=some { o with slots:=sl }
theorem Ch.trans {fs:List Addr}{h:Heap}(a:Ch S fs h h1)(b:Ch S fs h1 B):Ch S fs h B:=⟨fun c o q n f=>b.keep c o (a.keep c o q n f) n f,fun c o q n=>by
  obtain⟨i,e⟩:=a.slot c o q n;obtain⟨d,g⟩:=b.slot c _ e n
  exact⟨d,g⟩⟩
theorem Nt.ch {fs:List Addr}{e:Addr}{T:Option Addr}{h:Heap}(n:Nt fs e T h h')(he:S e)(a:∀t,T=some t->S t):Ch S fs h h':=⟨fun b o q ns c=>n.keep b o q c (fun z=>ns (z▸he)) fun z=>ns (a b z.symm),fun b o q ns=>n.slot b o q (fun z=>ns (z▸he)) fun z=>ns (a b z.symm)⟩
theorem Ch.one {fs:List Addr}{t:Addr}{h:Heap}(k:∀b o,h.get? b=some o->b≠t->h'.get? b=some o)(a:S t):Ch S fs h h':=⟨fun b o q ns _=>k b o q fun z=>ns (z▸a),fun b o q ns=>⟨o.slots,k b o q fun z=>ns (z▸a)⟩⟩
section
variable {fs M:List Addr}{h:Heap}
theorem Ch.un (c:Ch S M h1 B)(u:Un fs [] H H' h h1)(i:∀b,S b->h.get? b=none)(j:∀b o,h.get? b=some o->b∈M->b∈fs):Un fs [] H H' h B:=by
 have ns:∀b o,h.get? b=some o->¬S b:=fun b o q z=>by rw[i b z] at q;cases q
 refine⟨fun b o q n g ne=>c.keep b o (u.keep b o q n g ne) (ns b o q) fun z=>g (j b o q z),fun b o q n f ne=>?_,u.free,fun b o q ne=>?_,u.tups,u.frzs,u.tbls⟩;obtain⟨k,d⟩:=u.slot b o q n f ne;obtain⟨a,e⟩:=c.slot b _ d (ns b o q);exact⟨a,e⟩;obtain⟨o',d⟩:=u.there b o q ne;obtain⟨a,e⟩:=c.slot b _ d (ns b o q);exact⟨_,e⟩
theorem Ch.hok (c:Ch S M h1 B)(x:HOk P w H' h1)(d:∀b,S b->H' b=none)(f:∀b∈M,H' b=none):HOk P w H' B:=fun a o e=>
 (x a o e).stay (fun b u hb q=>c.keep b u q (fun z=>by
  rcases hb with r|r
  .rw[r] at z;rw[d a z] at e;cases e
  .rw[d b z] at r;cases r) fun z=>by
  rcases hb with r|r
  .rw[r] at z;rw[f a z] at e;cases e
  .rw[f b z] at r;cases r) (fun _ q=>q) fun _ _ q=>q
end
theorem ObjOk.get {h:Heap}{o:HO}(x:ObjOk P w H h a o):∃ob,h.get? a=some ob:=by cases o with|lst xs=>(obtain⟨_,_,_,_,e⟩:=x;exact⟨_,e⟩)|tup xs=>(obtain⟨_,_,_,ob,e,_⟩:=x;exact⟨_,e⟩)|dK b=>(obtain⟨_,_,_,_,o,_,_,e,_⟩:=x;exact⟨_,e⟩)|dT b=>(obtain⟨_,_,_,_,o,_,_,e,_⟩:=x;exact⟨_,e⟩)|set S n=>(obtain⟨o,_,_,_,e,_⟩:=x;exact⟨_,e⟩)|ins C c fs=>(obtain⟨_,_,_,e,_⟩:=x;exact⟨_,e⟩)|own y=>(obtain⟨_,e⟩:=x;exact⟨_,e⟩)|xd fs=>(obtain⟨_,⟨_,_,_,e,_⟩,_⟩:=x;exact⟨_,e⟩)|met f d=>exact⟨_,x⟩|rng lo g=>(obtain⟨_,_,_,e⟩:=x;exact⟨_,e⟩)|frz o u=>exact⟨_,x.1⟩|tbl ps=>exact⟨_,x⟩|ext i => exact x.2.1
theorem HOk.unk {h:Heap}(x:HOk P w H h)(n:h.get? a=none):H a=none:=by cases z:H a with|none=>rfl|some o=>obtain⟨ob,e⟩:=(x a o z).get;rw[n] at e;cases e
section
variable {s:Shared}
theorem R8 {M:Model}{A:Around}{E:Value->Shared->Prop}{v:V}{Q:Unit->Shared->Prop}(I:Inv X O R H s)(G:X.N.Nodup)(B:X.N[j]?=some x)(a:X.env.scope.names.lookup x=some .local)(J:R[j]?=some (some v))
  (h:∀s',Inv X O (R.set j none) H s'->Q () s'):wpAny M A (unbindName X.env x) Q E s:=by
 obtain⟨m,D,F⟩:=id I.loc;have K:(X.env.scope.kind == .class||(X.env.scope.kind == .module&&X.env.locals != X.env.globals))=false:=by rw[I.ok.kind];rfl
 have cne:=I.cne;obtain⟨u,ru,L⟩:=F j x v B J (.inl a)
 have P:m x=some u:=by rcases L with ⟨_,q⟩|⟨k,_⟩;exact q;have S:X.env.kindOf x=some .local:=a;rcases k with k|k <;> (rw[S] at k;cases k)
 refine wpAny_unbindName_local a D P K fun h' u' T f=>?_;obtain⟨oL,_,_,U,_⟩:=id D;refine h _ ⟨I.ok,I.os,I.bare,⟨fun b o e n hb a=>?_,fun b o e n hb a=>?_,I.base.free,fun b o e a=>?_,I.base.tups,I.base.frzs,I.base.tbls⟩,⟨_,T,fun i y W g t Y=>?_⟩,fun y c e=>?_,I.free,I.freeC,fun p Z=>?_,fun b ob e=>?_,by simpa using I.len⟩
 .exact(f.2 b (Vh (Ve (Va e) I.ok.above))).trans (I.base.keep b o e n hb a)
 .obtain⟨sl,g⟩:=I.base.slot b o e n hb a;exact⟨sl,(f.2 b (Vh (Ve (Va e) I.ok.above))).trans g⟩
 .obtain⟨o',g⟩:=I.base.there b o e a;exact⟨o',(f.2 b (Vh (Ve (Va e) I.ok.above))).trans g⟩
 .by_cases C:i=j
  .subst C
   have r:i<R.length:=by rw[I.len];exact(U7.mp B).1
   rw[WQ r] at t;cases t
  .rw[List.getElem?_set_ne (Ne.symm C)] at t
   obtain⟨w,r',q⟩:=F i y W g t Y;refine⟨w,r',?_⟩;rcases q with ⟨k,e⟩|⟨k,c,e,z⟩
   .refine .inl ⟨k,?_⟩;have:y≠x:=fun e=>C (zb G g (e▸B));simp [this,e]
   .exact .inr ⟨k,c,e,z.sameBut f (cne y c e)⟩
 .obtain⟨w,z⟩:=I.cell y c e;exact⟨w,z.sameBut f (cne y c e)⟩
 .obtain⟨e,n,ne,nf,d⟩:=I.pin p Z;exact⟨(f.2 p.1 ne).trans e,n,ne,nf,d⟩
 .refine(I.hok b ob e).stay (fun c w l q=>(f.2 c ?_).trans q) (fun _ q=>q) fun _ _ q=>q
  rintro rfl;rcases l with l|l
  .rw[<- l,I.free] at e;cases e
  .rw[I.free] at l;cases l
end
noncomputable def j6 (C a d:Addr):HO:=.ext fun h=>∃b,h.get? a=some { cls:=.ref C,dict:=some d,data:=.fields b }
section
variable {fs:List Addr}{h:Heap}{d T:Addr}
theorem Rt {o:HO}(x:HOk P w H h)(u:Un fs [] H H' h B)(d:h.get? a=none):Un fs [] H (ax H' a o) h B:=by
 have n1:∀b ob,h.get? b=some ob->b≠a:=fun b ob q z=>by rw[z,d] at q;cases q
 have c:∀b ob,H b=some ob->b≠a:=fun b ob q z=>by obtain⟨u,e⟩:=(x b ob q).get;exact n1 b u e z
 refine⟨u.keep,u.slot,fun b ob q n ne=>?_,u.there,fun b xs q=>?_,fun b ob v q=>?_,fun b ps q=>?_⟩;rw[aD (n1 b ob q)];exact u.free b ob q n ne;rw[aD (c b _ q)];exact u.tups b xs q;rw[aD (c b _ q)];exact u.frzs b ob v q;rw[aD (c b _ q)];exact u.tbls b ps q
theorem RZ (x:HOk P w H' B)(g:H' a=none)(F:∃f,B.get? a=some { cls:=.ref C,dict:=some d,data:=.fields f }):HOk P w (ax H' a (j6 C a d)) B:=fun b o e=>by by_cases hb:b=a;subst hb;rw[aY] at e;cases e;exact⟨F,⟨_,F.choose_spec⟩,fun g1 g2 y k=>by obtain⟨f,q⟩:=y;exact ⟨f,k _ q⟩⟩;rw[aD hb] at e;refine(x b o e).stay (fun _ _ _ q=>q) (fun c q=>?_) fun c xs q=>?_;rw[aD (fun z=>by rw[z,g] at q;cases q)];exact q;rw[aD (fun z=>by rw[z,g] at q;cases q)];exact q
end
section
variable {s:Shared}
theorem DK {A:Around}{E:Value->Shared->Prop}{v:V}(I:Inv X O R H s)(f:X.N[i]?=some x)(g:oN X.env.scope x)(e:R[i]?=some (some v))(h:∀u,RelV v u->Q u s)
  (hd:(x==("__debug__":Str))=false) (j:(x==("__classdict__":Str))=false):wpAny (model X.prog X.w) A (eval (.Name x pos) X.env) Q E s:=by
 obtain⟨m,k,n⟩:=I.loc;obtain⟨u,r,l⟩:=n i x v f e g;rcases l with ⟨b,o⟩|⟨b,c,d,a⟩
 .exact wpAny_Name (wpAny_loadName_local I.ok.kind b k o (h u r)) hd
 .rcases b with b|b
  .exact wpAny_Name (wpAny_loadName_cell I.ok.kind b d a (h u r)) hd
  .exact wpAny_Name (wpAny_loadName_free I.ok.kind b d a (h u r) j) hd
end
noncomputable def gJ (C e:Addr):HO:=.ext fun h=>∃t,h.get? e=some { cls:=.ref C,data:=.fields #[.ref t,.none,.none,.none,.bool false,.none] }
structure iK (K:W.Frag)(C L:Addr):Prop where
 lk:∃nm q N bs G sn sub ab col dd k0 k1 k2 k3 k5,K.lookup C=some (excClassObj nm q C N bs G true sn sub ab col dd k0 k1 k2 k3 k5 "ValueError.__new__")/\(Value.ref C::G).contains (.type "ValueError")=true/\G.contains (.type "BaseException")=true ∧(Value.ref C::G).contains (.type "AttributeError")=false/\(Value.ref C::G).contains (.type "NameError")=false/\(∀self,refuseLoop self (Str.ofString "__setattr__") (Value.ref C::G)=pure ())/\(Value.ref C::G).contains (.type "object")=true
 ini:PySem.W.findIn K (.ref C) "__init__"=some (some (.ref L))
 fn:PySem.W.typeIn K (.ref L)=some (.type "function")
 sa:PySem.W.findIn K (.ref C) "__setattr__"=some (some (.builtin "object.__setattr__"))
 ga:PySem.W.findIn K (.ref C) "__getattribute__"=some (some (.builtin "BaseException.__getattribute__"))
 gn:PySem.W.findIn K (.ref C) "__getattr__"=some none
 hd:PySem.W.hasDictIn K C=true
 kp:PySem.W.keepIn K (.ref C)=true
section
variable {e:Addr}
theorem S9 (c:iK X.K C L):c8 X (.builtin "ValueError.__init__") (fun xs H Q=>∃e v,xs=[.ref e,v]/\H e=some (gJ C e)/\Q .non H):=by
 intro O s R H xs y Q I r h;obtain⟨e,v,rfl,f,z⟩:=h;obtain⟨u,d,rfl,j,w⟩:=sV r;cases j;obtain⟨nm,q,N,bs,G,sn,sub,ab,col,dd,k0,k1,k2,k3,k5,l,hB,m,_,_,_,_⟩:=c.lk;obtain⟨⟨t,he⟩,_,_⟩:=I.hok e _ f;refine Wj (R9 F.excBase_ValueError (by decide+kernel) hB (I.kIn _ _ l) he rfl rfl rfl (by show 1<=sizeLine;rw[Vr];decide) ?_);refine⟨.non,H,?_,rfl,z⟩;have g:=U0 (h:=s.heap) { cls:=.type "tuple",data:=.seq [d].toArray } he;have n:Inv X O R H { s with heap:=s.heap.push { cls:=.type "tuple",data:=.seq [d].toArray } }:=I.kept (t':=s.toks) fun b o q=>U0 _ q;have i:((s.heap.push { cls:=.type "tuple",data:=.seq [d].toArray }).update e (Obj.mapFields fun a=>a.setIfInBounds 0 (.ref s.heap.objs.size))).get? e=some { cls:=.ref C,data:=.fields #[.ref s.heap.objs.size,.none,.none,.none,.bool false,.none] }:=Vs _ g rfl;have p:ax H e (gJ C e)=H:=by
  funext b
  unfold ax;split
  .next z=>rw[z,f]
  rfl
 have J:=n.write (t':=s.toks) (x:=e) (e:=e) (o:=gJ C e) (h':=(s.heap.push { cls:=.type "tuple",data:=.seq [d].toArray }).update e (Obj.mapFields fun a=>a.setIfInBounds 0 (.ref s.heap.objs.size))) (by rw[f];exact True.intro) (.inl rfl)
  (fun b o hb q=>(Vv _ _ (Ne.symm hb)).trans q) ⟨_,i⟩ ⟨⟨_,i⟩,⟨_,i⟩,fun g1 g2 Z k=>by obtain⟨t,q⟩:=Z;exact ⟨t,k _ q⟩⟩
 rw[p] at J;exact J
end
section
theorem Rq {m:Str}{t:TA}{r:List V->Hp->VK->Prop}{pl:Sem Bool}(c:c8 X (.builtin id) r)(d:Gl X x)(g:X.mg x=none)(i:bootBuiltins x=some (.type T))(j:typeOf (.type T)=pure (.type "type"))(k:Manifest.isStub T=false)
  (l:PySem.W.findCls X.K (.type T) (.type "type") m=some (.val (.builtin id))) (n:PySem.W.handedIn (.builtin id)=true) (o:PA X (e::es) t) (q:x≠"__name__":=by decide) (u:(x==("__debug__":Str))=false:=by decide)
  (he:starEach (e::es) X.env=(false,eval e X.env)::starEach es X.env:=by rfl) (a:(backTo pos (starEach es X.env)).any (·.1)=false:=by rfl)
  (v:eval (.Call (.Attribute (.Name x p) m J) (e::es) [] pos) X.env=(do
   let b ← eval (.Name x p) X.env
   standAt J.atName
   let (f,first) ← holding [b] (getMethod b m pl)
   callWith pos f first (backTo pos (starEach (e::es) X.env)) (backToKw pos (keywordEach [] X.env))):=by rfl):
  PE X (.Call (.Attribute (.Name x p) m J) (e::es) [] pos) (rP r t):=by
 intro O s R H Q I h;refine PySem.W.methodCall_KW (pl:=pl) (mI I d g i ?_ q u) v;obtain⟨G,w⟩:=I.fr;refine PySem.W.method_type w I.mod.kin j k l n ?_;have z:=I.tok (s.toks+1);exact PyProof.Rows.callWith_builtin1 (az (o pos O _ R H _ z h) fun y A Z=>by obtain⟨B,C,D,E,F⟩:=Z;exact c O A R C B y Q D E F) he a
theorem QC {f:Str}(c:iK X.K C L)(l:PySem.W.findIn X.K (.ref C) f=some none)(he:PE X e r)(hb:attributeBase e f X.env (eval e X.env)=eval e X.env):PE X (.Attribute e f pos) (fun R H Q=>r R H fun x b=>∃a d fs v,x=.ref a/\b a=some (j6 C a d)/\b d=some (.xd fs)/\fs.lookup f=some v/\Q v b):=by intro O s R H Q I h;refine QP hb (az (he O s R H _ I h) fun u m Z=>?_);obtain⟨x,b,g,n,a,d,fs,v,ex,p,t,w,z⟩:=Z;subst ex;obtain rfl:u=Value.ref a:=n;obtain⟨nm,q,N,bs,G,sn,sub,ab,col,dd,k0,k1,k2,k3,k5,y,hB,i,_,_,_,_⟩:=c.lk;obtain⟨⟨A,B⟩,_,_⟩:=g.hok a _ p;obtain⟨D,n1,E⟩:=g.hok d _ t;obtain⟨od,j,look⟩:=tM n1;obtain⟨u,F,k⟩:=RelO.some_of (v:=v) (o:=D f) (by rw[<- w];exact E f);have J:PySem.W.InstAt m.heap a { cls:=.ref C,dict:=some d,data:=.fields A } C (some od):=⟨B,rfl,rfl,j⟩;exact QD g.kIn y (by rw[Wu,i,Bool.or_true]) J c.ga c.gn (PySem.W.findObj_own c.hd l rfl (by rw[look,F])) (Sq k) ⟨v,b,g.tok _,k,z⟩
end
noncomputable def fF (a:Addr)(H:Hp):Hp:=fun b=>if b=a then none else H b
section
variable {s:Shared}{d:Addr}
theorem Inv.untrack {d:Heap->Prop}(I:Inv X O R H s)(g:H a=some (.ext d)):Inv X O R (fF a H) s:=by
 have ne:∀b o,H b=some o->(∀ d,o ≠ .ext d)->fF a H b=some o:=fun b o q hb=>by unfold fF;rw[Vi (fun z=>by rw[z,g] at q;cases q;exact hb _ rfl)];exact q
 have f:∀b,H b=none->fF a H b=none:=fun b q=>by unfold fF;split;rfl;exact q
 refine⟨I.ok,I.os,I.bare,⟨I.base.keep,I.base.slot,fun b o q n x=>f b (I.base.free b o q n x),I.base.there,fun b xs q=>ne b _ (I.base.tups b xs q) (by intro d z;cases z),fun b o u q=>ne b _ (I.base.frzs b o u q) (by intro d z;cases z),fun b ps q=>?_⟩,I.loc,I.cell,f _ I.free,fun x c e=>f c (I.freeC x c e),fun p h=>?_,fun b o q=>?_,I.len⟩;obtain⟨more,e⟩:=I.base.tbls b ps q;exact⟨more,ne b _ e (by intro d z;cases z)⟩;obtain⟨e,n,r⟩:=I.pin p h;exact⟨e,f _ n,r⟩;have i:H b=some o:=by unfold fF at q;split at q;cases q;exact q
 exact(I.hok b o i).stay (fun _ _ _ e=>e) (fun c e=>ne c _ e (by intro d z;cases z)) fun c xs e=>ne c _ e (by intro d z;cases z)
end
end
section
open PySem.Builtin PySem.AutoSeq1
structure lh (h:Heap)(z TI TO i1 i2 l t:Addr)(i:Nat)(f0:Value):Prop where
 z:IsZip h z TI TO f0
 ti:IsPair h TI (.ref i1) (.ref i2)
 to:∃a b,IsPair h TO a b
 g1:h.IsListIter i1 l i
 g2:h.IsTupleIter i2 t i
variable {P prog:Program}{w:World}{i:Nat}{Q:Value->Shared->Prop}{pos:Pos}{j:Array Value}{K:W.Frag}{r:List Expr}{z B C:Addr}
section
variable {A:Around}{E:Value->Shared->Prop}{s:Shared}
theorem RY {TI TO l t:Addr}{xs:Array Value}{x y:Value}(D:ZipApart z TI TO B C l t)(Z:lh s.heap z TI TO B C l t i .none)(q:s.heap.IsList l xs)(r:s.heap.IsTuple t j)
  (I:xs[i]?=some x) (J:j[i]?=some y)
  (K:∀h',lh h' z TI TO B C l t (i+1) (rawInt s.heap.objs.size)->IsPair h' s.heap.objs.size x y->(∀c o,c≠z->c≠TO->c≠B->c≠C->s.heap.get? c=some o->h'.get? c=some o)->Q (.ref s.heap.objs.size) { s with heap:=h' }):
  wpAny (model prog w) A (Builtin.«zip.__next__» ⟨[.ref z], []⟩) (fun L s' => ∃ v, L=.done (.ret v) /\ Q v s') E s := by
 obtain⟨g,m,⟨a,b,f⟩,h1,n⟩:=Z;show wpAny _ _ (field (.ref z) 2 >>= _) _ _ _;refine UZ (VC g rfl (x:=.bool false) rfl ?_);show wpAny _ _ (field (.ref z) 3 >>= _) _ _ _;refine UZ (VC g rfl (x:=.ref TI) rfl ?_);refine UZ (Wv m rfl ?_);show wpAny _ _ (Builtin.SmallTypes.ownedTupleIsFree (.ref z) >>= _) _ _ _;refine UZ ?_;unfold Builtin.SmallTypes.ownedTupleIsFree;refine UZ (VC g rfl (x:=.none) rfl (U2 ?_));simp only [if_true];refine UZ (wpAny_rule ?_);refine UZ (VC g rfl (x:=.ref TO) rfl ?_);refine UZ (Xd g (by simp) fun h₁ g₁ d₁=>?_);replace g₁:nR h₁ z TI TO .ellipsis (.bool false):=g₁;refine UZ ?_;simp only [List.zipIdx_cons,List.zipIdx_nil,forIn_cons,List.forIn_nil];refine UZ (UZ (wpAny_onRaise ?_));show wpAny _ _ (Builtin.SmallTypes.nextOf (.ref B) >>= _) _ _ _;refine UZ (wpAny_nextOf_list_item (h1.extBut d₁.extBut D.i1z) (q.extBut d₁.extBut D.l1z) I fun h₂ h1₂ d₂=>U2 ?_);have f₂:IsPair h₂ TO a b:=d₂.extBut _ _ D.TOi1 (d₁.extBut _ _ D.TOz f);refine UZ (Wv f₂ rfl ?_);refine UZ (wpAny_updateSeq_pair f₂ fun h₃ f₃ d₃=>?_);replace f₃:IsPair h₃ TO x b:=f₃;refine UZ (wpAny_letGo (U2 ?_));refine UZ (UZ (wpAny_onRaise ?_));show wpAny _ _ (Builtin.SmallTypes.nextOf (.ref C) >>= _) _ _ _
 refine UZ (Fx (((n.extBut d₁.extBut D.i2z).extBut d₂.extBut D.i12.symm).extBut d₃.extBut D.TOi2.symm)
  (yC (yC (yC r d₁.extBut D.l2z) d₂.extBut D.l2i1) d₃.extBut D.l2TO) J fun h₄ n₄ d₄=>U2 ?_)
 have f₄:IsPair h₄ TO x b:=d₄.extBut _ _ D.TOi2 f₃;refine UZ (Wv f₄ rfl ?_);refine UZ (wpAny_updateSeq_pair f₄ fun h₅ f₅ d₅=>?_);replace f₅:IsPair h₅ TO x y:=f₅;refine UZ (wpAny_letGo (U2 (U2 ?_)));refine UZ (Wv f₅ rfl ?_);refine UZ (wpAny_newTuple ?_);have hsz:h₅.objs.size=s.heap.objs.size:=by rw[d₅.1,d₄.1,d₃.1,d₂.1,d₁.1]
 have g₅:nR h₅ z TI TO .ellipsis (.bool false):=d₅.extBut _ _ D.TOz.symm (d₄.extBut _ _ D.i2z.symm (d₃.extBut _ _ D.TOz.symm (d₂.extBut _ _ D.i1z.symm g₁)))
 have M₅:∀c o,c≠z->c≠TO->c≠B->c≠C->s.heap.get? c=some o->h₅.get? c=some o:=fun c o k p u F e=>
  d₅.extBut _ _ p (d₄.extBut _ _ F (d₃.extBut _ _ p (d₂.extBut _ _ u (d₁.extBut _ _ k e))))
 have h1₅:h₅.IsListIter B l (i+1):=((h1₂.extBut d₃.extBut D.TOi1.symm).extBut d₄.extBut D.i12).extBut d₅.extBut D.TOi1.symm;have n₅:h₅.IsTupleIter C t (i+1):=n₄.extBut d₅.extBut D.TOi2.symm;have G:z<h₅.objs.size:=Va g₅;show wpAny _ _ (Builtin.SmallTypes.ownedTupleHandOut (.ref z) (.ref h₅.objs.size) >>= _) _ _ _;refine UZ ?_;unfold Builtin.SmallTypes.ownedTupleHandOut;have g₆:nR (h₅.push { cls:=.type "tuple",data:=.seq #[x,y] }) z TI TO .ellipsis (.bool false):=U0 _ g₅;refine UZ (Xd g₆ (by simp) fun h₇ g₇ d₇=>?_);replace g₇:nR h₇ z TI TO (rawInt h₅.objs.size) (.bool false):=g₇;refine Xd g₇ (by simp) fun h₈ g₈ d₈=>?_;replace g₈:IsZip h₈ z TI TO (rawInt h₅.objs.size):=g₈;have up:∀c o,c≠z->h₅.get? c=some o->h₈.get? c=some o:=fun c o k e=>d₈.extBut _ _ k (d₇.extBut _ _ k (U0 _ e));have H₈:IsPair h₈ h₅.objs.size x y:=d₈.extBut _ _ (Wb G) (d₇.extBut _ _ (Wb G) (U8 _ rfl));have al:∀c o,c≠z->c≠TO->c≠B->c≠C->s.heap.get? c=some o->h₈.get? c=some o:=fun c o k p u F e=>up c o k (M₅ c o k p u F e);rw[hsz] at g₈ H₈ ⊢;exact U2 ⟨_,rfl,K h₈ ⟨g₈,al _ _ D.TIz D.TITO D.TIi1 D.TIi2 m,⟨_,_,up _ _ D.TOz f₅⟩,h1₅.at fun o e=>up _ o D.i1z e,n₅.at fun o e=>up _ o D.i2z e⟩ H₈ al⟩
theorem RX {TI TO l t:Addr}{xs:Array Value}{Q:Fin->Shared->Prop}(p:A.handled=none)(D:ZipApart z TI TO B C l t)(Z:lh s.heap z TI TO B C l t i .none)(j:s.heap.IsList l xs)(q:xs[i]?=none)
  (r:∀h' e,(∀c o,c≠z->c≠TO->c≠B->c≠C->s.heap.get? c=some o->h'.get? c=some o)->(∃o,h'.get? e=some o/\o.cls=.type "StopIteration")->E (.ref e) { s with heap:=h' }):
  wpAny (model prog w) A (Builtin.«zip.__next__» ⟨[.ref z], []⟩) Q E s := by
 obtain⟨d,k,⟨a,b,u⟩,h1,G⟩:=Z;show wpAny _ _ (field (.ref z) 2 >>= _) _ _ _;refine UZ (VC d rfl (x:=.bool false) rfl ?_);show wpAny _ _ (field (.ref z) 3 >>= _) _ _ _;refine UZ (VC d rfl (x:=.ref TI) rfl ?_);refine UZ (Wv k rfl ?_);show wpAny _ _ (Builtin.SmallTypes.ownedTupleIsFree (.ref z) >>= _) _ _ _;refine UZ ?_;unfold Builtin.SmallTypes.ownedTupleIsFree;refine UZ (VC d rfl (x:=.none) rfl (U2 ?_));simp only [if_true];refine UZ (wpAny_rule ?_);refine UZ (VC d rfl (x:=.ref TO) rfl ?_);refine UZ (Xd d (by simp) fun h₁ d₁ f₁=>?_);replace d₁:nR h₁ z TI TO .ellipsis (.bool false):=d₁;refine UZ ?_;simp only [List.zipIdx_cons,List.zipIdx_nil,forIn_cons,List.forIn_nil];refine UZ (UZ (wpAny_onRaise ?_));show wpAny _ _ (Builtin.SmallTypes.nextOf (.ref B) >>= _) _ _ _;refine UZ (wpAny_nextOf_list_end p (h1.extBut f₁.extBut D.i1z) (j.extBut f₁.extBut D.l1z) q fun h₂ e f₂ he=>?_);obtain⟨v,g,m⟩:=he;have d₂:nR h₂ z TI TO .ellipsis (.bool false):=f₂ _ _ D.i1z.symm d₁;have y:e≠z:=fun x=>by subst x;rw[d₂] at g;cases g;simp at m
 refine Xd d₂ (by simp) fun h₃ _ f₃=>r h₃ e (fun c o n _ F _ x=>f₃.extBut _ _ n (f₂ _ _ F (f₁.extBut _ _ n x))) ⟨v,f₃.extBut _ _ y g,m⟩
theorem RW {TI TO l t:Addr}{xs:Array Value}{x y:Value}{Q:Option Value->Shared->Prop}(D:ZipApart z TI TO B C l t)(Z:lh s.heap z TI TO B C l t i .none)(a:s.heap.IsList l xs)(b:s.heap.IsTuple t j)
  (e:xs[i]?=some x) (f:j[i]?=some y)
  (g:∀h',lh h' z TI TO B C l t (i+1) (rawInt s.heap.objs.size)->IsPair h' s.heap.objs.size x y->(∀c o,c≠z->c≠TO->c≠B->c≠C->s.heap.get? c=some o->h'.get? c=some o)->Q (some (.ref s.heap.objs.size)) { s with heap:=h' }):
  wpAny (model prog w) A (pyNext (.ref z)) Q E s:=by
 have d:s.TypeIs (.ref z) "zip":=⟨_,Z.z,rfl⟩;unfold pyNext
 exact UZ (WE (VH (name:=Str.ofString "__next__") d F.slot_zip_next
  (VJ F.slot_zip_next d F.entry_zip_next
   (RY D Z a b e f fun h' h k m=>U2 (g h' h k m)) (F.args_zip_next_1 _))))
theorem S8 {TI TO l t:Addr}{xs:Array Value}{Q:Option Value->Shared->Prop}(f:A.handled=none)(D:ZipApart z TI TO B C l t)(Z:lh s.heap z TI TO B C l t i .none)(a:s.heap.IsList l xs)(g:xs[i]?=none)
  (h:∀h',(∀c o,c≠z->c≠TO->c≠B->c≠C->s.heap.get? c=some o->h'.get? c=some o)->Q none { s with heap:=h' }):wpAny (model prog w) A (pyNext (.ref z)) Q E s:=by
 have d:s.TypeIs (.ref z) "zip":=⟨_,Z.z,rfl⟩;unfold pyNext
 refine UZ (WE (VH (name:=Str.ofString "__next__") d F.slot_zip_next
  (VJ F.slot_zip_next d F.entry_zip_next (RX f D Z a g fun h' e j he=>?_) (F.args_zip_next_1 _))))
 obtain⟨o,k,m⟩:=he;refine UZ (wpAny_isInstance (T:="StopIteration") (b:=true) ⟨o,k,m⟩ isSubtype_stop ?_);exact U2 (h _ j)
end
noncomputable abbrev rL (h:Heap)(l1:Addr):Heap:=h.push { cls:=.type "list_iterator",data:=.fields #[.ref l1,.int 0 0] }
abbrev rK (h:Heap)(l1 a:Addr):Heap:=(rL h l1).push { cls:=.type "tuple_iterator",data:=.fields #[.ref a,.int 0 0] }
abbrev rJ (h:Heap)(l1 a:Addr):Heap:=(rK h l1 a).push { cls:=.type "tuple",data:=.seq #[.ref h.objs.size,.ref (rL h l1).objs.size] }
abbrev rH (h:Heap)(l1 a:Addr):Heap:=(rJ h l1 a).push { cls:=.type "tuple",data:=.seq #[.none,.none] }
abbrev lJ (h:Heap)(l1 a:Addr):Heap:=(rH h l1 a).push { cls:=.type "zip",data:=.fields #[.none,.bool false,.bool false,.ref (rK h l1 a).objs.size,.ref (rJ h l1 a).objs.size] }
theorem Ro (l1 a:Addr)(xs j:Array Value):Meets (Builtin.«zip.__new__» ⟨[.type "zip", .ref l1, .ref a], []⟩) (fun _ R s => s.heap.IsList l1 xs /\ s.heap.IsTuple a j ∧R (.ok (.ret (.ref (rH s.heap l1 a).objs.size))) { s with heap:=lJ s.heap l1 a }):=.of_wp fun prog w A R s h=>by
 obtain⟨e,g,d,tk,os⟩:=s;obtain⟨b,c,h⟩:=h;have f:=sub_zip;have i:Heap.IsList (Shared.heap ⟨e,g,d,tk,os⟩) l1 xs:=b;have k:Heap.IsTuple (Shared.heap ⟨e.push { cls:=.type "list_iterator",data:=.fields #[.ref l1,.int 0 0] },g,d,tk,os⟩) a j:=QI c _;wp_walk using wpAny_pyIter_list i,WN k
 exact⟨_,rfl,h⟩
section
variable {A:Around}{E:Value->Shared->Prop}{s:Shared}
theorem RV {l1 a:Addr}{xs:Array Value}(b:s.heap.IsList l1 xs)(d:s.heap.IsTuple a j)
  (h:∀h',lh h' (s.heap.objs.size+4) (s.heap.objs.size+2) (s.heap.objs.size+3) s.heap.objs.size (s.heap.objs.size+1) l1 a 0 .none->ZipApart (s.heap.objs.size+4) (s.heap.objs.size+2) (s.heap.objs.size+3) s.heap.objs.size (s.heap.objs.size+1) l1 a →(∀c o,s.heap.get? c=some o->h'.get? c=some o)->Q (.ref (s.heap.objs.size+4)) { s with heap:=h' }):
  wpAny (model prog w) A (call (.type "zip") [.ref l1,.ref a]) Q E s:=by
 refine callType_new F.called_zip (by decide) (F.typeCall_zip_2 _ _) (F.newCall_zip_2 _ _) (fun obj=>F.args_object_init_3 obj _ _) F.entry_zip_new
  (Ro l1 a xs j) ⟨b,d,?_⟩
 have f:(rL s.heap l1).objs.size=s.heap.objs.size+1:=Vz ..;have g:(rK s.heap l1 a).objs.size=s.heap.objs.size+2:=by rw[Vz,f]
 have i:(rJ s.heap l1 a).objs.size=s.heap.objs.size+3:=by rw[Vz,g]
 have l:(rH s.heap l1 a).objs.size=s.heap.objs.size+4:=by rw[Vz,i]
 have k:(lJ s.heap l1 a).get? (rH s.heap l1 a).objs.size=some _:=U8 _ rfl;have m:(lJ s.heap l1 a).get? (rJ s.heap l1 a).objs.size=some _:=U0 _ (U8 _ rfl);have n:(lJ s.heap l1 a).get? (rK s.heap l1 a).objs.size=some _:=U0 _ (U0 _ (U8 _ rfl));have g2:(lJ s.heap l1 a).get? (rL s.heap l1).objs.size=some _:=U0 _ (U0 _ (U0 _ (U8 _ rfl)));have g1:(lJ s.heap l1 a).get? s.heap.objs.size=some _:=U0 _ (U0 _ (U0 _ (U0 _ (U8 _ rfl))));show _/\_;rw[g,i,l] at k;rw[f,g] at n;rw[i] at m;rw[f] at g2;rw[l]
 have kp:∀c o,s.heap.get? c=some o->(lJ s.heap l1 a).get? c=some o:=fun c o x=>
  U0 _ (U0 _ (U0 _ (U0 _ (U0 _ x))))
 have p:l1<s.heap.objs.size:=let ⟨_,e,_⟩:=b;Va e
 have q:a<s.heap.objs.size:=let ⟨_,e,_⟩:=d;Va e
 exact⟨⟨_,k,rfl⟩,h _ ⟨k,n,⟨_,_,m⟩,⟨_,g1,rfl,rfl⟩,⟨_,g2,rfl,rfl⟩⟩ (zipApart_new p q) kp⟩
end
def Jf (K:W.Frag)(a b:Addr):It:=⟨fun i H=>∃xs j x y,SqL K H a xs/\SqT K H b j/\xs[i]?=some x/\j[i]?=some y,fun i H v H'=>∃T x y,v=.ref T/\H T=none/\(∀xs,SqL K H a xs->xs[i]?=some x)/\(∀j,SqT K H b j->j[i]?=some y)/\H'=ax H T (.tup [x,y]),fun i H=>∃xs,SqL K H a xs/\xs.length=i⟩
theorem RU {k:Nat}(a b z TI TO B C:Addr)(D:ZipApart z TI TO B C a b):dy P w K (.Tuple r k pos) (Jf K a b) [z,TI,TO,B,C] z (fun i h=>lh h z TI TO B C a b i .none) where
 mem:=by simp
 obj:=fun i h st c hc=>by obtain⟨hz,hTI,⟨p,q,hTO⟩,⟨o1,e1,_,d1⟩,⟨o2,e2,_,d2⟩⟩:=st;simp only [Vg,Vp,VN] at hc;rcases hc with rfl|rfl|rfl|rfl|rfl;exact⟨_,hz,fun v z=>by cases z⟩;exact⟨_,hTI,fun v z=>by cases z⟩;exact⟨_,hTO,fun v z=>by cases z⟩;exact⟨_,e1,fun v z=>by rw[d1] at z;cases z⟩;exact⟨_,e2,fun v z=>by rw[d2] at z;cases z⟩
 keep:=fun i h h' st k=>by obtain⟨hz,hTI,⟨p,q,hTO⟩,g1,g2⟩:=st;exact⟨k z (by simp) _ hz,k TI (by simp) _ hTI,⟨p,q,k TO (by simp) _ hTO⟩,g1.at fun o e=>k B (by simp) o e,g2.at fun o e=>k C (by simp) o e⟩
 item:=by
  intro X hP hw hK hc i ae s σ H E I hf st hg;subst hP hw hK;obtain⟨xs,j,x,y,hq,hq2,hx,hy⟩:=hg;obtain⟨af,rv,p,hz⟩:=I.list hq;obtain⟨u,hu,ru⟩:=rv.get hx;obtain⟨its2,rv2,p2,hz2⟩:=I.tuple hq2;obtain⟨u2,hu2,ru2⟩:=rv2.get hy;have JF:s.heap.IsTuple b its2.toArray:=p2;refine RW D st p.isList JF (x:=u) (y:=u2) (by simpa using hu) (by simpa using hu2) fun h' Z' hT hk=>?_;refine⟨_,rfl,wpAny_letOwnedTupleGo_zip Z'.z fun BE wU g9=>?_⟩;have cY:H s.heap.objs.size=none:=I.hok.fresh (U5 _);have lt:∀{c o},s.heap.get? c=some o->s.heap.objs.size≠c:=fun e=>Wb (Va e);have nz:s.heap.objs.size≠z:=lt st.z;obtain⟨ta,tb,hTO⟩:=st.to;obtain⟨hz3,hTI3,⟨pa,pb,hTO3⟩,g13,g23⟩:=Z';refine⟨.ref s.heap.objs.size,_,I.turnedLaid (a:=s.heap.objs.size) (o:=.tup [x,y]) (ch:=[z,TI,TO,B,C]) (fun c o hc' q=>?_) hf (U5 _) ?_,rfl,⟨s.heap.objs.size,x,y,rfl,cY,fun zs wR=>by rw[I.list_inj wR hq];exact hx,fun zs wR=>by rw[I.tuple_inj wR hq2];exact hy,rfl⟩,?_,fun c hc'=>?_⟩;simp only [Vg,Vp,VN,not_or] at hc';exact g9.extBut _ _ hc'.1 (hk c o hc'.1 hc'.2.2.1 hc'.2.2.2.1 hc'.2.2.2.2 q);refine⟨by show 2<=sizeLine;decide,[u,u2],.cons ru (.cons ru2 .nil),?_⟩;exact⟨_,g9.extBut _ _ nz hT,rfl,_,rfl,rfl⟩;exact⟨wU,g9.extBut _ _ D.TIz hTI3,⟨pa,pb,g9.extBut _ _ D.TOz hTO3⟩,g13.extBut g9.extBut D.i1z,g23.extBut g9.extBut D.i2z⟩;have a5:c≠s.heap.objs.size:=by simp only [Vg,Vp,VN] at hc';rcases hc' with rfl|rfl|rfl|rfl|rfl;exact(lt st.z).symm;exact(lt st.ti).symm;exact(lt hTO).symm;obtain⟨o,e,_⟩:=st.g1;exact(lt e).symm;obtain⟨o,e,_⟩:=st.g2;exact(lt e).symm
  rw[aD a5];exact(hf c hc').1
 done:=by intro X hP hw hK hc i ae s σ H E I hf st hg;subst hP hw hK;obtain⟨xs,hq,hx⟩:=hg;obtain⟨af,rv,p,hz⟩:=I.list hq;have hl:=rv.length;refine S8 (I.ok.hd hc) D st p.isList (by rw[Wn];rw[Vd];lia) fun h' hk=>⟨rfl,I.turnedL (t':=s.toks) (ch:=[z,TI,TO,B,C]) (fun c o hc' q=>?_) hf⟩;simp only [Vg,Vp,VN,not_or] at hc';exact hk c o hc'.1 hc'.2.2.1 hc'.2.2.2.1 hc'.2.2.2.2 q
 self:=by intro A i s Q E st h;exact wpAny_pyIter_zip st.z h
end
section
variable {x u q:Str}{H H' G I:Hp}{a C B L:Addr}{P prog:Program}{w:World}{J O:Type}{e S:Expr}{X:Cx}{U Y:St}{i j:Nat}{pos p:Pos}{y:V}{K:W.Frag}{st:Stmt}{es a6:List Expr}{Z:List V}{r r':R2}{env:Env}{mg:Str->Option Value}{base:Heap}{R:FuncData}{ps N' sn:List Str}{bm sub:List Value}{hdct ab:Bool}{col:Option Bool}{dd:Option Addr}{k0 k1 k2 k3 k5:Option Value}{newId:String}{cQ as:List Addr}{ak:List Nat}
section
def C3 (K:W.Frag)(d:TA):TI:=fun U H R=>d U H fun Z c=>∃a b,Z=[.ref a,.ref b]/\(∃xs,SqL K c a xs)/\(∃e,SqT K c b e)/\R (Jf K a b) c
theorem Py {a b:Expr}{k:TA}{o:Pos}{kn:Nat}(q:Gl X "zip")(t:X.mg "zip"=none)(u:PA X [a,b] k)(he:starEach [a,b] X.env=(false,eval a X.env)::starEach [b] X.env:=by rfl)
  (e:(backTo pos (starEach [b] X.env)).any (·.1)=false:=by rfl):
  PI X (.Tuple a6 kn o) (.Call (.Name "zip" p) [a,b] [] pos) (C3 X.K k):=by
 intro l s U H R I h;refine Wa (mI I q t (by decide+kernel:bootBuiltins "zip"=some (.type "zip")) ?_);refine WY (az (u pos l s U H _ I h) fun J f Y=>?_) he e;obtain⟨Z,m,c,v,w⟩:=Y;obtain⟨x,y,rfl,⟨xs,A⟩,⟨L,B⟩,C⟩:=w
 cases v with
 |cons r g=>
  cases g with
  |cons r' g=>
   cases g;cases r;cases r';obtain⟨M,N,pl,O⟩:=c.list A;obtain⟨d,P,i,E⟩:=c.tuple B;refine RV pl.isList (show f.heap.IsTuple y d.toArray from i) fun h' a0 D F=>?_;refine wpAny_pyIter_zip a0.z ?_;refine⟨_,_,_,_,m,rfl,c.kept (t':=f.toks) F,RU x y _ _ _ _ _ D,a0,fun b hb=>?_,C⟩;have G:∀j,f.heap.objs.size<=j->cK X l m j:=fun j n=>c.fpOk n (c.hok.fresh n);simp only [Vg,Vp,VN] at hb;rcases hb with rfl|rfl|rfl|rfl|rfl
   all_goals exact G _ (by lia)
end
section
variable {A:Around}{E:Value->Shared->Prop}{nm:Str}{N:Addr}{bs:List Value}{s:Shared}
theorem zf {x:Addr}{ox od:Obj}{Q:Option Value->Shared->Prop}(a:K.In s.heap)(f:K.lookup C=some (excClassObj nm q C N bs bm hdct sn sub ab col dd k0 k1 k2 k3 k5 newId))
  (hB:(Value.ref C::bm).contains (.type "BaseException")=true) (J:PySem.W.InstAt s.heap x ox C (some od)) (g:PySem.W.findIn K (.ref C) "__getattribute__"=some (some (.builtin "BaseException.__getattribute__"))) (i:PySem.W.findIn K (.ref C) "__getattr__"=some none)
  (j:PySem.W.findObj K C (some od) "__class__"=some (.bind (.builtin "getset_descriptor.__get__") (.builtin "object.__class__"))) (k:PySem.W.mroIn K C (.type "object")=some true) (h:Q (some (.ref C)) { s with toks:=s.toks+1 }):wpAny (model prog w) A (getAttr? (.ref x) "__class__") Q E s:=by
 have l:=a _ _ f;obtain⟨c,d,m,_⟩:=id J;have stay:∀b o,s.heap.get? b=some o->s.heap.get? b=some o:=fun _ _ e=>e;unfold getAttr? getAttrBy? getAttrBy;refine UZ (wpAny_mkText ?_);refine UZ (WE (Vx ?_));refine UZ (gN c ?_);rw[d];refine UZ (WB a g _ _ _ _ stay ?_);refine Vf rfl ?_;refine UZ (Wc rfl (WB a i _ _ _ _ stay ?_));refine UZ (WE (Vx ?_));refine Vf rfl ?_;refine UZ (VT (F.attr_ValueError.ga.bind _) ?_);refine Wj (W0 F.attr_ValueError.ga.plain F.entry_bexc_ga (E8 hB l c d ?_));refine UZ ?_;unfold slotArgs;refine Vf rfl (Vf rfl (U2 ?_));refine UZ (U2 ?_);refine UZ (gN c ?_);rw[d];refine UZ (PySem.W.looks_find a J j _ _ _ _ stay ?_);show wpAny _ _ (Builtin.ObjectAttr.bindTo _ _ _ _) _ _ _;show wpAny _ _ (holding [Value.builtin "object.__class__"] (call (.builtin "getset_descriptor.__get__") [.builtin "object.__class__",.ref x,.ref C]) >>= ret) _ _ _;refine UZ (Vx (Wj (PySem.W.class_get (s:={ s with toks:=s.toks+1 }) (ox:=ox) (od:=some od) a J k ?_)));refine U2 ?_;exact VT (PySem.W.handedOut_of (v:=.ref C) rfl) (U2 h)
theorem E6 {x:Addr}(hk:K.lookup C=some (excClassObj nm q C N bs bm hdct sn sub ab col dd k0 k1 k2 k3 k5 newId))
  (hB:(Value.ref C::bm).contains (.type "BaseException")=true) (hg:PySem.W.findIn K (.ref C) "__getattribute__"=some (some (.builtin "BaseException.__getattribute__"))) (hn:PySem.W.findIn K (.ref C) "__getattr__"=some none)
  (ha:PySem.W.findIn K (.ref C) "__class__"=some (some (.builtin "object.__class__")))
  (hs:PySem.W.specialIn K (.builtin "object.__class__") "__get__"=some (some (.builtin "getset_descriptor.__get__"))) (sr:PySem.W.takesIn K (.builtin "object.__class__")=some true) (hm:PySem.W.mroIn K C (.type "object")=some true):
  PySem.W.KitX K (.ref x) (.ref C) (fun h=>∃ox od,PySem.W.InstAt h x ox C (some od)) where
 ty:=fun _ _ _ ⟨_,_,I⟩=>I.type
 it:=fun _ _ X _=>by intro A' Q' E' s' k z;exact zO (k _ _ (X _ _ hk)) z
 ne:=fun h tp dd af n sl X nu=>by refine Bool.eq_false_iff.mpr fun z=>?_;have e:C=tp:=Value.ref.inj (Vt.mp z);subst e;have z:=V8 (Option.map Obj.data) ((X _ _ hk).symm.trans nu);cases z
 ca:=fun X y k=>by obtain⟨ox,od,I⟩:=y;exact zf X hk hB I hg hn (PySem.W.findObj_data (by unfold PySem.W.clsIn;rw[hk];rfl) ha hs sr) hm k
end
structure AR (K:W.Frag)(C:Addr):Prop where
 ca:PySem.W.findIn K (.ref C) "__class__"=some (some (.builtin "object.__class__"))
 sp:PySem.W.specialIn K (.builtin "object.__class__") "__get__"=some (some (.builtin "getset_descriptor.__get__"))
 tk:PySem.W.takesIn K (.builtin "object.__class__")=some true
 mr:PySem.W.mroIn K C (.type "object")=some true
section
theorem F6 (c:iK X.K C L)(i:AR X.K C):c8 X (.builtin "isinstance") (fun xs H Q=>∃(a d:Addr)(fs:List (Str×V))(D:V)(f:Value)(b:Bool),xs=[.ref a,D]/\H a=some (j6 C a d)/\H d=some (.xd fs)/\(∀u,RelV D u->u=f)/\PySem.W.kitOne X.K (.ref C) f=some b/\Q (.bl b) H):=by intro v s U H xs w Q I r h;obtain⟨a,d,fs,D,f,b,rfl,k,l,m,e,z⟩:=h;obtain⟨u,x,rfl,n,o⟩:=sV r;cases n;cases m _ o;obtain⟨nm,q,N,bs,bm,sn,sub,ab,col,dd,k0,k1,k2,k3,k5,p,hB,g,_,_,_,_⟩:=c.lk;obtain⟨⟨Z,t⟩,_,_⟩:=I.hok a _ k;obtain⟨y,n1,A⟩:=I.hok d _ l;obtain⟨od,j,look⟩:=tM n1;have J:PySem.W.InstAt s.heap a { cls:=.ref C,dict:=some d,data:=.fields Z } C (some od):=⟨t,rfl,rfl,j⟩;exact VZ (E6 p (by rw[Wu,g,Bool.or_true]) c.ga c.gn i.ca i.sp i.tk i.mr) I.kIn ⟨_,_,J⟩ e (fun z=>nomatch z) fun tk=>⟨.bl b,H,I.tok _,rfl,z⟩
theorem Dh:∀{as:List Addr}{b:List Value},Vals (as.map V.ref) b->b=as.map Value.ref
 |[],b,r=>by cases r;rfl
 |a::as,b,r=>by cases r with|cons c d=>cases c;rw[Dh d];rfl
theorem S7 (c:iK X.K C L)(i:AR X.K C):c8 X (.builtin "isinstance") (fun xs H Q=>∃(a d tp:Addr)(fs:List (Str×V))(as:List Addr)(b:Bool),xs=[.ref a,.ref tp]/\H a=some (j6 C a d)/\H d=some (.xd fs)/\H tp=some (.tup (as.map V.ref))/\PySem.W.kitAny X.K (.ref C) (as.map Value.ref)=some b/\Q (.bl b) H):=by intro F s U H xs G Q I r h;obtain⟨a,d,tp,fs,as,b,rfl,j,k,l,e,z⟩:=h;obtain⟨u,M,rfl,m,t⟩:=sV r;cases m;cases t;obtain⟨nm,q,N,bs,bm,sn,sub,ab,col,dd,k0,k1,k2,k3,k5,v,hB,f,_,_,_,_⟩:=c.lk;obtain⟨⟨Z,x⟩,_,_⟩:=I.hok a _ j;obtain⟨O,n1,P⟩:=I.hok d _ k;obtain⟨od,g,look⟩:=tM n1;have J:PySem.W.InstAt s.heap a { cls:=.ref C,dict:=some d,data:=.fields Z } C (some od):=⟨x,rfl,rfl,g⟩;obtain⟨_,R,y,p⟩:=(show ObjOk X.prog X.w H s.heap tp (.tup (as.map V.ref)) from I.hok tp _ l);obtain⟨o,h1,A,n,B,_⟩:=p;cases Dh y;obtain⟨S,D,E,T⟩:=o;cases A;cases B;exact PySem.W.kia_tup (E6 v (by rw[Wu,f,Bool.or_true]) c.ga c.gn i.ca i.sp i.tk i.mr) I.kIn ⟨_,_,J⟩ h1 e (fun z=>nomatch z) fun tk=>⟨.bl b,H,I.tok _,rfl,z⟩
end
section
variable {M:Model}{A:Around}{E:Value->Shared->Prop}{nm nc q':Str}{N N':Addr}{bs nH jx:List Value}{eW:Bool}{mT:List Str}{gT:List Value}{nM:Bool}{ia:Option Bool}{fw:Option Addr}{nq nk nj ni nh:Option Value}{cV:String}
theorem QA {h:Heap}{g:Array GenState}{d:Drawn}{t:Nat}{os:OsState}{e:Addr}{a:Obj}{Q:Bool->Shared->Prop}
  (c:h.get? C=some (excClassObj nm q C N bs bm hdct sn sub ab col dd k0 k1 k2 k3 k5 newId)) (b:h.get? B=some (excClassObj nc q' B N' nH jx eW mT gT nM ia fw nq nk nj ni nh cV)) (he:h.get? e=some a) (i:a.cls=.ref C)
  (j:jx.contains (.type "BaseException")=true) (k:bm.contains (.ref B)=true) (l:Q true ⟨h,g,d,t,os⟩):wpAny M A (excMatches (.ref e) (.ref B)) Q E ⟨h,g,d,t,os⟩:=by
 have m:(Value.ref B::jx).contains (.type "BaseException")=true:=by rw[Wu,j,Bool.or_true]
 have n:(Value.ref C::bm).contains (.ref B)=true:=by rw[Wu,k,Bool.or_true]
 have f:=tc_notTuple;unfold excMatches
 repeat (first | (with_reducible refine wpAny_loadPart_at he ?_;rw[i])|with_reducible refine wpAny_loadPart_at b ?_ | (with_reducible refine W9 b ?_;rw[m]) | (with_reducible refine W9 c ?_;rw[n])|wp_step)
 exact l
end
section
variable {A:Around}{E:Value->Shared->Prop}{nm M q':Str}{N N':Addr}{bs nH jx:List Value}{eW:Bool}{mT:List Str}{gT:List Value}{nM:Bool}{ia:Option Bool}{fw:Option Addr}{nq nk nj ni nh:Option Value}{cV:String}{s:Shared}
theorem S1 {e:Addr}{t:Expr}{n:Str}{i:Stmt}{j:List Stmt}{m:List ExceptHandler}{Q:Flow->Shared->Prop}(o:bm.contains (.ref B)=true)(hb:jx.contains (Value.type "BaseException")=true)
  (h:wpAny (model prog w) (A.mark (some (.ref e))) (eval t env) (fun c a=>c=.ref B/\a.heap.get? C=some (excClassObj nm q C N bs bm hdct sn sub ab col dd k0 k1 k2 k3 k5 newId)/\a.heap.get? B=some (excClassObj M q' B N' nH jx eW mT gT nM ia fw nq nk nj ni nh cV)/\(∃b,a.heap.get? e=some b/\b.cls=.ref C) ∧wpAny (model prog w) (A.mark (some (.ref e))) (setFlight (.ref e) none) (fun _ k=>wpAny (model prog w) (A.mark (some (.ref e))) (storeName env n (.ref e)) (fun _ s3=>wpAny (model prog w) (A.mark (some (.ref e))) (execs (i::j) env)
    (fun f l=>wpAny (model prog w) A (do bindName env n Value.none;unbindBehindTheSuite env n pos) (fun _ p=>Q f p) E l) (fun _ _=>False) s3) (fun _ _=>False) k) (fun _ _=>False) a) (fun _ _=>False) s):
  wpAny (model prog w) A (handleBy (.ref e) env (ExceptHandler.ExceptHandler (some t) (some n) (i::j) pos::m)) Q E s:=by
 refine wpAny_handleBy_cons (codeAny_handlers_test (VE h ?_ fun _ _ z=>z.elim)) (by intro z;cases z);rintro c ⟨F,g,d,tk,os⟩ ⟨rfl,r,u,⟨b,he,v⟩,z⟩;refine QA r u he v hb o ?_;refine codeAny_handlers_suite_as (VE z ?_ fun _ _ z=>z.elim);intro _ k x;refine VE x ?_ fun _ _ z=>z.elim;intro _ s3 y;exact VE y (fun f l D=>D) fun _ _ z=>z.elim
end
set_option genInjectivity true in
inductive Tv where
 |at (v:V)
 |tup (l:List Tv)
 |lst (l:List Tv)
 |dic (l:List (aw×Tv))
 |scr (l:List Tv)
 |ktp (l:List Tv)
 |fnv (a:Addr)
noncomputable def jN:V->Bool
 | .str x=>decide (x.length<=16777216)
 | .byt _=>false
 | .flt _=>false
 |_=>true
mutual
inductive IsT (K:W.Frag)(G:Hp):V->Tv->Prop where
 |at {v:V} (f:jN v=true):IsT K G v (.at v)
 |tup {a:Addr} {Z:List V} {ts:List Tv} (h:G a=some (.tup Z)) (r:IsTs K G Z ts):IsT K G (.ref a) (.tup ts)
 |ktp {a:Addr} {Z:List V} {ts:List Tv} (h:SqT K G a Z) (r:IsTs K G Z ts):IsT K G (.ref a) (.ktp ts)
 |lst {a:Addr} {Z:List V} {ts:List Tv} (h:G a=some (.lst Z)) (r:IsTs K G Z ts):IsT K G (.ref a) (.lst ts)
 |scr {a:Addr} {Z:List V} {ts:List Tv} (h:SqL K G a Z) (r:IsTs K G Z ts):IsT K G (.ref a) (.scr ts)
 |dic {a:Addr} {ag:List (aw×V)} {rZ:List (aw×Tv)} (h:G a=some (.dK ag)) (r:IsKs K G ag rZ):IsT K G (.ref a) (.dic rZ)
 |fnv {a:Addr}:IsT K G (.ref a) (.fnv a)
inductive IsTs (K:W.Frag)(G:Hp):List V->List Tv->Prop where
 |nil:IsTs K G [] []
 |cons {v:V} {Z:List V} {t:Tv} {ts:List Tv} (h:IsT K G v t) (r:IsTs K G Z ts):IsTs K G (v::Z) (t::ts)
inductive IsKs (K:W.Frag)(G:Hp):List (aw×V)->List (aw×Tv)->Prop where
 |nil:IsKs K G [] []
 |cons {k:aw} {v:V} {Z:List (aw×V)} {t:Tv} {ts:List (aw×Tv)} (h:IsT K G v t) (r:IsKs K G Z ts):IsKs K G ((k,v)::Z) ((k,t)::ts)
end
variable {t:Tv}{l:List Tv}
theorem IsT.tw {v:V}{u:Tv}(h:IsT K G v (.tup (t::u::l))):∃a x y r,v=.ref a/\G a=some (.tup (x::y::r))/\IsT K G x t/\IsT K G y u/\IsTs K G r l:=by
 cases h with|tup h r=>
 cases r with|cons c r=>
 cases r with|cons d r=>exact⟨_,_,_,_,rfl,h,c,d,r⟩
theorem IsT.mono {K:W.Frag}{G I:Hp}(s:Same G I){v:V}{t:Tv}(h:IsT K G v t):IsT K I v t:=IsT.rec (motive_1:=fun v t _=>IsT K I v t) (motive_2:=fun l t _=>IsTs K I l t) (motive_3:=fun l t _=>IsKs K I l t) .at (fun h _ r=>.tup (s _ _ h) r) (fun h _ r=>.ktp (s.tup h) r) (fun h _ r=>.lst (s _ _ h) r) (fun h _ r=>.scr (s.seq h) r) (fun h _ r=>.dic (s _ _ h) r) .fnv .nil (fun _ _ a b=>.cons a b) .nil (fun _ _ a b=>.cons a b) h
theorem IsTs.mono {K:W.Frag}{G I:Hp}(s:Same G I){C:List V}{ts:List Tv}(h:IsTs K G C ts):IsTs K I C ts:=by induction C generalizing ts with|nil=>(cases h;exact .nil)|cons _ _ i=>cases h with|cons a r=>exact .cons (a.mono s) (i r)
theorem IsKs.mono {K:W.Frag}{G I:Hp}(s:Same G I){C:List (aw×V)}{ts:List (aw×Tv)}(h:IsKs K G C ts):IsKs K I C ts:=by induction C generalizing ts with|nil=>(cases h;exact .nil)|cons _ _ i=>cases h with|cons a r=>exact .cons (a.mono s) (i r)
section
theorem IsTs.len:∀{ts:List Tv},IsTs K G Z ts->Z.length=ts.length:=by induction Z with|nil=>(intro ts h;cases h;rfl)|cons v Z a=>intro ts h;cases h with|cons _ r=>simp [a r]
theorem IsTs.get:∀{ts:List Tv}{i:Nat}{t:Tv},IsTs K G Z ts->ts[i]?=some t->∃v,Z[i]?=some v/\IsT K G v t:=by induction Z with|nil=>(intro ts i t h e;cases h;simp at e)|cons v Z b=>intro ts i t h e;cases h with|cons a r=>cases i with|zero=>simp at e;subst e;exact⟨v,rfl,a⟩|succ i=>simp at e;obtain⟨c,h1,d⟩:=b r e;exact⟨c,by simpa using h1,d⟩
theorem IsTs.app:∀{ws:List V}{ts c:List Tv},IsTs K G Z ts->IsTs K G ws c->IsTs K G (Z++ws) (ts++c):=by induction Z with|nil=>(intro ws ts c h r;cases h;exact r)|cons v Z d=>intro ws ts c h r;cases h with|cons a b=>exact .cons a (d b r)
theorem IsTs.take:∀{ts:List Tv}(n:Nat),IsTs K G Z ts->IsTs K G (Z.take n) (ts.take n):=by induction Z with|nil=>(intro ts n h;cases h;simp;exact .nil)|cons v Z c=>intro ts n h;cases h with|cons a b=>cases n with|zero=>exact .nil|succ n=>exact .cons a (c n b)
theorem IsTs.drop:∀{ts:List Tv}(n:Nat),IsTs K G Z ts->IsTs K G (Z.drop n) (ts.drop n):=by induction Z with|nil=>(intro ts n h;cases h;simp;exact .nil)|cons v Z c=>intro ts n h;cases h with|cons a b=>cases n with|zero=>exact .cons a b|succ n=>exact c n b
theorem IsTs.set:∀{ts:List Tv}{v:V}{t:Tv}(n:Nat),IsTs K G Z ts->IsT K G v t->IsTs K G (Z.set n v) (ts.set n t):=by induction Z with|nil=>(intro ts v t n h _;cases h;exact .nil)|cons x Z c=>intro ts v t n h q;cases h with|cons a b=>cases n with|zero=>exact .cons q b|succ n=>exact .cons a (c n b q)
end
inductive Ob where
 |lst (l:List Tv)
 |dic (l:List (aw×Tv))
noncomputable def Ob.tv:Ob->Tv
 | .lst l=>.lst l
 | .dic l=>.dic l
inductive Sl where
 |fz (t:Tv)
 |own (o:Ob)
 |out (k:Nat)
structure Ms where
 env:List (Option Sl)
 out:List Sl
 tmp:List Ob
inductive Ev where
 |fz (t:Tv)|loc (i:Nat)|out (k:Nat)|tmp (j:Nat)
inductive Rf where
 |loc (i:Nat)|out (k:Nat)|tmp (j:Nat)
 deriving DecidableEq
def ObOk (K:W.Frag)(G H:Hp)(a:Addr):Ob->Prop
 | .lst ts=>∃Z,H a=some (.lst Z)/\IsTs K G Z ts
 | .dic c=>∃b,H a=some (.dK b)/\IsKs K G b c
def k7:HO->Prop
 | .tup _=>True
 | .frz _ (.tup _)=>True
 |_=>False
structure Fr where
 H0:Hp
 G0:Hp
 ao:List Addr
noncomputable def bt:Sl->Option Ob
 | .own o=>some o
 |_=>none
def aA (M:Ms):Rf->Option Ob
 | .loc i=>(M.env[i]?).bind fun s=>s.bind bt
 | .out k=>(M.out[k]?).bind bt
 | .tmp j=>M.tmp[j]?
noncomputable def j4:V->Option Addr
 | .ref a=>some a
 |_=>none
def adr (F:Fr)(a:List Addr)(U:St):Rf->Option Addr
 | .loc i=>(U[i]?).bind fun s=>s.bind j4
 | .out k=>F.ao[k]?
 | .tmp j=>a[j]?
structure Rel (K:W.Frag)(F:Fr)(G:Hp)(ta:List Addr)(M:Ms)(U:St)(H:Hp):Prop where
 sub:Same G H
 g0:Same F.G0 G
 fra:∀a o,F.H0 a=some o->a∉F.ao->H a=some o
 gd:∀a o,G a=some o->F.G0 a=some o∨F.H0 a=none∨a∈F.ao∨k7 o
 pr:∀a,a∈F.ao->∃o,H a=some o
 ls:M.env.length=U.length
 lo:M.out.length=F.ao.length
 lt:M.tmp.length=ta.length
 fz:∀(i:Nat)(t:Tv),M.env[i]?=some (some (Sl.fz t))->∃v,U[i]?=some (some v)/\IsT K G v t
 al:∀(i k:Nat),M.env[i]?=some (some (Sl.out k))->∃a,F.ao[k]?=some a/\U[i]?=some (some (V.ref a))
 fo:∀(k:Nat)(t:Tv),M.out[k]?=some (.fz t)->∃a,F.ao[k]?=some a/\IsT K G (.ref a) t
 ob:∀r o,aA M r=some o->∃a,adr F ta U r=some a/\ObOk K G H a o/\G a=none
 ij:∀r r' o o' a,aA M r=some o->aA M r'=some o'->adr F ta U r=some a->adr F ta U r'=some a->r=r'
 nw:∀r o a,aA M r=some o->adr F ta U r=some a->(∃k,r=.out k)∨F.H0 a=none
variable {F:Fr}{M M':Ms}
section
variable {ta:List Addr}
theorem ObOk.mono (s:Same G I)(h:H' a=H a):∀{o:Ob},ObOk K G H a o->ObOk K I H' a o
 | .lst _,⟨Z,e,r⟩=>⟨Z,h.trans e,r.mono s⟩
 | .dic _,⟨Z,e,r⟩=>⟨Z,h.trans e,r.mono s⟩
theorem ObOk.some:∀{o:Ob},ObOk K G H a o->∃u,H a=some u
 | .lst _,⟨_,e,_⟩=>⟨_,e⟩
 | .dic _,⟨_,e,_⟩=>⟨_,e⟩
theorem ObOk.notup {u:HO}:∀{o:Ob},ObOk K G H a o->H a=Option.some u->¬k7 u
 | .lst _,⟨_,e,_⟩,h,t=>by rw[e] at h;cases h;exact t
 | .dic _,⟨_,e,_⟩,h,t=>by rw[e] at h;cases h;exact t
theorem Rel.new (R:Rel K F G ta M U H){p:Addr}(h:H p=none):F.H0 p=none/\p∉F.ao/\G p=none:=by
 have h1:p∉F.ao:=fun z=>by obtain⟨o,e⟩:=R.pr p z;rw[h] at e;cases e
 refine⟨?_,h1,R.sub.free h⟩;cases e:F.H0 p with|none=>rfl|some o=>rw[R.fra p o e h1] at h;cases h
def EvOk (K:W.Frag)(F:Fr)(G:Hp)(ta:List Addr)(U:St):Ev->V->Prop
 | .fz t,v=>IsT K G v t
 | .loc i,v=>U[i]?=some (some v)/\∃a,v=.ref a
 | .out k,v=>∃a,F.ao[k]?=some a/\v=.ref a
 | .tmp j,v=>∃a,ta[j]?=some a/\v=.ref a
structure Stp (G:Hp)(ta:List Addr)(I:Hp)(cQ:List Addr):Prop where
 g:Same G I
 t:∃l,cQ=ta++l
theorem Stp.refl:Stp G ta G ta:=⟨Same.refl _,[],by simp⟩
theorem Stp.trans {c d:Hp}{e f:List Addr}(a:Stp G ta c e)(b:Stp c e d f):Stp G ta d f:=by obtain⟨l,rfl⟩:=a.t;obtain⟨m,rfl⟩:=b.t;exact⟨a.g.trans b.g,l++m,by simp⟩
theorem EvOk.stp (s:Stp G ta I cQ):∀{b:Ev}{v:V},EvOk K F G ta U b v->EvOk K F I cQ U b v
 | .fz _,_,h=>IsT.mono s.g h
 | .loc _,_,h=>h
 | .out _,_,h=>h
 | .tmp j,_,⟨a,e,h⟩=>by obtain⟨l,rfl⟩:=s.t;refine⟨a,?_,h⟩;rw[Vy (U7.mp e).1];exact e
def jt:Sl->Option Tv
 | .fz t=>some t
 | .own o=>some o.tv
 | .out _=>none
def rd (M:Ms):Ev->Option Tv
 | .fz t=>some t
 | .loc i=>(M.env[i]?).bind fun s=>s.bind jt
 | .out k=>(M.out[k]?).bind jt
 | .tmp j=>(M.tmp[j]?).map Ob.tv
def IsR (K:W.Frag)(G H:Hp)(v:V)(t:Tv):Prop:=IsT K G v t∨∃a o,v=.ref a/\t=Ob.tv o/\ObOk K G H a o
theorem IsR.up (s:Same G H){v:V}{t:Tv}(h:IsR K G H v t):IsT K H v t:=by rcases h with h|⟨a,o,rfl,rfl,h⟩;exact h.mono s;cases o with|lst l=>(obtain⟨Z,e,r⟩:=h;exact .lst e (r.mono s))|dic l=>obtain⟨Z,e,r⟩:=h;exact .dic e (r.mono s)
theorem Rel.rd (R:Rel K F G ta M U H){f:Ev}{v:V}{t:Tv}(h:EvOk K F G ta U f v)(e:rd M f=some t):IsR K G H v t:=by
 have own:∀r o a,aA M r=some o->adr F ta U r=some a->IsR K G H (.ref a) o.tv:=fun r o a h1 c=>by obtain⟨b,d,g,_⟩:=R.ob r o h1;rw[c] at d;cases d;exact .inr ⟨a,o,rfl,rfl,g⟩
 cases f with|fz u=>(cases e;exact .inl h)|loc i=>(obtain⟨h1,a,rfl⟩:=h;cases q:M.env[i]? with|none=>simp [Lake.rd,q] at e|some s=>cases s with|none=>simp [Lake.rd,q] at e|some s=>cases s with|fz u=>(simp [Lake.rd,q,jt] at e;subst e;obtain⟨v,c,d⟩:=R.fz i u q;rw[h1] at c;cases c;exact .inl d)|own o=>simp [Lake.rd,q,jt] at e;subst e;exact own (.loc i) o a (by simp [aA,q,bt]) (by simp [adr,h1,j4])|out k=>simp [Lake.rd,q,jt] at e)|out k=>(obtain⟨a,h1,rfl⟩:=h;cases q:M.out[k]? with|none=>simp [Lake.rd,q] at e|some s=>cases s with|fz u=>(simp [Lake.rd,q,jt] at e;subst e;obtain⟨b,c,d⟩:=R.fo k u q;rw[h1] at c;cases c;exact .inl d)|own o=>simp [Lake.rd,q,jt] at e;subst e;exact own (.out k) o a (by simp [aA,q,bt]) h1|out k=>simp [Lake.rd,q,jt] at e)|tmp j=>obtain⟨a,h1,rfl⟩:=h;cases q:M.tmp[j]? with|none=>simp [Lake.rd,q] at e|some o=>simp [Lake.rd,q] at e;subst e;exact own (.tmp j) o a q h1
theorem Rel.more (R:Rel K F G ta M U H)(s:Same G I)(sH:Same I H')(hH:Same H H')(hf:∀a o,I a=some o->G a=some o∨H a=none∨k7 o):Rel K F I ta M U H' where
 sub:=sH
 g0:=R.g0.trans s
 fra:=fun a o h1 h2=>hH _ _ (R.fra a o h1 h2)
 gd:=fun a o h=>by rcases hf a o h with h|h|h;exact R.gd a o h;exact .inr (.inl (R.new h).1);exact .inr (.inr (.inr h))
 pr:=fun a h=>by obtain⟨o,e⟩:=R.pr a h;exact⟨o,hH _ _ e⟩
 ls:=R.ls
 lo:=R.lo
 lt:=R.lt
 fz:=fun i t h=>by obtain⟨v,h1,h2⟩:=R.fz i t h;exact⟨v,h1,h2.mono s⟩
 al:=R.al
 fo:=fun k t h=>by obtain⟨a,h1,h2⟩:=R.fo k t h;exact⟨a,h1,h2.mono s⟩
 ob:=fun r o h=>by obtain⟨a,h1,h2,h3⟩:=R.ob r o h;obtain⟨u,hu⟩:=h2.some;refine⟨a,h1,h2.mono s ((hH _ _ hu).trans hu.symm),?_⟩;cases e:I a with|none=>rfl|some x=>rcases hf a x e with z|z|z;rw[h3] at z;cases z;rw[hu] at z;cases z;have q:=sH a x e;rw[hH a u hu] at q;cases q;exact absurd z (h2.notup hu)
 ij:=R.ij
 nw:=R.nw
theorem Rel.cut (R:Rel K F G ta M U H)(n:Nat):Rel K F G (ta.take n) { M with tmp:=M.tmp.take n } U H:=by
 have up:∀r o,aA { M with tmp:=M.tmp.take n } r=some o->aA M r=some o/\adr F (ta.take n) U r=adr F ta U r:=fun r o h=>by
  cases r with
  |loc i=>exact⟨h,rfl⟩|out k=>exact⟨h,rfl⟩
  |tmp j=>
   have h':(M.tmp.take n)[j]?=some o:=h;rw[Xe] at h';split at h'
   .next hj=>exact⟨h',by show(ta.take n)[j]?=ta[j]?;rw[Xe,Vm hj]⟩
   cases h'
 refine⟨R.sub,R.g0,R.fra,R.gd,R.pr,R.ls,R.lo,by show(M.tmp.take n).length=_;rw[VU,VU,R.lt],R.fz,R.al,R.fo,fun r o h=>?_,fun r r' o o' a h h' e c=>?_,fun r o a h e=>?_⟩;obtain⟨h1,b⟩:=up r o h;rw[b];exact R.ob r o h1;obtain⟨h1,b⟩:=up r o h;obtain⟨d,f⟩:=up r' o' h';rw[b] at e;rw[f] at c;exact R.ij r r' o o' a h1 d e c;obtain⟨h1,b⟩:=up r o h;rw[b] at e;exact R.nw r o a h1 e
theorem Rel.push (R:Rel K F G ta M U H){p:Addr}{o:Ob}(n:H p=none)(q:Same H H')(h:ObOk K G H' p o):Rel K F G (ta++[p]) { M with tmp:=M.tmp++[o] } U H':=by
 obtain⟨n1,A,w⟩:=R.new n;have R':Rel K F G ta M U H':=R.more (Same.refl _) (R.sub.trans q) q fun a o h=>.inl h;have up:∀r u,aA { M with tmp:=M.tmp++[o] } r=some u->(aA M r=some u/\adr F (ta++[p]) U r=adr F ta U r)∨(r=.tmp ta.length/\u=o/\adr F (ta++[p]) U r=some p):=fun r u h=>by
  cases r with
  |loc i=>exact .inl ⟨h,rfl⟩|out k=>exact .inl ⟨h,rfl⟩
  |tmp j=>
   have h':(M.tmp++[o])[j]?=some u:=h;rcases Wm j M.tmp.length with g|g;rw[Vy g] at h';exact .inl ⟨h',by show(ta++[p])[j]?=_;rw[Vy (by rw[<- R.lt];exact g)];rfl⟩;rw[Vn g] at h';have y:j-M.tmp.length=0:=by have:=(U7.mp h').1;simp at this;lia
   rw[y] at h';simp at h';have s:j=ta.length:=by rw[<- R.lt];lia
   exact .inr ⟨by rw[s],h'.symm,by show(ta++[p])[j]?=_;rw[s,Vn (U5 _)];simp⟩
 have t:∀r u a,aA M r=some u->adr F ta U r=some a->a≠p:=fun r u a h1 c z=>by obtain⟨b,e,k,_⟩:=R.ob r u h1;rw[c] at e;cases e;obtain⟨x,v⟩:=k.some;rw[z,n] at v;cases v
 refine⟨R'.sub,R'.g0,R'.fra,R'.gd,R'.pr,R'.ls,R'.lo,by show(M.tmp++[o]).length=_;rw[U9,U9,R.lt];rfl,R'.fz,R'.al,R'.fo,fun r u h=>?_,fun r r' u l a h h' e d=>?_,fun r u a h e=>?_⟩;rcases up r u h with ⟨h1,c⟩|⟨rfl,rfl,c⟩;rw[c];exact R'.ob r u h1;rw[c];exact⟨p,rfl,‹_›,w⟩;rcases up r u h with ⟨h1,c⟩|⟨rfl,rfl,c⟩;rcases up r' l h' with ⟨m,f⟩|⟨rfl,rfl,f⟩;rw[c] at e;rw[f] at d;exact R.ij r r' u l a h1 m e d;rw[c] at e;rw[f] at d;cases d;exact absurd rfl (t r u p h1 e);rcases up r' l h' with ⟨m,f⟩|⟨rfl,_,f⟩;rw[c] at e;rw[f] at d;cases e;exact absurd rfl (t r' l p m d);rfl;rcases up r u h with ⟨h1,c⟩|⟨rfl,rfl,c⟩;rw[c] at e;exact R.nw r u a h1 e;rw[c] at e;cases e;exact .inr n1
abbrev TW:=Ms->(Ev->Ms->Prop)->Prop
abbrev iJ:=Ms->(List Ev->Ms->Prop)->Prop
inductive d4 (K:W.Frag)(F:Fr)(G:Hp)(ta:List Addr)(U:St):List Ev->List V->Prop where
 |nil:d4 K F G ta U [] []
 |cons {e:Ev} {es:List Ev} {v:V} {Z:List V} (h:EvOk K F G ta U e v) (r:d4 K F G ta U es Z):d4 K F G ta U (e::es) (v::Z)
inductive LE (K:W.Frag)(F:Fr)(w:TW)(U:St)(H:Hp)(Q:VK):Prop
 |mk (G ta M K0:_) (_:Rel K F G ta M U H) (_:w M K0) (_:∀ev M' I cQ v H',K0 ev M'->Rel K F I cQ M' U H'->Stp G ta I cQ->EvOk K F I cQ U ev v->Q v H'):LE K F w U H Q
inductive LA (K:W.Frag)(F:Fr)(w:iJ)(U:St)(H:Hp)(Q:(List V->Hp->Prop)):Prop
 |mk (G ta M K0:_) (_:Rel K F G ta M U H) (_:w M K0) (_:∀dM M' I cQ Z H',K0 dM M'->Rel K F I cQ M' U H'->Stp G ta I cQ->d4 K F I cQ U dM Z->Q Z H'):LA K F w U H Q
theorem PE.imp {t t':TE}(h:PE X e t)(i:∀ U H Q,t' U H Q->t U H Q):PE X e t':=fun a s U H Q I q=>h a s U H Q I (i U H Q q)
theorem PT.imp {t t':TT}(h:PT X e t)(i:∀ U H Q,t' U H Q->t U H Q):PT X e t':=fun a s U H Q I q=>h a s U H Q I (i U H Q q)
theorem PA.imp {e:List Expr}{t t':TA}(h:PA X e t)(i:∀ U H Q,t' U H Q->t U H Q):PA X e t':=fun pos a s U H Q I q=>h pos a s U H Q I (i U H Q q)
def bnd {J : Type}(o:Option J)(f : J -> Prop):Prop:=match o with|some a=>f a|none=>False
theorem aO {o:Option J}{f:J -> Prop}(h:bnd o f):∃a,o=some a/\f a:=by cases o with|none=>exact h.elim|some a=>exact⟨a,rfl,h⟩
def j7 {J c : Type}(o:Option (J × c))(f : J -> c -> Prop):Prop:=match o with|some (a,b)=>f a b|none=>False
theorem jD {c:Type}{o:Option (J × c)}{f:J -> c -> Prop}(h:j7 o f):∃a b,o=some (a,b)/\f a b:=by cases o with|none=>exact h.elim|some p=>exact⟨p.1,p.2,rfl,h⟩
def wC (t:Tv):TW:=fun M k=>k (.fz t) M
noncomputable def j9 (M:Ms)(i:Nat):Option Ev:=match M.env[i]? with
 |some (some (.fz t))=>some (.fz t)
 |some (some (.own _))=>some (.loc i)
 |some (some (.out k))=>some (.out k)
 |_=>none
def nP (i:Nat):TW:=fun M k=>bnd (j9 M i) fun a=>k a M
theorem Ml {v:V}(h:PE X e (tC v))(ok:jN v=true):PE X e (LE X.K F (wC (.at v))):=h.imp fun U H Q z=>by obtain⟨G,ta,M,a,R,k,q⟩:=z;exact q _ _ G ta v H k R .refl (.at ok)
theorem Rel.var (R:Rel K F G ta M U H){i:Nat}{d:Ev}(h:j9 M i=some d):∃v,U[i]?=some (some v)/\EvOk K F G ta U d v:=by
 unfold j9 at h;split at h
 .next t e=>cases h;exact R.fz i t e
 .next o e=>
  cases h;obtain⟨a,b,_⟩:=R.ob (.loc i) o (by simp [aA,e,bt]);have c:U[i]?=some (some (V.ref a)):=by simp only [adr] at b;cases q:U[i]? with|none=>simp [q] at b|some s=>cases s with|none=>simp [q] at b|some v=>cases v <;> simp [q,j4] at b;subst b;rfl
  exact⟨.ref a,c,c,a,rfl⟩
 .next k e=>
  cases h;obtain⟨a,b,c⟩:=R.al i k e;exact⟨.ref a,c,a,b,rfl⟩
 cases h
theorem tT (h:PE X e (tE i)):PE X e (LE X.K F (nP i)):=h.imp fun U H Q z=>by obtain⟨G,ta,M,d,R,k,q⟩:=z;obtain⟨f,a,k⟩:=aO k;obtain⟨v,b,c⟩:=R.var a;exact⟨v,b,q _ _ G ta v H k R .refl c⟩
inductive Rs where
 |v (t:Tv)
 |n (o:Ob)
def j8 (K:W.Frag)(G H:Hp)(Q:VK):Rs->Prop
 | .v t=>∀v I H',Same G I->Same H H'->Same I H'->(∀a o,I a=some o->G a=some o∨H a=none∨k7 o)->IsT K I v t->Q v H'
 | .n o=>∀p H',H p=none->Same H H'->ObOk K G H' p o->Q (.ref p) H'
def mC (n:Nat)(M:Ms)(k:Ev->Ms->Prop):Rs->Prop
 | .v t=>k (.fz t) { M with tmp:=M.tmp.take n }
 | .n o=>k (.tmp n) { M with tmp:=M.tmp.take n++[o] }
theorem zw {l m:List Addr}:(l++m).take l.length=l:=by simp
theorem Rel.done {G0:Hp}{t0:List Addr}{M0:Ms}{Q:VK}{e:Ev->Ms->Prop}(a:M0.tmp.length=t0.length)(R:Rel K F G ta M U H)(s:Stp G0 t0 G ta){r:Rs}(k:mC M0.tmp.length M e r)
  (q:∀f M' I cQ v H',e f M'->Rel K F I cQ M' U H'->Stp G0 t0 I cQ->EvOk K F I cQ U f v->Q v H'):j8 K G H Q r:=by
 obtain⟨l,rfl⟩:=s.t;have b:=R.cut M0.tmp.length;rw[a,zw] at b
 cases r with
 |v t=>intro v I H' h1 c d h i;have R2:=b.more h1 d c h;exact q _ _ I t0 v H' k (by rw[a];exact R2) ⟨s.g.trans h1,[],by simp⟩ i
 |n o=>intro p H' j c d;have R2:=b.push j c d;refine q _ _ G (t0++[p]) (.ref p) H' k (by rw[a];exact R2) ⟨s.g,[p],rfl⟩ ⟨p,?_,rfl⟩;rw[a,Vn (U5 _)];simp
inductive Rz where
 |ok (r:Rs)
 |cd (c:Prop) (r:Rs)
 |ex (p:Rs->Prop)
 |no
inductive ZH:Rz->Rs->Prop where
 |ok {r:Rs}:ZH (.ok r) r
 |cd {c:Prop} {r:Rs} (h:c):ZH (.cd c r) r
 |ex {p:Rs->Prop} {r:Rs} (h:p r):ZH (.ex p) r
theorem eO {s:Rs}(h:ZH .no s):False:=by cases h
noncomputable def aI (f:Int->Rz):Tv->Rz
 | .at v=>match v with
  | .int i=>f i
  |_=>.no
 |_=>.no
theorem ZH.aI {f:Int->Rz}{s:Rs}(h:ZH (Lake.aI f t) s):∃i,t=.at (.int i)/\ZH (f i) s:=by cases t with| «at» v=>(cases v with|int i=>exact⟨i,rfl,h⟩|_=>exact(eO h).elim)|_=>exact(eO h).elim
noncomputable def aS (f:Str->Rz):Tv->Rz
 | .at v=>match v with
  | .str i=>f i
  |_=>.no
 |_=>.no
theorem ZH.aS {f:Str->Rz}{s:Rs}(h:ZH (Lake.aS f t) s):∃i,t=.at (.str i)/\ZH (f i) s:=by cases t with| «at» v=>(cases v with|str i=>exact⟨i,rfl,h⟩|_=>exact(eO h).elim)|_=>exact(eO h).elim
def bz (z:Rz)(f:Rs->Prop):Prop:=match z with
 | .ok r=>f r
 | .cd c r=>c/\f r
 | .ex p=>∃r,p r/\f r
 | .no=>False
theorem mK {z:Rz}{f:Rs->Prop}(h:bz z f):∃s,ZH z s/\f s:=by cases z with|ok r=>exact⟨r,.ok,h⟩|cd c r=>exact⟨r,.cd h.1,h.2⟩|ex p=>(obtain⟨r,h1,a⟩:=h;exact⟨r,.ex h1,a⟩)|no=>exact h.elim
def kZ (f:Tv->Tv->Rz)(b wb:TW):TW:=fun M k=>b M fun x c=>wb c fun y a=>bnd (rd a x) fun t=>bnd (rd a y) fun u=>bz (f t u) (mC M.tmp.length a k)
def c9 (K:W.Frag)(f:Tv->Tv->Rz)(r:R2):Prop:=∀G H x y t u s Q,Same G H->IsR K G H x t->IsR K G H y u->ZH (f t u) s->j8 K G H Q s->r x y H Q
theorem kc {f:Tv->Tv->Rz}{a wb:TW}(h:PE X e (oQ r (LE X.K F a) (LE X.K F wb)))(o:c9 X.K f r):PE X e (LE X.K F (kZ f a wb)):=h.imp fun U H Q ⟨G,ta,M,C,R,k,q⟩=>by refine⟨G,ta,M,_,R,k,fun x c d g i D k1 j l m=>⟨d,g,c,_,j,k1,fun y E n I p v k2 R2 b w=>?_⟩⟩;obtain⟨t,z,k2⟩:=aO k2;obtain⟨u,A,k2⟩:=aO k2;obtain⟨s,B,k2⟩:=mK k2;exact o n v i p t u s Q R2.sub (R2.rd (m.stp b) z) (R2.rd w A) B (R2.done R.lt (l.trans b) k2 q)
def kr (f:Tv->Rz)(b:TW):TW:=fun M k=>b M fun x a=>bnd (rd a x) fun t=>bz (f t) (mC M.tmp.length a k)
def iD (K:W.Frag)(f:Tv->Rz)(r:V->Hp->VK->Prop):Prop:=∀G H x t s Q,Same G H->IsR K G H x t->ZH (f t) s->j8 K G H Q s->r x H Q
theorem jz {f:Tv->Rz}{r:V->Hp->VK->Prop}{b:TW}(h:PE X e (vX r (LE X.K F b)))(o:iD X.K f r):PE X e (LE X.K F (kr f b)):=h.imp fun U H Q ⟨G,ta,M,n,R,k,q⟩=>by refine⟨G,ta,M,_,R,k,fun x p c u d g k1 a i j=>?_⟩;obtain⟨t,l,k1⟩:=aO k1;obtain⟨s,m,k1⟩:=mK k1;exact o c g d t s Q a.sub (a.rd j l) m (a.done R.lt i k1 q)
def IC:iJ:=fun M k=>k [] M
def tJ (a:TW)(wr:iJ):iJ:=fun M k=>a M fun x b=>wr b fun xs c=>k (x::xs) c
theorem Mk:PA X [] (LA X.K F IC):=pa_nil.imp fun U H Q z=>by obtain⟨G,ta,M,a,R,k,q⟩:=z;exact q _ _ G ta [] H k R .refl .nil
theorem NG {a:TW}{wr:iJ}(h:PA X (e::es) (ka (LE X.K F a) (LA X.K F wr))):PA X (e::es) (LA X.K F (tJ a wr)):=h.imp fun U H Q ⟨G,ta,M,p,R,k,q⟩=>by refine⟨G,ta,M,_,R,k,fun x c d f r s k1 g i j=>⟨d,f,c,_,g,k1,fun xs t l m Z n k2 R2 b o=>?_⟩⟩;exact q _ _ l m _ n k2 R2 (i.trans b) (.cons (j.stp b) o)
theorem dX {l:List J}{x y:J}(h:(l.set i x)[j]?=some y):(i=j/\y=x)∨(i≠j/\l[j]?=some y):=by
 rw[List.getElem?_set] at h;split at h
 .next e=>
  subst e;split at h;cases h;exact .inl ⟨rfl,rfl⟩;cases h
 .next e=>exact .inr ⟨e,h⟩
theorem uL {l:List J}{x:J}(h:i≠j):(l.set i x)[j]?=l[j]? := by rw[List.getElem?_set,Vi h]
theorem ue {s:Option V}{r:Rf}(h:r ≠ .loc i):adr F ta (U.set i s) r=adr F ta U r:=by cases r with|loc j=>(have:i≠j:=fun z=>h (by rw[z]);simp only [adr];rw[uL this])|out k=>rfl|tmp j=>rfl
theorem Rel.drop (R:Rel K F G ta M U H)(i:Nat)(s:Option V):Rel K F G ta { M with env:=M.env.set i none } (U.set i s) H:=by
 have up:∀r o,aA { M with env:=M.env.set i none } r=some o->aA M r=some o/\r ≠ .loc i:=fun r o h=>by cases r with|loc j=>(simp only [aA] at h;cases q:(M.env.set i none)[j]? with|none=>simp [q] at h|some x=>rcases dX q with ⟨_,rfl⟩|⟨z,d⟩;simp [q] at h;rw[q] at h;exact⟨by simp only [aA];rw[d];exact h,fun e=>by cases e;exact z rfl⟩)|out k=>exact⟨h,fun z=>by cases z⟩|tmp j=>exact⟨h,fun z=>by cases z⟩
 refine⟨R.sub,R.g0,R.fra,R.gd,R.pr,by simp [R.ls],R.lo,R.lt,fun j t h=>?_,fun j k h=>?_,R.fo,fun r o h=>?_,fun r r' o o' a h h' e c=>?_,fun r o a h e=>?_⟩;rcases dX h with ⟨_,z⟩|⟨z,h⟩;cases z;rw[uL z];exact R.fz j t h;rcases dX h with ⟨_,z⟩|⟨z,h⟩;cases z;rw[uL z];exact R.al j k h;obtain⟨h1,b⟩:=up r o h;rw[ue b];exact R.ob r o h1;obtain⟨h1,b⟩:=up r o h;obtain⟨f,g⟩:=up r' o' h';rw[ue b] at e;rw[ue g] at c;exact R.ij r r' o o' a h1 f e c;obtain⟨h1,b⟩:=up r o h;rw[ue b] at e;exact R.nw r o a h1 e
def IB (K:W.Frag)(F:Fr)(G H:Hp)(ta:List Addr)(M:Ms)(U:St)(v:V):Sl->Prop
 | .fz t=>IsT K G v t
 | .own o=>∃a,v=.ref a/\ObOk K G H a o/\G a=none/\F.H0 a=none/\∀r u,aA M r=some u->adr F ta U r≠some a
 | .out k=>∃a,F.ao[k]?=some a/\v=.ref a
theorem Rel.fill (R:Rel K F G ta M U H){i:Nat}(w:M.env[i]?=some none){v:V}{s:Sl}(g:U[i]?=some (some v))(ok:IB K F G H ta M U v s):Rel K F G ta { M with env:=M.env.set i (some s) } U H:=by
 have up:∀r o,aA { M with env:=M.env.set i (some s) } r=some o->(aA M r=some o/\r ≠ .loc i)∨(r=.loc i/\s=.own o):=fun r o h=>by
  cases r with
  |loc j=>
   simp only [aA] at h;cases q:(M.env.set i (some s))[j]? with
   |none=>simp [q] at h
   |some x=>
    rcases dX q with ⟨rfl,rfl⟩|⟨z,m⟩;rw[q] at h;cases s with|own u=>simp [bt] at h;subst h;exact .inr ⟨rfl,rfl⟩|fz t=>simp [bt] at h|out k=>simp [bt] at h
    rw[q] at h;exact .inl ⟨by simp only [aA];rw[m];exact h,fun e=>by cases e;exact z rfl⟩
  |out k=>exact .inl ⟨h,fun z=>by cases z⟩|tmp j=>exact .inl ⟨h,fun z=>by cases z⟩
 have d:∀a,v=.ref a->adr F ta U (.loc i)=some a:=fun a e=>by simp [adr,g,e,j4]
 refine⟨R.sub,R.g0,R.fra,R.gd,R.pr,by simp [R.ls],R.lo,R.lt,fun j t h=>?_,fun j k h=>?_,R.fo,fun r o h=>?_,fun r r' o o' a h h' e f=>?_,fun r o a h e=>?_⟩;rcases dX h with ⟨rfl,z⟩|⟨z,h⟩;cases z;exact⟨v,g,ok⟩;exact R.fz j t h;rcases dX h with ⟨rfl,z⟩|⟨z,h⟩;cases z;obtain⟨a,h1,rfl⟩:=ok;exact⟨a,h1,g⟩;exact R.al j k h;rcases up r o h with ⟨h1,_⟩|⟨rfl,rfl⟩;exact R.ob r o h1;obtain⟨a,rfl,n,c,_⟩:=ok;exact⟨a,d a rfl,n,c⟩;rcases up r o h with ⟨h1,_⟩|⟨rfl,rfl⟩;rcases up r' o' h' with ⟨c,_⟩|⟨rfl,rfl⟩;exact R.ij r r' o o' a h1 c e f;obtain⟨b,rfl,_,_,_,l⟩:=ok;rw[d b rfl] at f;cases f;exact absurd e (l r o h1);rcases up r' o' h' with ⟨c,_⟩|⟨rfl,_⟩;obtain⟨b,rfl,_,_,_,l⟩:=ok;rw[d b rfl] at e;cases e;exact absurd f (l r' o' c);rfl;rcases up r o h with ⟨h1,_⟩|⟨rfl,rfl⟩;exact R.nw r o a h1 e;obtain⟨b,rfl,_,_,p,_⟩:=ok;rw[d b rfl] at e;cases e;exact .inr p
theorem Rel.dropO (R:Rel K F G ta M U H)(k:Nat):Rel K F G ta { M with out:=M.out.set k (.out 0) } U H:=by
 have up:∀r o,aA { M with out:=M.out.set k (.out 0) } r=some o->aA M r=some o:=fun r o h=>by cases r with|out j=>(simp only [aA] at h ⊢;cases q:(M.out.set k (.out 0))[j]? with|none=>simp [q] at h|some x=>rw[q] at h;rcases dX q with ⟨_,rfl⟩|⟨z,b⟩;simp [bt] at h;rw[b];exact h)|loc i=>exact h|tmp j=>exact h
 refine⟨R.sub,R.g0,R.fra,R.gd,R.pr,R.ls,by simp [R.lo],R.lt,R.fz,R.al,fun j t h=>?_,fun r o h=>R.ob r o (up r o h),fun r r' o o' a h h'=>R.ij r r' o o' a (up r o h) (up r' o' h'),fun r o a h=>R.nw r o a (up r o h)⟩;rcases dX h with ⟨_,z⟩|⟨_,h⟩;cases z;exact R.fo j t h
theorem Rel.fillO (R:Rel K F G ta M U H){k:Nat}{a:Addr}(m:M.out[k]?=some (.out 0))(d:F.ao[k]?=some a){s:Sl}
  (ok:match s with | .fz t=>IsT K G (.ref a) t | .own o=>ObOk K G H a o/\G a=none/\(∀r u,aA M r=some u->adr F ta U r≠some a) | .out _=>True):Rel K F G ta { M with out:=M.out.set k s } U H:=by
 have up:∀r o,aA { M with out:=M.out.set k s } r=some o->aA M r=some o∨(r=.out k/\s=.own o):=fun r o h=>by
  cases r with
  |out j=>
   simp only [aA] at h ⊢;cases q:(M.out.set k s)[j]? with
   |none=>simp [q] at h
   |some x=>
    rw[q] at h;rcases dX q with ⟨rfl,rfl⟩|⟨z,l⟩;cases x with|own u=>simp [bt] at h;subst h;exact .inr ⟨rfl,rfl⟩|fz t=>simp [bt] at h|out k=>simp [bt] at h
    rw[l];exact .inl h
  |loc i=>exact .inl h|tmp j=>exact .inl h
 refine⟨R.sub,R.g0,R.fra,R.gd,R.pr,R.ls,by simp [R.lo],R.lt,R.fz,R.al,fun j t h=>?_,fun r o h=>?_,fun r r' o o' b h h' e f=>?_,fun r o b h e=>?_⟩
 .rcases dX h with ⟨rfl,z⟩|⟨_,h⟩
  .subst z;exact⟨a,d,ok⟩
  .exact R.fo j t h
 .rcases up r o h with h|⟨rfl,rfl⟩
  .exact R.ob r o h
  .exact⟨a,d,ok.1,ok.2.1⟩
 .rcases up r o h with h1|⟨rfl,rfl⟩
  .rcases up r' o' h' with g|⟨rfl,rfl⟩
   .exact R.ij r r' o o' b h1 g e f
   .have c:F.ao[k]?=some b:=f;rw[d] at c;cases c;exact absurd e (ok.2.2 r o h1)
  .rcases up r' o' h' with g|⟨rfl,_⟩
   .have c:F.ao[k]?=some b:=e;rw[d] at c;cases c;exact absurd f (ok.2.2 r' o' g)
   .rfl
 .rcases up r o h with h1|⟨rfl,rfl⟩
  .exact R.nw r o b h1 e
  .exact .inl ⟨k,rfl⟩
theorem Rel.fr (R:Rel K F G ta M U H){a:Addr}{o:Ob}(f:ObOk K G H a o)(j:G a=none)(m:F.H0 a=none∨a∈F.ao)(n:∀r u,aA M r=some u->adr F ta U r≠some a):∃I,Rel K F I ta M U H/\Same G I/\IsT K I (.ref a) o.tv:=by
 have s:Same G (fun b=>if b=a then H a else G b):=fun b x e=>by show(if b=a then H a else G b)=_;rw[Vi (fun z=>by rw[z,j] at e;cases e)];exact e
 have g:(fun b=>if b=a then H a else G b) a=H a:=by show(if a=a then _ else _)=_;rw[Vm rfl]
 refine⟨_,⟨fun b x e=>?_,R.g0.trans s,R.fra,fun b x e=>?_,R.pr,R.ls,R.lo,R.lt,fun i t h=>?_,R.al,fun k t h=>?_,fun r u h=>?_,R.ij,R.nw⟩,s,?_⟩
 .have c:(if b=a then H a else G b)=some x:=e;split at c
  .next z=>rw[z];exact c
  exact R.sub _ _ c
 .have c:(if b=a then H a else G b)=some x:=e;split at c
  .next z=>rw[z];exact .inr (m.elim .inl fun q=>.inr (.inl q))
  exact R.gd b x c
 obtain⟨v,h1,d⟩:=R.fz i t h;exact⟨v,h1,d.mono s⟩;obtain⟨v,h1,d⟩:=R.fo k t h;exact⟨v,h1,d.mono s⟩;obtain⟨b,h1,d,p⟩:=R.ob r u h;refine⟨b,h1,d.mono s rfl,?_⟩;show(if b=a then H a else G b)=none;rw[Vi (fun z=>n r u h (by rw[h1,z]))];exact p;cases o with|lst l=>(obtain⟨Z,e,r⟩:=f;exact .lst (g.trans e) (r.mono s))|dic l=>obtain⟨Z,e,r⟩:=f;exact .dic (g.trans e) (r.mono s)
def ed (n:Nat)(M:Ms):Ev->Option (Tv×Ms)
 | .fz t=>some (t,{ M with tmp:=M.tmp.take n })
 | .loc i=>match M.env[i]? with
  |some (some (.own o))=>some (o.tv,{ M with env:=M.env.set i (some (.fz o.tv)),tmp:=M.tmp.take n })
  |some (some (.fz t))=>some (t,{ M with tmp:=M.tmp.take n })
  |_=>none
 | .out k=>match M.out[k]? with
  |some (.own o)=>some (o.tv,{ M with out:=M.out.set k (.fz o.tv),tmp:=M.tmp.take n })
  |some (.fz t)=>some (t,{ M with tmp:=M.tmp.take n })
  |_=>none
 | .tmp j=>if n<=j then (M.tmp[j]?).map fun o=>(o.tv,{ M with tmp:=M.tmp.take n }) else none
theorem uw {l:List J}{x:J}(h:i<l.length):(l.set i x)[i]?=some x:=by rw[List.getElem?_set,Vm rfl,Vm h]
theorem Rel.frz {G0:Hp}{t0:List Addr}{M0:Ms}(T:M0.tmp.length=t0.length)(R:Rel K F G ta M U H)(s:Stp G0 t0 G ta){J:Ev}{v:V}{t:Tv}(h:EvOk K F G ta U J v)(e:ed M0.tmp.length M J=some (t,M')):∃I,Rel K F I t0 M' U H/\Stp G0 t0 I t0/\Same G I/\IsT K I v t:=by
 obtain⟨l,rfl⟩:=s.t;have f:=R.cut M0.tmp.length;rw[T,zw] at f;rw[T] at e;have L:∀{t':Tv},IsT K G v t'->t'=t->{ M with tmp:=M.tmp.take t0.length }=M'->∃I,Rel K F I t0 M' U H/\Stp G0 t0 I t0/\Same G I/\IsT K I v t:=fun h1 d n=>by subst d;subst n;exact⟨G,f,⟨s.g,[],by simp⟩,Same.refl _,h1⟩
 cases J with
 |fz u=>simp only [ed,V1,Prod.mk.injEq] at e;exact L h e.1 e.2
 |loc i=>
  obtain⟨p,a,rfl⟩:=h;simp only [ed] at e;split at e
  .next o q=>
   simp only [V1,Prod.mk.injEq] at e;obtain⟨rfl,rfl⟩:=e;obtain⟨b,h1,d,n⟩:=f.ob (.loc i) o (by simp [aA,q,bt]);have hb:b=a:=by simp [adr,p,j4] at h1;exact h1.symm
   subst hb;have N:=f.nw (.loc i) o b (by simp [aA,q,bt]) h1;have W:F.H0 b=none:=by rcases N with ⟨k,z⟩|z;cases z;exact z
   have X:i<U.length:=(U7.mp p).1;have D:=f.drop i (some (.ref b));have O:U.set i (some (V.ref b))=U:=ext_getElem? fun j=>by
    rw[List.getElem?_set];split
    .next z=>subst z;rw[p]
    rfl
   rw[O] at D;have B:∀r u,aA { M with env:=M.env.set i none,tmp:=M.tmp.take t0.length } r=some u->adr F t0 U r≠some b:=fun r u c z=>by
    have:aA { M with tmp:=M.tmp.take t0.length } r=some u/\r ≠ .loc i:=by cases r with|loc j=>(simp only [aA] at c ⊢;cases w:(M.env.set i none)[j]? with|none=>simp [w] at c|some x=>rw[w] at c;rcases dX w with ⟨_,rfl⟩|⟨P,Q⟩;simp at c;rw[Q];exact⟨c,fun e=>by cases e;exact P rfl⟩)|out k=>exact⟨c,fun z=>by cases z⟩|tmp j=>exact⟨c,fun z=>by cases z⟩
    exact this.2 (f.ij r (.loc i) u o b this.1 (by simp [aA,q,bt]) z h1)
   obtain⟨I,R2,m,y⟩:=D.fr d n (.inl W) B;have S:=R2.fill (i:=i) (v:=.ref b) (s:=.fz o.tv) (by show(M.env.set i none)[i]?=_;exact uw (by rw[R.ls];exact X)) p y;refine⟨I,?_,⟨s.g.trans m,[],by simp⟩,m,y⟩;have:(M.env.set i none).set i (some (.fz o.tv))=M.env.set i (some (Sl.fz o.tv)):=set_set ..;simpa [this] using S
  .next u q=>
   simp only [V1,Prod.mk.injEq] at e;obtain⟨Y,h1,d⟩:=R.fz i u q;rw[p] at h1;cases h1;exact L d e.1 e.2
  cases e
 |out k=>
  obtain⟨a,A,rfl⟩:=h;simp only [ed] at e;split at e
  .next o q=>
   simp only [V1,Prod.mk.injEq] at e;obtain⟨rfl,rfl⟩:=e;obtain⟨b,h1,d,n⟩:=f.ob (.out k) o (by simp [aA,q,bt]);have hb:a=b:=by have C:F.ao[k]?=some b:=h1;rw[A] at C;exact Vq C
   subst hb;have D:=f.dropO k;have B:∀r u,aA { M with out:=M.out.set k (.out 0),tmp:=M.tmp.take t0.length } r=some u->adr F t0 U r≠some a:=fun r u c z=>by
    have:aA { M with tmp:=M.tmp.take t0.length } r=some u/\r ≠ .out k:=by cases r with|out j=>(simp only [aA] at c ⊢;cases w:(M.out.set k (.out 0))[j]? with|none=>simp [w] at c|some x=>rw[w] at c;rcases dX w with ⟨_,rfl⟩|⟨P,Q⟩;simp [bt] at c;rw[Q];exact⟨c,fun e=>by cases e;exact P rfl⟩)|loc i=>exact⟨c,fun z=>by cases z⟩|tmp j=>exact⟨c,fun z=>by cases z⟩
    exact this.2 (f.ij r (.out k) u o a this.1 (by simp [aA,q,bt]) z h1)
   obtain⟨I,R2,m,y⟩:=D.fr d n (.inr (VF A)) B;have S:=R2.fillO (k:=k) (a:=a) (s:=.fz o.tv) (by show(M.out.set k (.out 0))[k]?=_;exact uw (U7.mp q).1) A y;refine⟨I,?_,⟨s.g.trans m,[],by simp⟩,m,y⟩;have:(M.out.set k (.out 0)).set k (.fz o.tv)=M.out.set k (Sl.fz o.tv):=set_set ..;simpa [this] using S
  .next u q=>
   simp only [V1,Prod.mk.injEq] at e;obtain⟨Y,h1,d⟩:=R.fo k u q;rw[A] at h1;cases h1;exact L d e.1 e.2
  cases e
 |tmp j=>
  obtain⟨a,A,rfl⟩:=h;simp only [ed] at e;split at e
  .next hj=>
   cases q:M.tmp[j]? with
   |none=>(rw[q] at e;cases e)
   |some o=>
    rw[q] at e;simp only [Xc,V1,Prod.mk.injEq] at e;obtain⟨rfl,rfl⟩:=e;obtain⟨b,h1,d,n⟩:=R.ob (.tmp j) o q;have hb:a=b:=by have C:(t0++l)[j]?=some b:=h1;rw[A] at C;exact Vq C
    subst hb;have N:F.H0 a=none:=by rcases R.nw (.tmp j) o a q h1 with ⟨k,z⟩|z;cases z;exact z
    have B:∀r u,aA { M with tmp:=M.tmp.take t0.length } r=some u->adr F t0 U r≠some a:=fun r u c z=>by
     have:(aA M r=some u/\adr F (t0++l) U r=some a)/\r ≠ .tmp j:=by
      cases r with
      |loc i=>exact⟨⟨c,z⟩,fun z=>by cases z⟩|out k=>exact⟨⟨c,z⟩,fun z=>by cases z⟩
      |tmp i=>
       have E:(M.tmp.take t0.length)[i]?=some u:=c;rw[Xe] at E;split at E
       .next p=>
        refine⟨⟨E,?_⟩,fun z=>by cases z;lia⟩;show(t0++l)[i]?=_;rw[Vy p];exact z
       cases E
     exact this.2 (R.ij r (.tmp j) u o a this.1.1 q this.1.2 h1)
    obtain⟨I,R2,m,y⟩:=f.fr d n (.inl N) B;exact⟨I,R2,⟨s.g.trans m,[],by simp⟩,m,y⟩
  cases e
end
variable {wa:TW}
section
abbrev cq:=Ms->(Bool->Ms->Prop)->Prop
noncomputable def Ms.cut (M:Ms)(n:Nat):Ms:={ M with tmp:=M.tmp.take n }
noncomputable def ja:Ev->Option Bool
 | .fz (.at (.bl b))=>some b
 |_=>none
inductive LB (K:W.Frag)(F:Fr)(w:cq)(U:St)(H:Hp)(Q:(Bool->Hp->Prop)):Prop
 |mk (G ta M K0:_) (_:Rel K F G ta M U H) (_:w M K0) (_:∀b M' I H',K0 b M'->Rel K F I ta M' U H'->Same G I->Q b H'):LB K F w U H Q
theorem Rel.cutTo {G0:Hp}{t0 a:List Addr}{M0:Ms}(b:M0.tmp.length=t0.length)(R:Rel K F G a M U H)(s:Stp G0 t0 G a):Rel K F G t0 (M.cut M0.tmp.length) U H:=by obtain⟨l,rfl⟩:=s.t;have c:=R.cut M0.tmp.length;rw[b,zw] at c;rw[b];exact c
def tj (wa:TW):cq:=fun M k=>wa M fun x a=>bnd (ja x) fun b=>k b (a.cut M.tmp.length)
theorem CI (h:PT X e (yA (LE X.K F wa))):PT X e (LB X.K F (tj wa)):=h.imp fun U H Q z=>by
 obtain⟨G,d,M,o,R,k,q⟩:=z
 refine⟨G,d,M,_,R,k,fun x p a r f i k1 j c l=>?_⟩;obtain⟨b,hb,k1⟩:=aO k1;have m:x=.fz (.at (.bl b)):=by
  cases x with
  |fz t=>cases t with
   | «at» v => cases v <;> simp [ja] at hb; subst hb; rfl
   |_=>simp [ja] at hb
  |_=>simp [ja] at hb
 subst m;have n:IsT X.K a f (.at (.bl b)):=l;cases n;exact⟨b,rfl,q _ _ a i k1 (j.cutTo R.lt c) c.g⟩
noncomputable def IA:Tv->Option Bool
 | .at .non=>some false
 | .at (.bl b)=>some b
 | .at (.int i)=>some (i != 0)
 | .at (.str x)=>some ((x.length:Int) != 0)
 | .tup l=>some !l.isEmpty
 | .lst l=>some !l.isEmpty
 | .dic l=>some !l.isEmpty
 |_=>none
theorem IsTs.emp {ts:List Tv}(h:IsTs K G Z ts):Z.isEmpty=ts.isEmpty:=by cases h <;> rfl
theorem IsKs.emp {Z:List (aw×V)}{ts:List (aw×Tv)}(h:IsKs K G Z ts):Z.isEmpty=ts.isEmpty:=by cases h <;> rfl
theorem NF {v:V}{b:Bool}(h:IsT K H v t)(e:IA t=some b):tq K v H b:=by have a:=Vr;cases h with| «at» f =>(cases v with|non=>(cases e;rfl)|bl c=>(cases e;rfl)|int i=>(cases e;rfl)|str x=>(cases e;exact⟨by rw[a];exact VA f,rfl⟩)|_=>cases e)|tup h r=>(cases e;exact .inr (.inl ⟨_,.of h,by rw[r.emp]⟩))|ktp h r=>(cases e)|fnv=>(cases e)|lst h r=>(cases e;exact .inl ⟨_,.of h,by rw[r.emp]⟩)|scr h r=>(cases e)|dic h r=>cases e;exact .inr (.inr ⟨_,h,by rw[r.emp]⟩)
def Iz (wa:TW):cq:=fun M k=>wa M fun x a=>bnd (rd a x) fun t=>bnd (IA t) fun b=>k b (a.cut M.tmp.length)
theorem CH (h:PT X e (fun U H Q=>LE X.K F wa U H fun x H'=>∃k,tq X.K x H' k/\Q k H')):PT X e (LB X.K F (Iz wa)):=h.imp fun U H Q ⟨G,d,M,m,R,k,q⟩=>by refine⟨G,d,M,_,R,k,fun x n f o p i k1 a c j=>?_⟩;obtain⟨t,l,k1⟩:=aO k1;obtain⟨b,hb,k1⟩:=aO k1;exact⟨b,NF ((a.rd j l).up a.sub) hb,q _ _ f i k1 (a.cutTo R.lt c) c.g⟩
def Iy (a b:cq):cq:=fun M k=>a M fun c d=>if c=true then b d k else k false d
def AU (a b:cq):cq:=fun M k=>a M fun c d=>if c=true then k true d else b d k
def Iw (a:cq):cq:=fun M k=>a M fun c b=>k (!c) b
theorem LB.and {a b:cq}{Q:Bool->Hp->Prop}:LB X.K F (Iy a b) U H Q->IV (LB X.K F a) (LB X.K F b) U H Q:=fun⟨G,d,M,h,R,k,q⟩=>by refine⟨G,d,M,_,R,k,fun c i e j k1 f g=>?_⟩;cases c with|true=>exact⟨e,d,i,h,f,k1,fun b M' I H' l R' s'=>q b M' I H' l R' (g.trans s')⟩|false=>exact q _ _ e j k1 f g
theorem LB.or {a b:cq}{Q:Bool->Hp->Prop}:LB X.K F (AU a b) U H Q->AZ (LB X.K F a) (LB X.K F b) U H Q:=fun⟨G,d,M,h,R,k,q⟩=>by refine⟨G,d,M,_,R,k,fun c i e j k1 f g=>?_⟩;cases c with|false=>exact⟨e,d,i,h,f,k1,fun b M' I H' l R' s'=>q b M' I H' l R' (g.trans s')⟩|true=>exact q _ _ e j k1 f g
theorem LB.not {a:cq}{Q:Bool->Hp->Prop}:LB X.K F (Iw a) U H Q->IU (LB X.K F a) U H Q:=fun z=>by obtain⟨G,b,M,h,R,k,q⟩:=z;exact ⟨G,b,M,_,R,k,fun c i d e k1 f g=>q _ _ d e k1 f g⟩
def C1 (c:cq)(a b:TW):TW:=fun M k=>c M fun x d=>if x=true then a d k else b d k
theorem LE.ite {c:cq}{a b:TW}{Q:VK}:LE X.K F (C1 c a b) U H Q->A0 (LB X.K F c) (LE X.K F a) (LE X.K F b) U H Q:=fun⟨G,d,M,g,R,k,q⟩=>by refine⟨G,d,M,_,R,k,fun c h i m k1 j l=>?_⟩;cases c with|true=>exact⟨i,d,h,g,j,k1,fun b M' I t' v H' e R' s' f=>q b M' I t' v H' e R' (Stp.trans ⟨l,[],by simp⟩ s') f⟩|false=>exact⟨i,d,h,g,j,k1,fun b M' I t' v H' e R' s' f=>q b M' I t' v H' e R' (Stp.trans ⟨l,[],by simp⟩ s') f⟩
abbrev bG:=Ms->(List Tv->Ms->Prop)->Prop
inductive LF (K:W.Frag)(F:Fr)(n:Nat)(w:bG)(U:St)(H:Hp)(Q:(List V->Hp->Prop)):Prop
 |mk (G ta M K0:_) (_:Rel K F G ta M U H) (_:w M K0) (_:∀ts M' I Z H',K0 ts M'->Rel K F I ta M' U H'->Same G I->IsTs K I Z ts->ts.length=n->Q Z H'):LF K F n w U H Q
def yy:bG:=fun M k=>k [] M
def qK (wa:TW)(wr:bG):bG:=fun M k=>wa M fun x a=>j7 (ed M.tmp.length a x) fun t b=>wr b fun ts c=>k (t::ts) c
theorem Mj:PA X [] (LF X.K F 0 yy):=pa_nil.imp fun U H Q z=>by obtain⟨G,a,M,b,R,k,q⟩:=z;exact q _ _ G [] H k R (Same.refl _) .nil rfl
theorem LF.cons {n:Nat}{wa:TW}{wr:bG}{U:St}{H:Hp}{Q:List V->Hp->Prop}:LF X.K F (n+1) (qK wa wr) U H Q->ka (LE X.K F wa) (LF X.K F n wr) U H Q:=fun⟨G,a,M,p,R,k,q⟩=>by refine⟨G,a,M,_,R,k,fun x r s u v w k1 b c d=>?_⟩;obtain⟨t,e,f,k1⟩:=jD k1;obtain⟨h,R2,i,y,j⟩:=b.frz R.lt c d f;exact⟨h,a,e,_,R2,k1,fun ts M' I Z H' l R' s' m o=>q _ _ I _ H' l R' (i.g.trans s') (.cons (j.mono s') m) (by rw[Vw,o])⟩
noncomputable def Iv (ts:List Tv):Option Rs:=some (.v (.tup ts))
noncomputable def Iu (ts:List Tv):Option Rs:=some (.n (.lst ts))
def qy (f:List Tv->Option Rs)(wr:bG):TW:=fun M k=>wr M fun ts a=>bnd (f ts) fun r=>mC M.tmp.length a k r
theorem Fe {Q:VK}{ts:List Tv}(s:Same G H)(h:IsTs K G Z ts)(q:j8 K G H Q (.v (.tup ts))):∀p,H p=none->Q (.ref p) (ax H p (.tup Z)):=fun p a=>by
 have c:Same G (ax G p (.tup Z)):=fun b x e=>by rw[aD (cm e (s.free a))];exact e
 refine q (.ref p) (ax G p (.tup Z)) _ c (fun b x e=>by rw[aD (cm e a)];exact e) (fun b x e=>?_) (fun b x e=>?_) (.tup aY (h.mono c));by_cases z:b=p;subst z;rw[aY] at e ⊢;exact e;rw[aD z] at e ⊢;exact s _ _ e;by_cases z:b=p;subst z;exact .inr (.inl a);rw[aD z] at e;exact .inl e
theorem uv {Q:VK}{ts:List Tv}{p:Addr}(s:Same G H)(c:Same H H')(e:H' p=some (.tup Z))(h:IsTs K G Z ts)(q:j8 K G H Q (.v (.tup ts))):Q (.ref p) H':=by
 have d:Same G (fun b=>if b=p then H' p else G b):=fun b x hb=>by
  show(if b=p then H' p else G b)=_;split
  .next z=>subst z;exact c _ _ (s _ _ hb)
  exact hb
 refine q (.ref p) _ H' d c (fun b x hb=>?_) (fun b x hb=>?_) (.tup (by show(if p=p then H' p else G p)=_;rw[Vm rfl];exact e) (h.mono d))
 .have a:(if b=p then H' p else G b)=some x:=hb;split at a
  .next z=>subst z;exact a
  exact c _ _ (s _ _ a)
 .have a:(if b=p then H' p else G b)=some x:=hb;split at a
  .next z=>subst z;rw[e] at a;cases a;exact .inr (.inr trivial)
  exact .inl a
theorem mJ {Q:VK}{ts:List Tv}(h:IsTs K G Z ts)(q:j8 K G H Q (.n (.lst ts))):∀p,H p=none->Q (.ref p) (ax H p (.lst Z)):=fun p a=>
 q p _ a (fun b x e=>by rw[aD (cm e a)];exact e) ⟨Z,aY,h⟩
theorem b7 {Q:VK}{v:V}(s:Same G H)(h:IsT K G v t)(q:j8 K G H Q (.v t)):Q v H:=q v G H (Same.refl _) (Same.refl _) s (fun _ _ e=>.inl e) h
theorem LE.disp {n:Nat}{f:List Tv->Option Rs}{wr:bG}{Q:VK}:LE X.K F (qy f wr) U H Q->LF X.K F n wr U H fun Z a=>∃G ts s,Same G a/\IsTs X.K G Z ts/\f ts=some s/\j8 X.K G a Q s/\ts.length=n:=fun⟨G,c,M,i,R,k,q⟩=>by refine⟨G,c,M,_,R,k,fun ts j d Z a k1 b e g l1=>?_⟩;obtain⟨s,h,k1⟩:=aO k1;exact⟨d,ts,s,b.sub,g,h,b.done R.lt ⟨e,[],by simp⟩ k1 q,l1⟩
theorem Mi {n:Nat}{b:Nat}{wr:bG}(r:n<=1000)(h:PA X es (LF X.K F n wr)):PE X (.Tuple es b pos) (LE X.K F (qy Iv wr)):=(D8 h).imp fun U H Q k=>by obtain⟨G,c,M,d,R,k,q⟩:=LE.disp (n:=n) k;refine⟨G,c,M,d,R,k,fun ts e f Z g k1 i j l l1=>?_⟩;obtain⟨t,m,s,h1,a,o,p,u⟩:=q ts e f Z g k1 i j l l1;cases o;exact⟨by rw[a.len,Vr];lia,Fe h1 a p⟩
theorem Mh {n:Nat}{wr:bG}(p:n<=1000)(h:PA X es (LF X.K F n wr)):PE X (.List es pos) (LE X.K F (qy Iu wr)):=(zM h).imp fun U H Q k=>by obtain⟨G,b,M,c,R,k,q⟩:=LE.disp (n:=n) k;refine⟨G,b,M,c,R,k,fun ts d e Z f k1 g i j l1=>?_⟩;obtain⟨r,l,s,h1,a,m,o,t⟩:=q ts d e Z f k1 g i j l1;cases m;exact⟨by rw[a.len,Vr];lia,mJ a o⟩
structure PD where
 nx:Ms->Prop
 rt:Ev->Ms->Prop
 bk:Ms->Prop:=fun _=>False
 ct:Ms->Prop:=fun _=>False
abbrev bM:=PD->Ms->Prop
structure PDOk (K:W.Frag)(F:Fr)(G:Hp)(P:PD)(D:a7):Prop where
 nx:∀M' I Y H',P.nx M'->Rel K F I [] M' Y H'->Same G I->D.nx Y H'
 rt:∀ev M' I cQ Y v H',P.rt ev M'->Rel K F I cQ M' Y H'->Same G I->EvOk K F I cQ Y ev v->D.rt v H'
 bk:∀M' I Y H',P.bk M'->Rel K F I [] M' Y H'->Same G I->D.bk Y H'
 ct:∀M' I Y H',P.ct M'->Rel K F I [] M' Y H'->Same G I->D.ct Y H'
theorem PDOk.up {P:PD}{D:a7}(h:PDOk K F G P D)(s:Same G I):PDOk K F I P D:=⟨fun b c a d p R e=>h.nx b c a d p R (s.trans e),fun f b c g a v d p R e=>h.rt f b c g a v d p R (s.trans e),fun b c a d p R e=>h.bk b c a d p R (s.trans e),fun b c a d p R e=>h.ct b c a d p R (s.trans e)⟩
inductive LS (K:W.Frag)(F:Fr)(w:bM)(D:a7)(U:St)(H:Hp):Prop
 |mk (G M P:_) (_:Rel K F G [] M U H) (_:w P M) (_:PDOk K F G P D):LS K F w D U H
theorem PS.imp {t t':TS}(h:PS X st t)(i:∀D U H,t' D U H->t D U H):PS X st t':=fun a s U H D I q=>h a s U H D I (i D U H q)
theorem PSs.imp {st:List Stmt}{t t':TS}(h:PSs X st t)(i:∀D U H,t' D U H->t D U H):PSs X st t':=fun a s U H D I q=>h a s U H D I (i D U H q)
def Cb:bM:=fun P M=>P.nx M
def Ir (a b:bM):bM:=fun P M=>a { P with nx:=fun c=>b P c } M
theorem LS.seq {a b:bM}{D:a7}:LS X.K F (Ir a b) D U H->yh (LS X.K F a) (LS X.K F b) D U H:=fun⟨G,M,P,R,k,ok⟩=>
 ⟨G,M,_,R,k,fun c d e h p f g=>⟨d,c,P,f,p,ok.up g⟩,ok.rt,ok.bk,ok.ct⟩
def Iq (wa:TW):bM:=fun P M=>wa M P.rt
theorem LS.ret {D:a7}:LS X.K F (Iq wa) D U H->IQ (LE X.K F wa) D U H:=fun⟨G,M,P,R,k,ok⟩=>
 ⟨G,[],M,_,R,k,fun a b c d v e p f h i=>ok.rt a b c d U v e p f h.g i⟩
def AV (c:cq)(a b:bM):bM:=fun P M=>c M fun x d=>if x=true then a P d else b P d
theorem LS.ite {c:cq}{a b:bM}{D:a7}:LS X.K F (AV c a b) D U H->IP (LB X.K F c) (LS X.K F a) (LS X.K F b) D U H:=fun⟨G,M,P,R,k,ok⟩=>by refine⟨G,[],M,_,R,k,fun x d e h p f g=>?_⟩;cases x with|true=>exact⟨e,d,P,f,p,ok.up g⟩|false=>exact⟨e,d,P,f,p,ok.up g⟩
def Ip (wa:TW):bM:=fun P M=>wa M fun _ a=>P.nx (a.cut 0)
theorem LS.exp {D:a7}:LS X.K F (Ip wa) D U H->Co (LE X.K F wa) D U H:=fun⟨G,M,P,R,k,ok⟩=>
 ⟨G,[],M,_,R,k,fun e f a h v b p c d i=>ok.nx _ a U b p (by have:=c.cut 0;exact this) d.g⟩
def asg (i:Nat)(M:Ms):Ev->Option Ms
 | .fz t=>some ⟨M.env.set i (some (.fz t)),M.out,[]⟩
 | .tmp j=>(M.tmp[j]?).map fun o=>⟨M.env.set i (some (.own o)),M.out,[]⟩
 | .out k=>some ⟨M.env.set i (some (.out k)),M.out,[]⟩
 | .loc j=>(ed 0 M (.loc j)).map fun p=>⟨p.2.env.set i (some (.fz p.1)),p.2.out,[]⟩
theorem Rel.putS {a:List Addr}(R:Rel K F G a M U H)(i:Nat){v:V}{s:Sl}(ok:IB K F G H a { M with env:=M.env.set i none } (U.set i (some v)) v s):Rel K F G a { M with env:=M.env.set i (some s) } (U.set i (some v)) H:=by have D:=R.drop i (some v);by_cases b:i<U.length;have:=D.fill (i:=i) (v:=v) (s:=s) (by show(M.env.set i none)[i]?=_;exact uw (by rw[R.ls];exact b)) (uw b) ok;have e:(M.env.set i none).set i (some s)=M.env.set i (some s):=set_set ..;simpa [e] using this;have c:M.env.set i none=M.env:=List.set_eq_of_length_le (by rw[R.ls];lia);have d:M.env.set i (some s)=M.env:=List.set_eq_of_length_le (by rw[R.ls];lia);rw[c] at D;rw[d];exact D
theorem Rel.asg {G0:Hp}{d:List Addr}(R:Rel K F G d M U H){f:Ev}{v:V}{i:Nat}(s:Same G0 G)(h:EvOk K F G d U f v)(e:asg i M f=some M'):∃I,Rel K F I [] M' (U.set i (some v)) H/\Same G0 I:=by
 have g:Rel K F G [] { M with tmp:=[] } U H:=by have:=R.cut 0;simpa using this
 cases f with
 |fz t=>simp only [Lake.asg,V1] at e;subst e;exact⟨G,g.putS i (s:=.fz t) h,s⟩|out k=>simp only [Lake.asg,V1] at e;subst e;exact⟨G,g.putS i (s:=.out k) h,s⟩
 |tmp j=>
  obtain⟨a,h1,rfl⟩:=h;simp only [Lake.asg] at e;cases q:M.tmp[j]? with
  |none=>(rw[q] at e;cases e)
  |some o=>
   rw[q] at e;simp only [Xc,V1] at e;subst e;obtain⟨b,B,C,D⟩:=R.ob (.tmp j) o q;have hb:a=b:=by have n:d[j]?=some b:=B;rw[h1] at n;exact Vq n
   subst hb;have E:F.H0 a=none:=by rcases R.nw (.tmp j) o a q h1 with ⟨k,z⟩|z;cases z;exact z
   refine⟨G,g.putS i (s:=.own o) ⟨a,rfl,C,D,E,fun r u c z=>?_⟩,s⟩;have:aA M r=some u/\adr F d U r=some a/\r ≠ .tmp j:=by cases r with|loc m=>(simp only [aA] at c ⊢;cases l:(M.env.set i none)[m]? with|none=>simp [l] at c|some x=>rw[l] at c;rcases dX l with ⟨_,rfl⟩|⟨J,L⟩;simp at c;rw[L];refine⟨c,?_,fun z=>by cases z⟩;simp only [adr] at z ⊢;rw[uL J] at z;exact z)|out k=>exact⟨c,z,fun z=>by cases z⟩|tmp m=>exact absurd (show([]:List Ob)[m]?=some u from c) (by simp)
   exact this.2.2 (R.ij r (.tmp j) u o a this.1 q this.2.1 h1)
 |loc j=>simp only [Lake.asg] at e;cases q:ed 0 M (.loc j) with|none=>(rw[q] at e;cases e)|some p=>obtain⟨t,w⟩:=p;rw[q] at e;simp only [Xc,V1] at e;subst e;obtain⟨I,y,P,N,O⟩:=R.frz (G0:=G) (t0:=[]) (M0:=⟨[],[],[]⟩) rfl ⟨Same.refl _,d,rfl⟩ h q;have A:w.tmp=[]:=List.eq_nil_of_length_eq_zero y.lt;have R2:=y.putS i (s:=.fz t) (v:=v) O;obtain⟨Q,S,T⟩:=w;simp only at A;subst A;exact⟨I,R2,s.trans N⟩
def AH (i:Nat)(wa:TW):bM:=fun P M=>wa M fun a b=>bnd (asg i b a) P.nx
theorem LS.set {D:a7}:LS X.K F (AH i wa) D U H->nV (LE X.K F wa) (qA i) D U H:=fun⟨G,M,P,R,k,ok⟩=>by refine⟨G,[],M,_,R,k,fun l m n o v a p b c d=>?_⟩;obtain⟨e,f,p⟩:=aO p;obtain⟨h,R2,j⟩:=b.asg c.g d f;exact ok.nx e h _ a p R2 j
def Io (c:cq)(b:bM):bM:=fun P M=>∃W:Nat->Ms->Prop,(∃m,W m M)/\∀m M,W m M->c M fun x e=>if x=true then b { nx:=fun d=>∃a,a<m/\W a d,ct:=fun d=>∃a,a<m/\W a d,bk:=P.nx,rt:=P.rt } e else P.nx e
theorem LS.whl {c:cq}{b:bM}{D:a7}:LS X.K F (Io c b) D U H->CN (LB X.K F c) (LS X.K F b) D U H:=fun⟨G,M,P,R,⟨W,⟨m,w⟩,y⟩,ok⟩=>by refine⟨fun n U H=>∃I M,Rel X.K F I [] M U H/\Same G I/\W n M,⟨m,G,M,R,Same.refl _,w⟩,?_⟩;rintro n l N ⟨z,s,A,i,B⟩;refine⟨z,[],s,_,A,y n s B,fun x t u C p R2 j=>?_⟩;cases x with|true=>refine⟨fun U H=>∃g,g<n/\∃I M,Rel X.K F I [] M U H/\Same G I/\W g M,fun Y H' h=>h,u,t,_,R2,p,fun d e a k Z f s3=>by obtain⟨g,o,q⟩:=Z;exact ⟨g,o,e,d,f,i.trans (j.trans s3),q⟩,fun E d e J a v k r f s3 L=>ok.rt E d e J a v k r f (i.trans (j.trans s3)) L,fun d e a k r f s3=>ok.nx d e a k r f (i.trans (j.trans s3)),fun d e a k V f s3=>by obtain⟨g,o,q⟩:=V;exact ⟨g,o,e,d,f,i.trans (j.trans s3),q⟩⟩|false=>exact ok.nx t u l C p R2 (i.trans j)
end
abbrev SA:=List Sl
abbrev SK:=Sl->List Sl->Prop
abbrev aP:=List Sl->(Sl->List Sl->Prop)->Prop
inductive AOk (K:W.Frag)(G H:Hp):List Sl->List V->List Addr->Prop where
 |nil:AOk K G H [] [] []
 |fz {t:Tv} {ss:List Sl} {v:V} {Z:List V} {as:List Addr} (h:IsT K G v t) (r:AOk K G H ss Z as):AOk K G H (.fz t::ss) (v::Z) as
 |own {o:Ob} {a:Addr} {ss:List Sl} {Z:List V} {as:List Addr} (h:ObOk K G H a o) (hg:G a=none) (r:AOk K G H ss Z as):AOk K G H (.own o::ss) (.ref a::Z) (a::as)
inductive ik (K:W.Frag)(G H:Hp):List Sl->List V->List Sl->Prop where
 |nil:ik K G H [] [] []
 |fz {t:Tv} {s:Sl} {ss jr:List Sl} {v:V} {Z:List V} (r:ik K G H ss Z jr):ik K G H (.fz t::ss) (v::Z) (s::jr)
 |own {o o':Ob} {a:Addr} {ss jr:List Sl} {Z:List V} (h:ObOk K G H a o') (hg:G a=none) (r:ik K G H ss Z jr):ik K G H (.own o::ss) (.ref a::Z) (.own o'::jr)
 |gone {o:Ob} {t:Tv} {a:Addr} {ss jr:List Sl} {Z:List V} (h:IsT K G (.ref a) t) (r:ik K G H ss Z jr):ik K G H (.own o::ss) (.ref a::Z) (.fz t::jr)
def AL (K:W.Frag)(H I H':Hp)(v:V):Sl->Prop
 | .fz t=>IsT K I v t
 | .own o=>∃p,v=.ref p/\H p=none/\ObOk K I H' p o/\I p=none
 | .out _=>False
structure mR (K:W.Frag)(G H:Hp)(as:List Addr)(I H':Hp):Prop where
 g:Same G I
 s:Same I H'
 k:∀a o,H a=some o->a∉as->H' a=some o
 d:∀a o,I a=some o->G a=some o∨H a=none∨a∈as∨k7 o
 t:∀a o,H a=some o->∃o',H' a=some o'
def f6 (K:W.Frag)(a:aP):Sp:=fun Z H Q _=>∃G args as b,Same G H/\AOk K G H args Z as/\as.Nodup/\a args b/\∀r c v I H',b r c->mR K G H as I H'->ik K I H' args Z c->AL K H I H' v r->Q v H'
noncomputable def tI (n:Nat)(M:Ms):Ev->Option (Sl×Option Rf)
 | .fz t=>some (.fz t,none)
 | .loc i=>match M.env[i]? with
  |some (some (.own o))=>some (.own o,some (.loc i))
  |some (some (.fz t))=>some (.fz t,none)
  |_=>none
 | .out k=>match M.out[k]? with
  |some (.own o)=>some (.own o,some (.out k))
  |some (.fz t)=>some (.fz t,none)
  |_=>none
 | .tmp j=>if n<=j then (M.tmp[j]?).map fun o=>(.own o,some (.tmp j)) else none
noncomputable def oy (n:Nat)(M:Ms):List Ev->Option (List (Sl×Option Rf))
 |[]=>some []
 |e::es=>match tI n M e,oy n M es with
  |some a,some r=>some (a::r)
  |_,_=>none
noncomputable def mz (r:Rf):List (Sl×Option Rf)->Bool
 |[]=>true
 | (_,some r')::l => !(r==r')&&mz r l
 | (_,none)::l=>mz r l
noncomputable def k9:List (Sl×Option Rf)->Bool
 |[]=>true
 | (_,some r)::l=>mz r l&&k9 l
 | (_,none)::l=>k9 l
noncomputable def kq (M:Ms):Option Rf->Sl->Ms
 |some (.loc i),s=>{ M with env:=M.env.set i (some s) }
 |some (.out k),s=>{ M with out:=M.out.set k s }
 |_,_=>M
noncomputable def wb (M:Ms):List (Sl×Option Rf)->List Sl->Ms
 | (_,r)::a,s::b=>wb (kq M r s) a b
 |_,_=>M
def qo (n:Nat)(M:Ms)(k:Ev->Ms->Prop):Sl->Prop
 | .fz t=>k (.fz t) { M with tmp:=M.tmp.take n }
 | .own o=>k (.tmp n) { M with tmp:=M.tmp.take n++[o] }
 | .out _=>False
def yI (a:aP)(wr:iJ):TW:=fun M k=>wr M fun c b=>bnd (oy M.tmp.length b c) fun as=>k9 as=true/\a (as.map (·.1)) fun r d=>qo M.tmp.length (wb b as d) k r
variable {psp:aP}
section
variable {Q:List Addr}
theorem zk {r:Option Rf}{s:Sl}:(kq M r s).env.length=M.env.length/\(kq M r s).out.length=M.out.length/\(kq M r s).tmp=M.tmp:=by match r with|none|some (.tmp _)=>exact⟨rfl,rfl,rfl⟩|some (.loc _)=>exact⟨length_set,rfl,rfl⟩|some (.out _)=>exact⟨rfl,length_set,rfl⟩
theorem qP:∀{a:List (Sl×Option Rf)}{b:List Sl}{M:Ms},(wb M a b).tmp=M.tmp
 |[],_,_=>rfl
 |_::_,[],_=>rfl
 | (_,r)::a,s::b,M=>(@qP a b (kq M r s)).trans zk.2.2
theorem zG:∀{a:List (Sl×Option Rf)}{b:List Sl}{M:Ms},(wb M a b).env.length=M.env.length/\(wb M a b).out.length=M.out.length
 |[],_,_=>⟨rfl,rfl⟩
 |_::_,[],_=>⟨rfl,rfl⟩
 | (_,r)::a,s::b,M=>have h:=@zG a b (kq M r s);⟨h.1.trans zk.1,h.2.trans zk.2.1⟩
inductive Wr:List (Sl×Option Rf)->List Sl->Rf->Sl->Prop where
 |hd {x:Sl} {r:Rf} {rs:List (Sl×Option Rf)} {s:Sl} {ss:List Sl}:Wr ((x,some r)::rs) (s::ss) r s
 |tl {x:Sl×Option Rf} {r:Rf} {rs:List (Sl×Option Rf)} {s s':Sl} {ss:List Sl} (h:Wr rs ss r s'):Wr (x::rs) (s::ss) r s'
theorem tS:∀{a:List (Sl×Option Rf)}{b:List Sl}{M:Ms}{i:Nat}{x:Option Sl},a.length=b.length->(wb M a b).env[i]?=some x->(∃s,x=some s/\Wr a b (.loc i) s)∨(M.env[i]?=some x/\∀y,(y,some (.loc i))∉a)
 |[],_,M,i,x,_,h=>.inr ⟨h,fun _ z=>by cases z⟩
 |p::a,[],M,i,x,d,h=>by simp at d
 | (z,r)::a,s::b,M,i,x,d,h=>by
  rcases tS (M:=kq M r s) (by simpa using d) h with ⟨s',e,w⟩|⟨e,n⟩;exact .inl ⟨s',e,.tl w⟩;have c:(r=some (.loc i)/\x=some s)∨(M.env[i]?=some x/\r≠some (.loc i)):=by match r,e with|none,e|some (.tmp _),e|some (.out _),e=>exact .inr ⟨e,fun z=>by cases z⟩|some (.loc m),e=>rcases dX e with ⟨rfl,rfl⟩|⟨f,e⟩;exact .inl ⟨rfl,rfl⟩;exact .inr ⟨e,fun z=>by cases z;exact f rfl⟩
  rcases c with ⟨rfl,rfl⟩|⟨e,c⟩;exact .inl ⟨s,rfl,.hd⟩;exact .inr ⟨e,fun y g=>(Vg.mp g).elim (fun q=>c (by cases q;rfl)) (n y)⟩
theorem yX:∀{a:List (Sl×Option Rf)}{b:List Sl}{M:Ms}{i:Nat}{x:Sl},a.length=b.length->(wb M a b).out[i]?=some x->Wr a b (.out i) x∨(M.out[i]?=some x/\∀y,(y,some (.out i))∉a)
 |[],_,M,i,x,_,h=>.inr ⟨h,fun _ z=>by cases z⟩
 |p::a,[],M,i,x,d,h=>by simp at d
 | (z,r)::a,s::b,M,i,x,d,h=>by
  rcases yX (M:=kq M r s) (by simpa using d) h with w|⟨e,n⟩;exact .inl (.tl w);have c:(r=some (.out i)/\x=s)∨(M.out[i]?=some x/\r≠some (.out i)):=by match r,e with|none,e|some (.tmp _),e|some (.loc _),e=>exact .inr ⟨e,fun z=>by cases z⟩|some (.out m),e=>rcases dX e with ⟨rfl,rfl⟩|⟨f,e⟩;exact .inl ⟨rfl,rfl⟩;exact .inr ⟨e,fun z=>by cases z;exact f rfl⟩
  rcases c with ⟨rfl,rfl⟩|⟨e,c⟩;exact .inl .hd;exact .inr ⟨e,fun y g=>(Vg.mp g).elim (fun q=>c (by cases q;rfl)) (n y)⟩
inductive RAs (F:Fr)(Q:List Addr)(U:St)(M:Ms):List (Sl×Option Rf)->List V->List Addr->Prop where
 |nil:RAs F Q U M [] [] []
 |fz {t:Tv} {rs:List (Sl×Option Rf)} {v:V} {Z:List V} {as:List Addr} (r:RAs F Q U M rs Z as):RAs F Q U M ((.fz t,none)::rs) (v::Z) as
 |own {o:Ob} {x:Rf} {a:Addr} {rs:List (Sl×Option Rf)} {Z:List V} {as:List Addr} (ho:aA M x=some o) (ha:adr F Q U x=some a) (r:RAs F Q U M rs Z as):RAs F Q U M ((.own o,some x)::rs) (.ref a::Z) (a::as)
theorem RAs.mem {b:List (Sl×Option Rf)}(h:RAs F Q U M b Z as):∀a∈as,∃y x o,(y,some x)∈b/\aA M x=some o/\adr F Q U x=some a:=by induction h with|nil=>(intro a h;cases h)|fz r c=>(intro a h;obtain⟨y,x,o,h1,d⟩:=c a h;exact⟨y,x,o,Vb _ h1,d⟩)| @own o x g b Z as e f r c=>intro a h;rcases Vg.mp h with rfl|h;exact⟨_,x,o,Vc,e,f⟩;obtain⟨y,x,o,h1,d⟩:=c a h;exact⟨y,x,o,Vb _ h1,d⟩
theorem RAs.wr {c:List (Sl×Option Rf)}(h:RAs F Q U M c Z as):∀{d:List Sl},ik K G H (c.map (·.1)) Z d->∀{x:Rf}{s:Sl},Wr c d x s →∃o a,aA M x=some o/\adr F Q U x=some a/\((∃o',s=.own o'/\ObOk K G H a o'/\G a=none)∨∃t,s=.fz t/\IsT K G (.ref a) t):=by induction h with|nil=>(intro d b x s w;cases w)| @fz t c v Z as r e=>(intro d b x s w;cases b with|fz b=>cases w with|tl w=>exact e b w)| @own o y a c Z as f g r e=>intro d b x s w;cases b with|own h1 i b=>(cases w with|hd=>exact⟨o,a,f,g,.inl ⟨_,rfl,h1,i⟩⟩|tl w=>exact e b w)|gone h1 b=>cases w with|hd=>exact⟨o,a,f,g,.inr ⟨_,rfl,h1⟩⟩|tl w=>exact e b w
theorem RAs.len {d:List (Sl×Option Rf)}(h:RAs F Q U M d Z as):∀{b:List Sl},ik K G H (d.map (·.1)) Z b->d.length=b.length:=by
 induction h with
 |nil=>(intro b a;cases a;rfl)|fz r c=>(intro b a;cases a with|fz a=>simp [c a])
 |own e f r c=>intro b a;cases a with
  |own _ _ a=>simp [c a]
  |gone _ a=>simp [c a]
theorem Rel.back {t0 l:List Addr}(R:Rel K F G (t0++l) M U H){f:List (Sl×Option Rf)}{Z:List V}{as:List Addr}{C:List Sl}(E:RAs F (t0++l) U M f Z as)(L:ik K I H' (f.map (·.1)) Z C)(p:mR K G H as I H')(tm:∀y j,(y,some (Rf.tmp j))∈f->t0.length<=j):Rel K F I t0 { wb M f C with tmp:=M.tmp.take t0.length } U H'/\∀r o a,aA { wb M f C with tmp:=M.tmp.take t0.length } r=some o->adr F t0 U r=some a->∃x,H a=some x:=by
 have N:=E.len L;have X:∀a∈as,(a∈F.ao∨F.H0 a=none)/\∃o,H a=some o:=fun a S=>by obtain⟨y,x,o,_,c,A⟩:=E.mem a S;obtain⟨b,B,D,P⟩:=R.ob x o c;rw[A] at B;cases B;refine⟨?_,D.some⟩;rcases R.nw x o a c A with ⟨k,rfl⟩|z;exact .inl (VF (show F.ao[k]?=some a from A));exact .inr z
 have up:∀r o,aA { wb M f C with tmp:=M.tmp.take t0.length } r=some o->(adr F t0 U r=adr F (t0++l) U r)/\((∃s,Wr f C r s/\s=.own o)∨(aA M r=some o/\∀y,(y,some r)∉f∨∃j,r=.tmp j/\j<t0.length)):=fun r o h=>by
  cases r with
  |loc i=>
   refine⟨rfl,?_⟩;simp only [aA] at h ⊢;cases q:(wb M f C).env[i]? with
   |none=>simp [q] at h
   |some x=>
    rw[q] at h;rcases tS N q with ⟨s,rfl,w⟩|⟨e,n⟩;cases s with|own u=>simp [bt] at h;subst h;exact .inl ⟨_,w,rfl⟩|fz t=>simp [bt] at h|out k=>simp [bt] at h
    exact .inr ⟨by rw[e];exact h,fun y=>.inl (n y)⟩
  |out k=>
   refine⟨rfl,?_⟩;simp only [aA] at h ⊢;cases q:(wb M f C).out[k]? with
   |none=>simp [q] at h
   |some x=>
    rw[q] at h;rcases yX N q with w|⟨e,n⟩;cases x with|own u=>simp [bt] at h;subst h;exact .inl ⟨_,w,rfl⟩|fz t=>simp [bt] at h|out k=>simp [bt] at h
    exact .inr ⟨by rw[e];exact h,fun y=>.inl (n y)⟩
  |tmp j=>
   have h':(M.tmp.take t0.length)[j]?=some o:=h;rw[Xe] at h';split at h'
   .next T=>exact⟨by show t0[j]?=(t0++l)[j]?;rw[Vy T],.inr ⟨h',fun y=>.inr ⟨j,rfl,T⟩⟩⟩
   cases h'
 have Q:∀r o,aA { wb M f C with tmp:=M.tmp.take t0.length } r=some o->∃m,aA M r=some m:=fun r o h=>by rcases(up r o h).2 with ⟨s,w,_⟩|⟨h1,_⟩;obtain⟨m,_,h1,_⟩:=E.wr L w;exact⟨m,h1⟩;exact⟨o,h1⟩
 have vV:∀y j,(y,some (Rf.tmp j))∈f->t0.length<=j:=tm;have pF:∀r o a,aA M r=some o->adr F (t0++l) U r=some a->(∀y,(y,some r)∉f∨∃j,r=.tmp j/\j<t0.length)->a∉as:=fun r o a h1 c A S=>by obtain⟨y,x,o',B,D,P⟩:=E.mem a S;have:=R.ij r x o o' a h1 D c P;subst this;rcases A y with z|⟨j,rfl,T⟩;exact z B;have:=vV y j B;lia
 refine⟨?_,fun r o a h e=>by
  obtain⟨m,h0⟩:=Q r o h;rw[(up r o h).1] at e;obtain⟨b,B,D,_⟩:=R.ob r m h0;rw[e] at B;cases B
  exact D.some⟩
 refine⟨p.s,R.g0.trans p.g,fun a o h1 c=>?_,fun a o h=>?_,fun a h=>?_,by show(wb M f C).env.length=_;rw[zG.1];exact R.ls,by show(wb M f C).out.length=_;rw[zG.2];exact R.lo,?_,fun i t h=>?_,fun i k h=>?_,fun k t h=>?_,fun r o h=>?_,fun r r' o o' a h h' e Y=>?_,fun r o a h e=>?_⟩;refine p.k a o (R.fra a o h1 c) fun z=>?_;rcases(X a z).1 with q|q;exact c q;rw[h1] at q;cases q;rcases p.d a o h with z|z|z|z;exact R.gd a o z;exact .inr (.inl (R.new z).1);rcases(X a z).1 with q|q;exact .inr (.inr (.inl q));exact .inr (.inl q);exact .inr (.inr (.inr z));obtain⟨o,e⟩:=R.pr a h;exact p.t a o e;show(M.tmp.take t0.length).length=_;rw[VU,R.lt,U9];lia;rcases tS N h with ⟨s,e,w⟩|⟨e,_⟩;cases e;obtain⟨m,a,h1,c,A|⟨t',A,J⟩⟩:=E.wr L w;obtain⟨_,z,_⟩:=A;cases z;cases A;refine⟨.ref a,?_,J⟩;simp only [adr] at c;cases q:U[i]? with|none=>simp [q] at c|some x=>cases x with|none=>simp [q] at c|some v=>cases v <;> simp [q,j4] at c;subst c;rfl
 obtain⟨v,h1,c⟩:=R.fz i t e;exact⟨v,h1,c.mono p.g⟩;rcases tS N h with ⟨s,e,w⟩|⟨e,_⟩;cases e;obtain⟨m,a,h1,c,⟨_,z,_⟩|⟨t',z,J⟩⟩:=E.wr L w;cases z;cases z;exact R.al i k e;rcases yX N h with w|⟨e,_⟩;obtain⟨m,a,h1,c,⟨_,z,_⟩|⟨t',z,J⟩⟩:=E.wr L w;cases z;cases z;exact⟨a,c,J⟩;obtain⟨a,h1,c⟩:=R.fo k t e;exact⟨a,h1,c.mono p.g⟩;obtain⟨u1,u2⟩:=up r o h;rw[u1];rcases u2 with ⟨s,w,rfl⟩|⟨h1,c⟩;obtain⟨m,a,h1,c,⟨o',z,A,J⟩|⟨t',z,J⟩⟩:=E.wr L w;cases z;exact⟨a,c,A,J⟩;cases z;obtain⟨a,B,D,P⟩:=R.ob r o h1;have W:=pF r o a h1 B c;obtain⟨x,O⟩:=D.some;refine⟨a,B,D.mono p.g ((p.k a x O W).trans O.symm),?_⟩;cases q:I a with|none=>rfl|some y=>rcases p.d a y q with z|z|z|z;rw[P] at z;cases z;rw[O] at z;cases z;exact absurd z W;have q2:=p.s a y q;rw[p.k a x O W] at q2;cases q2;exact absurd z (D.notup O)
 obtain⟨m,h0⟩:=Q r o h;obtain⟨o1,h1⟩:=Q r' o' h';rw[(up r o h).1] at e;rw[(up r' o' h').1] at Y;exact R.ij r r' m o1 a h0 h1 e Y;obtain⟨m,h0⟩:=Q r o h;rw[(up r o h).1] at e;exact R.nw r m a h0 e
theorem Rel.pushAt (R:Rel K F G Q M U H){p:Addr}{o:Ob}(h:ObOk K G H p o)(q:G p=none)(n1:F.H0 p=none)(m:∀r u a,aA M r=some u->adr F Q U r=some a->a≠p):Rel K F G (Q++[p]) { M with tmp:=M.tmp++[o] } U H:=by
 have up:∀r u,aA { M with tmp:=M.tmp++[o] } r=some u->(aA M r=some u/\adr F (Q++[p]) U r=adr F Q U r)∨(r=.tmp Q.length/\u=o/\adr F (Q++[p]) U r=some p):=fun r u h=>by
  cases r with
  |loc i=>exact .inl ⟨h,rfl⟩|out k=>exact .inl ⟨h,rfl⟩
  |tmp j=>
   have h':(M.tmp++[o])[j]?=some u:=h;rcases Wm j M.tmp.length with f|f;rw[Vy f] at h';exact .inl ⟨h',by show(Q++[p])[j]?=_;rw[Vy (by rw[<- R.lt];exact f)];rfl⟩;rw[Vn f] at h';have s:j-M.tmp.length=0:=by have:=(U7.mp h').1;simp at this;lia
   rw[s] at h';simp at h';have n:j=Q.length:=by rw[<- R.lt];lia
   exact .inr ⟨by rw[n],h'.symm,by show(Q++[p])[j]?=_;rw[n,Vn (U5 _)];simp⟩
 refine⟨R.sub,R.g0,R.fra,R.gd,R.pr,R.ls,R.lo,by show(M.tmp++[o]).length=_;rw[U9,U9,R.lt];rfl,R.fz,R.al,R.fo,fun r u h=>?_,fun r r' u g a h h' e c=>?_,fun r u a h e=>?_⟩;rcases up r u h with ⟨h1,b⟩|⟨rfl,rfl,b⟩;rw[b];exact R.ob r u h1;rw[b];exact⟨p,rfl,‹_›,q⟩;rcases up r u h with ⟨h1,b⟩|⟨rfl,rfl,b⟩;rcases up r' g h' with ⟨l,d⟩|⟨rfl,rfl,d⟩;rw[b] at e;rw[d] at c;exact R.ij r r' u g a h1 l e c;rw[b] at e;rw[d] at c;cases c;exact absurd rfl (m r u p h1 e);rcases up r' g h' with ⟨l,d⟩|⟨rfl,_,d⟩;rw[b] at e;rw[d] at c;cases e;exact absurd rfl (m r' g p l c);rfl;rcases up r u h with ⟨h1,b⟩|⟨rfl,rfl,b⟩;rw[b] at e;exact R.nw r u a h1 e;rw[b] at e;cases e;exact .inr n1
theorem uE {r:Rf}:∀{l:List (Sl×Option Rf)},mz r l=true->∀y,(y,some r)∉l
 |[],_,_,h=>by cases h
 | (x,none)::l,a,y,h=>by simp only [mz] at a;rcases Vg.mp h with q|q;cases q;exact uE a y q
 | (x,some r')::l,a,y,h=>by simp only [mz,U1,Wi,V5] at a;rcases Vg.mp h with q|q;cases q;exact a.1 rfl;exact uE a.2 y q
theorem Rel.args {n:Nat}(R:Rel K F G Q M U H):∀{l:List Ev}{Z:List V}{f:List (Sl×Option Rf)},d4 K F G Q U l Z->oy n M l=some f->k9 f=true →∃as,RAs F Q U M f Z as/\AOk K G H (f.map (·.1)) Z as/\as.Nodup/\∀y j,(y,some (Rf.tmp j))∈f->n<=j:=by
 intro l;induction l with
 |nil=>(intro Z f h e _;cases h;cases e;exact⟨[],.nil,.nil,.nil,fun _ _ z=>by cases z⟩)
 |cons E l I=>
  intro Z f h e ok;cases h with| @cons _ _ v Z h1 J=>
  simp only [oy] at e;split at e
  .next a r d er=>
   cases e;have lift:∀(D:k9 r=true),_:=fun D=>I J er D;have p:∀t,a=(.fz t,none)->IsT K G v t->∃as,RAs F Q U M (a::r) (v::Z) as/\AOk K G H ((a::r).map (·.1)) (v::Z) as/\as.Nodup/\∀y j,(y,some (Rf.tmp j))∈a::r->n<=j:=fun t q L=>by subst q;obtain⟨as,g1,g2,s,u⟩:=lift ok;exact⟨as,.fz g1,.fz L g2,s,fun y j z=>(Vg.mp z).elim (fun q=>by cases q) (u y j)⟩
   have w:∀o x b,a=(.own o,some x)->v=.ref b->aA M x=some o->adr F Q U x=some b->(∀j,x=.tmp j->n<=j)->∃as,RAs F Q U M (a::r) (v::Z) as/\AOk K G H ((a::r).map (·.1)) (v::Z) as/\as.Nodup/\∀y j,(y,some (Rf.tmp j))∈a::r->n<=j:=fun o x b q N A hb B=>by subst q;subst N;simp only [k9,U1] at ok;obtain⟨as,g1,g2,s,u⟩:=lift ok.2;obtain⟨c,k1,k2,k3⟩:=R.ob x o A;rw[hb] at k1;cases k1;refine⟨b::as,.own A hb g1,.own k2 k3 g2,nodup_cons.mpr ⟨fun z=>?_,s⟩,fun y j z=>(Vg.mp z).elim (fun q=>by cases q;exact B j rfl) (u y j)⟩;obtain⟨y,O,o',m1,m2,m3⟩:=g1.mem b z;have:=R.ij x O o o' b A m2 hb m3;subst this;exact uE ok.1 y m1
   cases E with
   |fz t=>(cases d;exact p t rfl h1)
   |loc i=>
    obtain⟨g,b,rfl⟩:=h1;simp only [tI] at d;split at d
    .next o q=>cases d;exact w o _ b rfl rfl (by simp [aA,q,bt]) (by simp [adr,g,j4]) fun j z=>by cases z
    .next t q=>
     cases d;obtain⟨P,m,C⟩:=R.fz i t q;rw[g] at m;cases m;exact p t rfl C
    cases d
   |out k=>
    obtain⟨b,g,rfl⟩:=h1;simp only [tI] at d;split at d
    .next o q=>cases d;exact w o _ b rfl rfl (by simp [aA,q,bt]) g fun j z=>by cases z
    .next t q=>
     cases d;obtain⟨S,m,C⟩:=R.fo k t q;rw[g] at m;cases m;exact p t rfl C
    cases d
   |tmp j=>
    obtain⟨b,g,rfl⟩:=h1;simp only [tI] at d;split at d
    .next B=>
     cases q:M.tmp[j]? with|none=>(rw[q] at d;cases d)|some o=>rw[q] at d;cases d;exact w o _ b rfl rfl q g fun T z=>by cases z;exact B
    cases d
  cases e
theorem LE.call {wr:iJ}{a0:VK}{E:XK}:LE X.K F (yI psp wr) U H a0->Cz (f6 X.K psp) [] E (LA X.K F wr) U H a0:=fun Y=>by
 obtain⟨G,Q,M,P,R,k,q⟩:=Y
 refine⟨G,Q,M,_,R,k,fun S f s T Z V k1 b c d=>?_⟩;obtain⟨w,h1,ok,k1⟩:=aO k1;obtain⟨as,g1,g2,y,h⟩:=b.args d h1 ok;rw[Vk];refine⟨s,_,as,_,b.sub,g2,y,k1,fun r A v I H' k2 p C i=>?_⟩;obtain⟨l,rfl⟩:=c.t;have e:=R.lt;rw[e] at h k2;have B:=b.back g1 C p h;cases r with
 |fz t=>exact q _ _ I Q v H' k2 (by rw[qP];exact B.1) ⟨c.g.trans p.g,[],by simp⟩ i
 |own o=>
  obtain⟨a,rfl,m,D,J⟩:=i;have n1:=b.new m;have L:Rel X.K F I (Q++[a]) { wb f w A with tmp:=f.tmp.take Q.length++[o] } U H':=B.1.pushAt D J n1.1 fun r u N d O z=>by obtain⟨x,n⟩:=B.2 r u N d O;rw[z,m] at n;cases n
  refine q _ _ I (Q++[a]) _ H' k2 (by rw[qP];exact L) ⟨c.g.trans p.g,[a],rfl⟩ ⟨a,?_,rfl⟩;rw[Vn (U5 _)];simp
 |out j=>exact k2.elim
end
noncomputable def gI:Nat->List Sl->List (Option Sl)
 |_,[]=>[]
 |k,.own _::r=>some (.out k)::gI (k+1) r
 |k,s::r=>some s::gI k r
noncomputable def jf:List Sl->List Sl
 |[]=>[]
 | .own o::r=>.own o::jf r
 |_::r=>jf r
def entry (n:Nat)(args:List Sl):Ms:=⟨gI 0 args++List.replicate (n-args.length) none,jf args,[]⟩
noncomputable def fh:List Sl->List Sl->Option (List Sl)
 |[],_=>some []
 | .own _::r,.own o::os=>(fh r os).map (.own o :: ·)
 | .own _::r,.fz t::os=>(fh r os).map (.fz t :: ·)
 | .own _::_,_=>none
 | .fz t::r,os=>(fh r os).map (.fz t :: ·)
 | .out _::_,_=>none
noncomputable def A2 (M:Ms)(i:Nat):Option Sl:=match M.env[i]? with
 |some (some (.own o))=>some (.own o)
 |some (some (.fz t))=>some (.fz t)
 |_=>none
def tH (M:Ms):Ev->Option Sl
 | .fz t=>some (.fz t)
 | .tmp j=>(M.tmp[j]?).map .own
 | .loc i=>A2 M i
 | .out _=>none
def a9 (args:List Sl)(k:Sl->List Sl->Prop):PD where
 nx:=fun M=>bnd (fh args M.out) fun ss=>k (.fz (.at .non)) ss
 rt:=fun ev M=>bnd (fh args M.out) fun ss=>bnd (tH M ev) fun r=>k r ss
section
variable {Q:List Addr}
theorem AOk.len {args:List Sl}(h:AOk K G H args Z as):Z.length=args.length:=by induction h with|nil=>rfl|fz _ _ a=>simp [a]|own _ _ _ a=>simp [a]
theorem uu:∀{k:Nat}{args:List Sl},(gI k args).length=args.length
 |_,[]=>rfl
 |k,.own _::r=>by simp [gI,@uu (k+1) r]
 |k,.fz _::r=>by simp [gI,@uu k r]
 |k,.out _::r=>by simp [gI,@uu k r]
theorem AOk.ent {args:List Sl}(h:AOk K G H args Z as):∀(k i:Nat)(s:Sl),(gI k args)[i]?=some (some s)->∃v,Z[i]?=some v/\((∃t,s=.fz t/\IsT K G v t)∨∃j a,s=.out (k+j)/\as[j]?=some a/\v=.ref a):=by induction h with|nil=>(intro k i s h;simp [gI] at h)| @fz t c v Z as d r b=>(intro k i s h;cases i with|zero=>simp [gI] at h;subst h;exact⟨v,rfl,.inl ⟨t,rfl,d⟩⟩|succ i=>simp [gI] at h;simpa using b k i s h)| @own o a c Z as h1 m r b=>intro k i s h;cases i with|zero=>simp [gI] at h;subst h;exact⟨_,rfl,.inr ⟨0,a,rfl,rfl,rfl⟩⟩|succ i=>simp [gI] at h;obtain⟨v,e,z⟩:=b (k+1) i s h;refine⟨v,by simpa using e,?_⟩;rcases z with z|⟨j,f,rfl,g,l⟩;exact .inl z;exact .inr ⟨j+1,f,by congr 1;lia,by simpa using g,l⟩
theorem AOk.outs {args:List Sl}(h:AOk K G H args Z as):(jf args).length=as.length/\∀(k:Nat)(s:Sl),(jf args)[k]?=some s->∃o a,s=.own o/\as[k]?=some a/\ObOk K G H a o/\G a=none:=by induction h with|nil=>exact⟨rfl,fun k s h=>by simp [jf] at h⟩|fz _ _ b=>exact b| @own o a d Z as h1 c r b=>refine⟨by simp [jf,b.1],fun k s h=>?_⟩;cases k with|zero=>simp [jf] at h;exact⟨o,a,h.symm,rfl,h1,c⟩|succ k=>simp [jf] at h;simpa using b.2 k s h
theorem SS {l:List (Option J)}{n:Nat}{s:J}(h:(l++List.replicate n none)[i]?=some (some s)):l[i]?=some (some s):=by rcases Wm i l.length with a|a;rw[Vy a] at h;exact h;rw[Vn a,List.getElem?_replicate] at h;split at h <;> cases h
theorem zW {N:List Str}{args:List Sl}(s:Same G H)(h:AOk K G H args Z as)(nd:as.Nodup)(I:args.length<=N.length):Rel K ⟨H,G,as⟩ G [] (entry N.length args) (dO N Z) H:=by
 have J:=h.len;have slot:∀(i:Nat)(f:Sl),(entry N.length args).env[i]?=some (some f)->∃v,(dO N Z)[i]?=some (some v)/\((∃t,f=.fz t/\IsT K G v t)∨∃j a,f=.out (0+j)/\as[j]?=some a/\v=.ref a):=fun i f e=>by obtain⟨v,c,d⟩:=h.ent 0 i f (SS e);refine⟨v,?_,d⟩;unfold dO;rw[Vy (by rw[U6];exact(U7.mp c).1),Vl,c];rfl
 have ob:∀r o,aA (entry N.length args) r=some o->∃k,r=.out k/\(jf args)[k]?=some (.own o):=fun r o e=>by cases r with|loc i=>(simp only [aA] at e;cases q:(entry N.length args).env[i]? with|none=>simp [q] at e|some x=>cases x with|none=>simp [q] at e|some f=>rw[q] at e;obtain⟨v,_,⟨t,rfl,_⟩|⟨j,a,rfl,_⟩⟩:=slot i f q;simp [bt] at e;simp [bt] at e)|out k=>(simp only [aA] at e;cases q:(entry N.length args).out[k]? with|none=>simp [q] at e|some x=>rw[q] at e;cases x with|own u=>simp [bt] at e;subst e;exact⟨k,rfl,q⟩|fz t=>simp [bt] at e|out k=>simp [bt] at e)|tmp j=>exact absurd (show([]:List Ob)[j]?=some o from e) (by simp)
 refine⟨s,Same.refl _,fun a o h1 _=>h1,fun a o h1=>.inl h1,fun a w=>?_,?_,h.outs.1,rfl,fun i t e=>?_,fun i k e=>?_,fun k t e=>?_,fun r o e=>?_,fun r r' o o' a e y l A=>?_,fun r o a e l=>?_⟩;obtain⟨k,m⟩:=List.getElem?_of_mem w;have B:k<(jf args).length:=by rw[h.outs.1];exact(U7.mp m).1
 obtain⟨o,b,_,d,g,_⟩:=h.outs.2 k _ (U4 B);have n:as[k]?=some b:=d;have C:as[k]?=some a:=m;rw[C] at n;cases n;exact g.some;show(gI 0 args++_).length=(dO N Z).length;unfold dO;simp only [U9,U6,List.length_replicate,uu];lia;obtain⟨v,c,⟨t',z,d⟩|⟨j,a,z,_⟩⟩:=slot i _ e;cases z;exact⟨v,c,d⟩;cases z;obtain⟨v,c,⟨t',z,d⟩|⟨j,a,z,g,rfl⟩⟩:=slot i _ e;cases z;cases z;exact⟨a,by show as[0+j]?=_;rw[Nat.zero_add];exact g,c⟩;obtain⟨o,a,z,_⟩:=h.outs.2 k _ e;cases z;obtain⟨k,rfl,c⟩:=ob r o e;obtain⟨o',a,z,d,g,D⟩:=h.outs.2 k _ c;cases z;exact⟨a,d,g,D⟩;obtain⟨k,rfl,c⟩:=ob r o e;obtain⟨E,rfl,L⟩:=ob r' o' y;have p:as[k]?=some a:=l;have F:as[E]?=some a:=A;have:=(List.getElem?_inj (U7.mp p).1 nd).mp (p.trans F.symm);rw[this];obtain⟨k,rfl,_⟩:=ob r o e;exact .inl ⟨k,rfl⟩
theorem Ou {args:List Sl}(h:AOk K G H args Z as):∀{os d:List Sl}{n:Nat},fh args os=some d->(∀(k:Nat)(s:Sl),os[k]?=some s->∃a,as[k]?=some a/\match s with | .own o=>ObOk K I H' a o/\I a=none | .fz t=>IsT K I (.ref a) t | .out _=>True)->ik K I H' args Z d:=by
 induction h with
 |nil=>(intro os d n e _;cases e;exact .nil)| @fz t c v Z as p r f=>(intro os d n e g;simp only [fh] at e;cases q:fh c os with|none=>(rw[q] at e;cases e)|some x=>rw[q] at e;cases e;exact .fz (f (n:=n) q g))
 | @own o a c Z as h1 u r f=>
  intro os d n e g;cases os with
  |nil=>(cases e)
  |cons s os=>
   have j:∀(k:Nat)(s':Sl),os[k]?=some s'->∃b,as[k]?=some b/\match s' with | .own o=>ObOk K I H' b o/\I b=none | .fz t=>IsT K I (.ref b) t | .out _=>True:=fun k s' l=>by have:=g (k+1) s' (by simpa using l);simpa using this
   obtain⟨b,m,i⟩:=g 0 s rfl;cases m;cases s with|own o'=>(simp only [fh] at e;cases q:fh c os with|none=>(rw[q] at e;cases e)|some x=>rw[q] at e;cases e;exact .own i.1 i.2 (f (n:=n) q j))|fz t=>(simp only [fh] at e;cases q:fh c os with|none=>(rw[q] at e;cases e)|some x=>rw[q] at e;cases e;exact .gone i (f (n:=n) q j))|out k=>cases e
theorem Rel.post (R:Rel K ⟨H,G,as⟩ I Q M U H'):mR K G H as I H':=⟨R.g0,R.sub,R.fra,R.gd,fun a o h=>by
  by_cases b:a∈as
  .exact R.pr a b
  .exact⟨o,R.fra a o h b⟩⟩
theorem Rel.aps {args:List Sl}{d:List Sl}(R:Rel K ⟨H,G,as⟩ I Q M U H')(h:AOk K G H args Z as)(e:fh args M.out=some d):ik K I H' args Z d:=Ou h (n:=0) e fun k s b=>by
 cases s with
 |own o=>(obtain⟨a,h1,c,f⟩:=R.ob (.out k) o (by simp [aA,b,bt]);exact⟨a,h1,c,f⟩)|fz t=>(obtain⟨a,h1,c⟩:=R.fo k t b;exact⟨a,h1,c⟩)
 |out j=>
  have:k<as.length:=by have:=(U7.mp b).1;rw[R.lo] at this;exact this
  exact⟨as[k],U4 this,trivial⟩
theorem Rel.res (R:Rel K ⟨H,G,as⟩ I Q M U H'){c:Ev}{v:V}{r:Sl}(h:EvOk K ⟨H,G,as⟩ I Q U c v)(e:tH M c=some r):AL K H I H' v r:=by
 have own:∀x o a,aA M x=some o->adr ⟨H,G,as⟩ Q U x=some a->(∀k,x ≠ .out k)->AL K H I H' (.ref a) (.own o):=fun x o a h1 d l=>by obtain⟨b,f,m,n⟩:=R.ob x o h1;rw[d] at f;cases f;rcases R.nw x o a h1 d with ⟨k,z⟩|z;exact absurd z (l k);exact⟨a,rfl,z,m,n⟩
 cases c with
 |fz t=>(cases e;exact h)
 |loc i=>
  obtain⟨h1,a,rfl⟩:=h;simp only [tH,A2] at e;split at e
  .next o q=>cases e;exact own (.loc i) o a (by simp [aA,q,bt]) (by simp [adr,h1,j4]) fun k z=>by cases z
  .next t q=>
   cases e;obtain⟨s,g,p⟩:=R.fz i t q;rw[h1] at g;cases g;exact p
  cases e
 |out k=>(cases e)|tmp j=>obtain⟨a,h1,rfl⟩:=h;simp only [tH] at e;cases q:M.tmp[j]? with|none=>(rw[q] at e;cases e)|some o=>rw[q] at e;cases e;exact own (.tmp j) o a q h1 fun k z=>by cases z
end
section
theorem Fun.okW {f:Addr}{N:List Str}{k:Nat}{wb:bM}(F:Fun K x u st f R)(S:aB N ps (aR st))(len:∀args k,psp args k->args.length=ps.length)
  (body:∀(c:Value)(A:Around)(outer:List Env)(s:Shared)(H:Hp)(E:XK)(Fr:Fr),Room k (A.deeper (envOfC u (aR st) s.heap.objs.size f c))->PSs (j2 bX P w K mg base N u (aR st) f c A outer s H E).nox (di st) (LS K Fr wb))
  (h:∀args k,psp args k->wb (a9 args k) (entry N.length args)):FnOk P w K mg base bX (k+1) f R ps (f6 K psp):=by
 have j:ps.length<=N.length:=by have:=V8 List.length S.pre;rw[VU] at this;lia
 refine F.ok S (fun Z H Q E z=>by obtain⟨G,args,as,i,s,b,nd,d,q⟩:=z;rw[b.len,len _ _ d]) fun c A outer s H Z Q E l y=>?_;obtain⟨G,args,as,i,m,b,nd,d,q⟩:=y;refine⟨_,body c A outer s H E ⟨H,G,as⟩ l,G,_,_,zW m b nd (by rw[len _ _ d];exact j),h args i d,?_⟩;refine⟨fun M' I Y H' a R' s'=>?_,fun p M' I cQ Y v H' a R' s' n=>?_,fun M' I Y H' a R' s'=>a.elim,fun M' I Y H' a R' s'=>a.elim⟩
 .obtain⟨e,g,a⟩:=aO a;exact q _ e .non I H' a R'.post (R'.aps b g) (.at rfl)
 .obtain⟨e,g,a⟩:=aO a;obtain⟨r,o,a⟩:=aO a;exact q r e v I H' a R'.post (R'.aps b g) (R'.res n o)
end
inductive Pt where
 |nm (i:Nat)
 |nil
 |cons (a b:Pt)
noncomputable def bd:Pt->Tv->Ms->Option Ms
 | .nm i,t,M=>some { M with env:=M.env.set i (some (.fz t)) }
 | .nil,.tup [],M=>some M
 | .cons a b,.tup (t::ts),M=>(bd a t M).bind fun c=>bd b (.tup ts) c
 | .cons a b,.ktp (t::ts),M=>(bd a t M).bind fun c=>bd b (.tup ts) c
 |_,_,_=>none
inductive LG (K:W.Frag)(F:Fr)(b:Tv->Ms->Option Ms)(v:V)(U:St)(H:Hp)(Q:(St->Hp->Prop)):Prop
 |mk (G M t M':_) (_:Rel K F G [] M U H) (_:IsT K G v t) (_:b t M=some M') (_:∀ Y,Rel K F G [] M' Y H->Q Y H):LG K F b v U H Q
inductive LGs (K:W.Frag)(F:Fr)(b:List Tv->Ms->Option Ms)(Z:List V)(U:St)(H:Hp)(Q:(St->Hp->Prop)):Prop
 |mk (G M ts M':_) (_:Rel K F G [] M U H) (_:IsTs K G Z ts) (_:b ts M=some M') (_:∀ Y,Rel K F G [] M' Y H->Q Y H):LGs K F b Z U H Q
section
theorem PG.imp {t t':TG}(h:PG X e t)(i:∀v U H Q,t' v U H Q->t v U H Q):PG X e t':=fun a s U H v u Q I r q=>h a s U H v u Q I r (i v U H Q q)
theorem PGs.imp {e:List Expr}{t t':lH}(h:PGs X e t)(i:∀v U H Q,t' v U H Q->t v U H Q):PGs X e t':=fun a s U H v u Q I r q=>h a s U H v u Q I r (i v U H Q q)
theorem ND (h:PG X e (qA i)):PG X e (LG X.K F (bd (.nm i))):=h.imp fun v U H Q z=>by obtain⟨G,M,t,M',R,a,e,q⟩:=z;cases e;exact q _ (R.putS i (s:=.fz t) a)
theorem LG.tup {n:Nat}{b:List Tv->Ms->Option Ms}{c:Tv->Ms->Option Ms}(i:∀t M M',c t M=some M'->∃ts,(t=.tup ts∨t=.ktp ts)/\ts.length=n/\b ts M=some M'){v:V}{U:St}{H:Hp}{Q:St->Hp->Prop}:LG X.K F c v U H Q->IL X.K n (LGs X.K F b) v U H Q:=fun y=>by
 obtain⟨G,M,t,M',R,d,e,q⟩:=y
 obtain⟨ts,z,f,g⟩:=i _ _ _ e;rcases z with rfl|rfl;cases d with| @tup a Z _ h r=>exact⟨a,Z,rfl,.of (R.sub _ _ h),by rw[r.len];exact f,G,M,ts,M',R,r,g,q⟩
 cases d with| @ktp a Z _ h r=>exact⟨a,Z,rfl,R.sub.tup h,by rw[r.len];exact f,G,M,ts,M',R,r,g,q⟩
theorem LGs.nil {b:List Tv->Ms->Option Ms}(hb:∀ts M M',b ts M=some M'->ts=[]/\M'=M){Z:List V}{U:St}{H:Hp}{Q:St->Hp->Prop}:LGs X.K F b Z U H Q->qe Z U H Q:=fun z=>by obtain⟨G,M,ts,M',R,a,e,q⟩:=z;obtain⟨rfl,rfl⟩:=hb _ _ _ e;cases a;exact⟨rfl,q U R⟩
theorem LGs.cons {a:Tv->Ms->Option Ms}{b c:List Tv->Ms->Option Ms}(hb:∀ts M M',c ts M=some M'->∃t r d,ts=t::r/\a t M=some d/\b r d=some M'){Z:List V}{U:St}{H:Hp}{Q:St->Hp->Prop}:LGs X.K F c Z U H Q->Cn (LG X.K F a) (LGs X.K F b) Z U H Q:=fun⟨G,M,ts,M',R,f,e,q⟩=>by obtain⟨t,r,d,rfl,g,h⟩:=hb _ _ _ e;cases f with| @cons v Z _ _ h1 i=>exact⟨v,Z,rfl,G,M,t,d,R,h1,g,fun j k=>⟨G,d,r,M',k,i,h,q⟩⟩
structure rF (K:W.Frag)(G:Hp)(J:It)(ts:List Tv):Prop where
 go:∀i I H',Same G I->Same I H'->i<ts.length->J.go i H'
 stop:∀I H',Same G I->Same I H'->J.stop ts.length H'
 yld:∀(i:Nat)(t:Tv) I H' x jq,Same G I->Same I H'->ts[i]?=some t->J.yld i H' x jq->∃gQ,Same I gQ/\Same gQ jq/\Same H' jq/\(∀a o,gQ a=some o->I a=some o∨H' a=none∨k7 o)/\IsT K gQ x t
inductive LI (K:W.Frag)(F:Fr)(w:bG)(U:St)(H:Hp)(R:(It->Hp->Prop)):Prop
 |mk (G ta M K0:_) (_:Rel K F G ta M U H) (_:w M K0) (_:∀ts M' I J H',K0 ts M'->Rel K F I ta M' U H'->Same G I->rF K I J ts->R J H'):LI K F w U H R
theorem PI.imp {t t':TI}(h:PI X S e t)(i:∀ U H Q,t' U H Q->t U H Q):PI X S e t':=fun a s U H R I q=>h a s U H R I (i U H R q)
def AG (K:W.Frag)(tl:TE):TI:=fun U H R=>tl U H fun x b=>∃a,x=.ref a/\(((∃xs,SqL K b a xs)/\R (Jg K a) b)∨((∃xs,SqT K b a xs)/\R (km K a) b))
theorem yW {l:Expr}{tl:TE}(m:PE X l tl):PI X S l (AG X.K tl):=by
 intro j s U H R I h;refine az (m j s U H _ I h) fun v c z=>?_;obtain⟨x,f,d,n,g⟩:=z;obtain⟨a,e,g⟩:=g;subst e;cases n;have fp:∀b ∈ [c.heap.objs.size],cK X j f b:=fun b hb=>by
  have e:b=c.heap.objs.size:=by simpa using hb
  subst e;exact d.fpOk (U5 _) (d.hok.fresh (U5 _))
 rcases g with ⟨⟨xs,i⟩,q⟩|⟨⟨xs,i⟩,q⟩;obtain⟨k,r,p,t⟩:=d.list i;refine wpAny_pyIter_list p.isList ?_;exact⟨c.heap.objs.size,[c.heap.objs.size],_,_,f,rfl,d.kept (t':=c.toks) fun b o e=>U0 _ e,S6 a _,⟨_,U8 _ rfl,rfl,rfl⟩,fp,q⟩;obtain⟨k,r,p,t⟩:=d.tuple i;refine WN (show c.heap.IsTuple a k.toArray from p) ?_;exact⟨c.heap.objs.size,[c.heap.objs.size],_,_,f,rfl,d.kept (t':=c.toks) fun b o e=>U0 _ e,FG a _,⟨_,U8 _ rfl,rfl,rfl⟩,fp,q⟩
noncomputable def Im:Tv->Option (List Tv)
 | .tup l=>some l
 | .lst l=>some l
 | .ktp l=>some l
 |_=>none
def vR (wa:TW):bG:=fun M k=>wa M fun a b=>j7 (ed M.tmp.length b a) fun t c=>bnd (Im t) fun ts=>k ts c
theorem LI.seq {R:It->Hp->Prop}:LI X.K F (vR wa) U H R->AG X.K (LE X.K F wa) U H R:=fun⟨G,B,M,N,y,k,q⟩=>by refine⟨G,B,M,_,y,k,fun O P Q S v p k1 C D E=>?_⟩;obtain⟨t,T,J,k1⟩:=jD k1;obtain⟨ts,l,k1⟩:=aO k1;obtain⟨s,R2,w,V,L⟩:=C.frz y.lt D E J;cases L with| «at» f =>( cases l)|dic h r=>(cases l)|scr h r=>(cases l)|fnv=>(cases l)| @ktp a Z _ h r=>(cases l;refine⟨a,rfl,.inr ⟨⟨Z,R2.sub.tup h⟩,q _ _ s _ p k1 R2 w.g ⟨fun i I H' b c m=>?_,fun I H' b c=>⟨Z,(b.trans c).tup h,by rw[r.len];exact U5 _⟩,fun i u I H' x z b c n d=>?_⟩⟩⟩;obtain⟨x,j,_⟩:=r.get (U4 m);exact⟨Z,x,(b.trans c).tup h,j⟩;obtain⟨rfl,d⟩:=d;obtain⟨A,j,o⟩:=r.get n;have:=d Z ((b.trans c).tup h);rw[j] at this;cases this;exact⟨I,Same.refl _,c,Same.refl _,fun _ _ e=>.inl e,o.mono b⟩)| @tup a Z _ h r=>(cases l;refine⟨a,rfl,.inr ⟨⟨Z,SqT.of (R2.sub _ _ h)⟩,q _ _ s _ p k1 R2 w.g ⟨fun i I H' b c m=>?_,fun I H' b c=>⟨Z,SqT.of ((b.trans c) _ _ h),by rw[r.len];exact U5 _⟩,fun i u I H' x z b c n d=>?_⟩⟩⟩;obtain⟨x,j,_⟩:=r.get (U4 m);exact⟨Z,x,SqT.of ((b.trans c) _ _ h),j⟩;obtain⟨rfl,d⟩:=d;obtain⟨A,j,o⟩:=r.get n;have:=d Z (SqT.of ((b.trans c) _ _ h));rw[j] at this;cases this;exact⟨I,Same.refl _,c,Same.refl _,fun _ _ e=>.inl e,o.mono b⟩)| @lst a Z _ h r=>cases l;refine⟨a,rfl,.inl ⟨⟨Z,SqL.of (R2.sub _ _ h)⟩,q _ _ s _ p k1 R2 w.g ⟨fun i I H' b c m=>?_,fun I H' b c=>⟨Z,SqL.of ((b.trans c) _ _ h),by rw[r.len];exact U5 _⟩,fun i u I H' x z b c n d=>?_⟩⟩⟩;obtain⟨x,j,_⟩:=r.get (U4 m);exact⟨Z,x,SqL.of ((b.trans c) _ _ h),j⟩;obtain⟨rfl,d⟩:=d;obtain⟨A,j,o⟩:=r.get n;have:=d Z (SqL.of ((b.trans c) _ _ h));rw[j] at this;cases this;exact⟨I,Same.refl _,c,Same.refl _,fun _ _ e=>.inl e,o.mono b⟩
def cN (p:Tv->Ms->Option Ms)(b:bM)(P:PD):List Tv->Ms->Prop
 |[],M=>P.nx M
 |t::ts,M=>bnd (p t M) fun a=>b { nx:=cN p b P ts,ct:=cN p b P ts,bk:=P.nx,rt:=P.rt } a
def Il (a:bG)(p:Tv->Ms->Option Ms)(b:bM):bM:=fun P M=>a M fun ts c=>cN p b P ts c
theorem zJ {l:List J}{x:J}(h:l[i]?=some x):l.drop i=x::l.drop (i+1):=by have a:=(U7.mp h).1;rw[drop_eq_getElem_cons a];congr 1;exact(U7.mp h).2
theorem LS.for {y:bG}{p:Tv->Ms->Option Ms}{b:bM}{D:a7}:LS X.K F (Il y p b) D U H->IJ (LI X.K F y) (LG X.K F p) (LS X.K F b) D U H:=fun z0=>by
 obtain⟨G,M,P,R,k,ok⟩:=z0
 refine⟨G,[],M,_,R,k,fun ts L r J H1 k1 N s t=>?_⟩;refine⟨fun i m U H=>m+i=ts.length/\∃I M,Rel X.K F I [] M U H/\Same r I/\cN p b P (ts.drop i) M,⟨ts.length,by lia,r,L,N,Same.refl _,k1⟩,?_⟩;rintro i m u n ⟨hm,o,z,R2,c,k2⟩;rcases Wm i ts.length with q|q;right;refine⟨t.go i o n c R2.sub q,fun Y H'=>∃A,A<m/\A+(i+1)=ts.length/\∃I M,Rel X.K F I [] M Y H'/\Same r I/\cN p b P (ts.drop (i+1)) M,fun Y H' h=>h,fun x H' O=>?_⟩;have B:=U4 q;obtain⟨C,j,Q,S,T,V⟩:=t.yld i _ o n x H' c R2.sub B O;have W:=R2.more j Q S T;rw[zJ B] at k2;obtain⟨E,Z,k2⟩:=aO k2;refine⟨C,z,_,E,W,V,Z,fun σ4 R4=>⟨C,E,_,R4,k2,fun d e a l k5 f g=>?_,fun ev d e t5 a v l k5 f g e5=>ok.rt ev d e t5 a v l k5 f (s.trans (c.trans (j.trans g))) e5,fun d e a l k5 f g=>ok.nx d e a l k5 f (s.trans (c.trans (j.trans g))),fun d e a l k5 f g=>?_⟩⟩;exact⟨m-1,by lia,by lia,e,d,f,c.trans (j.trans g),k5⟩;exact⟨m-1,by lia,by lia,e,d,f,c.trans (j.trans g),k5⟩;left;rw[WX q] at k2;have w:i=ts.length:=by lia
 subst w;exact⟨t.stop o n c R2.sub,ok.nx z o u n k2 R2 (s.trans c)⟩
def Ik (p:Tv->Ms->Option Ms)(wa:TW):bM:=fun P M=>wa M fun a b=>j7 (ed 0 b a) fun t c=>bnd (p t c) P.nx
theorem LS.asgP {p:Tv->Ms->Option Ms}{D:a7}:LS X.K F (Ik p wa) D U H->nV (LE X.K F wa) (LG X.K F p) D U H:=fun z=>by
 obtain⟨G,M,P,R,k,ok⟩:=z
 refine⟨G,[],M,_,R,k,fun d e r s v f k1 h i j=>?_⟩;obtain⟨t,a,l,k1⟩:=jD k1;obtain⟨b,m,k1⟩:=aO k1;have n:ed M.tmp.length e d=some (t,a):=by rw[R.lt];exact l
 obtain⟨c,R2,o,u,q⟩:=h.frz R.lt i j n;exact⟨c,a,t,b,R2,q,m,fun Y R'=>ok.nx b c Y f k1 R' o.g⟩
end
def bo (p:Tv->Ms->Option Ms)(c:cq)(d:TW)(k:List Tv->Ms->Prop):List Tv->List Tv->Ms->Prop
 |[],a,M=>k a M
 |t::ts,a,M=>bnd (p t M) fun f=>c f fun b e=>if b=true then d e fun g h=>j7 (ed 0 h g) fun y i=>bo p c d k ts (a++[y]) i else bo p c d k ts a e
noncomputable def qO (M:Ms):List Nat->Option (List Ev)
 |[]=>some []
 |i::r=>match j9 M i,qO M r with
  |some e,some es=>some (e::es)
  |_,_=>none
def yx (ak:List Nat)(own:Nat)(c:bG)(p:Tv->Ms->Option Ms)(d:cq)(e:TW):TW:=fun M k=>c M fun ts a=>ts.length<=16777216/\bnd (qO a ak) fun f=>bnd (oy a.tmp.length a f) fun b=>k9 b=true ∧bo p d e (fun g h=>bnd (fh (b.map (·.1)) h.out) fun i=>qo a.tmp.length (wb a b i) k (.own (.lst g))) ts [] (entry (ak.length+own) (b.map (·.1)))
inductive rD (K:W.Frag)(w:TW)(U:St)(H:Hp)(Q:VK):Prop
 |mk (F:_) (_:LE K F w U H Q):rD K w U H Q
inductive rE (K:W.Frag)(w:cq)(U:St)(H:Hp)(Q:(Bool->Hp->Prop)):Prop
 |mk (F:_) (_:LB K F w U H Q):rE K w U H Q
inductive rC (K:W.Frag)(b:Tv->Ms->Option Ms)(v:V)(U:St)(H:Hp)(Q:(St->Hp->Prop)):Prop
 |mk (F:_) (_:LG K F b v U H Q):rC K b v U H Q
section
theorem PE.all {w:TW}(h:∀F,PE X e (LE X.K F w)):PE X e (rD X.K w):=fun a s U H Q I z=>by obtain⟨F,q⟩:=z;exact h F a s U H Q I q
theorem PTs.all {e:List Expr}{w:cq}(h:∀F,PTs X e (LB X.K F w)):PTs X e (rE X.K w):=fun a s U H Q I z=>by obtain⟨F,q⟩:=z;exact h F a s U H Q I q
theorem PG.all {b:Tv->Ms->Option Ms}(h:∀F,PG X e (LG X.K F b)):PG X e (rC X.K b):=fun a s U H v u Q I r z=>by obtain⟨F,q⟩:=z;exact h F a s U H v u Q I r q
theorem Rel.vars {a:List Addr}(R:Rel K F G a M U H):∀{ak:List Nat}{b:List Ev},qO M ak=some b->∃Z,ak.map (fun j=>(U[j]?).getD none)=Z.map some/\d4 K F G a U b Z
 |[],_,e=>by cases e;exact⟨[],rfl,.nil⟩
 |i::r,_,e=>by
  simp only [qO] at e;split at e
  .next x xs e1 e2=>
   cases e;obtain⟨v,h1,c⟩:=R.var e1;obtain⟨Z,d,f⟩:=R.vars e2;exact⟨v::Z,by rw[VB,VB,h1,d];rfl,.cons c f⟩
  cases e
theorem Fc {m:Nat}:oz (ak.map some++List.replicate m none) U=ak.map (fun j=>(U[j]?).getD none)++List.replicate m none:=by unfold oz;rw[VQ,map_map,List.map_replicate];rfl
theorem Fb {N:List Str}:dO N Z=Z.map some++List.replicate (N.length-Z.length) none:=rfl
theorem LE.comp {m:Nat}{wi:bG}{p:Tv->Ms->Option Ms}{P:cq}{S:TW}(T:N'.length=ak.length+m){U:St}{H:Hp}{Q:VK}:LE X.K F (yx ak m wi p P S) U H Q->tK (ak.map some++List.replicate m none) (LI X.K F wi) (rC X.K p) (rE X.K P) (rD X.K S) U H Q:=fun z0=>by
 obtain⟨G,f,M,K0,R,k,q⟩:=z0
 refine⟨G,f,M,_,R,k,fun ts h y J H1 k1 j s1 V=>?_⟩;obtain⟨hts,k1⟩:=k1;obtain⟨dM,h1,k1⟩:=aO k1;obtain⟨z,h2,ok,k1⟩:=aO k1;obtain⟨Z,e1,e2⟩:=j.vars h1;obtain⟨as,g1,g2,g3,g4⟩:=j.args e2 h2 ok;have r:Z.length=ak.length:=by have:=V8 List.length e1;simpa using this.symm
 have W:(z.map (·.1)).length=ak.length:=by rw[<- g2.len,r]
 have st:oz (ak.map some++List.replicate m none) U=dO N' Z:=by rw[Fc,e1,Fb,T,r];congr 2;lia
 have E:=zW (N:=N') j.sub g2 g3 (by rw[W,T];lia);rw[T] at E;rw[st];refine⟨fun i n a s H=>n+i=ts.length/\a.length<=i/\∃Y c u,Rel X.K ⟨H1,y,as⟩ Y [] c s H/\IsTs X.K Y a u/\Same y Y/\bo p P S (fun a c=>bnd (fh (z.map (·.1)) c.out) fun ss=>qo h.tmp.length (wb h z ss) K0 (.own (.lst a))) (ts.drop i) u c,⟨ts.length,by lia,VW _,y,_,[],E,.nil,Same.refl _,k1⟩,?_⟩;rintro i n a s A ⟨hn,jP,C,c,u,R2,hy,d,k2⟩;rcases Wm i ts.length with D|D;right;refine⟨V.go i C A d R2.sub D,by rw[Vr];lia,fun x H' hx=>?_⟩;have ht:=U4 D;obtain⟨G3,w,z2,z3,z4,z5⟩:=V.yld i _ C A x H' d R2.sub ht hx;have R3:=R2.more w z2 z3 z4;rw[zJ ht] at k2;obtain⟨M3,e3,k2⟩:=aO k2;refine⟨_,G3,c,_,M3,R3,z5,e3,fun σ4 R4=>⟨_,G3,[],M3,_,R4,k2,fun b I G5 H5 k5 L O=>?_⟩⟩;cases b with
 |true=>
  refine⟨_,G5,[],I,_,L,k5,fun ev M6 G6 t6 v H6 k6 R6 s6 e6=>?_⟩;obtain⟨t,M7,h7,k6⟩:=jD k6;have l5:I.tmp.length=0:=L.lt;have xM:ed I.tmp.length M6 ev=some (t,M7):=by rw[l5];exact h7
  obtain⟨G7,R7,s7,s7',t7⟩:=R6.frz L.lt s6 e6 xM;exact⟨n-1,by lia,by lia,by simp;lia,G7,M7,_,R7,(hy.mono (w.trans (O.trans s7.g))).app (.cons t7 .nil),d.trans (w.trans (O.trans s7.g)),k6⟩
 |false=>exact⟨n-1,by lia,by lia,by lia,G5,I,u,L,hy.mono (w.trans O),d.trans (w.trans O),k5⟩
 left;have hi':i=ts.length:=by lia
 refine⟨by rw[hi'];exact V.stop C A d R2.sub,fun l hl=>?_⟩;rw[WX D] at k2;obtain⟨ss,e3,k2⟩:=aO k2;have kK:h.tmp.length=f.length:=j.lt;rw[kK] at g4 k2;have AM:Rel X.K F y (f++[]) h U H1:=by rw[Vk];exact j
 have xR:RAs F (f++[]) U h z Z as:=by rw[Vk];exact g1
 have B:=AM.back xR (R2.aps g2 e3) R2.post g4;have B2:=B.1.push (o:=.lst u) hl (H':=ax A l (.lst a)) (fun b x e=>by rw[aD (cm e hl)];exact e) ⟨a,aY,hy⟩;refine q _ _ C (f++[l]) _ _ k2 (by rw[qP];exact B2) ⟨s1.trans d,[l],rfl⟩ ⟨l,?_,rfl⟩;rw[Vn (U5 _)];simp
end
section
variable [DecidableEq O]
variable (knd:KeyKind prog w O)
variable {knd}
end
section
variable {v x:V}{Q:VK}
theorem IsR.at {u:V}(h:IsR K G H v (.at u)):v=u/\jN u=true:=by
 rcases h with h|⟨a,o,rfl,e,h⟩;cases h with | «at» f => exact ⟨rfl, f⟩
 cases o <;> cases e
theorem IsR.lst {l:List Tv}(s:Same G H)(h:IsR K G H v (.lst l)):∃a Z,v=.ref a/\H a=some (.lst Z)/\IsTs K G Z l:=by
 rcases h with h|⟨a,o,rfl,e,h⟩;cases h with|lst h r=>exact⟨_,_,rfl,s _ _ h,r⟩
 cases o with|lst b=>(cases e;obtain⟨Z,e,r⟩:=h;exact⟨a,Z,rfl,e,r⟩)|dic b=>cases e
theorem IsR.tup {l:List Tv}(s:Same G H)(h:IsR K G H v (.tup l)):∃a Z,v=.ref a/\H a=some (.tup Z)/\IsTs K G Z l:=by
 rcases h with h|⟨a,o,rfl,e,h⟩;cases h with|tup h r=>exact⟨_,_,rfl,s _ _ h,r⟩
 cases o <;> cases e
theorem IsR.ktp {l:List Tv}(s:Same G H)(h:IsR K G H v (.ktp l)):∃a Z,v=.ref a/\SqT K H a Z/\IsTs K G Z l:=by
 rcases h with h|⟨a,o,rfl,e,h⟩;cases h with|ktp h r=>exact⟨_,_,rfl,s.tup h,r⟩
 cases o <;> cases e
theorem IsR.dic {l:List (aw×Tv)}(s:Same G H)(h:IsR K G H v (.dic l)):∃a b,v=.ref a/\H a=some (.dK b)/\IsKs K G b l:=by
 rcases h with h|⟨a,o,rfl,e,h⟩;cases h with|dic h r=>exact⟨_,_,rfl,s _ _ h,r⟩
 cases o with|dic c=>(cases e;obtain⟨Z,e,r⟩:=h;exact⟨a,Z,rfl,e,r⟩)|lst c=>cases e
theorem IsR.scr (s:Same G H)(h:IsR K G H v (.scr l)):∃a Z,v=.ref a/\SqL K H a Z/\IsTs K G Z l:=by
 rcases h with h|⟨a,o,rfl,e,h⟩;cases h with|scr h r=>exact⟨_,_,rfl,s.seq h,r⟩
 cases o <;> cases e
def mV (r r':R2):R2:=fun x y H Q=>r x y H Q∨r' x y H Q
noncomputable def vI (i:Int):Rs:=.v (.at (.int i))
noncomputable def vB (b:Bool):Rs:=.v (.at (.bl b))
noncomputable def vS (x:Str):Rs:=.v (.at (.str x))
def Jd (t u:Tv):Rz:=match t with
 | .at v=>match v with
  | .int i=>aI (fun j=>.ok (vI (i+j))) u
  | .str i=>aS (fun j=>.cd (i.length+j.length<=16777216) (vS (i++j))) u
  |_=>.no
 | .lst l=>match u with
  | .lst m=>.cd (l.length+m.length<=16777216) (.n (.lst (l++m)))
  |_=>.no
 | .tup l=>match u with
  | .tup m=>.cd (l.length+m.length<=16777216) (.v (.tup (l++m)))
  |_=>.no
 |_=>.no
def Dn:R2:=fun x y H Q=>∃i j,x=.str i/\y=.str j/\i.length+j.length<=sizeLine/\Q (.str (i++j)) H
def Ca (K:W.Frag):R2:=mV (ju fun i j=>.int (i+j)) (mV Dn (mV oZ kD))
theorem NA:OpR X (binaryOp .Add) (Ca X.K):=op_add.or (OpR.or (r:=Dn) Q0 (op_cat.or NI))
theorem lC {i j:Str}:(i++j).length=i.length+j.length:=by show(Str.mk (i.cps++j.cps)).cps.size=i.cps.size+j.cps.size;simp
theorem Nz:c9 K Jd (Ca K):=fun G H x y t u s Q c h1 k e q=>by
 have n:=Vr;cases t with
 | «at» v=>
  cases v with
  |int i=>(obtain⟨j,rfl,d⟩:=e.aI;cases d;obtain⟨rfl,_⟩:=h1.at;obtain⟨rfl,_⟩:=k.at;exact .inl ⟨i,j,rfl,rfl,b7 c (.at rfl) q⟩)
  |str i=>
   obtain⟨j,rfl,d⟩:=e.aS;cases d with|cd f=>
   obtain⟨rfl,_⟩:=h1.at;obtain⟨rfl,_⟩:=k.at;exact .inr (.inl ⟨i,j,rfl,rfl,by rw[n];exact f,b7 c (.at (by show decide _=true;rw[lC];exact Vj f)) q⟩)
  |_=>exact(eO e).elim
 |lst l=>
  cases u with
  |lst m=>
   cases e with|cd f=>
   obtain⟨a,Z,rfl,o,g⟩:=h1.lst c;obtain⟨b,ws,rfl,r,h⟩:=k.lst c;exact .inr (.inr (.inl ⟨a,b,Z,ws,rfl,rfl,o,r,by rw[n,g.len,h.len];exact f,mJ (g.app h) q⟩))
  |_=>exact(eO e).elim
 |tup l=>
  cases u with
  |tup m=>
   cases e with|cd f=>
   obtain⟨a,Z,rfl,o,g⟩:=h1.tup c;obtain⟨b,ws,rfl,r,h⟩:=k.tup c;exact .inr (.inr (.inr ⟨a,b,Z,ws,rfl,rfl,o,r,by rw[n,g.len,h.len];exact f,fun p H' w z=>uv c w z (g.app h) q⟩))
  |_=>exact(eO e).elim
 |_=>exact(eO e).elim
def qm (C:Int->Int->Prop)(g:Int->Int->V)(t u:Tv):Rz:=aI (fun i=>aI (fun j=>.cd (C i j) (.v (.at (g i j)))) u) t
theorem ud {C:Int->Int->Prop}{g:Int->Int->V}(a:∀i j,jN (g i j)=true):c9 K (qm C g) (rI C g):=fun G H x y t u s Q b h1 h e q=>by
 obtain⟨i,rfl,f⟩:=e.aI;obtain⟨j,rfl,d⟩:=f.aI;cases d with|cd c=>
 obtain⟨rfl,_⟩:=h1.at;obtain⟨rfl,_⟩:=h.at;exact⟨i,j,rfl,rfl,c,b7 b (.at (a i j)) q⟩
def n9 (g:Int->Int->V)(t u:Tv):Rz:=aI (fun i=>aI (fun j=>.ok (.v (.at (g i j)))) u) t
theorem qW {g:Int->Int->V}(a:∀i j,jN (g i j)=true):c9 K (n9 g) (ju g):=fun G H x y t u s Q b h1 c e q=>by obtain⟨i,rfl,f⟩:=e.aI;obtain⟨j,rfl,d⟩:=f.aI;cases d;obtain⟨rfl,_⟩:=h1.at;obtain⟨rfl,_⟩:=c.at;exact⟨i,j,rfl,rfl,b7 b (.at (a i j)) q⟩
def yi (g:Str->Str->Bool)(t u:Tv):Rz:=aS (fun i=>aS (fun j=>.ok (vB (g i j))) u) t
noncomputable def iY (f g:Tv->Tv->Rz):Tv->Tv->Rz:=fun t u=>match f t u with | .no=>g t u|z=>z
theorem qJ {f g:Tv->Tv->Rz}(h:c9 K f r)(h':c9 K g r'):c9 K (iY f g) (mV r r'):=fun G H x y t u s Q a h1 b e q=>by unfold iY at e;split at e;exact .inr (h' G H x y t u s Q a h1 b e q);exact .inl (h G H x y t u s Q a h1 b e q)
theorem Dm {g:Str->Str->Bool}:c9 K (yi g) (fun x y H Q=>∃i j,x=.str i/\y=.str j/\Q (.bl (g i j)) H):=fun G H x y t u s Q a h1 b e q=>by obtain⟨i,rfl,f⟩:=e.aS;obtain⟨j,rfl,d⟩:=f.aS;cases d;obtain⟨rfl,_⟩:=h1.at;obtain⟨rfl,_⟩:=b.at;exact⟨i,j,rfl,rfl,b7 a (.at rfl) q⟩
def nF (neg:Bool):Tv->Tv->Rz
 | .at a,.at b=>match yf a b with
  |true=>.ok (vB (xor neg (decide (a=b))))
  |false=>.no
 |_,_=>.no
theorem Mg:c9 K (nF false) A7:=fun G H x y t u s Q d h1 f e q=>by
 unfold nF at e;split at e
 .next a b=>
  split at e
  .next c=>
   cases e;obtain⟨rfl,_⟩:=h1.at;obtain⟨rfl,_⟩:=f.at;exact⟨c,b7 d (.at rfl) (by simpa [vB] using q)⟩
  cases e
 cases e
theorem Mf:c9 K (nF true) A5:=fun G H x y t u s Q d h1 f e q=>by
 unfold nF at e;split at e
 .next a b=>
  split at e
  .next c=>
   cases e;obtain⟨rfl,_⟩:=h1.at;obtain⟨rfl,_⟩:=f.at;exact⟨c,b7 d (.at rfl) (by simpa [vB] using q)⟩
  cases e
 cases e
noncomputable def gR:Tv->V
 | .at v=>v
 |_=>.non
def flatL (l:List Tv):Prop:=∀t∈l,∃v,t=.at v/\ez v=true
theorem flatL.is (f:flatL l):∀{Z:List V},IsTs K G Z l->Z=l.map gR/\Z.all ez=true:=by induction l with|nil=>(intro Z h;cases h;exact⟨rfl,rfl⟩)|cons t l a=>intro Z h;cases h with| @cons v Z _ _ h1 b=>obtain⟨u,rfl,c⟩:=f t Vc;obtain⟨e,g⟩:=a (fun x d=>f x (Vb _ d)) b;cases h1;exact⟨by rw[VB,<- e];rfl,by simp [all_cons,c,g]⟩
def sR (neg:Bool):Tv->Tv->Rz
 | .lst l,.lst m=>.cd (flatL l/\flatL m) (vB (xor neg (k8 (l.map gR) (m.map gR))))
 |_,_=>.no
def AF (K:W.Frag)(neg:Bool):R2:=fun x y H Q=>∃a b xs c,x=.ref a/\y=.ref b/\SqL K H a xs/\SqL K H b c/\xs.all ez=true/\c.all ez=true/\Q (.bl (xor neg (k8 xs c))) H
theorem Dl {neg:Bool}:c9 K (sR neg) (AF K neg):=fun G H x y t u s Q d h1 f e q=>by
 unfold sR at e;split at e
 .next l m=>
  cases e with|cd c=>
  obtain⟨a,Z,rfl,k1,g⟩:=h1.lst d;obtain⟨b,ws,rfl,k2,h⟩:=f.lst d;obtain⟨rfl,f1⟩:=c.1.is g;obtain⟨rfl,i⟩:=c.2.is h;exact⟨a,b,_,_,rfl,rfl,.of k1,.of k2,f1,i,b7 d (.at rfl) q⟩
 cases e
theorem Me (c:X.A.units<cLine):OpR X (compareOp .Eq) (AF X.K false):=fun d s U H x y v u Q I e f z=>by obtain⟨a,b,xs,g,h1,h,i,j,k,l,q⟩:=z;exact QU c d s U H x y v u Q I e f ⟨a,b,xs,g,h1,h,i,j,k,l,by simpa using q⟩
theorem Md (c:X.A.units<cLine):OpR X (compareOp .NotEq) (AF X.K true):=fun d s U H x y v u Q I e f z=>by obtain⟨a,b,xs,g,h1,h,i,j,k,l,q⟩:=z;exact QT c d s U H x y v u Q I e f ⟨a,b,xs,g,h1,h,i,j,k,l,by simpa using q⟩
def wN (neg:Bool)(v:V)(l:List Tv):Rz:=.cd (flatL l/\ez v=true) (vB (xor neg (iu v (l.map gR))))
def wM (neg:Bool)(t u:Tv):Rz:=match t with
 | .at v=>match u with
  | .lst l=>wN neg v l
  | .tup l=>wN neg v l
  | .ktp l=>wN neg v l
  |_=>.no
 |_=>.no
theorem CG {neg:Bool}:c9 K (wM neg) (wg K neg):=fun G H x y t u s Q d h1 i e q=>by
 cases t with
 | «at» w=>
  cases u with
  |lst l=>
   cases e with|cd c=>
   obtain⟨rfl,_⟩:=h1.at;obtain⟨b,ws,rfl,k2,f⟩:=i.lst d;obtain⟨rfl,g⟩:=c.1.is f;have h:∀a,a=xor neg (iu x (l.map gR))->Q (.bl a) H:=fun a z=>by subst z;exact b7 d (.at rfl) q
   exact⟨b,_,rfl,.inl (.of k2),c.2,g,h _ (by cases neg <;> simp)⟩
  |tup l=>
   cases e with|cd c=>
   obtain⟨rfl,_⟩:=h1.at;obtain⟨b,ws,rfl,k2,f⟩:=i.tup d;obtain⟨rfl,g⟩:=c.1.is f;have h:∀a,a=xor neg (iu x (l.map gR))->Q (.bl a) H:=fun a z=>by subst z;exact b7 d (.at rfl) q
   exact⟨b,_,rfl,.inr (.of k2),c.2,g,h _ (by cases neg <;> simp)⟩
  |ktp l=>
   cases e with|cd c=>
   obtain⟨rfl,_⟩:=h1.at;obtain⟨b,ws,rfl,k2,f⟩:=i.ktp d;obtain⟨rfl,g⟩:=c.1.is f;have h:∀a,a=xor neg (iu x (l.map gR))->Q (.bl a) H:=fun a z=>by subst z;exact b7 d (.at rfl) q
   exact⟨b,_,rfl,.inr k2,c.2,g,h _ (by cases neg <;> simp)⟩
  |_=>exact(eO e).elim
 |_=>exact(eO e).elim
noncomputable def ofO:Option Tv->Rz
 |some t=>.ok (.v t)
 |none=>.no
theorem ZH.ofO {o:Option Tv}{s:Rs}(h:ZH (Lake.ofO o) s):∃t,o=some t/\s=.v t:=by cases o with|none=>(cases h)|some t=>cases h;exact⟨t,rfl,rfl⟩
noncomputable def cJ {J : Type}(l:List J):Int->Option J
 | .ofNat j=>l[j]?
 | .negSucc j=>if j<l.length then l[l.length-(j+1)]? else none
theorem zj (l:List J)(i:Int):cJ l i=atI l i:=by
 unfold cJ atI gz;cases i with
 |ofNat j=>simp only [Int.ofNat_eq_natCast,Int.natCast_nonneg,if_true];by_cases h:j<l.length;rw[Vm (by lia)];simp;rw[Vi (by lia)];simp;lia
 |negSucc j=>
  have h0:¬ (0:Int)<=Int.negSucc j:=by lia
  by_cases h:j<l.length;have h1 : -(l.length:Int)<=Int.negSucc j:=by lia
  have a:(Int.negSucc j+(l.length:Int)).toNat=l.length-(j+1):=by lia
  simp only [Vi h0,Vm h,Vm h1,a];rfl;have h1:¬ -(l.length:Int)<=Int.negSucc j:=by lia
  simp only [Vi h0,Vi h,Vi h1];rfl
def Bg (t u:Tv):Rz:=aI (fun i=>match t with
 | .lst l=>ofO (cJ l i)
 | .tup l=>ofO (cJ l i)
 |t=>aS (fun x=>ofO ((cJ x.cps.toList i).map fun c=>.at (.str ⟨#[c]⟩))) t) u
theorem IsTs.atI {ts:List Tv}{i:Int}(r:IsTs K G Z ts)(h:Lake.atI ts i=some t):∃v,Lake.atI Z i=some v/\IsT K G v t:=by unfold Lake.atI at h ⊢;rw[r.len];cases e:gz ts.length i with|none=>(rw[e] at h;cases h)|some j=>rw[e] at h;exact r.get h
theorem Mc:c9 K Bg (A6 K):=fun G H x y t u s Q b h1 g e q=>by have n:=Vr;obtain⟨i,rfl,d⟩:=e.aI;cases t with|lst l=>(obtain⟨w,z,rfl⟩:=d.ofO;rw[zj] at z;obtain⟨a,Z,rfl,k1,h⟩:=h1.lst b;obtain⟨rfl,_⟩:=g.at;obtain⟨v,j,k⟩:=h.atI z;exact .inl ⟨a,Z,i,v,rfl,rfl,.of k1,j,b7 b k q⟩)|tup l=>(obtain⟨w,z,rfl⟩:=d.ofO;rw[zj] at z;obtain⟨a,Z,rfl,k1,h⟩:=h1.tup b;obtain⟨rfl,_⟩:=g.at;obtain⟨v,j,k⟩:=h.atI z;exact .inr (.inl ⟨a,Z,i,v,rfl,rfl,.of k1,j,b7 b k q⟩))| «at» v=>(obtain⟨w,c,d⟩:=d.aS;cases c;obtain⟨o,z,rfl⟩:=d.ofO;rw[zj] at z;cases m:atI w.cps.toList i with|none=>(rw[m] at z;cases z)|some c=>rw[m] at z;cases z;obtain⟨rfl,f⟩:=h1.at;obtain⟨rfl,_⟩:=g.at;exact .inr (.inr ⟨w,i,c,rfl,rfl,by rw[n];exact VA f,m,b7 b (.at rfl) q⟩))|_=>exact(eO d).elim
def Jc:Tv->Rz
 | .lst l=>.ok (vI l.length)
 | .tup l=>.ok (vI l.length)
 | .dic l=>.ok (vI l.length)
 | .at (.str x)=>.ok (vI x.length)
 |_=>.no
noncomputable def yw:Tv->Rz
 | .lst l=>.ok (.n (.lst l))
 | .tup l=>.ok (.n (.lst l))
 |_=>.no
noncomputable def yV:Tv->Rz
 | .lst l=>.ok (.v (.tup l))
 | .tup l=>.ok (.v (.tup l))
 |_=>.no
def B9 (K:W.Frag):V->Hp->VK->Prop:=fun x H Q=>(∃p b,x=.ref p/\(SqL K H p b∨SqT K H p b)/\Q (.int b.length) H)∨(∃z,x=.str z/\z.length<=sizeLine/\Q (.int z.length) H)∨∃a c,x=.ref a/\H a=some (.dK c)/\Q (.int c.length) H
theorem IsKs.len {Z:List (aw×V)}:∀{ts:List (aw×Tv)},IsKs K G Z ts->Z.length=ts.length:=by induction Z with|nil=>(intro ts h;cases h;rfl)|cons v Z a=>intro ts h;cases h with|cons _ r=>simp [a r]
theorem Ny:iD K Jc (B9 K):=fun G H x t s Q b h1 e q=>by have d:=Vr;cases t with|lst l=>(cases e;obtain⟨a,Z,rfl,k1,c⟩:=h1.lst b;exact .inl ⟨a,Z,rfl,.inl (.of k1),by rw[c.len];exact b7 b (.at rfl) q⟩)|tup l=>(cases e;obtain⟨a,Z,rfl,k1,c⟩:=h1.tup b;exact .inl ⟨a,Z,rfl,.inr (.of k1),by rw[c.len];exact b7 b (.at rfl) q⟩)|dic l=>(cases e;obtain⟨a,Z,rfl,k1,c⟩:=h1.dic b;exact .inr (.inr ⟨a,Z,rfl,k1,by rw[c.len];exact b7 b (.at rfl) q⟩))| «at» v=>(cases v with|str z=>(cases e;obtain⟨rfl,f⟩:=h1.at;exact .inr (.inl ⟨z,rfl,by rw[d];exact VA f,b7 b (.at rfl) q⟩))|_=>exact(eO e).elim)|_=>exact(eO e).elim
theorem PV:c8 X (.builtin "len") (fun xs H Q=>∃x,xs=[x]/\B9 X.K x H Q):=fun b s U H xs c Q I r y=>by obtain⟨x,e,h⟩:=y;subst e;rcases h with ⟨p,d,rfl,h,q⟩|⟨z,rfl,h,q⟩|⟨a,f,rfl,h,q⟩;exact tX b s U H _ c Q I r ⟨p,d,rfl,h,q⟩;exact S3 b s U H _ c Q I r ⟨z,rfl,h,q⟩;exact P8 b s U H _ c Q I r ⟨a,f,rfl,h,q⟩
def Ma (K:W.Frag):V->Hp->VK->Prop:=fun x H Q=>∃p a,x=.ref p/\(SqL K H p a∨SqT K H p a)/\∀l,H l=none->Q (.ref l) (ax H l (.lst a))
theorem Ot:iD K yw (Ma K):=fun G H x t s Q c h1 e q=>by
 unfold yw at e;split at e
 .next l=>cases e;obtain⟨a,Z,rfl,k1,b⟩:=h1.lst c;exact⟨a,Z,rfl,.inl (.of k1),mJ b q⟩
 .next l=>cases e;obtain⟨a,Z,rfl,k1,b⟩:=h1.tup c;exact⟨a,Z,rfl,.inr (.of k1),mJ b q⟩
 cases e
def Nw (K:W.Frag):V->Hp->VK->Prop:=fun x H Q=>∃p a,x=.ref p/\((SqL K H p a/\∀l,H l=none->Q (.ref l) (ax H l (.tup a)))∨(SqT K H p a/\Q (.ref p) H))
theorem PU:iD K yV (Nw K):=fun G H x t s Q b h1 e q=>by
 unfold yV at e;split at e
 .next l=>cases e;obtain⟨a,Z,rfl,k1,c⟩:=h1.lst b;exact⟨a,Z,rfl,.inl ⟨.of k1,Fe b c q⟩⟩
 .next l=>cases e;obtain⟨a,Z,rfl,k1,c⟩:=h1.tup b;exact⟨a,Z,rfl,.inr ⟨.of k1,uv b (Same.refl _) k1 c q⟩⟩
 cases e
theorem lx {r:List V->Hp->VK->Prop}{a:V->Hp->VK->Prop}(b:∀x H Q,a x H Q->r [x] H Q){U:St}{H:Hp}{Q:VK}:vX a (LE K F wa) U H Q->rP r (ka (LE K F wa) iM) U H Q:=fun⟨G,c,M,d,R,k,q⟩=>
 ⟨G,c,M,d,R,k,fun e M' I t' v H' f R' s' g=>b _ _ _ (q e M' I t' v H' f R' s' g)⟩
end
noncomputable def fT (M:Ms)(o:Ob):Rf->Ms
 | .loc i=>{ M with env:=M.env.set i (some (.own o)) }
 | .out k=>{ M with out:=M.out.set k (.own o) }
 | .tmp j=>{ M with tmp:=M.tmp.set j o }
noncomputable def tL:Ev->Option Rf
 | .loc i=>some (.loc i)
 | .out k=>some (.out k)
 | .tmp j=>some (.tmp j)
 | .fz _=>none
section
variable {Q:List Addr}
theorem Rel.chg (R:Rel K F G Q M U H){r:Rf}{o o':Ob}{a:Addr}(h1:aA M r=some o)(d:adr F Q U r=some a)(g:∀b,b≠a->H' b=H b)(ok:ObOk K G H' a o'):Rel K F G Q (fT M o' r) U H':=by
 obtain⟨b,c,N,w⟩:=R.ob r o h1;rw[d] at c;cases c;have D:∀b x,G b=some x->b≠a:=fun b x e z=>by rw[z,w] at e;cases e
 have y:∀x u,aA (fT M o' r) x=some u->(x=r/\u=o')∨(x≠r/\aA M x=some u):=fun x u h=>by cases r with|loc i=>(cases x with|loc j=>(simp only [aA,fT] at h;cases q:(M.env.set i (some (.own o')))[j]? with|none=>simp [q] at h|some s=>rw[q] at h;rcases dX q with ⟨rfl,rfl⟩|⟨z,f⟩;simp [bt] at h;exact .inl ⟨rfl,h.symm⟩;exact .inr ⟨(fun e=>by cases e;exact z rfl),by simp only [aA];rw[f];exact h⟩)|out k=>exact .inr ⟨(fun z=>by cases z),h⟩|tmp k=>exact .inr ⟨(fun z=>by cases z),h⟩)|out i=>(cases x with|out j=>(simp only [aA,fT] at h;cases q:(M.out.set i (.own o'))[j]? with|none=>simp [q] at h|some s=>rw[q] at h;rcases dX q with ⟨rfl,rfl⟩|⟨z,f⟩;simp [bt] at h;exact .inl ⟨rfl,h.symm⟩;exact .inr ⟨(fun e=>by cases e;exact z rfl),by simp only [aA];rw[f];exact h⟩)|loc k=>exact .inr ⟨(fun z=>by cases z),h⟩|tmp k=>exact .inr ⟨(fun z=>by cases z),h⟩)|tmp i=>cases x with|tmp j=>(have q:(M.tmp.set i o')[j]?=some u:=h;rcases dX q with ⟨rfl,rfl⟩|⟨z,f⟩;exact .inl ⟨rfl,rfl⟩;exact .inr ⟨(fun e=>by cases e;exact z rfl),f⟩)|loc k=>exact .inr ⟨(fun z=>by cases z),h⟩|out k=>exact .inr ⟨(fun z=>by cases z),h⟩
 have l:∀x u,aA (fT M o' r) x=some u->∃m,aA M x=some m:=fun x u h=>by rcases y x u h with ⟨rfl,_⟩|⟨_,h⟩;exact⟨o,h1⟩;exact⟨u,h⟩
 have p:(fT M o' r).env.length=M.env.length/\(fT M o' r).out.length=M.out.length/\(fT M o' r).tmp.length=M.tmp.length:=by cases r <;> simp [fT]
 have A:∀(i:Nat)(s:Sl),(fT M o' r).env[i]?=some (some s)->(∀u,s ≠ .own u)->M.env[i]?=some (some s):=fun i s h n=>by cases r with|loc j=>(rcases dX (show(M.env.set j (some (.own o')))[i]?=some (some s) from h) with ⟨_,z⟩|⟨_,z⟩;cases z;exact absurd rfl (n o');exact z)|out j=>exact h|tmp j=>exact h
 have E:∀(i:Nat)(s:Sl),(fT M o' r).out[i]?=some s->(∀u,s ≠ .own u)->M.out[i]?=some s:=fun i s h n=>by cases r with|out j=>(rcases dX (show(M.out.set j (.own o'))[i]?=some s from h) with ⟨_,z⟩|⟨_,z⟩;cases z;exact absurd rfl (n o');exact z)|loc j=>exact h|tmp j=>exact h
 refine⟨fun b x e=>by rw[g b (D b x e)];exact R.sub b x e,R.g0,fun b x c B=>?_,R.gd,fun b hb=>?_,by rw[p.1];exact R.ls,by rw[p.2.1];exact R.lo,by rw[p.2.2];exact R.lt,fun i t h=>R.fz i t (A i _ h fun u z=>by cases z),fun i k h=>R.al i k (A i _ h fun u z=>by cases z),fun k t h=>R.fo k t (E k _ h fun u z=>by cases z),fun x u h=>?_,fun x C u m b h h' e I=>?_,fun x u b h e=>?_⟩;have hb:b≠a:=fun z=>by rcases R.nw r o a h1 d with ⟨k,rfl⟩|q;exact B (z▸VF (show F.ao[k]?=some a from d));rw[z,q] at c;cases c
 rw[g b hb];exact R.fra b x c B;by_cases z:b=a;rw[z];exact ok.some;rw[g b z];exact R.pr b hb;rcases y x u h with ⟨rfl,rfl⟩|⟨J,h⟩;exact⟨a,d,ok,w⟩;obtain⟨b,k1,k2,k3⟩:=R.ob x u h;have hb:b≠a:=fun z=>J (R.ij x r u o a h h1 (by rw[k1,z]) d);exact⟨b,k1,k2.mono (Same.refl _) (g b hb),k3⟩;obtain⟨v,h⟩:=l x u h;obtain⟨L,h'⟩:=l C m h';exact R.ij x C v L b h h' e I;obtain⟨v,h⟩:=l x u h;exact R.nw x v b h e
theorem EvOk.adr {b:Ev}{v:V}{r:Rf}(h:EvOk K F G Q U b v)(e:tL b=some r):∃a,v=.ref a/\Lake.adr F Q U r=some a:=by cases b with|fz t=>(cases e)|loc i=>(cases e;obtain⟨h1,a,rfl⟩:=h;exact⟨a,rfl,by simp [Lake.adr,h1,j4]⟩)|out k=>(cases e;obtain⟨a,h1,rfl⟩:=h;exact⟨a,rfl,h1⟩)|tmp j=>cases e;obtain⟨a,h1,rfl⟩:=h;exact⟨a,rfl,h1⟩
noncomputable def Kc:Ob->Bool
 | .lst _=>true
 |_=>false
def AE (f:Ob->List Tv->Option (Prop×Ob×Tv))(wo:TW)(wr:bG):TW:=fun M k=>wo M fun x a=>bnd (tL x) fun r=>bnd (aA a r) fun d=>Kc d=true/\wr a fun ts b=>bnd (aA b r) fun o=>j7 (f o ts) fun c p=>c/\k (.fz p.2) ((fT b p.1 r).cut M.tmp.length)
def CS (K:W.Frag)(f:Ob->List Tv->Option (Prop×Ob×Tv))(r:V->List V->Hp->VK->Prop):Prop:=∀G H a o o' t ts Z Q,Same G H->ObOk K G H a o->G a=none->IsTs K G Z ts->(∃c:Prop,c/\f o ts=some (c,o',t))->(∀v H',(∀b,b≠a->H' b=H b)->ObOk K G H' a o'->IsT K G v t->Q v H')->r (.ref a) Z H Q
theorem LE.mut {n:Nat}{f:Ob->List Tv->Option (Prop×Ob×Tv)}{r:V->List V->Hp->VK->Prop}{wo:TW}{wr:bG}(ok:CS X.K f r){U:St}{H:Hp}{a0:VK}:LE X.K F (AE f wo wr) U H a0->vY X.K "list" r (LE X.K F wo) (LF X.K F n wr) U H a0:=fun z0=>by
 obtain⟨G,Q,M,K0,R,k,q⟩:=z0
 refine⟨G,Q,M,_,R,k,fun x z A B v H1 k1 j d C=>?_⟩;obtain⟨r,D,k1⟩:=aO k1;obtain⟨m,h,E,k1⟩:=aO k1;obtain⟨a,rfl,i⟩:=C.adr D;obtain⟨b,p,I,z3⟩:=j.ob r m h;rw[i] at p;cases p;refine⟨?_,A,B,z,_,j,k1,fun ts M2 s Z J k2 R2 u L _=>?_⟩;cases m with|lst l=>(obtain⟨Z,e,_⟩:=I;exact .inl ⟨rfl,_,SqL.of e⟩)|dic l=>cases E
 obtain⟨o,w,k2⟩:=aO k2;obtain⟨c,⟨o',t⟩,N,O,k2⟩:=jD k2;obtain⟨b,y,P,S⟩:=R2.ob r o w;rw[i] at y;cases y;refine ok s J a o o' t ts Z a0 R2.sub P S L ⟨c,O,N⟩ fun v H' T W Y=>?_;have R3:=R2.chg w i T W;exact q _ _ s Q v H' k2 (R3.cutTo R.lt ⟨d.g.trans u,d.t⟩) ⟨d.g.trans u,[],by simp⟩ Y
noncomputable def Jb (o:Ob)(ts:List Tv):Option (Prop×Ob×Tv):=match o with
 | .lst l=>match ts with
  |[t]=>some (l.length<16777216,.lst (l++[t]),.at .non)
  |_=>none
 |_=>none
theorem Nv:CS K Jb gu:=fun G H a o o' t ts Z Q j h k f e q=>by obtain⟨c,g,e⟩:=e;cases o with|lst l=>(cases f with|nil=>(cases e)| @cons v _ _ _ k1 k2=>cases k2 with|cons _ _=>(cases e)|nil=>cases e;obtain⟨ws,i,d⟩:=h;exact⟨a,ws,v,rfl,rfl,i,by rw[Vr,d.len];exact g,q _ _ (fun b hb=>aD hb) ⟨_,aY,d.app (.cons k1 .nil)⟩ (.at rfl)⟩)|_=>cases e
noncomputable def yk:Tv->Option aw
 | .at (.int i)=>some (.inl i)
 | .at (.str x)=>some (.inr x)
 |_=>none
noncomputable def iC (l:List (aw×Tv))(k:aw)(t:Tv):List (aw×Tv):=if (l.any fun a=>decide (a.1=k))=true then l.map (fun a=>if a.1=k then (a.1,t) else a) else l++[(k,t)]
noncomputable def cF:List (aw×Tv)->aw->Option Tv
 |[],_=>none
 | (a,t)::r,k=>if a=k then some t else cF r k
theorem IsKs.look {Z:List (aw×V)}:∀{ts:List (aw×Tv)}{k:aw}{t:Tv},IsKs K G Z ts->cF ts k=some t->∃v,gM Z k=some v/\IsT K G v t:=by
 induction Z with
 |nil=>(intro ts k t h e;cases h;cases e)
 |cons p Z a=>
  intro ts k t h e;cases h with
  | @cons b v _ u ts h1 c=>
   by_cases z:b=k;simp [cF,z] at e;subst e;exact⟨v,by simp [gM,Wy,z],h1⟩;have d:cF ts k=some t:=by simpa [cF,z] using e
   obtain⟨w,f,g⟩:=a c d;exact⟨w,by simpa [gM,Wy,z] using f,g⟩
theorem IsKs.any {Z:List (aw×V)}{ts:List (aw×Tv)}{k:aw}(h:IsKs K G Z ts):(Z.any fun a=>decide (a.1=k))=ts.any fun a=>decide (a.1=k):=by induction Z generalizing ts with|nil=>(cases h;rfl)|cons p Z b=>cases h with|cons h1 c=>simp only [any_cons,b c]
theorem IsKs.map {Z:List (aw×V)}{k:aw}{v:V}(d:IsT K G v t):∀{ts:List (aw×Tv)},IsKs K G Z ts->IsKs K G (Z.map fun a=>if a.1=k then (a.1,v) else a) (ts.map fun a=>if a.1=k then (a.1,t) else a):=by induction Z with|nil=>(intro ts h;cases h;exact .nil)|cons p Z b=>intro ts h;cases h with| @cons e w _ u ts h1 c=>rw[VB,VB];by_cases z:e=k;simp only [z,Vm];exact .cons d (b c);simp only [Vi z];exact .cons h1 (b c)
theorem IsKs.snoc {Z:List (aw×V)}{k:aw}{v:V}(a:IsT K G v t):∀{ts:List (aw×Tv)},IsKs K G Z ts->IsKs K G (Z++[(k,v)]) (ts++[(k,t)]):=by induction Z with|nil=>(intro ts h;cases h;exact .cons a .nil)|cons p Z b=>intro ts h;cases h with|cons h1 c=>exact .cons h1 (b c)
theorem IsKs.put {Z:List (aw×V)}{ts:List (aw×Tv)}{k:aw}{v:V}(h:IsKs K G Z ts)(a:IsT K G v t):IsKs K G (ee Z k v) (iC ts k t):=by unfold ee iC;rw[h.any];split;exact h.map a;exact h.snoc a
def xW:Tv->Tv->Rz
 | .dic l,t=>match yk t with
  |some k=>ofO (cF l k)
  |none=>.no
 |_,_=>.no
def kC:R2:=fun x y H Q=>∃a v,x=.ref a/\DGet H a y (some v)/\Q v H
theorem Em {k:aw}(h:IsR K G H y t)(e:yk t=some k):y=kV k:=by cases t with| «at» v=>(cases v with|int i=>(cases e;obtain⟨rfl,_⟩:=h.at;rfl)|str i=>(cases e;obtain⟨rfl,_⟩:=h.at;rfl)|_=>cases e)|_=>cases e
theorem L9:c9 K xW kC:=fun G H x y t u s Q b h1 c e q=>by
 unfold xW at e;split at e
 .next l=>
  split at e
  .next k z=>
   obtain⟨w,d,rfl⟩:=e.ofO;obtain⟨a,j,rfl,k1,f⟩:=h1.dic b;obtain⟨v,g,h⟩:=f.look d;have i:=Em c z;subst i;exact⟨a,v,rfl,by rw[<- g];exact DGet.k k1,b7 b h q⟩
  cases e
 cases e
def B8 (c d wk:TW):bM:=fun P M=>c M fun v e=>j7 (ed 0 e v) fun t a=>d a fun x a=>wk a fun y b=>bnd (tL x) fun r=>bnd (aA b r) fun o=>bnd (rd b y) fun u=>bnd (yk u) fun k=>match o with
 | .dic l=>l.length<16777216/\P.nx ((fT b (.dic (iC l k t)) r).cut 0)
 |_=>False
theorem LS.dput {f h wk:TW}{D:a7}:LS X.K F (B8 f h wk) D U H->Cf (LE X.K F h) (LE X.K F wk) (LE X.K F f) D U H:=fun z0=>by
 obtain⟨G,M,P,R,k,ok⟩:=z0
 refine⟨G,[],M,_,R,k,fun s w G1 t1 v H1 k1 z A B=>?_⟩;obtain⟨t,i,C,k1⟩:=jD k1;have E:ed M.tmp.length w s=some (t,i):=by rw[R.lt];exact C
 obtain⟨I,R2,J,kz,L⟩:=z.frz R.lt A B E;refine⟨I,[],i,_,R2,k1,fun x N O Q xv H3 k3 S s3 T=>⟨O,Q,N,_,S,k3,fun y M4 V t4 yv W c d e Y=>?_⟩⟩;obtain⟨r,Z,c⟩:=aO c;obtain⟨o,j,c⟩:=aO c;obtain⟨u,hu,c⟩:=aO c;obtain⟨m,hk,c⟩:=aO c;obtain⟨a,rfl,n⟩:=(T.stp e).adr Z;obtain⟨b,p,z2,z3⟩:=d.ob r o j;rw[n] at p;cases p;have hy:=Em (d.rd Y hu) hk;subst hy;cases o with|lst l=>exact c.elim|dic l=>obtain⟨ag,e5,q⟩:=z2;obtain⟨hl,c⟩:=c;refine⟨a,_,rfl,DPut.k e5 (by rw[Vr,q.len];exact hl),?_⟩;have R5:=d.chg (o':=.dic (iC l m t)) j n (H':=ax W a (.dK (ee ag m v))) (fun b hb=>aD hb) ⟨_,aY,q.put (L.mono (s3.g.trans e.g))⟩;exact ok.nx _ V U _ c (R5.cut 0) (J.g.trans (s3.g.trans e.g))
end
section
def aV {J : Type}(xs:List J)(lo a:Option Int):List J := (xs.drop (sIx xs.length 0 lo)).take (sIx xs.length xs.length a-sIx xs.length 0 lo)
theorem IsTs.cut {ts:List Tv}(h:IsTs K G Z ts)(lo a:Option Int):IsTs K G (jg Z lo a) (aV ts lo a):=by unfold jg aV;rw[h.len];exact(h.drop _).take _
abbrev mM:=Ms->(Option Int->Ms->Prop)->Prop
inductive LO (K:W.Frag)(F:Fr)(w:mM)(U:St)(H:Hp)(Q:(Option Int->Hp->Prop)):Prop
 |mk (G ta M K0:_) (_:Rel K F G ta M U H) (_:w M K0) (_:∀i M' I cQ H',K0 i M'->Rel K F I cQ M' U H'->Stp G ta I cQ->Q i H'):LO K F w U H Q
noncomputable def qx:Tv->Option Int
 | .at (.int i)=>some i
 |_=>none
def Ij:mM:=fun M k=>k none M
def B7 (wa:TW):mM:=fun M k=>wa M fun x a=>bnd (rd a x) fun t=>bnd (qx t) fun i=>k (some i) a
theorem PO.imp {e:Option Expr}{t t':TO}(h:PO X e t)(i:∀ U H Q,t' U H Q->t U H Q):PO X e t':=fun a s U H Q I q=>h a s U H Q I (i U H Q q)
theorem Nu:PO X none (LO X.K F Ij):=po_none.imp fun U H Q z=>by obtain⟨G,a,M,b,R,k,q⟩:=z;exact q _ _ G a H k R .refl
theorem zv {i:Int}(h:qx t=some i):t=.at (.int i):=by unfold qx at h;split at h;cases h;rfl;cases h
theorem Nr (h:PE X e (LE X.K F wa)):PO X (some e) (LO X.K F (B7 wa)):=(NR h).imp fun U H Q ⟨G,c,M,o,R,k,q⟩=>by refine⟨G,c,M,_,R,k,fun x p d f r g k1 a j l=>?_⟩;obtain⟨t,m,k1⟩:=aO k1;obtain⟨i,n,k1⟩:=aO k1;have b:=a.rd l m;rw[zv n] at b;exact⟨i,b.at.1,q _ _ d f g k1 a j⟩
def Ja (lo a:Option Int):Tv->Rz
 | .lst l=>.ok (.n (.lst (aV l lo a)))
 | .scr l=>.ok (.n (.lst (aV l lo a)))
 | .tup l=>.ok (.v (.tup (aV l lo a)))
 | .at v=>match v with
  | .str z=>.cd ((Txt.slice z lo a).length<=16777216) (vS (Txt.slice z lo a))
  |_=>.no
 |_=>.no
def AD (K:W.Frag):V->Option Int->Option Int->Hp->VK->Prop:=fun x lo a H Q=>ID K x lo a H Q∨(fun x lo a H Q=>oV x lo a H Q∨oU x lo a H Q) x lo a H Q
theorem T5:SlR X (AD X.K):=sl_list.or (sl_tupP.or Mm)
theorem L8 (lo b:Option Int):iD K (Ja lo b) (fun x H Q=>AD K x lo b H Q):=fun G H x t s Q c h1 e q=>by
 have g:=Vr;cases t with
 |lst l=>(cases e;obtain⟨a,Z,rfl,k1,d⟩:=h1.lst c;exact .inl ⟨a,Z,rfl,.of k1,mJ (d.cut lo b) q⟩)|scr l=>(cases e;obtain⟨a,Z,rfl,k1,d⟩:=h1.scr c;exact .inl ⟨a,Z,rfl,k1,mJ (d.cut lo b) q⟩)|tup l=>(cases e;obtain⟨a,Z,rfl,k1,d⟩:=h1.tup c;exact .inr (.inl ⟨a,Z,rfl,k1,fun p H' h e=>uv c h e (d.cut lo b) q⟩))
 | «at» v=>
  cases v with
  |str z=>
   cases e with|cd i=>
   obtain⟨rfl,f⟩:=h1.at;exact .inr (.inr ⟨z,rfl,by rw[g];exact VA f,b7 c (.at (Vj i)) q⟩)
  |_=>exact(eO e).elim
 |_=>exact(eO e).elim
def Ii (wa:TW)(wl b:mM):TW:=fun M k=>wa M fun x c=>wl c fun lo d=>b d fun e a=>bnd (rd a x) fun t=>bz (Ja lo e t) (mC M.tmp.length a k)
theorem LE.slc {wl b:mM}{Q:VK}:LE X.K F (Ii wa wl b) U H Q->AY (AD X.K) (LE X.K F wa) (LO X.K F wl) (LO X.K F b) U H Q:=fun⟨G,d,M,y,R,k,q⟩=>by refine⟨G,d,M,_,R,k,fun x e f g h z k1 i j l=>⟨f,g,e,_,i,k1,fun lo m n o A k2 R2 c=>⟨n,o,m,_,R2,k2,fun p B r C u k3 a s3=>?_⟩⟩⟩;obtain⟨t,v,k3⟩:=aO k3;obtain⟨s,w,k3⟩:=mK k3;exact L8 lo p r u h t s Q a.sub (a.rd (l.stp (c.trans s3)) v) w (a.done R.lt (j.trans (c.trans s3)) k3 q)
noncomputable def rN:Tv->Option String
 | .at .non=>some "NoneType"
 | .at (.bl _)=>some "bool"
 | .at (.int _)=>some "int"
 | .at (.str _)=>some "str"
 | .tup _=>some "tuple"
 | .lst _=>some "list"
 | .dic _=>some "dict"
 |_=>none
theorem L7 {v:V}{n:String}(h:IsT K H v t)(e:rN t=some n):bJ K H v (.type n):=by cases h with| «at» f =>( cases v <;> cases e <;> constructor)|tup h r=>(cases e;exact .tup h)|lst h r=>(cases e;exact .lst h)|dic h r=>(cases e;exact .dK h)|scr h r=>(cases e)|fnv=>(cases e)|ktp h r=>cases e
noncomputable def jv (n T:String):Bool:=n==T||(n=="bool"&&T=="int")
def AB (T:String)(t:Tv):Rz:=match rN t with
 |some n=>.ok (vB (jv n T))
 |none=>.no
noncomputable def vU:Tv->Int
 | .at (.int i)=>i
 |_=>0
noncomputable def AX:Tv->Bool
 | .at (.bl b)=>b
 |_=>false
def intL (l:List Tv):Prop:=∀t∈l,∃i,t=.at (.int i)
def blL (l:List Tv):Prop:=∀t∈l,∃b,t=.at (.bl b)
theorem intL.is (f:intL l):∀{Z:List V},IsTs K G Z l->Z=(l.map vU).map V.int:=by induction l with|nil=>(intro Z h;cases h;rfl)|cons t l a=>intro Z h;cases h with| @cons v Z _ _ h1 b=>obtain⟨i,rfl⟩:=f t Vc;cases h1;rw[a (fun x c=>f x (Vb _ c)) b];rfl
theorem blL.is (f:blL l):∀{Z:List V},IsTs K G Z l->Z=(l.map AX).map V.bl:=by induction l with|nil=>(intro Z h;cases h;rfl)|cons t l a=>intro Z h;cases h with| @cons v Z _ _ h1 b=>obtain⟨i,rfl⟩:=f t Vc;cases h1;rw[a (fun x c=>f x (Vb _ c)) b];rfl
def AA:Tv->Rz
 | .lst l=>.cd (intL l) (vI (l.map vU).sum)
 |_=>.no
def Ay:Tv->Rz
 | .lst l=>.cd (blL l) (vB ((l.map AX).all id))
 |_=>.no
def yu:Tv->Rz
 | .at (.int i)=>.ok (vI i)
 | .at (.bl b)=>.ok (vI (if b then 1 else 0))
 |_=>.no
def Ax:Tv->Rz
 | .at (.int i)=>.ok (vI (-i))
 |_=>.no
def Uk (K:W.Frag):V->Hp->VK->Prop:=fun x H Q=>∃(a:Addr)(ns:List Int),x=.ref a/\SqL K H a (ns.map V.int)/\Q (.int ns.sum) H
def Uj (K:W.Frag)(f:List Bool->Bool):V->Hp->VK->Prop:=fun x H Q=>∃(a:Addr)(bs:List Bool),x=.ref a/\SqL K H a (bs.map V.bl)/\Q (.bl (f bs)) H
theorem Nq:iD K AA (Uk K):=fun G H x t s Q b h1 e q=>by
 unfold AA at e;split at e
 .next l=>
  cases e with|cd c=>
  obtain⟨a,Z,rfl,k1,d⟩:=h1.lst b;have:=c.is d;subst this;exact⟨a,_,rfl,.of k1,b7 b (.at rfl) q⟩
 cases e
theorem Np:iD K Ay (Uj K fun bs=>bs.all id):=fun G H x t s Q b h1 e q=>by
 unfold Ay at e;split at e
 .next l=>
  cases e with|cd c=>
  obtain⟨a,Z,rfl,k1,d⟩:=h1.lst b;have:=c.is d;subst this;exact⟨a,_,rfl,.of k1,b7 b (.at rfl) q⟩
 cases e
def oY:V->Hp->VK->Prop:=fun x H Q=>(∃i,x=.int i/\Q (.int i) H)∨∃k,x=.bl k/\Q (.int (if k then 1 else 0)) H
theorem Nl:iD K yu oY:=fun G H x t s Q a h1 e q=>by
 unfold yu at e;split at e
 .next i=>cases e;obtain⟨rfl,_⟩:=h1.at;exact .inl ⟨i,rfl,b7 a (.at rfl) q⟩
 .next b=>cases e;obtain⟨rfl,_⟩:=h1.at;exact .inr ⟨b,rfl,b7 a (.at rfl) q⟩
 cases e
theorem Nk:iD K Ax (rU fun i=>.int (-i)):=fun G H x t s Q a h1 e q=>by
 unfold Ax at e;split at e
 .next i=>cases e;obtain⟨rfl,_⟩:=h1.at;exact⟨i,rfl,b7 a (.at rfl) q⟩
 cases e
noncomputable def fc (n:Nat):List Tv:=(List.range n).map fun(i:Nat)=>.at (.int (i:Int))
def Ih (wa:TW):bG:=fun M k=>wa M fun x a=>bnd (rd a x) fun t=>bnd (qx t) fun j=>(-(2 ^ 62)<=j/\j<2 ^ 62)/\k (fc j.toNat) (a.cut M.tmp.length)
theorem L6 (n:Nat):rF K G (uU 0 n) (fc n):=by
 have c:(fc n).length=n:=by unfold fc;simp
 refine⟨fun i I H' _ _ a=>by rw[c] at a;exact a,fun I H' _ _=>by rw[c];exact U5 _,fun i t I H' x g h d b f=>?_⟩;obtain⟨rfl,rfl⟩:=f;have a:i<n:=by have:=(U7.mp b).1;rw[c] at this;exact this
 have:t=.at (.int (0+(i:Int))):=by unfold fc at b;rw[Vl,List.getElem?_range a] at b;simpa using b.symm
 subst this;exact⟨I,Same.refl _,d,Same.refl _,fun _ _ e=>.inl e,.at rfl⟩
theorem LI.rng {R:It->Hp->Prop}:LI X.K F (Ih wa) U H R->Cj (ka (LE X.K F wa) iM) U H R:=fun⟨G,e,M,n,a,k,q⟩=>by refine⟨G,e,M,_,a,k,fun x o f p r h k1 b c i=>?_⟩;obtain⟨t,l,k1⟩:=aO k1;obtain⟨j,m,hb,k1⟩:=aO k1;have d:=b.rd i l;rw[zv m] at d;exact⟨j,by rw[d.at.1],hb.1,hb.2,q _ _ f _ h k1 (b.cutTo a.lt c) c.g (L6 _)⟩
theorem yU {x:Ev}{b:Bool}(hb:ja x=some b):x=.fz (.at (.bl b)):=by
 cases x with
 |fz t=>cases t with
  | «at» v => cases v <;> simp [ja] at hb; subst hb; rfl
  |_=>simp [ja] at hb
 |_=>simp [ja] at hb
def B6 (wa wb:TW):TW:=fun M k=>wa M fun x a=>bnd (ja x) fun c=>if c=true then wb (a.cut M.tmp.length) k else k (.fz (.at (.bl false))) (a.cut M.tmp.length)
def Ig (wa wb:TW):TW:=fun M k=>wa M fun x a=>bnd (ja x) fun c=>if c=true then k (.fz (.at (.bl true))) (a.cut M.tmp.length) else wb (a.cut M.tmp.length) k
def B5 (wa:TW):TW:=fun M k=>wa M fun x a=>bnd (ja x) fun c=>k (.fz (.at (.bl (!c)))) (a.cut M.tmp.length)
theorem LE.andV {wb:TW}{Q:VK}:LE X.K F (B6 wa wb) U H Q->Ct (LE X.K F wa) (LE X.K F wb) U H Q:=fun⟨G,a,M,f,R,k,q⟩=>by refine⟨G,a,M,_,R,k,fun x o c p h i k1 j d e=>?_⟩;obtain⟨b,hb,k1⟩:=aO k1;rw[yU hb] at e;have l:IsT X.K c h (.at (.bl b)):=e;cases l;have R2:=j.cutTo R.lt d;refine⟨b,rfl,?_⟩;cases b with|true=>exact⟨c,a,_,f,R2,k1,fun b M' I t' v H' m R' s' n=>q b M' I t' v H' m R' (Stp.trans ⟨d.g,[],by simp⟩ s') n⟩|false=>exact q _ _ c a _ i k1 R2 ⟨d.g,[],by simp⟩ (.at rfl)
theorem LE.orV {wb:TW}{Q:VK}:LE X.K F (Ig wa wb) U H Q->IT (LE X.K F wa) (LE X.K F wb) U H Q:=fun⟨G,a,M,f,R,k,q⟩=>by refine⟨G,a,M,_,R,k,fun x o c p h i k1 j d e=>?_⟩;obtain⟨b,hb,k1⟩:=aO k1;rw[yU hb] at e;have l:IsT X.K c h (.at (.bl b)):=e;cases l;have R2:=j.cutTo R.lt d;refine⟨b,rfl,?_⟩;cases b with|false=>exact⟨c,a,_,f,R2,k1,fun b M' I t' v H' m R' s' n=>q b M' I t' v H' m R' (Stp.trans ⟨d.g,[],by simp⟩ s') n⟩|true=>exact q _ _ c a _ i k1 R2 ⟨d.g,[],by simp⟩ (.at rfl)
theorem LE.notV {Q:VK}:LE X.K F (B5 wa) U H Q->Cr (LE X.K F wa) U H Q:=fun⟨G,a,M,l,R,k,q⟩=>by refine⟨G,a,M,_,R,k,fun x m c n f h k1 i d e=>?_⟩;obtain⟨b,hb,k1⟩:=aO k1;rw[yU hb] at e;have j:IsT X.K c f (.at (.bl b)):=e;cases j;exact⟨b,rfl,q _ _ c a _ h k1 (i.cutTo R.lt d) ⟨d.g,[],by simp⟩ (.at rfl)⟩
noncomputable def A4:Rs->Option Bool
 | .v (.at (.bl b))=>some b
 |_=>none
theorem L5 {r:Rs}{b:Bool}(h:A4 r=some b):r=.v (.at (.bl b)):=by cases r with|v t=>(cases t with| «at» v=>(cases v with|bl i=>(cases h;rfl)|_=>cases h)|_=>cases h)|_=>cases h
def Ie (f d:Tv->Tv->Rz)(wa wb e:TW):TW:=fun M k=>wa M fun x g=>wb g fun y a=>bnd (rd a x) fun t=>bnd (rd a y) fun u=>bz (f t u) fun r=>bnd (A4 r) fun c=>
 if c=true then e a fun z b=>bnd (rd b y) fun h=>bnd (rd b z) fun v=>bz (d h v) (mC M.tmp.length b k) else k (.fz (.at (.bl false))) (a.cut M.tmp.length)
theorem LE.chn {f l:Tv->Tv->Rz}(o:c9 X.K f r)(o':c9 X.K l r'){wa wb m:TW}{U:St}{H:Hp}{Q:VK}:LE X.K F (Ie f l wa wb m) U H Q->yZ r r' (LE X.K F wa) (LE X.K F wb) (LE X.K F m) U H Q:=fun⟨G,n,M,K0,R,k,q⟩=>by refine⟨G,n,M,_,R,k,fun x E J L N H1 k1 O i P=>⟨J,L,E,_,O,k1,fun y S p w A T k2 R2 d B=>?_⟩⟩;obtain⟨t,V,k2⟩:=aO k2;obtain⟨u,W,k2⟩:=aO k2;obtain⟨s,Y,k2⟩:=mK k2;obtain⟨c,Z,k2⟩:=aO k2;have a:=Y;rw[L5 Z] at a;refine o p T N A t u _ _ R2.sub (R2.rd (P.stp d) V) (R2.rd B W) a fun v I H' e z2 z3 z4 z5=>?_;cases z5;have C:=R2.more e z3 z2 z4;refine⟨c,rfl,?_⟩;cases c with|true=>(refine⟨I,w,S,_,C,k2,fun z M4 D t4 v4 H4 b h s4 e4=>?_⟩;obtain⟨u',j,b⟩:=aO b;obtain⟨v',pI,b⟩:=aO b;obtain⟨s',a,b⟩:=mK b;have st:Stp p w D t4:=Stp.trans ⟨e,[],by simp⟩ s4;exact o' D H4 A v4 u' v' s' Q h.sub (h.rd (B.stp st) j) (h.rd e4 pI) a (h.done R.lt (i.trans (d.trans st)) b q))|false=>exact q _ _ I n _ H' k2 (C.cutTo R.lt (i.trans (d.trans ⟨e,[],by simp⟩))) ⟨i.g.trans (d.g.trans e),[],by simp⟩ (.at rfl)
def B4 (b wo c:TW):bM:=fun P M=>b M fun v d=>j7 (ed 0 d v) fun t e=>wo e fun x f=>c f fun y a=>bnd (tL x) fun r=>bnd (aA a r) fun o=>bnd (rd a y) fun u=>bnd (qx u) fun i=>match o with
 | .lst l=>∃j,gz l.length i=some j/\P.nx ((fT a (.lst (l.set j t)) r).cut 0)
 |_=>False
theorem LS.lput {f wo h:TW}{D:a7}:LS X.K F (B4 f wo h) D U H->nV (LE X.K F f) (IK (LE X.K F wo) (LE X.K F h) kA) D U H:=fun z0=>by
 obtain⟨G,M,P,R,k,ok⟩:=z0
 refine⟨G,[],M,_,R,k,fun z A G1 t1 v H1 k1 B C E=>?_⟩;obtain⟨t,m,I,k1⟩:=jD k1;have J:ed M.tmp.length A z=some (t,m):=by rw[R.lt];exact I
 obtain⟨L,R2,N,kz,O⟩:=B.frz R.lt C E J;refine⟨L,[],m,_,R2,k1,fun x Q S T xv H3 k3 V s3 W=>⟨S,T,Q,_,V,k3,fun y M4 Y t4 yv H4 c d e e4=>?_⟩⟩;obtain⟨r,hr,c⟩:=aO c;obtain⟨o,n,c⟩:=aO c;obtain⟨u,hu,c⟩:=aO c;obtain⟨i,hi,c⟩:=aO c;obtain⟨a,rfl,p⟩:=(W.stp e).adr hr;obtain⟨b,q,z2,z3⟩:=d.ob r o n;rw[p] at q;cases q;have s:=d.rd e4 hu;rw[zv hi] at s;obtain⟨rfl,_⟩:=s.at;cases o with|dic l=>exact c.elim|lst l=>obtain⟨Z,e5,w⟩:=z2;obtain⟨j,hj,c⟩:=c;refine⟨a,Z,i,j,rfl,rfl,e5,by rw[w.len];exact hj,?_⟩;have R5:=d.chg (o':=.lst (l.set j t)) n p (H':=ax H4 a (.lst (Z.set j v))) (fun b hb=>aD hb) ⟨_,aY,w.set j (O.mono (s3.g.trans e.g))⟩;exact ok.nx _ Y U _ c (R5.cut 0) (N.g.trans (s3.g.trans e.g))
def B3:TW:=fun M k=>mC M.tmp.length M k (.n (.dic []))
theorem Nj:PE X (.Dict [] [] pos) (LE X.K F B3):=pe_dnewK.imp fun U H Q ⟨G,c,M,d,R,k,q⟩ p a=>
 R.done R.lt .refl k q p _ a (fun b x e=>by rw[aD (cm e a)];exact e) ⟨[],aY,.nil⟩
noncomputable def yt:Tv->Rz
 | .dic l=>.ok (.n (.dic l))
 |_=>.no
def lQ:V->Hp->VK->Prop:=fun x H Q=>∃(p:Addr)(b:List (aw×V)),x=.ref p/\H p=some (.dK b)/\∀a,H a=none->Q (.ref a) (ax H a (.dK b))
theorem Oq:iD K yt lQ:=fun G H x t s Q f h1 e q=>by
 unfold yt at e;split at e
 .next l=>
  cases e;obtain⟨a,c,rfl,k1,g⟩:=h1.dic f;exact⟨a,c,rfl,k1,fun p d=>q p _ d (fun b x e=>by rw[aD (cm e d)];exact e) ⟨c,aY,g⟩⟩
 cases e
def oo (l:List (aw×Tv))(m:List (aw×Tv)):List (aw×Tv):=m.foldl (fun b a=>iC b a.1 a.2) l
theorem IsKs.merge {Z:List (aw×V)}:∀{ts:List (aw×Tv)}{ws:List (aw×V)}{c:List (aw×Tv)},IsKs K G Z ts->IsKs K G ws c->IsKs K G (lq ws Z) (oo c ts):=by induction Z with|nil=>(intro ts ws c h1 d;cases h1;exact d)|cons p Z e=>intro ts ws c h1 d;cases h1 with| @cons k v _ t ts a b=>show IsKs K G (lq (ee ws k v) Z) (oo (iC c k t) ts);exact e b (d.put a)
theorem IsKs.zip {c:List Str}:∀{Z:List V}{ts:List Tv},IsTs K G Z ts->IsKs K G (c.zip Z |>.map fun p=>(Sum.inr p.1,p.2)) (c.zip ts |>.map fun p=>(Sum.inr p.1,p.2)):=by induction c with|nil=>(intro Z ts h;exact .nil)|cons k c d=>intro Z ts h;cases h with|nil=>exact .nil|cons a b=>exact .cons a (d b)
noncomputable def tf (a:List Str)(ts:List Tv):List (aw×Tv):=a.zip ts |>.map fun p=>(Sum.inr p.1,p.2)
def Ic (b:List Str)(wr:bG):TW:=fun M k=>wr { M with tmp:=M.tmp++[.dic []] } fun ts a=>a.tmp[M.tmp.length]?=some (.dic [])/\k (.tmp M.tmp.length) { a with tmp:=a.tmp.take M.tmp.length++[.dic (oo [] (tf b ts))] }
def LP (K:W.Frag)(F:Fr)(w:bG)(c:List Str)(U:St)(H:Hp)(Q:List (V×V)->Hp->Prop):Prop:=∃G a M b,Rel K F G a M U H/\w M b/\∀ts M' I Z H',b ts M'->Rel K F I a M' U H'->Same G I->IsTs K I Z ts->Q (c.zip Z |>.map fun p=>(V.str p.1,p.2)) H'
theorem LP.nil {Q:List (V×V)->Hp->Prop}:LP K F yy [] U H Q->lr [] U H Q:=fun z=>by obtain⟨G,a,M,b,R,k,q⟩:=z;exact q [] M G [] H k R (Same.refl _) .nil
theorem LP.cons {x:Str}{a:List Str}{wa:TW}{wr:bG}{b:List (TE×TE)}(d:∀ U H Q,LP K F wr a U H Q->lr b U H Q){U:St}{H:Hp}{Q:List (V×V)->Hp->Prop}:LP K F (qK wa wr) (x::a) U H Q->lr ((tC (.str x),LE K F wa)::b) U H Q:=fun⟨G,c,M,s,R,k,q⟩=>by refine⟨G,c,M,_,R,k,fun u v w y e z k1 f h i=>?_⟩;obtain⟨t,j,l,k1⟩:=jD k1;obtain⟨m,R2,n,A,o⟩:=f.frz R.lt h i l;exact d _ _ _ ⟨m,c,j,_,R2,k1,fun ts M' I Z H' p R' s' r=>q _ _ I (e::Z) H' p R' (n.g.trans s') (.cons (o.mono s') r)⟩
theorem LE.dct {c:List Str}{wr:bG}{i:List (TE×TE)}(B:c.length<=15)(m:∀ U H Q,LP X.K F wr c U H Q->lr i U H Q){U:St}{H:Hp}{Q:VK}:LE X.K F (Ic c wr) U H Q->Ce i U H Q:=fun Y p j=>by
 obtain⟨G,a,M,C,R,k,q⟩:=Y
 have n:=R.push (o:=.dic []) j (H':=ax H p (.dK [])) (fun b x e=>by rw[aD (cm e j)];exact e) ⟨[],aY,.nil⟩;refine m _ _ _ ⟨G,a++[p],_,_,n,k,fun ts d s Z t k2 R2 u v=>?_⟩;have D:d.tmp.length=a.length+1:=by have:=R2.lt;simpa using this
 obtain⟨f,k2⟩:=k2;have w:=R.lt;rw[w] at f k2;have g:adr F (a++[p]) U (.tmp a.length)=some p:=by show(a++[p])[a.length]?=_;rw[Vn (U5 _)];simp
 obtain⟨b,l,⟨E,y,z⟩,I⟩:=R2.ob (.tmp a.length) (.dic []) f;rw[g] at l;cases l;cases z;refine⟨y,(c.zip Z).map (fun p=>(Sum.inr p.1,p.2)),by rw[map_map];rfl,by rw[U6,length_zip];lia,?_⟩;have h:=R2.chg (r:=.tmp a.length) (o:=.dic []) (o':=.dic (oo [] (tf c ts))) f g (H':=ax t p (.dK (lq [] ((c.zip Z).map fun p=>(Sum.inr p.1,p.2))))) (fun b hb=>aD hb) ⟨_,aY,(IsKs.zip v).merge .nil⟩;have A:d.tmp.set a.length (.dic (oo [] (tf c ts)))=d.tmp.take a.length++[.dic (oo [] (tf c ts))]:=by rw[List.set_eq_take_append_cons_drop,Vm (by lia),WX (by lia)]
 simp only [fT] at h;rw[A] at h;exact q _ _ s (a++[p]) _ _ k2 h ⟨u,[p],rfl⟩ ⟨p,g,rfl⟩
noncomputable def j1 (l:List Tv):List Tv:=(List.range l.length).zip l |>.map fun p=>.tup [.at (.int (p.1:Nat)),p.2]
theorem mH (l:List Tv):(j1 l).length=l.length:=by unfold j1;simp
theorem yT {u:Tv}(h:(j1 l)[i]?=some u):∃t,l[i]?=some t/\u=.tup [.at (.int (i:Nat)),t]:=by
 have a:i<l.length:=by have:=(U7.mp h).1;rw[mH] at this;exact this
 unfold j1 at h;have e:((List.range l.length).zip l)[i]?=some (i,l[i]):=List.getElem?_zip_eq_some.mpr ⟨List.getElem?_range a,U4 a⟩;rw[Vl,e] at h;exact⟨_,U4 a,by simpa using h.symm⟩
def Ib (wa:TW):bG:=fun M k=>wa M fun a b=>j7 (ed M.tmp.length b a) fun t c=>bnd (Im t) fun l=>k (j1 l) c
theorem LI.enu {R:It->Hp->Prop}:LI X.K F (Ib wa) U H R->Cc X.K (ka (LE X.K F wa) iM) U H R:=fun z0=>by
 obtain⟨G,Y,M,K0,P,k,q⟩:=z0
 refine⟨G,Y,M,_,P,k,fun ev M1 G1 t1 v J k1 R1 s1 e1=>?_⟩;obtain⟨t,M2,h2,k1⟩:=jD k1;obtain⟨l,p,k1⟩:=aO k1;obtain⟨L,R2,N,kz,t2⟩:=R1.frz P.lt s1 e1 h2;have O:∀{I H':Hp}{i:Nat}{t:Tv}{x:V}{T:Addr},Same I H'->H' T=none->IsT X.K I x t->∃E,Same I E/\Same E (ax H' T (.tup [.int (i:Nat),x]))/\Same H' (ax H' T (.tup [.int (i:Nat),x]))/\(∀a o,E a=some o->I a=some o∨H' a=none∨k7 o)/\IsT X.K E (.ref T) (.tup [.at (.int (i:Nat)),t]):=fun {I H' i t x T} c m s=>by
  have sH:Same H' (ax H' T (.tup [.int (i:Nat),x])):=fun b y e=>by rw[aD (cm e m)];exact e
  have Q:Same I (ax I T (.tup [.int (i:Nat),x])):=fun b y e=>by rw[aD (cm e (c.free m))];exact e
  refine⟨ax I T (.tup [.int (i:Nat),x]),Q,fun b y e=>?_,sH,fun b y e=>?_,.tup aY (.cons (.at rfl) (.cons (s.mono Q) .nil))⟩;by_cases z:b=T;subst z;rw[aY] at e ⊢;exact e;rw[aD z] at e ⊢;exact c _ _ e;by_cases z:b=T;subst z;exact .inr (.inl m);rw[aD z] at e;exact .inl e
 cases t2 with| «at» f =>( cases p)|dic h r=>(cases p)|scr h r=>(cases p)|fnv=>(cases p)| @lst a Z _ h r=>(cases p;refine⟨a,rfl,.inl ⟨⟨Z,.of (R2.sub _ _ h)⟩,q _ _ L _ J k1 R2 N.g ⟨fun i I H' d c n=>?_,fun I H' d c=>⟨Z,.of ((d.trans c) _ _ h),by rw[mH,r.len]⟩,fun i u I H' x S d c A B=>?_⟩⟩⟩;rw[mH,<- r.len] at n;exact⟨Z,Z[i],.of ((d.trans c) _ _ h),U4 n⟩;obtain⟨t,C,rfl⟩:=yT A;obtain⟨T,W,rfl,m,s,rfl⟩:=B;obtain⟨w,D,j⟩:=r.get C;have:=s Z (.of ((d.trans c) _ _ h));rw[D] at this;cases this;exact O c m (j.mono d))| @tup a Z _ h r=>(cases p;refine⟨a,rfl,.inr ⟨⟨Z,.of (R2.sub _ _ h)⟩,q _ _ L _ J k1 R2 N.g ⟨fun i I H' d c n=>?_,fun I H' d c=>⟨Z,.of ((d.trans c) _ _ h),by rw[mH,r.len]⟩,fun i u I H' x S d c A B=>?_⟩⟩⟩;rw[mH,<- r.len] at n;exact⟨Z,Z[i],.of ((d.trans c) _ _ h),U4 n⟩;obtain⟨t,C,rfl⟩:=yT A;obtain⟨T,W,rfl,m,s,rfl⟩:=B;obtain⟨w,D,j⟩:=r.get C;have:=s Z (.of ((d.trans c) _ _ h));rw[D] at this;cases this;exact O c m (j.mono d))| @ktp a Z _ h r=>cases p;refine⟨a,rfl,.inr ⟨⟨Z,R2.sub.tup h⟩,q _ _ L _ J k1 R2 N.g ⟨fun i I H' d c n=>?_,fun I H' d c=>⟨Z,(d.trans c).tup h,by rw[mH,r.len]⟩,fun i u I H' x S d c A B=>?_⟩⟩⟩;rw[mH,<- r.len] at n;exact⟨Z,Z[i],(d.trans c).tup h,U4 n⟩;obtain⟨t,C,rfl⟩:=yT A;obtain⟨T,W,rfl,m,s,rfl⟩:=B;obtain⟨w,D,j⟩:=r.get C;have:=s Z ((d.trans c).tup h);rw[D] at this;cases this;exact O c m (j.mono d)
def IZ (t u:Tv):Rz:=aI (fun n=>match t with
 | .lst l=>.cd ((-(2 ^ 63)<=n/\n<2 ^ 63)/\l.length*n.toNat<=16777216) (.n (.lst (List.replicate n.toNat l).flatten))
 |_=>.no) u
theorem IsTs.rep {ts:List Tv}(h:IsTs K G Z ts):∀n:Nat,IsTs K G (List.replicate n Z).flatten (List.replicate n ts).flatten
 | 0=>.nil
 |n+1=>by rw[WK,WK,flatten_cons,flatten_cons];exact h.app (IsTs.rep h n)
theorem Ni:c9 K IZ oW:=fun G H x y t u s Q f h1 g e q=>by
 obtain⟨n,rfl,d⟩:=e.aI;cases t with
 |lst l=>
  cases d with|cd c=>
  obtain⟨a,Z,rfl,k1,b⟩:=h1.lst f;obtain⟨rfl,_⟩:=g.at;exact⟨a,n,Z,rfl,rfl,k1,c.1.1,c.1.2,by rw[Vr,b.len];exact c.2,mJ (b.rep _) q⟩
 |_=>exact(eO d).elim
def Cy (t u:Tv):Rz:=aI (fun n=>match t with
 | .tup l=>.cd (l ≠ []/\(2<=n/\n<=1000)/\l.length<=1000) (.v (.tup (List.replicate n.toNat l).flatten))
 |_=>.no) u
theorem Oo:c9 K Cy (Cd K):=fun G H x y t u s Q f h1 g e q=>by
 obtain⟨n,rfl,d⟩:=e.aI;cases t with
 |tup l=>
  cases d with|cd c=>
  obtain⟨a,Z,rfl,k1,b⟩:=h1.tup f;obtain⟨rfl,_⟩:=g.at;exact⟨a,n,Z,rfl,rfl,SqT.of k1,fun z=>c.1 (by subst z;cases b;rfl),c.2.1.1,c.2.1.2,by rw[b.len];exact c.2.2,fun p h=>uv f (jn h) aY (b.rep _) q⟩
 |_=>exact(eO d).elim
end
section
def gq:V->List V->Hp->VK->Prop:=fun x Z H Q=>∃(l:Addr)(ns:List Str)(i:Str)(j:Nat),x=.ref l/\Z=[.str i]/\H l=some (.lst (ns.map V.str))/\ns[j]?=some i/\(∀m,m<j->ns[m]? ≠ some i)/\Q (.int (j:Nat)) H
theorem PR:Je X "list.index" gq:=by
 intro M s U H x Z v N Q I C D h;obtain⟨l,ns,i,j,rfl,rfl,E,p,G,q⟩:=h;cases C;obtain⟨u,rfl,J⟩:=D.one;obtain⟨tk,rfl⟩:=J;obtain⟨z,c,n,r,O,e⟩:=I.lstM E;have b:c.length=ns.length:=by have:=r.length;rw[U6] at this;exact this.symm
 have K:∀(m:Nat)(y:Value),c[m]?=some y->∃k t,ns[m]?=some k/\y=.str k t:=by
  intro m y g;have a:m<ns.length:=by rw[<- b];exact(U7.mp g).1
  obtain⟨P,A,L⟩:=r.get (i:=m) (x:=.str ns[m]) (by rw[Vl,U4 a];rfl);rw[g] at A;cases A;obtain⟨t,rfl⟩:=L;exact⟨_,t,U4 a,rfl⟩
 have B:j<c.length:=by rw[b];exact(U7.mp p).1
 have val:∀(m:Nat)(a:m<c.toArray.size),∃k t,ns[m]?=some k/\c.toArray[m]=.str k t:=fun m a=>by simp only [Vd] at a;obtain⟨k,t,d,f⟩:=K m c[m] (U4 a);exact⟨k,t,d,by simpa using f⟩
 have hsz:=Vr;refine call_meets F.slot_list_index ⟨_,e,rfl⟩ F.entry_list_index (F.args_list_index_2 _ _) (SeqAt.list_indexAt l c.toArray n none #[] (.str i tk) (fun y=>match y with | .str k _=>k==i|_=>false) j (by simpa using B) (by
  rw[U6] at z
  lia) ?_ ?_) ⟨e,?_,?_⟩
 obtain⟨k,t,d,f⟩:=val j (by simpa using B);rw[f];rw[p] at d;cases d;exact W6 _;intro m a o;obtain⟨k,t,d,f⟩:=val m a;rw[f];show(k==i)=false;rw[V5];intro w;subst w;exact G m o d;intro y g;obtain⟨m,a,rfl⟩:=Array.mem_iff_getElem.mp g;obtain⟨k,t,d,f⟩:=val m a;rw[f];exact tU (y:=.str k) (x:=.str i) ⟨t,rfl⟩ ⟨tk,rfl⟩ rfl rfl;exact⟨.int (j:Nat),H,I.tok _,⟨_,rfl⟩,q⟩
theorem SN:c8 X (.type "dict") (fun xs H Q=>∃(p:Addr)(b:List (aw×V)),xs=[.ref p]/\H p=some (.dK b)/\∀a,H a=none->Q (.ref a) (ax H a (.dK b))):=by intro g s U H xs i Q I r h;obtain⟨p,b,rfl,c,q⟩:=h;obtain⟨u,rfl,d⟩:=gK r;cases d;exact OA I (Rd.of c) fun a s' e f=>⟨.ref a,_,f,rfl,q a e⟩
end
section
noncomputable def T4:Tv->Bool
 | .lst _=>true
 |_=>false
def Ia (wa:TW)(wr:bG):TW:=fun M k=>wa M fun x a=>bnd (rd a x) fun c=>T4 c=true/\wr a fun ts b=>bnd (rd b x) fun t=>∃(ns:List Str)(i:Str)(j:Nat),t=.lst (ns.map fun s=>.at (.str s))/\ts=[.at (.str i)]/\ns[j]?=some i/\(∀m,m<j->ns[m]? ≠ some i)/\k (.fz (.at (.int (j:Nat)))) (b.cut M.tmp.length)
theorem Nh:∀{ns:List Str},IsTs K G Z (ns.map fun s=>.at (.str s))->Z=ns.map V.str:=by induction Z with|nil=>(intro ns h;cases ns with|nil=>rfl|cons _ _=>cases h)|cons v Z c=>intro ns h;cases ns with|nil=>(cases h)|cons n ns=>cases h with|cons a b=>cases a;rw[c b];rfl
theorem LE.idx {n:Nat}{wr:bG}{Q:VK}:LE X.K F (Ia wa wr) U H Q->vY X.K "list" gq (LE X.K F wa) (LF X.K F n wr) U H Q:=fun⟨G,h,M,P,R,k,q⟩=>by refine⟨G,h,M,_,R,k,fun x o p r v S k1 c d m=>?_⟩;obtain⟨u,s,w,k1⟩:=aO k1;have y:=c.rd m s;cases u with|lst l=>(obtain⟨a,Z,rfl,z,_⟩:=y.lst c.sub;refine⟨.inl ⟨rfl,_,SqL.of z⟩,p,r,o,_,c,k1,fun ts T A ws B k2 R2 e C _=>?_⟩;obtain⟨t,D,ns,i,j,rfl,rfl,h1,E,k2⟩:=aO k2;have f:=R2.rd (m.stp ⟨e,[],by simp⟩) D;obtain⟨b,I,J,hb,L⟩:=f.lst R2.sub;cases J;rw[Nh L] at hb;cases C with|cons N O=>cases O;cases N;exact⟨a,ns,i,j,rfl,rfl,hb,h1,E,q _ _ A h _ B k2 (R2.cutTo R.lt ⟨d.g.trans e,d.t⟩) ⟨d.g.trans e,[],by simp⟩ (.at rfl)⟩)|_=>cases w
end
mutual
inductive TvTh:Tv->Th->Prop where
 |at {v:V} (h:lg v=true):TvTh (.at v) (.at v)
 |tup {l:List Tv} {m:List Th} (h:TvThs l m):TvTh (.tup l) (.tup m)
 |lst {l:List Tv} {m:List Th} (h:TvThs l m):TvTh (.lst l) (.lst m)
inductive TvThs:List Tv->List Th->Prop where
 |nil:TvThs [] []
 |cons {t:Tv} {u:Th} {l:List Tv} {m:List Th} (h:TvTh t u) (r:TvThs l m):TvThs (t::l) (u::m)
end
section
mutual
theorem TvTh.is:∀{t:Tv}{u:Th}{v:V},TvTh t u->IsT K H v t->IsTh H v u
 |_,_,_,.at h,.at f=>.at h
 |_,_,_,.tup h,.tup e r=>.tup e (TvThs.is h r)
 |_,_,_,.lst h,.lst e r=>.lst e (TvThs.is h r)
theorem TvThs.is:∀{l:List Tv}{m:List Th}{Z:List V},TvThs l m->IsTs K H Z l->IsThs H Z m
 |_,_,_,.nil,.nil=>.nil
 |_,_,_,.cons h r,.cons e s=>.cons (TvTh.is h e) (TvThs.is r s)
end
def B1 (t:Tv):Rz:=.ex fun r=>∃u,isRf t=true/\TvTh t u/\(aC u).showable=true/\(aC u).depth<=60/\(aC u).shown.length<=16777216/\r=vS (aC u).shown
where isRf:Tv->Bool
 | .at _=>false
 |_=>true
def L4 (n:Nat):V->Hp->VK->Prop:=fun x H Q=>∃(a:Addr)(t:Th),x=.ref a/\IsTh H (.ref a) t/\(aC t).showable=true/\n+((aC t).depth+1)<cLine/\(aC t).shown.length<=sizeLine/\Q (.str (aC t).shown) H
theorem Om {n:Nat}(l:n+64<cLine):iD K B1 (L4 n):=fun G H x t s Q b h1 e q=>by
 cases e with
 |ex h=>
  obtain⟨u,g,i,j,m,c,rfl⟩:=h;have d:=h1.up b;have k:=i.is d;have:∃a,x=.ref a:=by cases d with| «at» f =>( cases g)|_=>exact⟨_,rfl⟩
  obtain⟨a,rfl⟩:=this;exact⟨a,u,rfl,k,j,by lia,by rw[Vr];exact c,b7 b (.at (Vj c)) q⟩
end
def sQ (neg:Bool):Tv->Tv->Rz
 | .lst l,.lst []=>.ok (vB (xor neg l.isEmpty))
 |_,_=>.no
def Aw (K:W.Frag)(neg:Bool):R2:=fun x y H Q=>∃a b xs,x=.ref a/\y=.ref b/\SqL K H a xs/\SqL K H b []/\Q (.bl (xor neg xs.isEmpty)) H
theorem Dk {neg:Bool}:c9 K (sQ neg) (Aw K neg):=fun G H x y t u s Q c h1 d e q=>by
 unfold sQ at e;split at e
 .next l=>
  cases e;obtain⟨a,Z,rfl,k1,f⟩:=h1.lst c;obtain⟨b,ws,rfl,k2,g⟩:=d.lst c;cases g;have h:Z.isEmpty=l.isEmpty:=by cases f <;> rfl
  refine⟨a,b,_,rfl,rfl,.of k1,.of k2,?_⟩;rw[h];exact b7 c (.at rfl) q
 cases e
section
theorem L3 (c:X.A.units<cLine):OpR X (compareOp .Eq) (Aw X.K false):=fun d s U H x y v u Q I e f z=>by obtain⟨a,b,xs,h1,g,h,i,q⟩:=z;exact P5 c d s U H x y v u Q I e f ⟨a,b,xs,h1,g,h,i,by simpa using q⟩
theorem L0 (g:X.A.units<cLine):OpR X (compareOp .NotEq) (Aw X.K true):=by intro t s U H x y v u Q I k l h;obtain⟨a,b,xs,rfl,rfl,m,n,q⟩:=h;cases k;cases l;obtain⟨B,r,pl,C⟩:=I.list m;obtain⟨i,o,c,p⟩:=I.list n;have f:=r.length;have d:=o.length;cases xs with|nil=>refine SeqAt.RcNeAt.lists (e:=fun _=>true) pl.isList c.isList (by simp only [Vd];simp at f d;lia) g (fun j h1 D=>?_) X.prog X.w _ _ ?_;simp only [Vd] at h1;simp at f;lia;refine bh I q ?_;rw[Vd,<- f];rfl|cons z E=>refine SeqAt.RcNeAt.lists_lengths pl.isList c.isList (by simp only [Vd,bne_iff_ne];simp at f d;lia) g X.prog X.w _ _ ?_;exact bh I q rfl
end
def Av (M:Ms)(i:Nat):Option (Rf×List Tv):=match j9 M i with
 |some (.loc j)=>match aA M (.loc j) with
  |some (.lst ts)=>some (.loc j,ts)
  |_=>none
 |some (.out j)=>match aA M (.out j) with
  |some (.lst ts)=>some (.out j,ts)
  |_=>none
 |_=>none
def yS (ak:List Nat)(own i:Nat)(p:Tv->Ms->Option Ms)(b:cq)(c:TW):TW:=fun M k=>match Av M i with
 |some (r,ts)=>ts.length<=16777216/\bnd (qO M ak) fun d=>bnd (oy M.tmp.length M d) fun a=>(k9 a&&mz r a)=true ∧bo p b c (fun e f=>bnd (fh (a.map (·.1)) f.out) fun g=>qo M.tmp.length (wb M a g) k (.own (.lst e))) ts [] (entry (ak.length+own) (a.map (·.1)))
 |none=>yx ak own (vR (nP i)) p b c M k
theorem Ng {r:Rf}{ts:List Tv}(h:Av M i=some (r,ts)):aA M r=some (.lst ts)/\((r=.loc i/\j9 M i=some (.loc i))∨∃k,r=.out k/\j9 M i=some (.out k)):=by
 unfold Av at h;split at h
 .next j e=>
  have a:j=i:=by
   unfold j9 at e;split at e <;> cases e
   rfl
  subst a;split at h
  .next ts' e2=>cases h;exact⟨e2,.inl ⟨rfl,e⟩⟩
  cases h
 .next j e=>
  split at h
  .next ts' e2=>cases h;exact⟨e2,.inr ⟨j,rfl,e⟩⟩
  cases h
 cases h
section
theorem LE.compV {m L:Nat}{p:Tv->Ms->Option Ms}{wt:cq}{we:TW}(O:N'.length=ak.length+m){U:St}{H:Hp}{Q:VK}:LE X.K F (yS ak m L p wt we) U H Q->tK (ak.map some++List.replicate m none) (AG X.K (LE X.K F (nP L))) (rC X.K p) (rE X.K wt) (rD X.K we) U H Q:=fun z0=>by
 obtain⟨G,ta,M,K0,R,k,q⟩:=z0
 unfold yS at k;split at k
 .next r ts hr=>
  obtain⟨ho,s⟩:=Ng hr;have hw:nP L M fun P M'=>M'=M/\j9 M L=some P:=by unfold nP;rcases s with ⟨_,e⟩|⟨k',_,e⟩ <;> (rw[e];exact⟨rfl,rfl⟩)
  refine⟨G,ta,M,_,R,hw,fun P u S T v H1 hk d s1 e1=>?_⟩;obtain⟨rfl,V⟩:=hk;obtain⟨a,f,⟨c,hH,w⟩,hg⟩:=d.ob r _ ho;have Kh:v=.ref a:=by rcases s with ⟨rfl,e⟩|⟨k',rfl,e⟩;rw[e] at V;cases V;obtain⟨h1,b,z⟩:=e1;simp only [adr] at f;subst z;rw[h1] at f;cases f;rfl;rw[e] at V;cases V;obtain⟨b,h1,z⟩:=e1;simp only [adr] at f;subst z;rw[h1] at f;cases f;rfl
  refine⟨a,Kh,.inl ⟨⟨c,SqL.of hH⟩,?_⟩⟩;obtain⟨hts',k1⟩:=k;obtain⟨dM,h1,k1⟩:=aO k1;obtain⟨W,z,ok,k1⟩:=aO k1;rw[U1] at ok;obtain⟨Z,jd,e2⟩:=d.vars h1;obtain⟨as,g1,g2,g3,g4⟩:=d.args e2 z ok.1;have Ks:a∉as:=fun hm=>by obtain⟨y,x,o,m1,m2,m3⟩:=g1.mem a hm;have:=d.ij r x _ o a ho m2 f m3;subst this;exact uE ok.2 y m1
  have A:Z.length=ak.length:=by have:=V8 List.length jd;simpa using this.symm
  have hal:(W.map (·.1)).length=ak.length:=by rw[<- g2.len,A]
  have st:oz (ak.map some++List.replicate m none) U=dO N' Z:=by rw[Fc,jd,Fb,O,A];congr 2;lia
  have E:=zW (N:=N') d.sub g2 g3 (by rw[hal,O];lia);rw[O] at E;rw[st];refine⟨fun i n h C H=>n+i=ts.length/\h.length<=i/\∃Gc j D,Rel X.K ⟨H1,S,as⟩ Gc [] j C H/\IsTs X.K Gc h D/\Same S Gc/\bo p wt we (fun h j=>bnd (fh (W.map (·.1)) j.out) fun ss=>qo u.tmp.length (wb u W ss) K0 (.own (.lst h))) (ts.drop i) D j,⟨ts.length,by lia,VW _,S,_,[],E,.nil,Same.refl _,k1⟩,?_⟩;rintro i n h C H2 ⟨hn,jP,G2,j,D,R2,hy,Y,k2⟩;have xJ:H2 a=some (.lst c):=R2.fra a _ hH Ks;rcases Wm i ts.length with hi|hi;right;have ht:=U4 hi;obtain⟨xi,I,hxt⟩:=w.get ht;refine⟨⟨c,xi,SqL.of xJ,I⟩,by rw[Vr];lia,fun x H' hx=>?_⟩;obtain⟨rfl,hx⟩:=hx;have J:=hx c (SqL.of xJ);rw[I] at J;cases J;have z5:=hxt.mono Y;rw[zJ ht] at k2;obtain⟨M3,e3,k2⟩:=aO k2;refine⟨_,G2,j,_,M3,R2,z5,e3,fun σ4 R4=>⟨_,G2,[],M3,_,R4,k2,fun b M5 G5 H5 k5 R5 s5=>?_⟩⟩;cases b with
  |true=>
   refine⟨_,G5,[],M5,_,R5,k5,fun P M6 G6 t6 v H6 k6 R6 s6 e6=>?_⟩;obtain⟨t,M7,h7,k6⟩:=jD k6;have l5:M5.tmp.length=0:=R5.lt;have xM:ed M5.tmp.length M6 P=some (t,M7):=by rw[l5];exact h7
   obtain⟨G7,R7,s7,s7',t7⟩:=R6.frz R5.lt s6 e6 xM;exact⟨n-1,by lia,by lia,by simp;lia,G7,M7,_,R7,(hy.mono (s5.trans s7.g)).app (.cons t7 .nil),Y.trans (s5.trans s7.g),k6⟩
  |false=>exact⟨n-1,by lia,by lia,by lia,G5,M5,D,R5,hy.mono s5,Y.trans s5,k5⟩
  left;have hi':i=ts.length:=by lia
  refine⟨⟨c,SqL.of xJ,by rw[w.len,hi'];exact U5 _⟩,fun l hl=>?_⟩;rw[WX hi] at k2;obtain⟨ss,e3,k2⟩:=aO k2;have kK:u.tmp.length=T.length:=d.lt;rw[kK] at g4 k2;have AM:Rel X.K F S (T++[]) u U H1:=by rw[Vk];exact d
  have xR:RAs F (T++[]) U u W Z as:=by rw[Vk];exact g1
  have B:=AM.back xR (R2.aps g2 e3) R2.post g4;have B2:=B.1.push (o:=.lst D) hl (H':=ax H2 l (.lst h)) (fun b x e=>by rw[aD (cm e hl)];exact e) ⟨h,aY,hy⟩;refine q _ _ G2 (T++[l]) _ _ k2 (by rw[qP];exact B2) (s1.trans ⟨Y,[l],rfl⟩) ⟨l,?_,rfl⟩;rw[Vn (U5 _)];simp
 exact LI.seq (LE.comp O ⟨G,ta,M,K0,R,k,q⟩)
end
end
namespace Ztl
open PySem.Builtin PySem.AutoSeq1
end Ztl
section
variable {H G:Hp}{F:Fr}{X:Cx}{K:W.Frag}{l:List Tv}
section
noncomputable def nU (l m:List Tv):List Tv:=(l.zip m).map fun p=>.tup [p.1,p.2]
theorem zi {m:List Tv}(h:l.length=m.length):(nU l m).length=l.length:=by unfold nU;rw[U6,length_zip];lia
end
end
namespace Stx
open Srt
variable {a:Addr}{P:Program}{w:World}{h':Heap}{u:Nat}
theorem strs_len:∀{a:List Value}{ns:List Str},StrsAre a ns->a.length=ns.length
 |_,_,.nil=>rfl
 |_,_,.cons y t h=>V8 (· + 1) (strs_len h)
theorem zN {v:Value}{k:Str}(h:Value.isStrOf k v=true):∃t,v=.str k t:=by unfold Value.isStrOf at h;split at h;rw[Vt] at h;subst h;exact⟨_,rfl⟩;cases h
def IS (P:Program)(w:World)(h:Heap)(a:Addr)(l:List Str):Prop:=∃o es u t,h.get? a=some o/\o.ExactSet/\o.data=.set es u t/\ElemsOf (PySem.strKind P w) es.toList/\(es.toList.map fun e=>strOf e.2).Perm l/\l.Nodup/\es.size<scanBound/\t.fits es.size=true/\Rsq t.place/\t.led=!iA w
theorem IS.keep {h:Heap}{l:List Str}(x:IS P w h a l)(k:∀o,h.get? a=some o->h'.get? a=some o):IS P w h' a l:=by obtain⟨o,es,u,t,b,r⟩:=x;exact⟨o,es,u,t,k o b,r⟩
theorem IS.type {s:Shared}{l:List Str}(x:IS P w s.heap a l):s.TypeIs (.ref a) "set":=by obtain⟨o,es,u,t,b,c,_⟩:=x;exact⟨o,b,c.1⟩
noncomputable def dh (l:List Str)(k:Str):List Str:=if k∈l then l else l++[k]
theorem Qz {l:List Str}{k:Str}(h:l.Nodup):(dh l k).Nodup:=by unfold dh;by_cases e:k∈l;rw[Vm e];exact h;rw[Vi e];exact nodup_append.mpr ⟨h,nodup_cons.mpr ⟨Vp,nodup_nil⟩,fun a c b hb=>by rw[VS.mp hb];exact fun z=>e (z▸c)⟩
section
variable {A:Around}{E:Value->Shared->Prop}{s:Shared}
theorem IS.store {h:Heap}{o:Obj}{es:Array (Int×Value)}{t:SetTable}(c:h.get? a=some o)(d:o.ExactSet)(hd:o.data=.set es u t){b:Array (Int×Value)}{t':SetTable}{l:List Str}
  (h1:ElemsOf (PySem.strKind P w) b.toList) (f:(b.toList.map fun e=>strOf e.2).Perm l) (i:l.Nodup) (j:b.size<scanBound) (k:t'.fits b.size=true) (m:Rsq t'.place) (n:t'.led=!iA w):
  (h.update a (Obj.putSet b t')).get? a=some { o with data:=.set b (u+1) t' }/\IS P w (h.update a (Obj.putSet b t')) a l:=by
 have g:(h.update a (Obj.putSet b t')).get? a=some { o with data:=.set b (u+1) t' }:=by have q:=Vs (Obj.putSet b t') c (by rw[putSet_of b t' hd];rfl);rw[putSet_of b t' hd] at q;exact q
 exact⟨g,_,b,u+1,t',g,d,rfl,h1,f,i,j,k,m,n⟩
theorem SV {l:List Str}{k:Str}{tk:Tok}{Q:Bool->Shared->Prop}(hS:IS P w s.heap a l)(room:l.length+1<scanBound)
  (h:∀h' b,Heap.SameBut a s.heap h'->IS P w h' a (dh l k)->Q b { s with heap:=h' }):wpAny (model P w) A (setAddHashed a (.str k tk) ((PySem.strKind P w).hash k)) Q E s:=by
 obtain⟨o,es,u,t,C,I,hd,m,M,df,hb,S,hr,n⟩:=hS;have J:es.size=l.length:=by rw[<- M.length_eq,U6,VD]
 have jT:(PySem.strKind P w).is k (.str k tk)=true:=PySem.strKind_is _ _ _ _
 have pz:k∈l↔∃e∈es.toList,(PySem.strKind P w).is k e.2=true:=by rw[<- M.mem_iff,VG];constructor;rintro⟨e,he,q⟩;obtain⟨⟨k',jU,_⟩,_⟩:=m e he;obtain⟨t',T⟩:=zN jU;refine⟨e,he,?_⟩;rw[T] at q ⊢;rw[<- q];exact PySem.strKind_is _ _ _ _;rintro⟨e,he,q⟩;obtain⟨t',T⟩:=zN q;exact⟨e,he,by rw[T];rfl⟩
 unfold setAddHashed setAddHashedIn;refine Vx (UZ (WV C hd S ?_));dsimp only;rw[byScan_of (x:=.str k tk) rfl hb m];simp only [↓reduceIte];unfold setAddByScan;refine UZ (UZ (wpAny_rule (UZ (wpAny_setScan_of jT C hd S m ?_))))
 cases hq:List.findIdx? (fun e=>(PySem.strKind P w).is k e.2) es.toList with
 |some j=>dsimp only;obtain⟨hj,U,_⟩:=List.findIdx?_eq_some_iff_getElem.mp hq;have V:k∈l:=pz.mpr ⟨es.toList[j],WA hj,U⟩;refine U2 (U2 ?_);refine h s.heap _ (Heap.SameBut.refl a s.heap) ?_;rw[dh,Vm V];exact⟨o,es,u,t,C,I,hd,m,M,df,hb,S,hr,n⟩
 |none=>
  dsimp only;have V:¬k∈l:=fun z=>by obtain⟨e,he,q⟩:=pz.mp z;have:=List.findIdx?_eq_none_iff.mp hq e he;rw[q] at this;cases this
  have H:=layNew_perm t es ((PySem.strKind P w).hash k) (.str k tk);have y:=layNew_fits t es ((PySem.strKind P w).hash k) (.str k tk);have W:=Sn hr es ((PySem.strKind P w).hash k) (.str k tk);generalize layNew t es ((PySem.strKind P w).hash k) (.str k tk)=L at H y W ⊢;obtain⟨c,B,wd,K⟩:=L;dsimp only at H y W ⊢;rw[Array.toList_push] at H;have N:ElemsOf (PySem.strKind P w) c.toList:=(m.push jT rfl).perm H;have O:(c.toList.map fun e=>strOf e.2).Perm (dh l k):=by refine(H.map _).trans ?_;rw[VQ,dh,Vi V];exact List.Perm.append_right _ M
  have ng:(dh l k).Nodup:=Qz df;have b1:c.size<scanBound:=by rw[<- VD,H.length_eq,U9,VD,J];exact room
  refine UZ (zm K ?_);have e4:hashByValue 8 (.str k tk)=pure false:=rfl;rw[e4];obtain⟨i,D⟩:=W;have p:=fun t9:SetTable=>VO s.heap a (Obj.putSet c t9);cases X:B.plain
  .rw[Vi (by decide)]
   refine UZ (U2 ?_);simp only [↓reduceIte];have d:=D.trans n;have f:=p B;clear X e4 D p;generalize B=r at y i d f ⊢;refine UZ (wpAny_storeSet_of C hd ?_ (WW b1));obtain⟨g1,Y⟩:=IS.store (P:=P) (w:=w) C I hd N O ng b1 y i d
   split
   .have f1:=relayAll_perm r c (SetTable.grown c.size)
    have F:=relayAll_fits r c (SetTable.grown c.size);have v:=Hn (t:=r) c (SetTable.grown c.size);generalize relayAll r c (SetTable.grown c.size)=R at f1 F v ⊢;obtain⟨G,t3,g⟩:=R;dsimp only at f1 F v ⊢;have sz:G.size=c.size:=by rw[<- VD,f1.length_eq,VD]
    refine UZ (zm g ?_);refine UZ (wpAny_storeSet_of g1 rfl ?_ (WW (by lia)));obtain⟨g2,Z⟩:=IS.store (P:=P) (w:=w) g1 I rfl (N.perm f1) ((f1.map _).trans O) ng (by lia) F v.1 (v.2.trans d);exact U2 (U2 (h _ _ (f.trans (VO _ a _)) Z))
   .exact U2 (U2 (h _ _ f Y))
  .rw[Vm rfl]
   refine UZ (U2 ?_);simp only [Bool.false_eq_true,↓reduceIte];replace y:({ B with plain:=false }:SetTable).fits c.size=true:=y;replace i:Rsq ({ B with plain:=false }:SetTable).place:=i;have d:({ B with plain:=false }:SetTable).led=!iA w:=D.trans n;have f:=p { B with plain:=false };clear p;generalize ({ B with plain:=false }:SetTable)=r at y i d f ⊢;refine UZ (wpAny_storeSet_of C hd ?_ (WW b1));obtain⟨g1,Y⟩:=IS.store (P:=P) (w:=w) C I hd N O ng b1 y i d
   split
   .have f1:=relayAll_perm r c (SetTable.grown c.size)
    have F:=relayAll_fits r c (SetTable.grown c.size);have v:=Hn (t:=r) c (SetTable.grown c.size);generalize relayAll r c (SetTable.grown c.size)=R at f1 F v ⊢;obtain⟨G,t3,g⟩:=R;dsimp only at f1 F v ⊢;have sz:G.size=c.size:=by rw[<- VD,f1.length_eq,VD]
    refine UZ (zm g ?_);refine UZ (wpAny_storeSet_of g1 rfl ?_ (WW (by lia)));obtain⟨g2,Z⟩:=IS.store (P:=P) (w:=w) g1 I rfl (N.perm f1) ((f1.map _).trans O) ng (by lia) F v.1 (v.2.trans d);exact U2 (U2 (h _ _ (f.trans (VO _ a _)) Z))
   .exact U2 (U2 (h _ _ f Y))
end
end Stx
namespace Stx
open Srt
variable {x:Str}{a:Addr}{P:Program}{w:World}{Q:Value->Shared->Prop}{fp:List Addr}
section
theorem IS.new {h:Heap}(e:h.get? a=some (eu w)):IS P w h a []:=⟨_,#[],0,_,e,⟨rfl,rfl,rfl⟩,rfl,fun e he=>absurd he (by simp),List.Perm.refl _,nodup_nil,by decide,by rfl,List.Pairwise.nil,rfl⟩
end
theorem zB:∀{a:List Value}{ns:List Str},StrsAre a ns->∀(i:Nat)(v:Value),a[i]?=some v->∃t,v=.str (ns.getD i "") t
 |_,_,.nil,i,v,e=>by simp at e
 |_,_,.cons y t h,0,v,e=>by simp at e;exact⟨t,by rw[<- e];rfl⟩
 |_,_,.cons y t h,i+1,v,e=>zB h i v (by simpa using e)
def ofL (ns:List Str):List Str:=ns.foldl dh []
theorem Rn (l:List Str)(k:Str):(dh l k).length<=l.length+1:=by unfold dh;split;lia;rw[U9];exact U5 _
theorem Rm (ns:List Str)(k:Str):ofL (ns++[k])=dh (ofL ns) k:=by unfold ofL;rw[List.foldl_append];rfl
theorem ofL_len:∀(ns:List Str),(ofL ns).length<=ns.length:=by
 have go:∀(ns l:List Str),(ns.foldl dh l).length<=l.length+ns.length:=by intro ns;induction ns with|nil=>(intro l;exact U5 _)|cons a r b=>intro l;have h1:=b (dh l a);have c:=Rn l a;rw[foldl_cons,Vw];lia
 intro ns;have:=go ns [];rw[length_nil,Nat.zero_add] at this;exact this
theorem Rk (ns:List Str)(i:Nat):(ofL (ns.take i)).length<=(ofL ns).length:=by
 have go:∀(ns l:List Str),l.length<=(ns.foldl dh l).length:=by
  intro ns;induction ns with
  |nil=>(intro l;exact U5 _)
  |cons a r b=>
   intro l;have h1:=b (dh l a);have c:l.length<=(dh l a).length:=by unfold dh;split;exact U5 _;rw[U9];lia
   rw[foldl_cons];lia
 have e:ofL ns=(ns.drop i).foldl dh (ofL (ns.take i)):=by unfold ofL;rw[<- List.foldl_append,take_append_drop]
 rw[e];exact go _ _
theorem Rj {l:List Str}{k:Str}:x∈dh l k↔x∈l∨x=k:=by unfold dh;by_cases e:k∈l;rw[Vm e];exact⟨.inl,fun h=>h.elim id fun z=>z▸e⟩;rw[Vi e,Vo,VS]
theorem ofL_mem (ns:List Str):∀x,x∈ofL ns↔x∈ns:=by
 have go:∀(ns l:List Str) x,x∈ns.foldl dh l↔x∈l∨x∈ns:=by intro ns;induction ns with|nil=>(intro l x;simp)|cons a r b=>intro l x;rw[foldl_cons,b,Rj,Vg,or_assoc]
 intro x;have q:=go ns [] x;unfold ofL;simpa using q
section
variable {A:Around}{R:Result->Shared->Prop}{I:Addr}{wr:List Addr}{G:Array GenState->Array GenState->Prop}{n:Nat}{Pv:Nat->Value->Prop}{St:Nat->Shared->Prop}
theorem E5 (W:WalksS P w A.in1 I fp wr G n Pv St)(S:Addr)(f:S∉fp)(ns:List Str)(D:ns.length=n)(l:∀i v,Pv i v->∃t,v=.str (ns.getD i "") t)(hb:(ofL ns).length+1<scanBound):∀(k i:Nat)(s:Shared),n-i=k->i<=n->St i s->IS P w s.heap S (ofL (ns.take i))->(∀s',Moved (S::wr) G s s'->IS P w s'.heap S (ofL ns)->R (.ok (.ret .none)) s') →codeAny (model P w) A (.builtin "set.update.loop" ⟨[.ref S,.ref I],[]⟩) R s:=by
 have g:S∉wr:=fun z=>f (W.sub _ z);have sub:∀b∈wr,b∈S::wr:=fun b z=>Vb _ z;intro k;induction k with
 |zero=>
  intro i s m p st is c;obtain rfl:i=n:=by lia
  refine WT F.entry_set_update_loop ?_;rw[W4 F.plain_set_update_loop _];show wpAny _ A.in1 (pyNext (.ref I) >>= _) _ _ s;refine UZ (W.done s _ _ st fun s' a=>?_);show wpAny _ A.in1 (ret Value.none) _ _ s';refine U2 (c s' (a.mono sub) ?_);rw[Wf (by lia)] at is;exact is.keep fun o e=>a.heap S o g e
 |succ k r=>
  intro i s m p st is c;have lt:i<n:=by lia
  refine WT F.entry_set_update_loop ?_;rw[W4 F.plain_set_update_loop _];show wpAny _ A.in1 (pyNext (.ref I) >>= _) _ _ s;refine UZ (W.item i s _ _ lt st fun v s' u x a=>?_);obtain⟨t,rfl⟩:=l i v u;have d:=is.keep (h':=s'.heap) fun o e=>a.heap S o g e;show wpAny _ A.in1 (holding [Value.str (ns.getD i "") t] (setAdd S (.str (ns.getD i "") t)) >>= _) _ _ s';refine UZ (Vx ?_);unfold setAdd;refine Vx (UZ ((PySem.strKind P w).pyHash (k:=ns.getD i "") (PySem.strKind_is _ _ _ _) ?_));have room:(ofL (ns.take i)).length+1<scanBound:=by have h1:=Rk ns i;lia
  refine SV (s:={ s' with toks:=s'.toks+1 }) d room fun h' b h j=>?_;have e:dh (ofL (ns.take i)) (ns.getD i "")=ofL (ns.take (i+1)):=by
   have q:ns[i]?=some (ns.getD i ""):=by rw[List.getD_eq_getElem?_getD,U4 (by lia)];rfl
   rw[List.take_add_one,q,<- Rm];rfl
  rw[e] at j;refine U2 ⟨plainId_quiet F.plain_set_update_loop _,r (i+1) _ (by lia) lt (W.frame _ s' _ _ x (WD _) fun b hb o q=>?_) j fun y B C=>?_⟩;rw[h.2 b fun z=>f (z▸hb)];exact q;refine c y (Moved.trans W.gtrans ((a.mono sub).then_heap (WD _) fun b o hb q=>?_) B) C;rw[h.2 b fun z=>hb (z▸Vc)];exact q
end
section
variable {A:Around}{E:Value->Shared->Prop}{s:Shared}
theorem set1 {l:Addr}{f:List Value}{ns:List Str}(O:A.handled=none)(S:s.heap.IsList l f.toArray)(C:StrsAre f ns)(hb:(ofL ns).length+1<scanBound)
  (h:∀(h':Heap)(tk:Nat),IS P w h' s.heap.objs.size (ofL ns)->(∀b o,b<s.heap.objs.size->s.heap.get? b=some o->h'.get? b=some o)->Q (.ref s.heap.objs.size) { s with heap:=h',toks:=tk }):
  wpAny (model P w) A (call (.type "set") [.ref l]) Q E s:=by
 obtain⟨c,tl,D⟩:=F.called_set.mro;have u:=F.called_set.made;have G:=F.called_set.sub;have h1:=F.called_set.notType;have h2:=F.called_set.canCreate;have T:=F.typeCall_set_1 (.ref l);refine Wj (codeAny_of_tree ?_);show wpAny _ _ (callAny (.type "set") _) _ _ _;refine U2 ⟨Xg _ (by decide+kernel),WT F.entry_type_call ?k⟩
 case k=>
  rw[Around.under_plain (weight_type_call_type "set" [.ref l] []) rfl]
  repeat (any_goals (first|assumption|wp_step))
  refine V3 (C4 (.ref l) (E:=E) (Q₁:=fun v s₁=>v=.ref s.heap.objs.size/\s₁={ s with heap:=s.heap.push (eu w) }) ⟨rfl,rfl⟩) fun r s₁ a=>?_;rcases r with e|fl
  .exact a
  .rcases fl with _|_|_|v
   .exact a.elim
   .exact a.elim
   .exact a.elim
   .obtain⟨rfl,rfl⟩:=a
    have H:(s.heap.push (eu w)).get? s.heap.objs.size=some (eu w):=U8 _ rfl;have U:Shared.TypeIs { s with heap:=s.heap.push (eu w) } (.ref s.heap.objs.size) "set":=⟨_,H,rfl⟩;have V:=F.called_set.init.lookup;have W:=F.called_set.init.bind (.ref s.heap.objs.size)
    repeat (any_goals (first|assumption|wp_step))
    refine V3 (W0 (R:=wants (fun r s₂=>r=.none/\∃h' tk,s₂={ s with heap:=h',toks:=tk }/\IS P w h' s.heap.objs.size (ofL ns)/\∀b o,b<s.heap.objs.size->s.heap.get? b=some o->h'.get? b=some o) E) F.called_set.init.plain F.entry_set_init (check_set_init_1 U ?goA)) fun r₂ s₂ a₂=>?goB
    case goA=>
     obtain⟨X,m,I,J,n⟩:=S;obtain⟨K,g,x,d⟩:=X;simp only at I n;subst I n;have Y:(s.heap.push (eu w)).get? l=some { cls:=.type "list",dict:=g,data:=.seq f.toArray J,slots:=d }:=U0 _ m;have L:=F.sub_list_set;have M:=F.sub_list_frozenset;have a5:(Value.type "list"==Value.type "dict")=false:=by decide
     have p:(s.heap.push (eu w)).IsList l f.toArray:=⟨_,Y,rfl,J,rfl⟩;unfold Builtin.«set.__init__» noKeywords Builtin.Frozenset.updateFrom;generalize y:pyIter=PI
     wp_walk
     subst y;refine wpAny_pyIter_list p ?_;refine UZ (wpAny_runValue ?_);have N:l<s.heap.objs.size:=Va m;have Z:A.in1.in1.in1.handled=none:=by simp [O]
     have nI:l≠(s.heap.push (eu w)).objs.size:=by rw[Vz];exact Vh (WC N)
     have nS:s.heap.objs.size ∉ [(s.heap.push (eu w)).objs.size,l]:=by rw[Vz];simp only [Vg,Vp,VN,not_or];exact And.intro (Vh (WL _)) (Wb N)
     have hv:∀(i:Nat)(v:Value),f.toArray[i]?=some v->∃t,v=.str (ns.getD i "") t:=fun i v e=>zB C i v (by simpa using e);refine E5 ((Walks.list Z _ l nI f.toArray).toS) s.heap.objs.size nS ns (by rw[<- strs_len C];simp) hv hb (f.toArray.size-0) 0 _ rfl (VW _) ⟨⟨_,U8 _ rfl,rfl,rfl⟩,p.push _⟩ ?isA ?rA
     case isA=>exact IS.new (U0 _ H)
     case rA=>
      intro s' q j;obtain⟨h',g',d',z,B⟩:=s';obtain rfl:g'=s.gens:=q.gens;obtain rfl:d'=s.drawn:=q.drawn;obtain rfl:B=s.os:=q.os;show wpAny _ _ _ _ _ _;refine U2 ?_;show wpAny _ _ (ret Value.none) _ _ _;refine U2 ⟨rfl,h',z,rfl,j,fun b o hb e=>?_⟩;refine q.heap b o ?_ (U0 _ (U0 _ e));rw[Vz];simp only [Vg,Vp,VN,not_or];exact And.intro (Vh hb) (Vh (WC hb))
    case goB=>
     rcases r₂ with e|fl₂
     .exact a₂
     .rcases fl₂ with _|_|_|v
      .exact a₂.elim
      .exact a₂.elim
      .exact a₂.elim
      .obtain⟨rfl,h',tk,rfl,j,k'⟩:=a₂
       repeat (any_goals (first|assumption|wp_step))
       exact h _ _ j k'
end
theorem strs_of:∀{l:List (Int×Value)},ElemsOf (PySem.strKind P w) l->StrsAre (l.map (·.2)) (l.map fun e=>strOf e.2)
 |[],_=>.nil
 |e::r,h=>by obtain⟨⟨k,a,_⟩,_⟩:=h.head;obtain⟨t,b⟩:=zN a;have q:=strs_of h.tail;rw[VB,VB,b];exact .cons k t q
section
variable {A:Around}{E:Value->Shared->Prop}{s:Shared}
theorem Ri {l:List Str}(M:IS P w s.heap a l)
  (q:∀(it:Addr)(h':Heap)(d:Drawn)(fp:List Addr)(seq:List Value)(ns:List Str)(St:Nat->Heap->Prop),(∀x:Around,x.handled=none->Walks P w x it fp [it] seq.length (fun i v=>seq[i]?=some v) St)->St 0 h'->StrsAre seq ns->ns.Perm l →s.heap.objs.size<=it->(∀b∈fp,b=a∨s.heap.objs.size<=b)->(∀b o,s.heap.get? b=some o->h'.get? b=some o)->Q (.ref it) { s with heap:=h',drawn:=d }):wpAny (model P w) A (pyIter (.ref a)) Q E s:=by
 have N:=M.type;obtain⟨o,es,f,t,m,O,c,r,G,Z,hb,j,W,y⟩:=M;have X:t.place.size=es.size:=by unfold SetTable.fits at j;rw[U1] at j;exact Vt.mp j.1
 have H:a<s.heap.objs.size:=Va m;refine wpAny_pyIter_slot N F.slot_set_iter (VJ F.slot_set_iter N QN ?_ (F.args_set_iter_1 _));unfold Builtin.«frozenset.__iter__»;refine UZ (U2 ?_);unfold Builtin.Frozenset.sizeOf;refine UZ (UZ (W8 m c j (U2 ?_)));unfold setDrawn;refine UZ (UZ (WV m c j ?_));dsimp only;refine UZ (uB (U2 ?_));have R:(es.toList.map fun e=>strOf e.2)=(es.toList.map (·.2)).map strOf:=by rw[map_map];rfl
 have S:∀o',(s.heap.push o').objs.size=s.heap.objs.size+1:=fun o'=>Vz _ _
 split
 .refine UZ (Gv es.size (List.range es.size) s _ (by simp) fun ps d I=>?_)
  have T:ps.length=es.size:=by rw[I.length_eq,Wz]
  refine UZ (wpAny_newTuple ?_ (by rw[U6,T];exact WW hb));refine UZ (wpAny_setEpoch_of (U0 _ m) c j ?_);refine UZ (Vu (U2 ⟨_,rfl,"set_iterator",_,⟨_,U8 _ rfl,rfl⟩,sl_next.lookup,?_⟩));have B:(ps.map fun p=>(es.getD p (0,.none)).2).length=es.size:=by rw[U6,T]
  have Y:=Srt.map_range es;have u:=I.map fun p=>(es.getD p (0,.none)).2;rw[Y] at u;have J:∀v∈ps.map (fun p=>(es.getD p (0,.none)).2),∃n t,v=.str n t:=fun v K=>(strs_of r).all v (u.mem_iff.mp K);show Q (.ref (s.heap.push { cls:=.type "tuple",data:=.seq (ps.map fun(k:Nat)=>Value.int k 0).toArray 0 }).objs.size) { s with heap:=_,drawn:=d };rw[S]
  refine q _ _ d [s.heap.objs.size+1,a,s.heap.objs.size] (ps.map fun p=>(es.getD p (0,.none)).2) _ (fun i h=>SI h (s.heap.objs.size+1) (.ref s.heap.objs.size) i a es.size f/\SAq h a es f t/\h.get? s.heap.objs.size=some { cls:=.type "tuple",data:=.seq (ps.map fun(k:Nat)=>Value.int k 0).toArray 0 })
   (fun x C=>?_) ?_ (strsAre_map _ J) ?_ ?_ ?_ ?_
  .rw[B];exact Tc C _ a _ (Vh (WC H)) (Vh (WL _)) es f t ps I
  .refine⟨?_,⟨o,U0 _ (U0 _ m),O,c,j⟩,U0 _ (U8 _ rfl)⟩;have g:=U8 (s.heap.push { cls:=.type "tuple",data:=.seq (ps.map fun(k:Nat)=>Value.int k 0).toArray 0 }) (o:={ cls:=.type "set_iterator",data:=.fields #[.ref s.heap.objs.size,.int (0:Nat) 0,.ref a,.int es.size 0,.int f 0] }) rfl;rw[S] at g;exact g
  .refine List.Perm.trans ?_ G;rw[R];exact u.map strOf
  .exact WD _
  .intro b D
   simp only [Vg,Vp,VN] at D;rcases D with rfl|rfl|rfl
   .exact .inr (WD _)
   .exact .inl rfl
   .exact .inr (U5 _)
  .exact fun b o' e=>U0 _ (U0 _ e)
 .next z=>
  refine UZ (U2 ?_);refine UZ (wpAny_setEpoch_of m c j ?_);refine UZ (Vu (U2 ⟨_,rfl,"set_iterator",_,⟨_,U8 _ rfl,rfl⟩,sl_next.lookup,?_⟩));have sa:SAq (s.heap.push { cls:=.type "set_iterator",data:=.fields #[.int (0:Nat) 0,.int (0:Nat) 0,.ref a,.int es.size 0,.int f 0] }) a es f t:=⟨o,U0 _ m,O,c,j⟩
  have U:∀b ∈ [s.heap.objs.size,a],b=a∨s.heap.objs.size<=b:=fun b D=>by simp only [Vg,Vp,VN] at D;rcases D with rfl|rfl;exact .inr (U5 _);exact .inl rfl
  by_cases V:iA w=true
  .have u:=(Aa (w.params.setOrder a f) es).map (·.2)
   have B:((pickOrder (w.params.setOrder a f) es).toList.map (·.2)).length=es.size:=by rw[u.length_eq,U6,VD]
   have J:∀v∈(pickOrder (w.params.setOrder a f) es).toList.map (·.2),∃n t,v=.str n t:=fun v K=>(strs_of r).all v (u.mem_iff.mp K);refine q _ _ s.drawn [s.heap.objs.size,a] ((pickOrder (w.params.setOrder a f) es).toList.map (·.2)) _ (fun i h=>SI h s.heap.objs.size (.int (0:Nat) 0) i a es.size f/\SAq h a es f t) (fun x C=>?_) ⟨U8 _ rfl,sa⟩ (strsAre_map _ J) ?_ (U5 _) U fun b o' e=>U0 _ e
   .rw[B];exact Sb C _ a (Vh H) es f t V
   .refine List.Perm.trans ?_ G;rw[R];exact u.map strOf
  .have L:iA w=false:=Bool.not_eq_true _▸V
   have hd:(!t.plain&&decide (es.size>1))=false:=by have z:¬ ((!iA w&&(!t.plain&&decide (es.size>1)))=true):=z;rw[L] at z;simpa using z
   have B:(es.toList.map (·.2)).length=es.size:=by rw[U6,VD]
   refine q _ _ s.drawn [s.heap.objs.size,a] (es.toList.map (·.2)) _ (fun i h=>SI h s.heap.objs.size (.int (nK t i:Nat) 0) i a es.size f/\SAq h a es f t) (fun x C=>?_) ⟨U8 _ rfl,sa⟩ (strs_of r) G (U5 _) U fun b o' e=>U0 _ e;rw[B];exact Td C _ a (Vh H) es f t L hd (by rw[y,L];rfl) W X
theorem TB {l:List Str}{Q:List Value->Shared->Prop}(I:A.handled=none)(f:IS P w s.heap a l)
  (q:∀(k:List Value)(ns:List Str)(s':Shared),StrsAre k ns->ns.Perm l->s'.gens=s.gens->s'.os=s.os->(∀b o,s.heap.get? b=some o->s'.heap.get? b=some o)->Q k s'):wpAny (model P w) A (collect (.ref a)) Q E s:=by
 have m:a<s.heap.objs.size:=by obtain⟨o,es,J,t,n,_⟩:=f;exact Va n
 have K:l.length<scanBound:=by obtain⟨o,es,J,t,n,Y,p,L,M,Z,hb,hf,hr,r⟩:=f;rw[<- M.length_eq,U6,VD];exact hb
 unfold collect;refine UZ (wpAny_runValue (WT F.entry_proto_collect ?_));rw[W4 F.plain_proto_collect _];show wpAny _ A.in1 (newList [] >>= fun z=>again (.builtin "list.__iadd__" ⟨[z,.ref a],[]⟩)) _ _ s;refine UZ (Vu (U2 ⟨plainId_quiet F.plain_list_iadd _,WT F.entry_list_iadd ?_⟩));rw[W4 F.plain_list_iadd _];have g0:(s.heap.push (seqObj "list" #[] 0)).get? s.heap.objs.size=some (seqObj "list" #[] 0):=U8 _ rfl;have g:IS P w (s.heap.push (seqObj "list" #[] 0)) a l:=f.keep fun o e=>U0 _ e;show wpAny _ A.in1 (Builtin.List.listExtendWith (.ref s.heap.objs.size) (.ref a) (.ref s.heap.objs.size)) _ _ { s with heap:=s.heap.push (seqObj "list" #[] 0) };unfold Builtin.List.listExtendWith;refine UZ (wpAny_typeOf (s:={ s with heap:=s.heap.push (seqObj "list" #[] 0) }) (T:="set") (IS.type (s:={ s with heap:=s.heap.push (seqObj "list" #[] 0) }) g) ?_);rw[Vi (by rw[QK (Wb m)];decide)];refine UZ (Ri (s:={ s with heap:=s.heap.push (seqObj "list" #[] 0) }) g fun it h' d fp seq ns St W st u v N O h=>?_);have R:Shared.TypeIs { s with heap:=h',drawn:=d } (.ref a) "set":=IS.type (s:={ s with heap:=h',drawn:=d }) (g.keep fun o e=>h a o e);refine UZ (Vx (Rw R ?_));have g1:h'.get? s.heap.objs.size=some (seqObj "list" #[] 0):=h _ _ g0;dsimp only;refine DL (by decide+kernel) ?_;refine UZ (wpAny_rule ?_);have lz:l.length<=sizeLine:=WW K;have ls:seq.length=l.length:=by rw[strs_len u,v.length_eq]
 have y:s.heap.objs.size∉fp:=fun z=>by rcases O _ z with e|e;exact absurd m (e▸VI _);have e:(s.heap.push (seqObj "list" #[] 0)).objs.size<=s.heap.objs.size:=e;rw[Vz] at e;exact absurd e (Nat.not_succ_le_self _)
 unfold Builtin.List.listTouch;refine UZ (UZ (listUpdate_at (s:={ s with heap:=h',drawn:=d }) g1 rfl ?_));have g2:=get?_update_seq g1 (fun x=>x.push .none);refine listUpdate_at (s:={ s with heap:=h'.update s.heap.objs.size (Obj.mapSeq fun x=>x.push .none),drawn:=d }) g2 rfl ?_;have S:=get?_update_seq g2 (fun x=>x.pop);have B:∀b o,b≠s.heap.objs.size->h'.get? b=some o->((h'.update s.heap.objs.size (Obj.mapSeq fun x=>x.push .none)).update s.heap.objs.size (Obj.mapSeq fun x=>x.pop)).get? b=some o:=fun b o hb e=>by rw[Heap.get?_update_ne _ _ _ _ hb,Heap.get?_update_ne _ _ _ _ hb];exact e
 have C:=(W A.in1 I).toS;refine U2 ⟨plainId_quiet F.plain_extend_loop _,codeAny_extend_loopS C (by lia) _ y _ seq.length 0 _ _ _ rfl (VW _) (C.frame 0 { s with heap:=h',drawn:=d } _ s.toks st (U5 _) fun b hb o e=>B b o (fun z=>y (z▸hb)) e) S (ItemsOf.nil _) fun s' c c' i U D=>?_⟩;show wpAny _ A (load s.heap.objs.size >>= _) _ _ s';refine UZ (wpAny_load U ?_)
 have V:c.toList=seq:=by have lv:c.size=seq.length:=D.1;refine ext_getElem? fun j=>?_;rw[V9];by_cases G:j<c.size;have H:c[j]?=some c[j]:=Wl c j G;rw[H];exact(D.2 j _ H).symm;rw[getElem?_neg c j G,Wx (by lia)]
 refine U2 ?_;rw[V];refine q seq ns s' u v i.gens i.os fun b o e=>?_;have bl:b<s.heap.objs.size:=Va e;refine i.heap b o ?_ (B b o (Vh bl) (h b o (U0 _ e)));have X:s.heap.objs.size+1<=it:=by have z:(s.heap.push (seqObj "list" #[] 0)).objs.size<=it:=N;rw[Vz] at z;exact z
 simp only [Vg,Vp,VN,not_or];exact And.intro (Vh bl) (Vh (Nat.lt_trans bl X))
theorem TU {b:List Value}{ns:List Str}{n:Nat}{f:Fin->Shared->Prop}(g:s.heap.get? a=some (seqObj "list" b.toArray n))(c:StrsAre b ns)(i:b.length<64)
  (h : ∀(out : Array Value)(d : List Str), StrsAre out.toList d -> d.Perm ns -> sortedS d=true -> f (.done (.ret .none)) { s with heap := sortedHeap s.heap a b out }) : wpAny (model P w) A (Builtin.«list.sort» ⟨[.ref a], []⟩) f E s :=
 list_sort_treeK strKind_oneLt g (StrsAre.keysOf c) (fun v₁ v₂ p e=>keyKind_strs (e▸c)) i fun q j k=>
  let ⟨l,h1,m,o⟩:=sorted_out_str c j k
  h _ l h1 m o
theorem sorted_few {l:List Str}(j:A.handled=none)(k:IS P w s.heap a l)(x:l.length<64)
  (h:∀(c:Shared)(h':Heap)(out:List Value)(ns:List Str)(e:Nat),StrsAre out ns->ns.Perm l->sortedS ns=true->h'.get? c.heap.objs.size=some (seqObj "list" out.toArray e)->c.gens=s.gens->c.os=s.os →(∀b o,s.heap.get? b=some o->c.heap.get? b=some o)->(∀b o,c.heap.get? b=some o->h'.get? b=some o)->Q (.ref c.heap.objs.size) { c with heap:=h' }):wpAny (model P w) A (call (.builtin "sorted") [.ref a]) Q E s:=by
 refine Calls.call_function_entry kind_sorted plain_sorted entry_sorted (args_sorted1 _) ?_;unfold Builtin.«sorted»;refine UZ (m:=checkCount "sorted" 1 1 _) (U2 ?_);refine UZ (TB j k fun d ns c f g n p q=>?_);have y:d.length=l.length:=by rw[strs_len f,g.length_eq]
 have B:d.length<=sizeLine:=by rw[Vr];lia
 refine UZ (wpAny_newList ?_);have g0:(c.heap.push (seqObj "list" d.toArray 0)).get? c.heap.objs.size=some (seqObj "list" d.toArray 0):=U8 _ rfl;show wpAny _ _ _ _ _ { c with heap:=c.heap.push (seqObj "list" d.toArray 0) };refine UZ (Vx (VJ slot_list_sort ⟨_,g0,rfl⟩ entry_list_sort (TU (s:={ c with heap:=c.heap.push (seqObj "list" d.toArray 0) }) g0 f (by lia) fun out r t u v=>⟨_,rfl,?_⟩) (args_list_sort _)));obtain⟨e,he⟩:=sortedHeap_at (out:=out) g0;refine U2 ⟨_,rfl,h c _ out.toList r e t (u.trans g) v he n p q fun b o z=>?_⟩;have i:(c.heap.push (seqObj "list" d.toArray 0)).get? b=some o:=U0 _ z;rw[sortedHeap_old (Vh (Va z)) (Va i)];exact i
theorem set1t {l:Addr}{f:List Value}{ns:List Str}(O:A.handled=none)(S:s.heap.IsTuple l f.toArray)(C:StrsAre f ns)(hb:(ofL ns).length+1<scanBound)
  (h:∀(h':Heap)(tk:Nat),IS P w h' s.heap.objs.size (ofL ns)->(∀b o,b<s.heap.objs.size->s.heap.get? b=some o->h'.get? b=some o)->Q (.ref s.heap.objs.size) { s with heap:=h',toks:=tk }):
  wpAny (model P w) A (call (.type "set") [.ref l]) Q E s:=by
 obtain⟨c,tl,D⟩:=F.called_set.mro;have u:=F.called_set.made;have G:=F.called_set.sub;have h1:=F.called_set.notType;have h2:=F.called_set.canCreate;have T:=F.typeCall_set_1 (.ref l);refine Wj (codeAny_of_tree ?_);show wpAny _ _ (callAny (.type "set") _) _ _ _;refine U2 ⟨Xg _ (by decide+kernel),WT F.entry_type_call ?k⟩
 case k=>
  rw[Around.under_plain (weight_type_call_type "set" [.ref l] []) rfl]
  repeat (any_goals (first|assumption|wp_step))
  refine V3 (C4 (.ref l) (E:=E) (Q₁:=fun v s₁=>v=.ref s.heap.objs.size/\s₁={ s with heap:=s.heap.push (eu w) }) ⟨rfl,rfl⟩) fun r s₁ a=>?_;rcases r with e|fl
  .exact a
  .rcases fl with _|_|_|v
   .exact a.elim
   .exact a.elim
   .exact a.elim
   .obtain⟨rfl,rfl⟩:=a
    have H:(s.heap.push (eu w)).get? s.heap.objs.size=some (eu w):=U8 _ rfl;have U:Shared.TypeIs { s with heap:=s.heap.push (eu w) } (.ref s.heap.objs.size) "set":=⟨_,H,rfl⟩;have V:=F.called_set.init.lookup;have W:=F.called_set.init.bind (.ref s.heap.objs.size)
    repeat (any_goals (first|assumption|wp_step))
    refine V3 (W0 (R:=wants (fun r s₂=>r=.none/\∃h' tk,s₂={ s with heap:=h',toks:=tk }/\IS P w h' s.heap.objs.size (ofL ns)/\∀b o,b<s.heap.objs.size->s.heap.get? b=some o->h'.get? b=some o) E) F.called_set.init.plain F.entry_set_init (check_set_init_1 U ?goA)) fun r₂ s₂ a₂=>?goB
    case goA=>
     obtain⟨X,m,I,J,n⟩:=S;obtain⟨K,g,x,d⟩:=X;simp only at I n;subst I n;have Y:(s.heap.push (eu w)).get? l=some { cls:=.type "tuple",dict:=g,data:=.seq f.toArray J,slots:=d }:=U0 _ m;have L:=F.sub_tuple_set;have M:=F.sub_tuple_frozenset;have a5:(Value.type "tuple"==Value.type "dict")=false:=by decide
     have p:(s.heap.push (eu w)).IsTuple l f.toArray:=⟨_,Y,rfl,J,rfl⟩;unfold Builtin.«set.__init__» noKeywords Builtin.Frozenset.updateFrom;generalize y:pyIter=PI
     wp_walk
     subst y;refine WN p ?_;refine UZ (wpAny_runValue ?_);have N:l<s.heap.objs.size:=Va m;have Z:A.in1.in1.in1.handled=none:=by simp [O]
     have nI:l≠(s.heap.push (eu w)).objs.size:=by rw[Vz];exact Vh (WC N)
     have nS:s.heap.objs.size ∉ [(s.heap.push (eu w)).objs.size,l]:=by rw[Vz];simp only [Vg,Vp,VN,not_or];exact And.intro (Vh (WL _)) (Wb N)
     have hv:∀(i:Nat)(v:Value),f.toArray[i]?=some v->∃t,v=.str (ns.getD i "") t:=fun i v e=>zB C i v (by simpa using e);refine E5 ((Walks.tuple Z _ l nI f.toArray).toS) s.heap.objs.size nS ns (by rw[<- strs_len C];simp) hv hb (f.toArray.size-0) 0 _ rfl (VW _) ⟨⟨_,U8 _ rfl,rfl,rfl⟩,p.push _⟩ ?isA ?rA
     case isA=>exact IS.new (U0 _ H)
     case rA=>
      intro s' q j;obtain⟨h',g',d',z,B⟩:=s';obtain rfl:g'=s.gens:=q.gens;obtain rfl:d'=s.drawn:=q.drawn;obtain rfl:B=s.os:=q.os;show wpAny _ _ _ _ _ _;refine U2 ?_;show wpAny _ _ (ret Value.none) _ _ _;refine U2 ⟨rfl,h',z,rfl,j,fun b o hb e=>?_⟩;refine q.heap b o ?_ (U0 _ (U0 _ e));rw[Vz];simp only [Vg,Vp,VN,not_or];exact And.intro (Vh hb) (Vh (WC hb))
    case goB=>
     rcases r₂ with e|fl₂
     .exact a₂
     .rcases fl₂ with _|_|_|v
      .exact a₂.elim
      .exact a₂.elim
      .exact a₂.elim
      .obtain⟨rfl,h',tk,rfl,j,k'⟩:=a₂
       repeat (any_goals (first|assumption|wp_step))
       exact h _ _ j k'
end
end Stx
section
noncomputable def lb (P:Program)(w:World)(a:Addr)(l:List Str):HO:=.ext fun h=>Stx.IS P w h a l
variable {x y:Str}{H H' G j:Hp}{a:Addr}{P:Program}{w:World}{q:Type}{F:Fr}{e B iter elt:Expr}{X:Cx}{J:List (Addr×Obj)}{L:St}{M I:Ms}{i:Nat}{t:Tv}{pos p:Pos}{c:Expr->Bool}{K:W.Frag}{st:Stmt}{es ifs:List Expr}{body:List Stmt}{l:List Tv}{r O:R2}{env:Env}{mg:Str->Option Value}{base:Heap}{U:FuncData}{ps N':List Str}{scope:Scope}{T:String}{cl:List (Str×Addr)}{u:TW}{Y:aP}{Z:List Nat}
section
variable {s:Shared}
theorem Inv.tset {l:List Str}(I:Inv X J L H s)(h:H a=some (lb X.prog X.w a l)):Stx.IS X.prog X.w s.heap a l:=(I.hok a _ h).1
theorem Eh {h:Heap}{l:List Str}(x:Stx.IS P w h a l):ObjOk P w H h a (lb P w a l):=by refine⟨x,?_,fun h1 c y k=>y.keep k⟩;obtain⟨o,es,d,t,b,_⟩:=x;exact⟨o,b⟩
theorem SU (f:X.calm=true):c8 X (.type "set") (fun xs H Q=>∃(p:Addr)(ns:List Str),xs=[.ref p]/\SqL X.K H p (ns.map V.str)/\(Stx.ofL ns).length<=1000/\∀a,H a=none->Q (.ref a) (ax H a (lb X.prog X.w a (Stx.ofL ns)))):=by intro J s L H xs l Q I r h;obtain⟨p,ns,rfl,g,m,q⟩:=h;obtain⟨u,rfl,i⟩:=gK r;cases i;obtain⟨j,O,pl,_⟩:=I.list g;have c:=strs_of O;have d:j.length=ns.length:=Stx.strs_len c;refine Stx.set1 (I.ok.hd f) pl.isList c (by show(Stx.ofL ns).length+1<4096;lia) fun h' tk is k=>?_;exact⟨.ref s.heap.objs.size,_,I.laid (t':=tk) (fun b o e=>k b o (Va e) e) (U5 _) (Eh is),rfl,q _ (I.hok.fresh (U5 _))⟩
theorem TX (i:X.calm=true):c8 X (.builtin "sorted") (fun xs H Q=>∃(p:Addr)(l:List Str),xs=[.ref p]/\H p=some (lb X.prog X.w p l)/\l.length<64 ∧∀(ns:List Str) a,ns.Perm l->sortedS ns=true->H a=none->Q (.ref a) (ax H a (.lst (ns.map V.str)))):=by
 intro J s L H xs v Q I r h;obtain⟨p,l,rfl,j,k,q⟩:=h;obtain⟨u,rfl,m⟩:=gK r;cases m;refine Stx.sorted_few (I.ok.hd i) (I.tset j) k fun c h' out ns e n d srt g o t k1 k2=>?_;have f:Inv X J L H c:=I.call' (ch:=[]) t (Un.kept k1) (I.hok.kept k1) (by rw[o];exact I.bare) fun b z=>absurd z (by simp);have ln:(ns.map V.str).length<=sizeLine:=by rw[U6,d.length_eq,Vr];lia
 exact⟨.ref c.heap.objs.size,_,f.laid (t':=c.toks) k2 (U5 _) (show ObjOk X.prog X.w _ h' _ (.lst (ns.map V.str)) from⟨ln,out,e,Er n,g⟩),rfl,q ns _ d srt (f.hok.fresh (U5 _))⟩
theorem SR (f:X.calm=true):c8 X (.type "set") (fun xs H Q=>∃(p:Addr)(ns:List Str),xs=[.ref p]/\SqT X.K H p (ns.map V.str)/\(Stx.ofL ns).length<=1000/\∀a,H a=none->Q (.ref a) (ax H a (lb X.prog X.w a (Stx.ofL ns)))):=by intro J s L H xs l Q I r h;obtain⟨p,ns,rfl,g,m,q⟩:=h;obtain⟨u,rfl,i⟩:=gK r;cases i;obtain⟨j,O,pl,_⟩:=I.tuple g;have c:=strs_of O;have d:j.length=ns.length:=Stx.strs_len c;refine Stx.set1t (I.ok.hd f) pl c (by show(Stx.ofL ns).length+1<4096;lia) fun h' tk is k=>?_;exact⟨.ref s.heap.objs.size,_,I.laid (t':=tk) (fun b o e=>k b o (Va e) e) (U5 _) (Eh is),rfl,q _ (I.hok.fresh (U5 _))⟩
end
theorem zL:∀{c:List V}{ns:List Str},IsTs K G c (ns.map fun x=>.at (.str x))->c=ns.map V.str
 |_,[],h=>by cases h;rfl
 |_,n::ns,h=>by cases h with|cons a b=>cases a;rw[zL b];rfl
section
def vQ:bM:=fun _ _=>False
theorem Ui:PS X st (LS X.K F vQ):=fun J s L H D I z=>by obtain⟨_,_,_,_,k,_⟩:=z;exact k.elim
theorem pss_no {st:List Stmt}:PSs X st (LS X.K F vQ):=fun J s L H D I ⟨_,_,_,_,k,_⟩=>k.elim
theorem QJ {t:TS}{h0:ExceptHandler}{b:List ExceptHandler}(c:∀e s,X.xe e s->False)(hb:PSs X body t):PS X (.Try body (h0::b) [] [] pos) t:=by intro J s L H D I h;refine wpAny_Try_except (VE (hb J s L H D I h) (fun f a q=>?_) (fun e a q=>(c e a q).elim));cases f with|next=>exact Xb q|_=>exact q
end
def yP (l:List Tv)(r:Rs):Prop:=∃ns out:List Str,l=ns.map (fun x=>.at (.str x))/\ns.length<=60/\out.Perm (Stx.ofL ns)/\sortedS out=true/\r=.n (.lst (out.map fun x=>.at (.str x)))
noncomputable def yO:Tv->Rz
 | .tup l=>.ex (yP l)
 | .lst l=>.ex (yP l)
 |_=>.no
inductive lP (X:Cx)(x:V)(H:Hp)(Q:VK):Prop
 |mk (p ns:_) (_:x=.ref p) (_:(SqL X.K H p (ns.map V.str)∨SqT X.K H p (ns.map V.str))) (_:(Stx.ofL ns).length<64) (_:∀a,H a=none->∀(out:List Str) b,out.Perm (Stx.ofL ns)->sortedS out=true->ax H a (lb X.prog X.w a (Stx.ofL ns)) b=none->Q (.ref b) (ax (ax H a (lb X.prog X.w a (Stx.ofL ns))) b (.lst (out.map V.str)))):lP X x H Q
theorem F5:∀(l:List Str)(p:Str),risingS p l=true->(p::l).Pairwise fun x y=>x.cps.toList<=y.cps.toList
 |[],p,_=>List.pairwise_singleton _ _
 |x::l,p,h=>by have h':(!ltCps x.cps.toList p.cps.toList&&risingS x l)=true:=h;rw[U1,Wi,ltCps_eq,decide_eq_false_iff_not] at h';have b:=F5 l x h'.2;have c:p.cps.toList<=x.cps.toList:=h'.1;refine pairwise_cons.mpr ⟨fun y a=>?_,b⟩;rcases Vg.mp a with rfl|a;exact c;exact List.le_trans c ((pairwise_cons.mp b).1 y a)
theorem FV:∀{l:List Str},sortedS l=true->l.Pairwise fun x y=>x.cps.toList<=y.cps.toList
 |[],_=>.nil
 |x::l,h=>F5 l x h
theorem SQ {a b:List Str}(c:sortedS a=true)(hb:sortedS b=true)(p:a.Perm b):a=b:=List.Perm.eq_of_pairwise (le:=fun x y=>x.cps.toList<=y.cps.toList) (fun x y _ _ h g=>by
  have e:x.cps.toList=y.cps.toList:=List.le_antisymm h g;cases x;cases y
  exact V8 Str.mk (Array.toList_inj.mp e)) (FV c) (FV hb) p
theorem E4:∀{ns:List Str},IsTs K G (ns.map V.str) (ns.map fun x=>.at (.str x))->∀x∈ns,jN (.str x)=true
 |[],_,x,c=>by cases c
 |n::ns,h,x,c=>by
  cases h with
  |cons a b=>
   rcases Vg.mp c with rfl|c;cases a with | «at» f => exact f
   exact E4 b x c
theorem E2:∀{ns:List Str},(∀x∈ns,jN (.str x)=true)->IsTs K G (ns.map V.str) (ns.map fun x=>.at (.str x))
 |[],_=>.nil
 |n::ns,h=>.cons (.at (h n Vc)) (E2 fun x a=>h x (Vb _ a))
theorem Eg {Q:VK}{ns out:List Str}(el:l=ns.map (fun x=>.at (.str x)))(s:ns.length<=60)(f:out.Perm (Stx.ofL ns))(g:sortedS out=true)(h:SqL X.K H a (ns.map V.str)∨SqT X.K H a (ns.map V.str))(r:IsTs X.K G (ns.map V.str) l)(q:j8 X.K G H Q (.n (.lst (out.map fun x=>.at (.str x))))):lP X (.ref a) H Q:=by
 subst el;refine⟨a,ns,rfl,h,by have:=Stx.ofL_len ns;lia,fun p i j b d k hb=>?_⟩;have e:j=out:=SQ k g (d.trans f.symm);subst e;have m:b≠p:=fun z=>by rw[z,aY] at hb;cases hb
 rw[aD m] at hb;refine q b _ hb (fun c x e=>?_) ⟨_,aY,E2 fun x o=>E4 r x ((Stx.ofL_mem ns x).mp (d.mem_iff.mp o))⟩;rw[aD (cm e hb),aD (cm e i)];exact e
theorem Qy:iD X.K yO (lP X):=fun G H x t s Q g h1 e q=>by cases t with|tup l=>(cases e with|ex h=>obtain⟨ns,out,el,b,c,d,rfl⟩:=h;obtain⟨a,i,rfl,f,r⟩:=h1.tup g;subst el;have:=zL r;subst this;exact Eg rfl b c d (.inr (.of f)) r q)|lst l=>(cases e with|ex h=>obtain⟨ns,out,el,b,c,d,rfl⟩:=h;obtain⟨a,i,rfl,f,r⟩:=h1.lst g;subst el;have:=zL r;subst this;exact Eg rfl b c d (.inl (.of f)) r q)|_=>cases e
theorem SO (c:X.calm=true):c8 X (.type "set") (fun xs H Q=>∃(p:Addr)(ns:List Str),xs=[.ref p]/\(SqL X.K H p (ns.map V.str)∨SqT X.K H p (ns.map V.str))/\(Stx.ofL ns).length<=1000/\∀a,H a=none->Q (.ref a) (ax H a (lb X.prog X.w a (Stx.ofL ns)))):=by intro J s L H xs d Q I r h;obtain⟨p,ns,e,b|b,f,q⟩:=h;exact SU c J s L H xs d Q I r ⟨p,ns,e,b,f,q⟩;exact SR c J s L H xs d Q I r ⟨p,ns,e,b,f,q⟩
theorem Px {f g h i:Pos}(d:X.calm=true)(l:Gl X "sorted")(m:X.mg "sorted"=none)(n:Gl X "set")(o:X.mg "set"=none)(he:starEach [e] X.env=(false,eval e X.env)::starEach [] X.env)(c:PE X e (LE X.K F u)):PE X (.Call (.Name "sorted" f) [.Call (.Name "set" g) [e] [] h] [] i) (LE X.K F (kr yO u)):=jz ((fe (TX d) l m (by decide+kernel) (fj (oK (SO d) n o (by decide+kernel) (fj c pa_nil he) (he:=he)) pa_nil)).imp fun L H Q ⟨G,r,M,s,R,k,q⟩=>⟨G,r,M,s,R,k,fun t I j t' v H' w R' s' x=>by
  obtain⟨p,ns,e,y,z,A⟩:=q t I j t' v H' w R' s' x
  exact⟨p,ns,by rw[e],y,by lia,fun a c=>⟨a,_,rfl,aY,z,fun out b B C hb=>A a c out b B C hb⟩⟩⟩) Qy
def C0 (w:bG):bG:=fun M k=>w M fun ts a=>match ts with
 |[.lst l,.tup m]=>l.length=m.length/\k (nU l m) a
 |_=>False
theorem LI.zpl {w:bG}{R:It->Hp->Prop}:LI X.K F (C0 w) L H R->C3 X.K (LF X.K F 2 w) L H R:=fun z0=>by
 obtain⟨G,Q,M,K0,S,k,q⟩:=z0
 refine⟨G,Q,M,_,S,k,fun ts M1 U vs W k1 B Y Z l1=>?_⟩;split at k1
 .next l m=>
  obtain⟨f,k1⟩:=k1;cases Z with
  |cons c1 c2=>
   cases c2 with
   |cons c3 c4=>
    cases c4;cases c1 with
    | @lst a xs _ p J=>
     cases c3 with
     | @tup b r _ hb N=>
      have pC:∀{j H':Hp}{t u:Tv}{x y:V}{T:Addr},Same j H'->H' T=none->IsT X.K j x t->IsT X.K j y u->∃s,Same j s/\Same s (ax H' T (.tup [x,y]))/\Same H' (ax H' T (.tup [x,y]))/\(∀a o,s a=some o->j a=some o∨H' a=none∨k7 o)/\IsT X.K s (.ref T) (.tup [t,u]):=fun {j H' t u x y T} c g C O=>by
       have sH:Same H' (ax H' T (.tup [x,y])):=fun b y e=>by rw[aD (cm e g)];exact e
       have D:Same j (ax j T (.tup [x,y])):=fun b y e=>by rw[aD (cm e (c.free g))];exact e
       refine⟨ax j T (.tup [x,y]),D,fun b y e=>?_,sH,fun b y e=>?_,.tup aY (.cons (C.mono D) (.cons (O.mono D) .nil))⟩;by_cases z:b=T;subst z;rw[aY] at e ⊢;exact e;rw[aD z] at e ⊢;exact c _ _ e;by_cases z:b=T;subst z;exact .inr (.inl g);rw[aD z] at e;exact .inl e
      have C:=J.len;have O:=N.len;refine⟨a,b,rfl,⟨xs,SqL.of (B.sub _ _ p)⟩,⟨r,SqT.of (B.sub _ _ hb)⟩,q _ _ U _ W k1 B Y ⟨fun i j H' d c v=>?_,fun j H' d c=>⟨xs,SqL.of ((d.trans c) _ _ p),by rw[zi f,C]⟩,fun i u j H' x jq d c A jP=>?_⟩⟩;rw[zi f] at v;exact⟨xs,r,xs[i],r[i],SqL.of ((d.trans c) _ _ p),SqT.of ((d.trans c) _ _ hb),U4 (by lia),U4 (by lia)⟩;obtain⟨T,x',y',rfl,g,h1,h2,rfl⟩:=jP;have v:i<l.length:=by have:=(U7.mp A).1;rw[zi f] at this;exact this
      have e:(l.zip m)[i]?=some (l[i],m[i]):=List.getElem?_zip_eq_some.mpr ⟨U4 v,U4 (by lia)⟩;unfold nU at A;rw[Vl,e] at A;cases A;obtain⟨w1,E,h⟩:=J.get (U4 v);obtain⟨w2,I,n⟩:=N.get (U4 (by lia:i<m.length));have f1:=h1 xs (SqL.of ((d.trans c) _ _ p));have P:=h2 r (SqT.of ((d.trans c) _ _ hb));rw[E] at f1;cases f1;rw[I] at P;cases P;exact pC c g (h.mono d) (n.mono d)
 exact k1.elim
def mw {q : Type}:List q -> (List q -> Prop)->Prop
 |[],k=>k []
 |a::l,k=>mw l fun b=>k (a::b)
def sZ (M:Ms)(k:Ms->Prop):Prop:=match M with
 |⟨e,o,t⟩=>mw e fun a=>mw o fun o'=>mw t fun t'=>k ⟨a,o',t'⟩
theorem uc:∀{l:List q}{k:List q -> Prop},mw l k=k l
 |[],_=>rfl
 |a::l,k=>by unfold mw;rw[uc]
theorem zh {k:Ms->Prop}:sZ M k=k M:=by cases M;show mw _ _=_;rw[uc,uc,uc]
def Au (w:bG):bG:=fun M k=>sZ M fun I=>w I k
theorem Nf (w:bG):Au w=w:=by funext M k;exact zh
def As (w:iJ):iJ:=fun M k=>sZ M fun I=>w I k
theorem Nd (w:iJ):As w=w:=by funext M k;exact zh
inductive O2 where
 |add|sub|mul|fdiv|mod|pow
inductive C2 where
 |eq|ne|lt|le|gt|ge|isin|notin
inductive F1 where
 |len|list|tuple|sum|all|int|dict|repr
inductive Mt where
 |app
inductive IE where
 |var (i:Nat)|cst (v:V)
 |bin (o:O2) (a b:IE)|cmp (o:C2) (a b:IE)|ix (a b:IE)|dg (a b:IE)|b1 (f:F1) (a:IE)
 |and (a b:IE)|or (a b:IE)|not (a:IE)|ite (c a b:IE)
 |nil|cons (a r:IE)|tup (r:IE)|lst (r:IE)
 |call (j:Nat) (r:IE)|mth (m:Mt) (o r:IE)
 |comp (Z:List Nat) (own:List Str) (p:Pt) (it c e:IE)
 |cmpv (Z:List Nat) (own:List Str) (p:Pt) (i:Nat) (c e:IE)
 |tt|neg (a:IE)|isi (T:String) (a:IE)|slc (a lo hi:IE)|rng (a:IE)
 |chn (o o':C2) (a b c:IE)|dnew|dct (ks:List Str) (r:IE)|idx (a r:IE)|enu (a:IE)|srt (a:IE)|zpl (r:IE)
noncomputable abbrev IE.v (i:Nat):IE:=.var i
noncomputable abbrev IE.s (x:Str):IE:=.cst (.str x)
noncomputable abbrev IE.n (i:Int):IE:=.cst (.int i)
noncomputable abbrev IE.k (a r:IE):IE:=.cons a r
noncomputable abbrev IE.o:IE:=.nil
noncomputable abbrev Pt.k (a r:Pt):Pt:=.cons a r
noncomputable abbrev Pt.o:Pt:=.nil
noncomputable def O2.op:O2->Operator
 | .add=>.Add | .sub=>.Sub | .mul=>.Mult | .fdiv=>.FloorDiv | .mod=>.Mod | .pow=>.Pow
def O2.f:O2->Tv->Tv->Rz
 | .add=>Jd
 | .sub=>n9 fun i j=>.int (i-j)
 | .mul=>iY (qm CMul fun i j=>.int (i*j)) (iY IZ Cy)
 | .fdiv=>qm yz fun i j=>.int (i / j)
 | .mod=>qm (fun _ j=>0<j) fun i j=>.int (i % j)
 | .pow=>qm IH fun i j=>.int (i ^ j.toNat)
noncomputable def C2.op:C2->CmpOp
 | .eq=>.Eq | .ne=>.NotEq | .lt=>.Lt | .le=>.LtE | .gt=>.Gt | .ge=>.GtE | .isin=>.In | .notin=>.NotIn
def C2.f:C2->Tv->Tv->Rz
 | .eq=>iY (nF false) (iY (sQ false) (sR false))
 | .ne=>iY (nF true) (iY (sQ true) (sR true))
 | .lt=>n9 fun i j=>.bl (decide (i<j))
 | .le=>iY (n9 fun i j=>.bl (decide (i<=j))) (yi fun i j => !decide (j.cps.toList<i.cps.toList))
 | .gt=>iY (n9 fun i j=>.bl (decide (j<i))) (yi fun i j=>decide (j.cps.toList<i.cps.toList))
 | .ge=>n9 fun i j=>.bl (decide (j<=i))
 | .isin=>wM false
 | .notin=>wM true
def F1.f:F1->Tv->Rz
 | .len=>Jc
 | .list=>yw
 | .tuple=>yV
 | .sum=>AA
 | .all=>Ay
 | .int=>yu
 | .dict=>yt
 | .repr=>B1
noncomputable def F1.nm:F1->Str
 | .len=>"len" | .list=>"list" | .tuple=>"tuple" | .sum=>"sum" | .all=>"all" | .int=>"int" | .dict=>"dict" | .repr=>"repr"
def Mt.f:Mt->Ob->List Tv->Option (Prop×Ob×Tv)
 | .app=>Jb
noncomputable def Mt.nm:Mt->Str
 | .app=>"append"
structure Gm where
 bl:List Str
 fns:List (Str×aP)
 kt:List String:=[]
 gl:List (Str×Tv):=[]
 fv:List ((Addr->Prop)×(Addr->aP)):=[]
structure Sm where
 e:TW
 t:cq
 f:bG
 a:iJ
 i:bG
 o:mM:=fun _ _=>False
def kG:TW:=fun _ _=>False
def kF:cq:=fun _ _=>False
def de:bG:=fun _ _=>False
def eU:iJ:=fun _ _=>False
def gX:mM:=fun _ _=>False
noncomputable def dA (w:TW):Sm:=⟨w,Iz w,de,eU,vR w,B7 w⟩
noncomputable def Lx (w:TW):Sm:=⟨w,tj w,de,eU,de,gX⟩
def Gm.sp (a : Gm)(j:Nat):aP:=match a.fns[j]? with
 |some p=>p.2
 |none=>fun _ _=>False
noncomputable def au (d : Gm):IE->Sm
 | .var i=>dA (nP i)
 | .cst v=>dA (wC (.at v))
 | .bin o a b=>dA (kZ o.f (au d a).e (au d b).e)
 | .cmp o a b=>⟨kZ o.f (au d a).e (au d b).e,tj (kZ o.f (au d a).e (au d b).e),de,eU,de,gX⟩
 | .ix a b=>dA (kZ Bg (au d a).e (au d b).e)
 | .dg a b=>dA (kZ xW (au d a).e (au d b).e)
 | .b1 f a=>dA (kr f.f (au d a).e)
 | .and a b=>⟨B6 (au d a).e (au d b).e,Iy (au d a).t (au d b).t,de,eU,de,gX⟩
 | .or a b=>⟨Ig (au d a).e (au d b).e,AU (au d a).t (au d b).t,de,eU,de,gX⟩
 | .not a=>⟨B5 (au d a).e,Iw (au d a).t,de,eU,de,gX⟩
 | .ite c a b=>⟨C1 (au d c).t (au d a).e (au d b).e,kF,de,eU,de,gX⟩
 | .nil=>⟨kG,kF,yy,IC,de,Ij⟩
 | .cons a r=>⟨kG,kF,qK (au d a).e (Au (au d r).f),tJ (au d a).e (As (au d r).a),de,gX⟩
 | .tup r=>dA (qy Iv (au d r).f)
 | .lst r=>dA (qy Iu (au d r).f)
 | .call j r=>dA (yI (d.sp j) (au d r).a)
 | .mth m o r=>dA (AE m.f (au d o).e (au d r).f)
 | .comp Z own p it c e=>dA (yx Z own.length (au d it).i (bd p) (au d c).t (au d e).e)
 | .cmpv Z own p i c e=>dA (yS Z own.length i (bd p) (au d c).t (au d e).e)
 | .tt=>⟨kG,fun M k=>k true M,de,eU,de,gX⟩
 | .neg a=>dA (kr Ax (au d a).e)
 | .isi T a=>dA (kr (AB T) (au d a).e)
 | .slc a lo g=>dA (Ii (au d a).e (au d lo).o (au d g).o)
 | .rng a=>⟨kG,kF,de,eU,Ih (au d a).e,gX⟩
 | .chn o o' a b c=>Lx (Ie o.f o'.f (au d a).e (au d b).e (au d c).e)
 | .dnew=>dA B3
 | .dct h r=>dA (Ic h (au d r).f)
 | .idx a r=>dA (Ia (au d a).e (au d r).f)
 | .enu a=>⟨kG,kF,de,eU,Ib (au d a).e,gX⟩
 | .zpl r=>⟨kG,kF,de,eU,C0 (au d r).f,gX⟩
 | .srt a=>dA (kr yO (au d a).e)
structure Cs where
 N:List Str
 names:List (Str×NameKind)
 fn:Bool
structure Ck where
 e:Expr->Bool
 t:Expr->Bool
 l:List Expr->Bool
 i:Expr->Expr->Bool
 ts:List Expr->Bool
 o:Option Expr->Bool:=fun _=>false
noncomputable def gx:List Expr->Bool:=fun _=>false
noncomputable def gY:Expr->Bool:=fun _=>false
noncomputable def mZ:Expr->Expr->Bool:=fun _ _=>false
noncomputable def qI:Expr->Bool
 | .UnaryOp .Not _ _=>false
 | .BoolOp _ _ _=>false
 | .IfExp _ _ _ _=>false
 | .Compare _ _ _ _=>false
 |_=>true
noncomputable def noStar:Expr->Bool
 | .Starred _ _=>false
 |_=>true
noncomputable def dS:Expr->Bool
 | .Set _ _ _=>false
 |_=>true
noncomputable def jm:Expr->Bool
 | .ListComp _ _ _ _=>false
 | .SetComp _ _ _ _=>false
 | .DictComp _ _ _ _ _=>false
 |_=>true
noncomputable def lB:Expr->Bool
 | .Slice _ _ _ _=>false
 |_=>true
noncomputable def Cs.gl (C:Cs)(x:Str):Bool:=C.names.lookup x==some .globalImplicit
noncomputable def Cs.vis (C:Cs)(x:Str):Bool:=match C.names.lookup x with
 |some .local=>true
 |some .cell=>true
 |some .free=>true
 |_=>false
noncomputable def Cs.loc (C:Cs)(x:Str):Bool:=match C.names.lookup x with
 |some .local=>true
 |some .cell=>C.fn
 |_=>false
noncomputable def iG (x:Str):Bool := !(x==("__debug__":Str)) && !(x==("__classdict__":Str)) && !(x==("__name__":Str))
noncomputable def ckP (C:Cs):Pt->Expr->Bool
 | .nm i,.Name x _=>C.N[i]? == some x&&C.loc x
 | .cons a b,.Tuple (e::es) _ _=>ckP C a e&&noStar e&&ckPs C b es
 |_,_=>false
where ckPs (C:Cs):Pt->List Expr->Bool
 | .nil,[]=>true
 | .cons a b,e::es=>ckP C a e&&noStar e&&ckPs C b es
 |_,_=>false
noncomputable def Cs.in (C:Cs)(scope:Scope)(N':List Str):Cs:=⟨N',scope.names.map fun(n,k)=>if (k==NameKind.free&&C.names.lookup n==some .cell) then (n,NameKind.cell) else (n,k),false⟩
noncomputable def oj:Expr->Bool
 | .Name _ _=>true
 | .Subscript _ _ _=>true
 |_=>false
noncomputable def yN:Mt->IE->List Expr->Bool
 | .app,_,[_]=>true
 |_,_,_=>false
noncomputable def bV (c:Str->Bool):Expr->Bool
 | .Name x _=>c x
 |_=>false
noncomputable def HZ (c:Operator->Expr->Expr->Bool):Expr->Bool
 | .BinOp l op r _=>c op l r
 |_=>false
noncomputable def sY (c:CmpOp->Expr->Expr->Bool):Expr->Bool
 | .Compare l [op] [r] _=>c op l r
 |_=>false
noncomputable def kY (c:Expr->Expr->Bool):Expr->Bool
 | .Subscript a b _=>c a b
 |_=>false
noncomputable def iE (c:Expr->List Expr->Pos->Bool):Expr->Bool
 | .Call f es [] p=>c f es p
 |_=>false
noncomputable def qD (c:Expr->Str->Pos->Bool):Expr->Bool
 | .Attribute o x p=>c o x p
 |_=>false
noncomputable def eo (c:Expr->Bool):List Expr->Bool
 |[e]=>c e
 |_=>false
noncomputable def tN (c:List Expr->Bool):List Expr->Bool
 |[]=>false
 |e::es=>c (e::es)
noncomputable def qz (o:BoolOp)(a b:Expr->Bool):Expr->Bool
 | .BoolOp op s p=>match s with
  |l::r=>op==o&&a l&&(match r with | []=>false | [x]=>b x|x::y::z=>b (.BoolOp op (x::y::z) p))
  |_=>false
 |_=>false
noncomputable def Aq (c:Expr->Bool):Expr->Bool
 | .UnaryOp .Not r _=>c r
 |_=>false
noncomputable def CZ (c a b:Expr->Bool):Expr->Bool
 | .IfExp t l r _=>c t&&a l&&b r
 |_=>false
noncomputable def Ap:List Expr->Bool
 |[]=>true
 |_=>false
def B0 (a:Expr->Bool)(r:List Expr->Bool):List Expr->Bool
 |e::es=>a e&&noStar e&&r es
 |_=>false
noncomputable def HY (c:List Expr->Bool):Expr->Bool
 | .Tuple es _ _=>c es&&decide (es.length<=1000)
 |_=>false
noncomputable def HX (c:List Expr->Bool):Expr->Bool
 | .List es _=>c es&&decide (es.length<=1000)
 |_=>false
noncomputable def yr (c:Expr->Expr->Expr->List Expr->Scope->Bool):Expr->Bool
 | .ListComp elt [⟨B,iter,ifs,n⟩] scope _=>n==0&&c elt B iter ifs scope
 |_=>false
noncomputable def BZ (c:Expr->Bool):Option Expr->Bool
 |some e=>c e
 |none=>false
noncomputable def yj:Option Expr->Bool
 |some _=>false
 |none=>true
noncomputable def kH:Option Expr->Bool:=fun _=>false
def dC (c:Expr->Bool):Ck:=⟨c,fun e=>c e&&qI e,gx,fun _ e=>c e,eo fun e=>c e&&qI e,BZ c⟩
noncomputable def b6 (C:Cs)(Z:List Nat)(own:List Str):List Str:=(Z.map fun j=>(C.N[j]?).getD ("":Str))++own
def ql (e c:Expr->Bool):Ck:=⟨e,c,gx,mZ,eo c,kH⟩
noncomputable def sW (c:CmpOp->CmpOp->Expr->Expr->Expr->Bool):Expr->Bool
 | .Compare l [op,a] [m,r] _=>c op a l m r
 |_=>false
noncomputable def Bf:Expr->Bool
 | .Dict [] [] _=>true
 |_=>false
noncomputable def BY (c:List (Option Expr)->List Expr->Bool):Expr->Bool
 | .Dict a b _=>c a b
 |_=>false
noncomputable def mE:List Str->List (Option Expr)->Bool
 |[],[]=>true
 |k::a,some e::es=>oq e==some (.str k)&&mE a es
 |_,_=>false
noncomputable def HW (c:Expr->Bool):Expr->Bool
 | .UnaryOp .USub r _=>c r
 |_=>false
noncomputable def qp (c:Expr->Expr->Bool):List Expr->Bool
 |[a,b]=>c a b
 |_=>false
noncomputable def A3 (c:Option Expr->Option Expr->Option Expr->Bool):Expr->Bool
 | .Slice u v d _=>c u v d
 |_=>false
def IW (a:Expr->Bool)(l h:Option Expr->Bool):Expr->Bool:=kY fun x s=>A3 (fun u v d=>a x&&l u&&h v&&yj d) s
noncomputable def tR:Expr->Bool
 | .Tuple _ _ _=>false
 |_=>true
noncomputable def nO (T:String):Bool:=["int","bool","str","tuple","list","dict"].contains T
noncomputable def ck (d : Gm):IE->Cs->Ck
 | .var i,C=>dC (bV fun x=>C.N[i]? == some x&&C.vis x&&iG x)
 | .cst v,C=>dC fun e=>oq e==some v&&jN v
 | .bin o a b,C=>dC (HZ fun op l r=>op==o.op&&(ck d a C).e l&&(ck d b C).e r)
 | .cmp o a b,C=>⟨sY fun op l r=>op==o.op&&(ck d a C).e l&&(ck d b C).e r&&dS r,sY fun op l r=>op==o.op&&(ck d a C).e l&&(ck d b C).e r&&dS r,gx,mZ,eo (sY fun op l r=>op==o.op&&(ck d a C).e l&&(ck d b C).e r&&dS r),kH⟩
 | .ix a b,C=>dC (kY fun l r=>(ck d a C).e l&&(ck d b C).e r&&lB r)
 | .dg a b,C=>dC (kY fun l r=>(ck d a C).e l&&(ck d b C).e r&&lB r)
 | .b1 f a,C=>dC (iE fun g es _=>bV (fun x=>x==f.nm&&C.gl x && d.bl.contains x) g&&eo (fun r=>(ck d a C).e r&&noStar r) es)
 | .and a b,C=>ql (qz .And (ck d a C).e (ck d b C).e) (qz .And (ck d a C).t (ck d b C).t)
 | .or a b,C=>ql (qz .Or (ck d a C).e (ck d b C).e) (qz .Or (ck d a C).t (ck d b C).t)
 | .not a,C=>ql (Aq (ck d a C).e) (Aq (ck d a C).t)
 | .ite c a b,C=>⟨CZ (ck d c C).t (ck d a C).e (ck d b C).e,gY,gx,mZ,gx,kH⟩
 | .nil,_=>⟨gY,gY,Ap,mZ,gx,yj⟩
 | .cons a r,C=>⟨gY,gY,B0 (ck d a C).e (ck d r C).l,mZ,gx,kH⟩
 | .tup r,C=>dC (HY (ck d r C).l)
 | .lst r,C=>dC (HX (ck d r C).l)
 | .call j r,C=>dC (iE fun g es _=>bV (fun x=>(d.fns[j]?).map (·.1)==some x&&C.gl x&&iG x) g&&tN (ck d r C).l es)
 | .mth m o r,C=>dC (iE fun g es h=>qD (fun l x k=>x==m.nm&&(ck d o C).e l&&oj l&&k.endLine==h.line) g&&(ck d r C).l es&&yN m r es)
 | .comp Z own p it c e,C=>dC (yr fun elt B iter ifs scope=>lG (fun x=>C.names.lookup x) C.N scope (b6 C Z own) (Z.map some++List.replicate own.length none)&&(ck d it C).i B iter&&dS iter&&ckP (C.in scope (b6 C Z own)) p B&&(ck d c (C.in scope (b6 C Z own))).ts ifs&&(ck d e (C.in scope (b6 C Z own))).e elt&&decide (b6 C Z own).Nodup)
 | .cmpv Z own p i c e,C=>dC (yr fun elt B iter ifs scope=>lG (fun x=>C.names.lookup x) C.N scope (b6 C Z own) (Z.map some++List.replicate own.length none)&&bV (fun x=>C.N[i]? == some x&&C.vis x&&iG x) iter&&dS iter&&ckP (C.in scope (b6 C Z own)) p B&&(ck d c (C.in scope (b6 C Z own))).ts ifs&&(ck d e (C.in scope (b6 C Z own))).e elt&&decide (b6 C Z own).Nodup)
 | .tt,_=>⟨gY,gY,gx,mZ,Ap,kH⟩
 | .neg a,C=>dC (HW (ck d a C).e)
 | .isi T a,C=>dC (iE fun g es _=>bV (fun x=>x==("isinstance":Str)&&C.gl x && d.bl.contains x) g&&qp (fun r y=>(ck d a C).e r&&noStar r&&bV (fun z=>z==Str.ofString T&&C.gl z && d.bl.contains z) y && d.kt.contains T&&nO T) es)
 | .slc a lo u,C=>dC (IW (ck d a C).e (ck d lo C).o (ck d u C).o)
 | .rng a,C=>⟨gY,gY,gx,fun _=>iE fun g es _=>bV (fun x=>x==("range":Str)&&C.gl x && d.bl.contains x) g&&eo (fun r=>(ck d a C).e r&&noStar r) es,gx,kH⟩
 | .chn o o' a b c,C=>ql (sW fun op n l m r=>op==o.op&&n==o'.op&&(ck d a C).e l&&(ck d b C).e m&&(ck d c C).e r&&dS r) (sW fun op n l m r=>op==o.op&&n==o'.op&&(ck d a C).e l&&(ck d b C).e m&&(ck d c C).e r&&dS r)
 | .dnew,_=>dC Bf
 | .dct q r,C=>dC (BY fun es s=>mE q es&&(ck d r C).l s&&decide (q.length<=15) && !q.isEmpty&&es.length==s.length)
 | .idx a r,C=>dC (iE fun g es h=>qD (fun l x k=>x==("index":Str)&&(ck d a C).e l&&oj l&&k.endLine==h.line) g&&(ck d r C).l es&&eo (fun _=>true) es)
 | .zpl r,C=>⟨gY,gY,gx,fun B=>iE fun g es _=>bV (fun x=>x==("zip":Str)&&C.gl x && d.bl.contains x) g&&(ck d r C).l es&&qp (fun _ _=>true) es && !tR B,gx,kH⟩
 | .srt a,C=>dC (iE fun g es _=>bV (fun x=>x==("sorted":Str)&&C.gl x && d.bl.contains x) g&&eo (iE fun g' w _=>bV (fun x=>x==("set":Str)&&C.gl x && d.bl.contains x) g'&&eo (fun r=>(ck d a C).e r&&noStar r) w) es)
 | .enu a,C=>⟨gY,gY,gx,fun B=>iE fun g es _=>bV (fun x=>x==("enumerate":Str)&&C.gl x && d.bl.contains x) g&&eo (fun r=>(ck d a C).e r&&noStar r) es && !tR B,gx,kH⟩
variable {S:Gm}
theorem Nc {c:CmpOp->CmpOp->Expr->Expr->Expr->Bool}(h:sW c e=true):∃l op d m r p,e=.Compare l [op,d] [m,r] p/\c op d l m r=true:=by cases e with|Compare l a b p=>(rcases a with _|⟨o,_|⟨q,_|_⟩⟩ <;> rcases b with _|⟨m,_|⟨r,_|_⟩⟩ <;> first|exact⟨_,_,_,_,_,_,rfl,h⟩|exact(U3 h).elim)|_=>exact(U3 h).elim
theorem LZ (h:Bf e=true):∃p,e=.Dict [] [] p:=by cases e with|Dict a b p=>(cases a <;> cases b <;> first|exact⟨_,rfl⟩|exact(U3 h).elim)|_=>exact(U3 h).elim
theorem Ol {c:List (Option Expr)->List Expr->Bool}(h:BY c e=true):∃a b p,e=.Dict a b p/\c a b=true:=by cases e with|Dict a b p=>exact⟨_,_,_,rfl,h⟩|_=>exact(U3 h).elim
theorem Oj {o:Option Expr}(h:BZ c o=true):∃e,o=some e/\c e=true:=by cases o with|none=>cases h|some e=>exact⟨e,rfl,h⟩
theorem CQ {o:Option Expr}(h:yj o=true):o=none:=by cases o with|none=>rfl|some e=>cases h
theorem Nb (h:HW c e=true):∃r p,e=.UnaryOp .USub r p/\c r=true:=by cases e with|UnaryOp o r p=>(cases o with|USub=>exact⟨_,_,rfl,h⟩|_=>exact(U3 h).elim)|_=>exact(U3 h).elim
theorem Ek {c:Expr->Expr->Bool}(h:qp c es=true):∃a b,es=[a,b]/\c a b=true:=by rcases es with _|⟨a,_|⟨b,_|_⟩⟩ <;> first|exact⟨_,_,rfl,h⟩|exact(U3 h).elim
theorem gO {c:Str->Bool}(h:bV c e=true):∃x p,e=.Name x p/\c x=true:=by cases e with|Name x p=>exact⟨_,_,rfl,h⟩|_=>exact(U3 h).elim
theorem M9 {c:Operator->Expr->Expr->Bool}(h:HZ c e=true):∃l op r p,e=.BinOp l op r p/\c op l r=true:=by cases e with|BinOp l op r p=>exact⟨_,_,_,_,rfl,h⟩|_=>exact(U3 h).elim
theorem M8 {c:CmpOp->Expr->Expr->Bool}(h:sY c e=true):∃l op r p,e=.Compare l [op] [r] p/\c op l r=true:=by cases e with|Compare l a b p=>(rcases a with _|⟨o,_|_⟩ <;> rcases b with _|⟨r,_|_⟩ <;> first|exact⟨_,_,_,_,rfl,h⟩|exact(U3 h).elim)|_=>exact(U3 h).elim
theorem qM {c:Expr->Expr->Bool}(h:kY c e=true):∃a b p,e=.Subscript a b p/\c a b=true:=by cases e with|Subscript a b p=>exact⟨_,_,_,rfl,h⟩|_=>exact(U3 h).elim
theorem v3 {c:Option Expr->Option Expr->Option Expr->Bool}(h:A3 c e=true):∃u v d p,e=.Slice u v d p/\c u v d=true:=by cases e with|Slice u v d p=>exact⟨_,_,_,_,rfl,h⟩|_=>exact(U3 h).elim
theorem Na {a:Expr->Bool}{l h:Option Expr->Bool}(q:IW a l h e=true):∃x lo b p c,e=.Subscript x (.Slice lo b none c) p/\a x=true/\l lo=true/\h b=true:=by obtain⟨x,s,p,rfl,f⟩:=qM q;obtain⟨u,v,d,r,rfl,g⟩:=v3 f;simp only [U1] at g;obtain rfl:=CQ g.2;exact⟨_,_,_,_,_,rfl,g.1.1.1,g.1.1.2,g.1.2⟩
theorem jC {c:Expr->List Expr->Pos->Bool}(h:iE c e=true):∃f es p,e=.Call f es [] p/\c f es p=true:=by cases e with|Call f es a p=>(cases a with|nil=>exact⟨_,_,_,rfl,h⟩|cons _ _=>exact(U3 h).elim)|_=>exact(U3 h).elim
theorem E3 {c:Expr->Str->Pos->Bool}(h:qD c e=true):∃o x p,e=.Attribute o x p/\c o x p=true:=by cases e with|Attribute o x p=>exact⟨_,_,_,rfl,h⟩|_=>exact(U3 h).elim
theorem kh (h:eo c es=true):∃e,es=[e]/\c e=true:=by unfold eo at h;split at h;exact⟨_,rfl,h⟩;cases h
theorem RF {c:List Expr->Bool}(h:tN c es=true):∃e r,es=e::r/\c (e::r)=true:=by unfold tN at h;split at h;cases h;exact⟨_,_,rfl,h⟩
theorem ur {o:BoolOp}{a b:Expr->Bool}(h:qz o a b e=true):∃l p,a l=true/\((∃x,e=.BoolOp o [l,x] p/\b x=true)∨∃x y z,e=.BoolOp o (l::x::y::z) p/\b (.BoolOp o (x::y::z) p)=true):=by cases e with|BoolOp op s p=>(cases s with|nil=>(cases h)|cons l r=>replace h:(_&&_&&_)=true:=h;simp only [U1,Vt] at h;obtain⟨⟨rfl,h1⟩,c⟩:=h;refine⟨l,p,h1,?_⟩;split at c;cases c;exact .inl ⟨_,rfl,c⟩;exact .inr ⟨_,_,_,rfl,c⟩)|_=>exact(U3 h).elim
theorem Dj (h:Aq c e=true):∃r p,e=.UnaryOp .Not r p/\c r=true:=by cases e with|UnaryOp o r p=>(cases o with|Not=>exact⟨_,_,rfl,h⟩|_=>exact(U3 h).elim)|_=>exact(U3 h).elim
theorem Qx {a b:Expr->Bool}(h:CZ c a b e=true):∃t l r p,e=.IfExp t l r p/\c t=true/\a l=true/\b r=true:=by cases e with|IfExp t l r p=>have h:(_&&_&&_)=true:=h;simp only [U1] at h;exact⟨_,_,_,_,rfl,h.1.1,h.1.2,h.2⟩|_=>exact(U3 h).elim
theorem ub (h:Ap es=true):es=[]:=by cases es with|nil=>rfl|cons _ _=>cases h
theorem zu {a:Expr->Bool}{r:List Expr->Bool}(h:B0 a r es=true):∃x xs,es=x::xs/\a x=true/\noStar x=true/\r xs=true:=by cases es with|nil=>(cases h)|cons x xs=>have h':(a x&&noStar x&&r xs)=true:=h;simp only [U1] at h';exact⟨x,xs,rfl,h'.1.1,h'.1.2,h'.2⟩
theorem MZ {c:List Expr->Bool}(h:HY c e=true):∃es k p,e=.Tuple es k p/\c es=true/\es.length<=1000:=by cases e with|Tuple es k p=>have h:(_&&_)=true:=h;simp only [U1,Wg] at h;exact⟨_,_,_,rfl,h⟩|_=>exact(U3 h).elim
theorem MY {c:List Expr->Bool}(h:HX c e=true):∃es p,e=.List es p/\c es=true/\es.length<=1000:=by cases e with|List es p=>have h:(_&&_)=true:=h;simp only [U1,Wg] at h;exact⟨_,_,rfl,h⟩|_=>exact(U3 h).elim
theorem uq {c:Expr->Expr->Expr->List Expr->Scope->Bool}(h:yr c e=true):∃elt B iter ifs scope p,e=.ListComp elt [⟨B,iter,ifs,0⟩] scope p/\c elt B iter ifs scope=true:=by cases e with|ListComp elt a b p=>(rcases a with _|⟨⟨B,iter,ifs,n⟩,_|_⟩;exact(U3 h).elim;have h:(_&&_)=true:=h;simp only [U1,Vt] at h;obtain⟨rfl,h⟩:=h;exact⟨_,_,_,_,_,_,rfl,h⟩;exact(U3 h).elim)|_=>exact(U3 h).elim
def Us (X:Cx)(x:Str)(Y:aP):Prop:=∃k f U ps,FnOk X.prog X.w X.K X.mg X.base bX k f U ps (f6 X.K Y)/\Room k X.A/\X.mg x=some (.ref f)/\PySem.W.keepIn X.K (.ref f)=true/\Binds X.K U ps []
structure At (S : Gm)(C:Cs)(X:Cx):Prop where
 N:X.N=C.N
 nd:C.N.Nodup
 nm:X.env.scope.names=C.names
 kd:X.env.scope.kind=.function
 fn:C.fn=true->∀x,X.fn x=true
 calm:X.calm=true
 bl:∀x ∈ S.bl,X.mg x=none
 un:X.A.units+64<cLine
 gd:X.A.guards=some []
 kt:∀T ∈ S.kt,∀n ∈ ["NoneType","bool","int","str","tuple","list","dict"],PySem.W.kitOne X.K (.type n) (.type T)=some (jv n T)
 gl:∀p ∈ S.gl,∃v u,X.mg p.1=some u/\RelV v u/\∀G,IsT X.K G v p.2
 fns:∀p ∈ S.fns,Us X p.1 p.2
 fv:∀p ∈ S.fv,∃k,Room k X.A/\∀a,p.1 a->∃U ps,FnOk X.prog X.w X.K X.mg X.base bX k a U ps (f6 X.K (p.2 a))/\PySem.W.keepIn X.K (.ref a)=true/\Binds X.K U ps []
section
variable {C:Cs}
structure mO (S : Gm)(X:Cx)(F:Fr)(s:Sm)(c:Ck):Prop where
 e:∀e,c.e e=true->PE X e (LE X.K F s.e)
 t:∀e,c.t e=true->PT X e (LB X.K F s.t)
 l:∀es,c.l es=true->PA X es (LF X.K F es.length s.f)/\PA X es (LA X.K F s.a)
 i:∀B e,c.i B e=true->PI X B e (LI X.K F s.i)
 ts:∀es,c.ts es=true->PTs X es (LB X.K F s.t)
 o:∀e,c.o e=true->PO X e (LO X.K F s.o)
 p:∀ks es vs pos,mE ks es=true->c.l vs=true->es.length=vs.length->∃dD,rz X pos es vs dD/\∀ L H Q,LP X.K F s.f ks L H Q->lr dD L H Q
theorem DY (h:qI e=true)(b:Sem Value):isTrue e env b=(do let v ← b;standAt e.pos;holding [v] (truthy v)):=by cases e with|UnaryOp op a p=>(cases op <;> first|rfl|cases h)|BoolOp _ _ _=>(cases h)|IfExp _ _ _ _=>(cases h)|Compare _ _ _ _=>(cases h)|_=>rfl
theorem cx (h:noStar e=true):starEach (e::es) env=(false,eval e env)::starEach es env:=by cases e <;> first|rfl|cases h
theorem rh (h:dS e=true)(x:Value):foldedSetIterable e env x=pure x:=by cases e <;> first|rfl|cases h
theorem Fw (h:lB e=true)(o i:Value):subscripted e false o i=operate [o,i] (getItem o i):=by cases e <;> first|rfl|cases h
theorem tQ {op:CmpOp}(h:dS e=true):behindInMarks op e=false:=by cases e <;> first|rfl|cases h
theorem dU {w:TW}(h:∀e,c e=true->PE X e (LE X.K F w)):mO S X F (dA w) (dC c) where
 e:=h
 t:=fun e he=>by have gD:(c e&&qI e)=true:=he;rw[U1] at gD;exact CH (Fh (h e gD.1) (DY gD.2))
 l:=fun es z=>by cases z
 i:=fun B e he=>(yW (h e he)).imp fun L H R=>LI.seq
 ts:=fun es he=>by obtain⟨e,rfl,he⟩:=kh he;replace he:(c e&&qI e)=true:=he;rw[U1] at he;exact tW (CH (Fh (h e he.1) (DY he.2)))
 o:=fun e he=>by obtain⟨e,rfl,he⟩:=Oj he;exact Nr (h e he)
 p:=fun _ _ _ _ _ z=>by cases z
theorem At.var (A:At S C X)(h:(C.N[i]? == some x&&C.vis x&&iG x)=true):PE X (.Name x pos) (tE i):=by
 simp only [U1,Vt] at h;obtain⟨⟨h1,a⟩,b⟩:=h;simp only [iG,U1,Wi] at b;refine CP (by rw[A.N];exact h1) ?_ b.1.1 b.1.2;unfold oN;rw[A.nm];unfold Cs.vis at a;split at a
 .next e=>exact .inl e
 .next e=>exact .inr (.inl e)
 .next e=>exact .inr (.inr e)
 cases a
theorem At.gl' (A:At S C X)(h:C.gl x=true):Gl X x:=by show X.env.scope.names.lookup x=_;rw[A.nm];exact eq_of_beq h
theorem qV:∀{r:IE}{es:List Expr},(ck S r C).l es=true->∀e∈es,noStar e=true:=by intro r;induction r with|cons a r d c=>(intro es h x b;obtain⟨y,i,rfl,_,f,g⟩:=zu h;rcases Vg.mp b with rfl|b;exact f;exact c g x b)|nil=>(intro es h x b;rw[ub h] at b;cases b)|_=>intro es h;cases h
theorem RE (h:∀e∈es,noStar e=true):(backTo pos (starEach es env)).any (·.1)=false:=by induction es with|nil=>rfl|cons e es a=>rw[cx (h e Vc)];show(false||(backTo pos (starEach es env)).any (·.1))=false;rw[a fun x b=>h x (Vb _ b)];rfl
theorem MX {o:O2}{a b:Expr}{wb:TW}(c:PE X a (LE X.K F u))(hb:PE X b (LE X.K F wb)):PE X (.BinOp a o.op b pos) (LE X.K F (kZ o.f u wb)):=by cases o with|add=>exact kc (om NA c hb) Nz|sub=>exact kc (om Qk c hb) (qW fun _ _=>rfl)|mul=>exact kc (r:=mV _ _) (om (op_mul.or (op_rep.or NJ)) c hb) (qJ (ud fun _ _=>rfl) (qJ Ni Oo))|fdiv=>exact kc (om Oy c hb) (ud fun _ _=>rfl)|mod=>exact kc (om Mw c hb) (ud fun _ _=>rfl)|pow=>exact kc (om Mv c hb) (ud fun _ _=>rfl)
theorem tP {f g:Tv->Tv->Rz}{op:CmpOp}(h:OpR X (compareOp op) r/\c9 X.K f r)(h':OpR X (compareOp op) O/\c9 X.K g O):∃r,OpR X (compareOp op) r/\c9 X.K (iY f g) r:=⟨mV r O,h.1.or h'.1,qJ h.2 h'.2⟩
theorem yQ (b:X.A.units+64<cLine)(a:X.A.units<cLine):∀o:C2,∃r,OpR X (compareOp o.op) r/\c9 X.K o.f r
 | .eq=>tP ⟨NU,Mg⟩ ⟨(L3 a).or (Me a),qJ Dk Dl⟩
 | .ne=>tP ⟨Ci,Mf⟩ ⟨(L0 a).or (Md a),qJ Dk Dl⟩
 | .lt=>⟨_,ye,qW fun _ _=>rfl⟩
 | .le=>tP ⟨yd,qW fun _ _=>rfl⟩ ⟨P7,Dm⟩
 | .gt=>tP ⟨LK,qW fun _ _=>rfl⟩ ⟨P6,Dm⟩
 | .ge=>⟨_,LJ,qW fun _ _=>rfl⟩
 | .isin=>⟨_,Qg,CG⟩
 | .notin=>⟨_,S4,CG⟩
theorem Pw {f:F1}(m:X.calm=true)(n:X.A.units+64<cLine)(j:X.A.guards=some [])(c:X.mg f.nm=none)(d:Gl X f.nm)(b:noStar e=true)(o:PE X e (LE X.K F u)):PE X (.Call (.Name f.nm p) [e] [] pos) (LE X.K F (kr f.f u)):=by have g:PA X [e] (ka (LE X.K F u) iM):=fj o pa_nil (cx b);cases f with|len=>exact jz ((fe PV d c PySem.boot_len g (he:=cx b)).imp fun L H Q=>lx fun x H Q h=>⟨x,rfl,h⟩) Ny|list=>exact jz ((oK S2 d c (by decide+kernel) g (he:=cx b)).imp fun L H Q=>lx fun x H Q z=>by obtain⟨p,l,e,h⟩:=z;exact ⟨p,l,by rw[e],h⟩) Ot|tuple=>exact jz ((oK HJ d c (by decide+kernel) g (he:=cx b)).imp fun L H Q=>lx fun x H Q y=>by obtain⟨p,l,e,h⟩:=y;exact ⟨p,l,by rw[e],h⟩) PU|sum=>exact jz ((fe (Ov m) d c (by decide+kernel) g (he:=cx b)).imp fun L H Q=>lx fun x H Q w=>by obtain⟨a,ns,e,h⟩:=w;exact ⟨a,ns,by rw[e],h⟩) Nq|all=>exact jz ((fe (Se m) d c (by decide+kernel) g (he:=cx b)).imp fun L H Q=>lx fun x H Q v=>by obtain⟨a,ns,e,h⟩:=v;exact ⟨a,ns,by rw[e],h⟩) Np|repr=>exact jz ((fe (P1 j) d c (by decide+kernel) g (he:=cx b)).imp fun L H Q=>lx fun x H Q s=>by obtain⟨a,t,e,h⟩:=s;exact ⟨a,t,by rw[e],h⟩) (Om n)|dict=>exact jz ((oK SN d c (by decide+kernel) g (he:=cx b)).imp fun L H Q=>lx fun x H Q Z=>by obtain⟨p,r,e,h⟩:=Z;exact ⟨p,r,by rw[e],h⟩) Oq|int=>exact jz ((oK Qi d c (by decide+kernel) g (he:=cx b)).imp fun L H Q=>lx fun x H Q h=>h.elim (fun Y=>by obtain⟨i,e,q⟩:=Y;exact .inl ⟨i,by rw[e],q⟩) fun W=>by obtain⟨k,e,q⟩:=W;exact .inr ⟨k,by rw[e],q⟩) Nl
theorem PW.imp {t t':TT}(h:PW X e t)(i:∀ L H Q,t' L H Q->t L H Q):PW X e t':=fun a J s L H Q I q=>h a J s L H Q I (i L H Q q)
theorem PT.pw {op:BoolOp}{a:List Expr}{t:TT}(h:PT X (.BoolOp op a p) t):PW X (.BoolOp op a p) t:=fun b J s L H Q I q=>h J s L H Q I q
theorem Cs.loc_is (A:At S C X)(h:C.loc x=true):lI X.env.scope x/\(lf X x):=by
 unfold lI lf;rw[A.nm];unfold Cs.loc at h;split at h
 .next e=>exact⟨.inl e,.inr e⟩
 .next e=>exact⟨.inr e,.inl (A.fn h x)⟩
 cases h
theorem Fv:∀{p:Pt}{es:List Expr}{env:Env},ckP.ckPs C p es=true->(assignEach es env).findIdx? (·.1)=none/\(∀e r,es=e::r->(assignEach (e::r) env).map (·.2)=assign e env::(assignEach r env).map (·.2)):=by
 intro p;induction p with
 |nm i=>(intro es env h;cases h)|nil=>(intro es env h;match es,h with|[],_=>exact⟨rfl,fun e r z=>by cases z⟩)
 |cons a b f c=>
  intro es env h;match es,h with
  |e::es,h=>
   have h':(ckP C a e&&noStar e&&ckP.ckPs C b es)=true:=h;simp only [U1] at h';have d:assignEach (e::es) env=(false,assign e env)::assignEach es env:=by have:=h'.1.2;cases e <;> first|rfl|cases this
   refine⟨?_,fun g r z=>?_⟩;rw[d,List.findIdx?_cons];simp [(c (es:=es) (env:=env) h'.2).1];cases z;rw[d];rfl
theorem zg {a b:Pt}(h:bd (.cons a b) t M=some I):∃u r c,(t=.tup (u::r)∨t=.ktp (u::r))/\bd a u M=some c/\bd b (.tup r) c=some I:=by
 have go:∀u r,(bd a u M).bind (fun c=>bd b (.tup r) c)=some I->∃c,bd a u M=some c/\bd b (.tup r) c=some I:=fun u r h=>by cases q:bd a u M with|none=>(rw[q] at h;cases h)|some c=>rw[q] at h;exact⟨c,rfl,h⟩
 cases t with|tup l=>(cases l with|nil=>(cases h)|cons u r=>obtain⟨c,h1,d⟩:=go u r h;exact⟨u,r,c,.inl rfl,h1,d⟩)|ktp l=>(cases l with|nil=>(cases h)|cons u r=>obtain⟨c,h1,d⟩:=go u r h;exact⟨u,r,c,.inr rfl,h1,d⟩)|_=>cases h
theorem yH (A:At S C X):∀p:Pt,(∀e,ckP C p e=true->PG X e (LG X.K F (bd p)))/\(∀es,ckP.ckPs C p es=true->PGs X es (LGs X.K F fun ts M=>bd p (.tup ts) M)/\∀ts M I,bd p (.tup ts) M=some I->ts.length=es.length):=by
 intro p;induction p with
 |nm i=>(refine⟨fun e h=>?_,fun es h=>by cases h⟩;cases e with|Name x pos=>(have h':(C.N[i]? == some x&&C.loc x)=true:=h;simp only [U1,Vt] at h';obtain⟨h1,o⟩:=Cs.loc_is A h'.2;exact ND (qZ (by rw[A.N];exact A.nd) (by rw[A.N];exact h'.1) h1 o))|_=>cases h)
 |nil=>
  refine⟨(fun e h=>by cases e <;> cases h),fun es h=>?_⟩;match es,h with
  |[],_=>
   refine⟨pgs_nil.imp fun v L H Q=>LGs.nil fun ts M I e=>?_,fun ts M I e=>?_⟩;cases ts with|nil=>(cases e;exact⟨rfl,rfl⟩)|cons _ _=>cases e
   cases ts with|nil=>rfl|cons _ _=>cases e
 |cons a b g j=>
  have n:∀es,ckP.ckPs C (.cons a b) es=true->PGs X es (LGs X.K F fun ts M=>bd (.cons a b) (.tup ts) M)/\∀ts M I,bd (.cons a b) (.tup ts) M=some I->ts.length=es.length:=fun es h=>by have l:=Fv (env:=X.env) h;match es,h with|e::es,h=>have h':(ckP C a e&&noStar e&&ckP.ckPs C b es)=true:=h;simp only [U1] at h';obtain⟨g1,g2⟩:=j.2 es h'.2;refine⟨(zY (g.1 e h'.1.1) g1 (l.2 e es rfl)).imp fun v L H Q=>LGs.cons fun ts M I z=>?_,fun ts M I z=>?_⟩;obtain⟨u,r,d,c,m,f⟩:=zg z;rcases c with c|c <;> cases c;exact⟨u,r,d,rfl,m,f⟩;obtain⟨u,r,d,c,m,f⟩:=zg z;rcases c with c|c <;> cases c;simp [g2 r d I f]
  refine⟨fun e h=>?_,n⟩;cases e with
  |Tuple es k pos=>
   cases es with
   |nil=>(cases h)
   |cons e es=>
    have h':ckP.ckPs C (.cons a b) (e::es)=true:=h;obtain⟨g1,g2⟩:=n _ h';have q:∀{p:Pt}{es:List Expr},ckP.ckPs C p es=true->(assignEach es X.env).length=es.length:=by
     intro p;induction p with
     |nm i=>(intro es h;cases h)|nil=>(intro es h;match es,h with|[],_=>rfl)
     |cons a b _ s=>
      intro es h;match es,h with
      |e::es,h=>
       have h':(ckP C a e&&noStar e&&ckP.ckPs C b es)=true:=h;simp only [U1] at h';have c:assignEach (e::es) X.env=(false,assign e X.env)::assignEach es X.env:=by have:=h'.1.2;cases e <;> first|rfl|cases this
       rw[c];simp [s h'.2]
    refine(Dw A.calm g1 (q h') (Fv h').1).imp fun v L H Q=>LG.tup fun t M I z=>?_;obtain⟨u,r,d,c,m,f⟩:=zg z;rcases c with rfl|rfl;exact⟨u::r,.inl rfl,g2 _ M I z,z⟩;exact⟨u::r,.inr rfl,g2 (u::r) M I z,z⟩
  |_=>cases h
theorem At.inn {D:Addr}{ex:List Addr}{s0:Shared}{H0:Hp}(A:At S C X)(hk:scope.kind=.function)(hN:N'.Nodup):At S (C.in scope N') (dZ X N' scope cl D ex s0 H0) where
 N:=rfl
 nd:=hN
 nm:=by
  show(relabel scope X.env).names=_;unfold relabel Cs.in;simp only;congr 1;funext ⟨n,k⟩
  have e1:X.env.kindOf n=C.names.lookup n:=by show X.env.scope.names.lookup n=_;rw[A.nm]
  simp only [e1,A.kd];simp
 kd:=hk
 fn:=fun h=>by cases h
 calm:=A.calm
 bl:=A.bl
 un:=A.un
 gd:=A.gd
 kt:=A.kt
 gl:=A.gl
 fv:=A.fv
 fns:=fun p hp=>by obtain⟨k,f,U,ps,h⟩:=A.fns p hp;exact⟨k,f,U,ps,h⟩
theorem tG {s:Sm}{d:Expr->Bool}(hd:∀e,d e=true->PE X e (LE X.K F s.e))(h:∀e,c e=true->PT X e (LB X.K F s.t)):mO S X F s (ql d c) where
 e:=hd
 t:=h
 l:=fun e z=>by cases z
 i:=fun B e z=>by cases z
 ts:=fun es he=>by obtain⟨e,rfl,he⟩:=kh he;exact tW (h e he)
 o:=fun e z=>by cases z
 p:=fun _ _ _ _ _ z=>by cases z
theorem Qw {m:Mt}{r:IE}{o:Expr}{wo:TW}{a b:Pos}(c:yN m r es=true)(hb:attributeBase o m.nm X.env (eval o X.env)=eval o X.env)(d:(a.endLine==b.line)=true)(g:∀e∈es,noStar e=true)(h:PE X o (LE X.K F wo))(i:PA X es (LF X.K F es.length (au S r).f)):PE X (.Call (.Attribute o m.nm a) es [] b) (LE X.K F (AE m.f wo (au S r).f)):=by cases m with|app=>match es,c with|[e],_=>have h1:noStar e=true:=g e Vc;exact(y8 PySem.F.plainAttrs_list PySem.F.slot_list_append PySem.F.type_list_append Hj h i hb (by rw[cx h1];rfl) d (cx h1) rfl).imp fun L H Q=>LE.mut Nv
theorem MW (h:nO T=true):bootBuiltins (Str.ofString T)=some (.type T)/\(Str.ofString T==("__debug__":Str))=false/\Str.ofString T≠"__name__":=by
 have h':T="int"∨T="bool"∨T="str"∨T="tuple"∨T="list"∨T="dict":=by simpa [nO] using h
 rcases h' with rfl|rfl|rfl|rfl|rfl|rfl <;> exact⟨by decide+kernel,by decide+kernel,by decide+kernel⟩
theorem MV {n:String}(h:rN t=some n):n ∈ ["NoneType","bool","int","str","tuple","list","dict"]:=by cases t with| «at» v=>(cases v <;> first | (cases h;decide)|cases h)|_=>first | (cases h;decide)|cases h
theorem MU {c:Pos}(kt:∀n ∈ ["NoneType","bool","int","str","tuple","list","dict"],PySem.W.kitOne X.K (.type n) (.type T)=some (jv n T))(d:X.mg "isinstance"=none)(f:Gl X "isinstance")(g:X.mg (Str.ofString T)=none)(h:Gl X (Str.ofString T))(i:nO T=true)(a:noStar e=true)(j:PE X e (LE X.K F u)):PE X (.Call (.Name "isinstance" p) [e,.Name (Str.ofString T) c] [] pos) (LE X.K F (kr (AB T) u)):=by
 obtain⟨b1,l,m⟩:=MW i;have o:PE X (.Name (Str.ofString T) c) (tC (.ty T)):=my h g b1 rfl m l;refine(fe oh f d (by decide+kernel) (fj j (fj o pa_nil) (cx a)) (he:=cx a)).imp fun L H Q Z=>?_;obtain⟨G,r,M,B,R,k,q⟩:=Z;refine⟨G,r,M,_,R,k,fun x C D E v I k1 b w y=>?_⟩;obtain⟨t,z,k1⟩:=aO k1;obtain⟨s,a,k1⟩:=mK k1;have A:=b.rd y z;unfold AB at a;split at a
 .next n hn=>
  cases a;exact⟨v,T,.type n,jv n T,rfl,L7 (A.up b.sub) hn,kt n (MV hn),b7 b.sub (.at rfl) (b.done R.lt w k1 q)⟩
 cases a
theorem uK {own:List Str}{p:Pt}{it c e:IE}(A:At S C X)(l:∀C X F,At S C X->mO S X F (au S it) (ck S it C))(m:∀C X F,At S C X->mO S X F (au S c) (ck S c C))(n:∀C X F,At S C X->mO S X F (au S e) (ck S e C))
  (h:(lG (fun x=>C.names.lookup x) C.N scope (b6 C Z own) (Z.map some++List.replicate own.length none)&&(ck S it C).i B iter&&dS iter&&ckP (C.in scope (b6 C Z own)) p B&&(ck S c (C.in scope (b6 C Z own))).ts ifs&&(ck S e (C.in scope (b6 C Z own))).e elt&&decide (b6 C Z own).Nodup)=true):∃N':List Str,N'.length=Z.length+own.length/\a8 X scope N' (Z.map some++List.replicate own.length none)/\PI X B iter (LI X.K F (au S it).i)/\dS iter=true ∧∀cl D ex s0 H0,PG (dZ X N' scope cl D ex s0 H0) B (rC X.K (bd p))/\PTs (dZ X N' scope cl D ex s0 H0) ifs (rE X.K (au S c).t)/\PE (dZ X N' scope cl D ex s0 H0) elt (rD X.K (au S e).e):=by
 simp only [U1,Wg] at h;obtain⟨⟨⟨⟨⟨⟨h1,o⟩,q⟩,d⟩,f⟩,g⟩,j⟩:=h;have k:(b6 C Z own).length=Z.length+own.length:=by unfold b6;simp
 generalize b6 C Z own=N' at h1 d f g j k;have r:scope.kind=.function:=by unfold lG at h1;simp only [U1,Vt] at h1;exact h1.1.1.1
 refine⟨N',k,HH X.env.scope rfl X.N rfl (by rw[A.nm,A.N];exact h1),(l C X F A).i B iter o,q,fun cl D ex s0 H0=>?_⟩;have b:=A.inn (cl:=cl) (D:=D) (ex:=ex) (s0:=s0) (H0:=H0) r j;exact⟨PG.all fun a=>(yH b p).1 B d,PTs.all fun a=>(m _ _ a b).ts ifs f,PE.all fun a=>(n _ _ a b).e elt g⟩
theorem Di (S : Gm)(i:Nat):∀(C:Cs)(X:Cx)(F:Fr),At S C X->mO S X F (au S (.var i)) (ck S (.var i) C):=by intro C X F A;refine dU fun e h=>?_;obtain⟨x,p,rfl,h⟩:=gO h;exact tT (A.var h)
theorem eh (S : Gm):∀(ir:IE)(C:Cs)(X:Cx)(F:Fr),At S C X->mO S X F (au S ir) (ck S ir C):=by
 intro ir;induction ir with
 |var i=>(intro C X F A;refine dU fun e h=>?_;obtain⟨x,p,rfl,h⟩:=gO h;exact tT (A.var h))|cst v=>(intro C X F A;refine dU fun e h=>?_;replace h:(oq e==some v&&jN v)=true:=h;simp only [U1,Vt] at h;exact Ml (D3 h.1) h.2)|bin o a b d w=>(intro C X F A;refine dU fun e h=>?_;obtain⟨l,op,r,p,rfl,h⟩:=M9 h;replace h:(op==o.op&&(ck S a C).e l&&(ck S b C).e r)=true:=h;simp only [U1,Vt] at h;obtain⟨⟨rfl,h1⟩,n⟩:=h;exact MX ((d C X F A).e l h1) ((w C X F A).e r n))
 |cmp o a b d w=>
  intro C X F A;have go:∀e,(ck S (.cmp o a b) C).e e=true->∃l op r pos,e=.Compare l [op] [r] pos/\op=o.op/\(ck S a C).e l=true/\(ck S b C).e r=true/\dS r=true:=fun e h=>by obtain⟨l,op,r,p,rfl,h⟩:=M8 h;replace h:(op==o.op&&(ck S a C).e l&&(ck S b C).e r&&dS r)=true:=h;simp only [U1,Vt] at h;exact⟨l,op,r,p,rfl,h.1.1.1,h.1.1.2,h.1.2,h.2⟩
  have hu:X.A.units<cLine:=by have:=A.un;lia
  obtain⟨r2,o1,o2⟩:=yQ A.un hu o;have pt:∀e,(ck S (.cmp o a b) C).e e=true->PT X e (LB X.K F (tj (kZ o.f (au S a).e (au S b).e))):=fun e h=>by obtain⟨l,op,r,pos,rfl,rfl,h1,n,D⟩:=go e h;have P:=Fi (pos:=pos) o1 ((d C X F A).e l h1) ((w C X F A).e r n) (tQ D);refine CI (P.imp fun L H Q z0=>?_);obtain⟨G,ta,M,K0,R,k,q⟩:=z0;refine⟨G,ta,M,_,R,k,fun x M1 G1 t1 v1 H1 k1 R1 s1 e1=>⟨G1,t1,M1,_,R1,k1,fun y M2 G2 t2 v2 H2 k2 R2 s2 e2=>?_⟩⟩;obtain⟨t,ht,k2⟩:=aO k2;obtain⟨u,hu,k2⟩:=aO k2;obtain⟨s,hs,k2⟩:=mK k2;exact o2 G2 H2 v1 v2 t u s _ R2.sub (R2.rd (e1.stp s2) ht) (R2.rd e2 hu) hs (R2.done R.lt (s1.trans s2) k2 q)
  refine⟨fun e h=>?_,pt,(fun es z=>by cases z),(fun B e z=>by cases z),fun es he=>?_,(fun e z=>by cases z),(fun _ _ _ _ _ z=>by cases z)⟩;obtain⟨l,op,r,pos,rfl,rfl,h1,n,D⟩:=go e h;exact kc (NT (pos:=pos) o1 ((d C X F A).e l h1) ((w C X F A).e r n) (tQ D)) o2;obtain⟨e,rfl,he⟩:=kh he;exact tW (pt e he)
 |ix a b d w=>(intro C X F A;refine dU fun e h=>?_;obtain⟨l,r,p,rfl,h⟩:=qM h;replace h:((ck S a C).e l&&(ck S b C).e r&&lB r)=true:=h;simp only [U1] at h;exact kc (qE Mo ((d C X F A).e l h.1.1) ((w C X F A).e r h.1.2) (Fw h.2)) Mc)|dg a b d w=>(intro C X F A;refine dU fun e h=>?_;obtain⟨l,r,p,rfl,h⟩:=qM h;replace h:((ck S a C).e l&&(ck S b C).e r&&lB r)=true:=h;simp only [U1] at h;exact kc (r:=kC) (Sg (by have:=A.un;lia) ((d C X F A).e l h.1.1) ((w C X F A).e r h.1.2) (Fw h.2)) L9)|b1 f a d=>(intro C X F A;refine dU fun e h=>?_;obtain⟨g,es,p,rfl,h⟩:=jC h;replace h:(bV (fun x=>x==f.nm&&C.gl x && S.bl.contains x) g&&eo (fun r=>(ck S a C).e r&&noStar r) es)=true:=h;rw[U1] at h;obtain⟨x,q,rfl,h1⟩:=gO h.1;obtain⟨r,rfl,n⟩:=kh h.2;replace h1:(x==f.nm&&C.gl x && S.bl.contains x)=true:=h1;replace n:((ck S a C).e r&&noStar r)=true:=n;simp only [U1,Vt] at h1 n;obtain⟨⟨rfl,D⟩,O⟩:=h1;exact Pw A.calm A.un A.gd (A.bl _ (V4.mp O)) (A.gl' D) n.2 ((d C X F A).e r n.1))|and a b d w=>(intro C X F A;refine tG (fun e h=>?_) fun e h=>?_;obtain⟨l,p,h1,⟨x,rfl,n⟩|⟨x,y,z,rfl,n⟩⟩:=ur h;exact(yE ((d C X F A).e l h1) (yF ((w C X F A).e x n))).imp fun L H Q=>LE.andV;exact(yE ((d C X F A).e l h1) ((w C X F A).e _ n)).imp fun L H Q=>LE.andV;obtain⟨l,p,h1,⟨x,rfl,n⟩|⟨x,y,z,rfl,n⟩⟩:=ur h;exact((CO ((d C X F A).t l h1) (NW ((w C X F A).t x n))).imp fun L H Q=>LB.and).pt;exact((CO ((d C X F A).t l h1) ((w C X F A).t _ n).pw).imp fun L H Q=>LB.and).pt)|or a b d w=>(intro C X F A;refine tG (fun e h=>?_) fun e h=>?_;obtain⟨l,p,h1,⟨x,rfl,n⟩|⟨x,y,z,rfl,n⟩⟩:=ur h;exact(Cq ((d C X F A).e l h1) (yF ((w C X F A).e x n))).imp fun L H Q=>LE.orV;exact(Cq ((d C X F A).e l h1) ((w C X F A).e _ n)).imp fun L H Q=>LE.orV;obtain⟨l,p,h1,⟨x,rfl,n⟩|⟨x,y,z,rfl,n⟩⟩:=ur h;exact((mx ((d C X F A).t l h1) (qr ((w C X F A).t x n))).imp fun L H Q=>LB.or).pt;exact((mx ((d C X F A).t l h1) ((w C X F A).t _ n).pw).imp fun L H Q=>LB.or).pt)|not a d=>(intro C X F A;refine tG (fun e h=>?_) fun e h=>?_;obtain⟨r,p,rfl,h⟩:=Dj h;exact(Cp ((d C X F A).e r h)).imp fun L H Q=>LE.notV;obtain⟨r,p,rfl,h⟩:=Dj h;exact(j3 ((d C X F A).t r h)).imp fun L H Q=>LB.not)
 |chn o o' a b c d w jO=>
  intro C X F A;have hu:X.A.units<cLine:=by have:=A.un;lia
  obtain⟨r2,o1,o2⟩:=yQ A.un hu o;obtain⟨r3,o3,o4⟩:=yQ A.un hu o';have go:∀e,sW (fun op dG l m r=>op==o.op&&dG==o'.op&&(ck S a C).e l&&(ck S b C).e m&&(ck S c C).e r&&dS r) e=true->∃l m r p,e=.Compare l [o.op,o'.op] [m,r] p/\PE X l (LE X.K F (au S a).e)/\PE X m (LE X.K F (au S b).e)/\PE X r (LE X.K F (au S c).e)/\dS r=true:=fun e h=>by obtain⟨l,op,dG,m,r,p,rfl,h⟩:=Nc h;replace h:(op==o.op&&dG==o'.op&&(ck S a C).e l&&(ck S b C).e m&&(ck S c C).e r&&dS r)=true:=h;simp only [U1,Vt] at h;obtain⟨⟨⟨⟨⟨rfl,rfl⟩,h1⟩,n⟩,D⟩,O⟩:=h;exact⟨l,m,r,p,rfl,(d C X F A).e l h1,(w C X F A).e m n,(jO C X F A).e r D,O⟩
  refine tG (fun e h=>?_) fun e h=>?_;obtain⟨l,m,r,p,rfl,h1,n,D,O⟩:=go e h;exact(OG o1 o3 h1 n D (tQ O)).imp fun L H Q=>LE.chn o2 o4;obtain⟨l,m,r,p,rfl,h1,n,D,O⟩:=go e h;exact CI ((yJ o1 o3 h1 n D (tQ O)).imp fun L H Q k=>LE.chn o2 o4 k)
 |dnew=>(intro C X F A;refine dU fun e h=>?_;obtain⟨p,rfl⟩:=LZ h;exact Nj)
 |dct V r E=>
  intro C X F A;refine dU fun e h=>?_;obtain⟨es,vs,p,rfl,h⟩:=Ol h;replace h:(mE V es&&(ck S r C).l vs&&decide (V.length<=15) && !V.isEmpty&&es.length==vs.length)=true:=h;simp only [U1,Wg,Vt,Wi] at h;obtain⟨⟨⟨⟨h1,n⟩,D⟩,O⟩,W⟩:=h;obtain⟨dD,g1,g2⟩:=(E C X F A).p V es vs p h1 n W;have ko:∀(V:List Str)(es:List (Option Expr)),mE V es=true->V.length=es.length/\es.all (·.isSome)=true:=by intro V;induction V with|nil=>(intro es h;cases es with|nil=>exact⟨rfl,rfl⟩|cons _ _=>cases h)|cons k V ih=>intro es h;match es,h with|some e::es,h=>have h':(oq e==some (.str k)&&mE V es)=true:=h;rw[U1] at h';obtain⟨a1,a2⟩:=ih es h'.2;exact⟨by simp [a1],by simpa using a2⟩
  obtain⟨k1,k2⟩:=ko V es h1;exact(NM g1 k2 W (fun z=>by rw[z] at k1;cases V with|nil=>cases O|cons _ _=>cases k1) (by lia)).imp fun L H Q=>LE.dct D g2
 |ite c a b jO d w=>(intro C X F A;refine⟨fun e h=>?_,(fun e z=>by cases z),(fun es z=>by cases z),(fun B e z=>by cases z),(fun es z=>by cases z),(fun e z=>by cases z),(fun _ _ _ _ _ z=>by cases z)⟩;obtain⟨t,l,r,p,rfl,h1,n,D⟩:=Qx h;exact(RA ((jO C X F A).t t h1) ((d C X F A).e l n) ((w C X F A).e r D)).imp fun L H Q=>LE.ite)|nil=>(intro C X F A;refine⟨(fun e z=>by cases z),(fun e z=>by cases z),fun es h=>?_,(fun B e z=>by cases z),(fun es z=>by cases z),(fun e h=>by rw[CQ h];exact Nu),fun V es vs pos hk hv hl=>?_⟩;rw[ub h];exact⟨Mj,Mk⟩;rw[ub hv] at hl ⊢;have:es=[]:=List.eq_nil_of_length_eq_zero hl;subst this;cases V with|nil=>exact⟨[],NN,fun L H Q=>LP.nil⟩|cons _ _=>cases hk)
 |cons a r d E=>
  intro C X F A;have eS:au S (.cons a r)=⟨kG,kF,qK (au S a).e (au S r).f,tJ (au S a).e (au S r).a,de,gX⟩:=by show Sm.mk kG kF (qK (au S a).e (Au (au S r).f)) (tJ (au S a).e (As (au S r).a)) de gX=_;rw[Nf,Nd]
  rw[eS];refine⟨(fun e z=>by cases z),(fun e z=>by cases z),fun es h=>?_,(fun B e z=>by cases z),(fun es z=>by cases z),(fun e z=>by cases z),fun V es vs pos hk hv hl=>?_⟩;obtain⟨x,xs,rfl,h1,n,D⟩:=zu h;have pe:=(d C X F A).e x h1;obtain⟨q1,q2⟩:=(E C X F A).l xs D;exact⟨(fj pe q1 (cx n)).imp fun L H Q=>LF.cons,NG (fj pe q2 (cx n))⟩;obtain⟨x,xs,rfl,h1,n,D⟩:=zu hv;cases es with|nil=>(cases hl)|cons o es=>match V,o,hk with|k::V,some e,hk=>have jU:(oq e==some (.str k)&&mE V es)=true:=hk;simp only [U1,Vt] at jU;obtain⟨dD,g1,g2⟩:=(E C X F A).p V es xs pos jU.2 D (by simpa using hl);exact⟨_,OB (D3 jU.1) ((d C X F A).e x h1) g1,fun L H Q=>LP.cons g2⟩
 |tup r E=>(intro C X F A;refine dU fun e h=>?_;obtain⟨es,k,p,rfl,h1,n⟩:=MZ h;exact Mi n ((E C X F A).l es h1).1)|lst r E=>(intro C X F A;refine dU fun e h=>?_;obtain⟨es,p,rfl,h1,n⟩:=MY h;exact Mh n ((E C X F A).l es h1).1)
 |call j r E=>
  intro C X F A;refine dU fun e h=>?_;obtain⟨g,es,p,rfl,h⟩:=jC h;replace h:(bV (fun x=>(S.fns[j]?).map (·.1)==some x&&C.gl x&&iG x) g&&tN (ck S r C).l es)=true:=h;rw[U1] at h;obtain⟨x,q,rfl,h1⟩:=gO h.1;obtain⟨a,es,rfl,O⟩:=RF h.2;replace h1:((S.fns[j]?).map (·.1)==some x&&C.gl x&&iG x)=true:=h1;simp only [U1,Vt] at h1;obtain⟨⟨h1,n⟩,D⟩:=h1;have st:=qV O;simp only [iG,U1,Wi] at D;cases q : S.fns[j]? with
  |none=>(rw[q] at h1;cases h1)
  |some pr=>
   obtain⟨y,Y⟩:=pr;rw[q] at h1;cases h1;obtain⟨k,f,U,ps,g1,g2,g3,g4,g5⟩:=A.fns _ (VF q);have e2 : S.sp j=Y:=by unfold Gm.sp;rw[q]
   show PE X _ (LE X.K F (yI (S.sp j) (au S r).a));rw[e2];exact(oF g1 g2 (A.gl' n) g3 g4 g5 .nil qS ((E C X F A).l _ O).2 D.1.1 (cx (st a Vc)) (RE fun z hz=>st z (Vb _ hz))).imp fun L H Q=>LE.call
 |mth m o r iho E=>(intro C X F A;refine dU fun e h=>?_;obtain⟨g,es,cp,rfl,h⟩:=jC h;replace h:(qD (fun l x ap=>x==m.nm&&(ck S o C).e l&&oj l&&ap.endLine==cp.line) g&&(ck S r C).l es&&yN m r es)=true:=h;simp only [U1] at h;obtain⟨l,x,ap,rfl,h1⟩:=E3 h.1.1;replace h1:(x==m.nm&&(ck S o C).e l&&oj l&&ap.endLine==cp.line)=true:=h1;simp only [U1,Vt] at h1;obtain⟨⟨⟨rfl,n⟩,D⟩,O⟩:=h1;refine Qw h.2 ?_ (Vt.mpr O) (qV h.1.2) ((iho C X F A).e l n) ((E C X F A).l es h.1.2).1;cases l <;> first|rfl|cases D)|comp Z own p it c e wO jO pG=>(intro C X F A;refine dU fun x h=>?_;obtain⟨elt,B,iter,ifs,scope,pos,rfl,h⟩:=uq h;obtain⟨N',hN,a0,hi,hs,hb⟩:=uK (F:=F) A wO jO pG h;exact(zx A.calm a0 hi hb (rh hs)).imp fun L H Q=>LE.comp hN)
 |cmpv Z own p i c e jO pG=>
  intro C X F A;refine dU fun x h=>?_;obtain⟨elt,B,iter,ifs,scope,pos,rfl,h⟩:=uq h;have hv:bV (fun x=>C.N[i]? == some x&&C.vis x&&iG x) iter=true:=by replace h:(lG (fun x=>C.names.lookup x) C.N scope (b6 C Z own) (Z.map some++List.replicate own.length none)&&bV (fun x=>C.N[i]? == some x&&C.vis x&&iG x) iter&&dS iter&&ckP (C.in scope (b6 C Z own)) p B&&(ck S c (C.in scope (b6 C Z own))).ts ifs&&(ck S e (C.in scope (b6 C Z own))).e elt&&decide (b6 C Z own).Nodup)=true:=h;simp only [U1] at h;exact h.1.1.1.1.1.2
  obtain⟨N',hN,a0,hi,hs,hb⟩:=uK (F:=F) (it:=.var i) A (Di S i) jO pG h;obtain⟨x,q,rfl,hv⟩:=gO hv;exact(zx A.calm a0 (yW (tT (F:=F) (A.var hv))) hb (rh hs)).imp fun L H Q=>LE.compV hN
 |tt=>(intro C X F A;refine⟨(fun e z=>by cases z),(fun e z=>by cases z),(fun es z=>by cases z),(fun B e z=>by cases z),fun es h=>?_,(fun e z=>by cases z),(fun _ _ _ _ _ z=>by cases z)⟩;rw[ub h];exact fun J s L H Q I z1=>by obtain⟨G,ta,M,K0,R,k,q⟩:=z1;exact Sf J s L H Q I (q _ _ G H k R (Same.refl _)))|neg a d=>(intro C X F A;refine dU fun e h=>?_;obtain⟨r,p,rfl,h⟩:=Nb h;exact jz (CU D9 ((d C X F A).e r h)) Nk)|isi T a d=>(intro C X F A;refine dU fun e h=>?_;obtain⟨g,es,p,rfl,h⟩:=jC h;replace h:(bV (fun x=>x==("isinstance":Str)&&C.gl x && S.bl.contains x) g&&qp (fun r y=>(ck S a C).e r&&noStar r&&bV (fun z=>z==Str.ofString T&&C.gl z && S.bl.contains z) y && S.kt.contains T&&nO T) es)=true:=h;rw[U1] at h;obtain⟨x,q,rfl,h1⟩:=gO h.1;obtain⟨r,y,rfl,n⟩:=Ek h.2;replace h1:(x==("isinstance":Str)&&C.gl x && S.bl.contains x)=true:=h1;replace n:((ck S a C).e r&&noStar r&&bV (fun z=>z==Str.ofString T&&C.gl z && S.bl.contains z) y && S.kt.contains T&&nO T)=true:=n;simp only [U1,Vt] at h1 n;obtain⟨⟨⟨⟨D,O⟩,W⟩,h6⟩,h7⟩:=n;obtain⟨z,q',rfl,h8⟩:=gO W;replace h8:(z==Str.ofString T&&C.gl z && S.bl.contains z)=true:=h8;simp only [U1,Vt] at h8;obtain⟨⟨rfl,h9⟩,h10⟩:=h8;obtain⟨⟨rfl,BD⟩,h12⟩:=h1;exact MU (A.kt T (V4.mp h6)) (A.bl _ (V4.mp h12)) (A.gl' BD) (A.bl _ (V4.mp h10)) (A.gl' h9) h7 O ((d C X F A).e r D))|slc a lo hi d ihl ihh=>(intro C X F A;refine dU fun e h=>?_;obtain⟨x,lo,hi,p,p2,rfl,h1,n,D⟩:=Na h;exact(OE T5 ((d C X F A).e x h1) ((ihl C X F A).o lo n) ((ihh C X F A).o hi D)).imp fun L H Q=>LE.slc)|rng a d=>(intro C X F A;refine⟨(fun e z=>by cases z),(fun e z=>by cases z),(fun es z=>by cases z),fun B e h=>?_,(fun es z=>by cases z),(fun e z=>by cases z),(fun _ _ _ _ _ z=>by cases z)⟩;obtain⟨g,es,p,rfl,h⟩:=jC h;replace h:(bV (fun x=>x==("range":Str)&&C.gl x && S.bl.contains x) g&&eo (fun r=>(ck S a C).e r&&noStar r) es)=true:=h;rw[U1] at h;obtain⟨x,q,rfl,h1⟩:=gO h.1;obtain⟨r,rfl,n⟩:=kh h.2;replace h1:(x==("range":Str)&&C.gl x && S.bl.contains x)=true:=h1;replace n:((ck S a C).e r&&noStar r)=true:=n;simp only [U1,Vt] at h1 n;obtain⟨⟨rfl,D⟩,O⟩:=h1;exact(Qm (A.gl' D) (A.bl _ (V4.mp O)) (fj ((d C X F A).e r n.1) pa_nil (cx n.2)) (cx n.2)).imp fun L H R=>LI.rng)
 |enu a d=>
  intro C X F A;refine⟨(fun e z=>by cases z),(fun e z=>by cases z),(fun es z=>by cases z),fun B e h=>?_,(fun es z=>by cases z),(fun e z=>by cases z),(fun _ _ _ _ _ z=>by cases z)⟩;obtain⟨g,es,p,rfl,h⟩:=jC h;replace h:(bV (fun x=>x==("enumerate":Str)&&C.gl x && S.bl.contains x) g&&eo (fun r=>(ck S a C).e r&&noStar r) es && !tR B)=true:=h;rw[U1,U1] at h;obtain⟨⟨ha,hb⟩,hT⟩:=h;obtain⟨a6,kn,qq,rfl⟩:∃a6 kn qq,B=.Tuple a6 kn qq:=by cases B with|Tuple a6 kn qq=>exact⟨_,_,_,rfl⟩|_=>cases hT
  obtain⟨x,q,rfl,h1⟩:=gO ha;obtain⟨r,rfl,n⟩:=kh hb;replace h1:(x==("enumerate":Str)&&C.gl x && S.bl.contains x)=true:=h1;replace n:((ck S a C).e r&&noStar r)=true:=n;simp only [U1,Vt] at h1 n;obtain⟨⟨rfl,D⟩,O⟩:=h1;exact(NH (A.gl' D) (A.bl _ (V4.mp O)) (fj ((d C X F A).e r n.1) pa_nil (cx n.2)) (cx n.2)).imp fun L H R=>LI.enu
 |idx a r d E=>
  intro C X F A;refine dU fun e h=>?_;obtain⟨g,es,cp,rfl,h⟩:=jC h;replace h:(qD (fun l x ap=>x==("index":Str)&&(ck S a C).e l&&oj l&&ap.endLine==cp.line) g&&(ck S r C).l es&&eo (fun _=>true) es)=true:=h;simp only [U1] at h;obtain⟨⟨h1,n⟩,D⟩:=h;obtain⟨l,x,ap,rfl,h1⟩:=E3 h1;obtain⟨e,rfl,_⟩:=kh D;replace h1:(x==("index":Str)&&(ck S a C).e l&&oj l&&ap.endLine==cp.line)=true:=h1;simp only [U1,Vt] at h1;obtain⟨⟨⟨rfl,O⟩,W⟩,h6⟩:=h1;have hs:noStar e=true:=qV n e Vc;have bs:attributeBase l "index" X.env (eval l X.env)=eval l X.env:=by cases l <;> first|rfl|cases W
  exact(y8 PySem.F.plainAttrs_list PySem.F.slot_list_index PySem.F.type_list_index PR ((d C X F A).e l O) ((E C X F A).l _ n).1 bs (by rw[cx hs];rfl) (Vt.mpr h6) (cx hs) rfl).imp fun L H Q=>LE.idx
 |srt a d=>(intro C X F A;refine dU fun e h=>?_;obtain⟨g,es,p,rfl,h⟩:=jC h;replace h:(bV (fun x=>x==("sorted":Str)&&C.gl x && S.bl.contains x) g&&eo (iE fun g' bg _=>bV (fun x=>x==("set":Str)&&C.gl x && S.bl.contains x) g'&&eo (fun r=>(ck S a C).e r&&noStar r) bg) es)=true:=h;rw[U1] at h;obtain⟨x,q,rfl,h1⟩:=gO h.1;obtain⟨y,rfl,n⟩:=kh h.2;obtain⟨g',bg,p',rfl,D⟩:=jC n;replace D:(bV (fun x=>x==("set":Str)&&C.gl x && S.bl.contains x) g'&&eo (fun r=>(ck S a C).e r&&noStar r) bg)=true:=D;rw[U1] at D;obtain⟨x',q',rfl,O⟩:=gO D.1;obtain⟨r,rfl,W⟩:=kh D.2;replace h1:(x==("sorted":Str)&&C.gl x && S.bl.contains x)=true:=h1;replace O:(x'==("set":Str)&&C.gl x' && S.bl.contains x')=true:=O;replace W:((ck S a C).e r&&noStar r)=true:=W;simp only [U1,Vt] at h1 O W;obtain⟨⟨rfl,a1⟩,a2⟩:=h1;obtain⟨⟨rfl,a3⟩,a4⟩:=O;exact Px A.calm (A.gl' a1) (A.bl _ (V4.mp a2)) (A.gl' a3) (A.bl _ (V4.mp a4)) (cx W.2) ((d C X F A).e r W.1))
 |zpl r E=>
  intro C X F A;refine⟨(fun e z=>by cases z),(fun e z=>by cases z),(fun es z=>by cases z),fun B e h=>?_,(fun es z=>by cases z),(fun e z=>by cases z),(fun _ _ _ _ _ z=>by cases z)⟩;obtain⟨g,es,p,rfl,h⟩:=jC h;replace h:(bV (fun x=>x==("zip":Str)&&C.gl x && S.bl.contains x) g&&(ck S r C).l es&&qp (fun _ _=>true) es && !tR B)=true:=h;simp only [U1] at h;obtain⟨⟨⟨ha,hb⟩,hc⟩,hT⟩:=h;obtain⟨a6,kn,qq,rfl⟩:∃a6 kn qq,B=.Tuple a6 kn qq:=by cases B with|Tuple a6 kn qq=>exact⟨_,_,_,rfl⟩|_=>cases hT
  obtain⟨x,q,rfl,h1⟩:=gO ha;obtain⟨y,z,rfl,_⟩:=Ek hc;replace h1:(x==("zip":Str)&&C.gl x && S.bl.contains x)=true:=h1;simp only [U1,Vt] at h1;obtain⟨⟨rfl,D⟩,O⟩:=h1;have s1:noStar y=true:=qV hb y Vc;have s2:noStar z=true:=qV hb z (Vb _ Vc);exact(Py (A.gl' D) (A.bl _ (V4.mp O)) ((E C X F A).l _ hb).1 (cx s1) (by rw[cx s2];rfl)).imp fun L H R=>LI.zpl
end
inductive IS where
 |skip
 |seq (a b:IS)|cut (a b:IS)
 |ret (e:IE)|exp (e:IE)|set (i:Nat) (e:IE)|asg (p:Pt) (e:IE)
 |ife (c:IE) (a b:IS)|for (p:Pt) (it:IE) (b:IS)|whl (c:IE) (b:IS)
 |dput (v d k:IE)|lput (v o i:IE)
 |no|trp (b:IS)
def HV (a b:bM):bM:=fun P M=>∃c:Ms->Prop,a { P with nx:=c } M/\∀I,c I->b P I
def aM (w:bM):bM:=fun P M=>sZ M (w P)
theorem lj (w:bM):aM w=w:=by funext P M;exact zh
def aF (S : Gm):IS->bM
 | .skip=>Cb
 | .seq a b=>Ir (aF S a) (aM (aF S b))
 | .cut a b=>HV (aF S a) (aM (aF S b))
 | .ret e=>Iq (au S e).e
 | .exp e=>Ip (au S e).e
 | .set i e=>AH i (au S e).e
 | .asg p e=>Ik (bd p) (au S e).e
 | .ife c a b=>AV (au S c).t (aM (aF S a)) (aM (aF S b))
 | .for p it b=>Il (au S it).i (bd p) (aM (aF S b))
 | .whl c b=>Io (au S c).t (aM (aF S b))
 | .dput v d k=>B8 (au S v).e (au S d).e (au S k).e
 | .lput v o i=>B4 (au S v).e (au S o).e (au S i).e
 | .no=>vQ
 | .trp b=>aF S b
noncomputable def yq:Expr->Bool
 | .Tuple _ _ _=>false
 |_=>true
structure Sk where
 s:Stmt->Bool
 b:List Stmt->Bool
noncomputable def jh (s:Stmt->Bool):Sk:=⟨s,fun a=>match a with | [st]=>s st|_=>false⟩
noncomputable def yo:Stmt->Bool
 | .Pass _=>true
 |_=>false
def Uh:List Stmt->Bool
 |[]=>true
 |[st]=>yo st
 |_=>false
noncomputable def HU (a:Stmt->Bool)(b:List Stmt->Bool):List Stmt->Bool
 |st::r=>a st&&b r
 |_=>false
noncomputable def HS (c:Expr->Bool):Stmt->Bool
 | .Return (some x) _=>c x
 |_=>false
def HR (c:Expr->Bool):Stmt->Bool
 | .Expr x _=>c x&&jm x
 |_=>false
noncomputable def qv (c:Expr->Expr->Bool):Stmt->Bool
 | .Assign [B] v _=>c B v
 |_=>false
noncomputable def Be (c:Expr->Bool)(a b:List Stmt->Bool):Stmt->Bool
 | .If t x y _=>c t&&a x&&b y
 |_=>false
def HQ (p:Expr->Bool)(i:Expr->Expr->Bool)(b:List Stmt->Bool):Stmt->Bool
 | .For B x y [] _=>p B&&i B x&&dS x&&b y
 |_=>false
noncomputable def HP (c:Expr->Bool)(b:List Stmt->Bool):Stmt->Bool
 | .While t x [] _=>c t&&b x
 |_=>false
noncomputable def HN (c:List Stmt->Bool):Stmt->Bool
 | .Try b (_::_) [] [] _=>c b
 |_=>false
theorem MT {c:List Stmt->Bool}(h:HN c st=true):∃b h0 a p,st=.Try b (h0::a) [] [] p/\c b=true:=by cases st with|Try b a d fi p=>(cases a with|nil=>exact(U3 h).elim|cons h0 a=>cases d with|cons _ _=>exact(U3 h).elim|nil=>cases fi with|cons _ _=>exact(U3 h).elim|nil=>exact⟨_,_,_,_,rfl,h⟩)|_=>exact(U3 h).elim
noncomputable def fE (S : Gm):IS->Cs->Sk
 | .skip,_=>⟨yo,Uh⟩
 | .seq a b,C=>⟨fun _=>false,HU (fE S a C).s (fE S b C).b⟩
 | .cut a b,C=>⟨fun _=>false,HU (fE S a C).s (fE S b C).b⟩
 | .ret e,C=>jh (HS (ck S e C).e)
 | .exp e,C=>jh (HR (ck S e C).e)
 | .set i e,C=>jh (qv fun B v=>bV (fun x=>C.N[i]? == some x&&C.loc x) B&&(ck S e C).e v)
 | .asg p e,C=>jh (qv fun B v=>ckP C p B&&(ck S e C).e v&&jm v&&yq v&&noStar B)
 | .ife c a b,C=>jh (Be (ck S c C).t (fE S a C).b (fE S b C).b)
 | .for p it b,C=>jh (HQ (ckP C p) (ck S it C).i (fE S b C).b)
 | .whl c b,C=>jh (HP (ck S c C).t (fE S b C).b)
 | .dput v d k,C=>jh (qv fun B x=>kY (fun o i=>(ck S d C).e o&&(ck S k C).e i) B&&(ck S v C).e x&&jm x)
 | .lput v o i,C=>jh (qv fun B x=>kY (fun a b=>(ck S o C).e a&&(ck S i C).e b&&lB b) B&&(ck S v C).e x&&jm x)
 | .no,_=>⟨fun _=>true,fun _=>true⟩
 | .trp b,C=>jh (HN (fE S b C).b)
theorem DX (h:yo st=true):∃p,st=.Pass p:=by cases st <;> first|exact⟨_,rfl⟩|cases h
theorem MS (h:HS c st=true):∃x p,st=.Return (some x) p/\c x=true:=by cases st with|Return o p=>(cases o with|none=>exact(U3 h).elim|some x=>exact⟨_,_,rfl,h⟩)|_=>exact(U3 h).elim
theorem MR (h:HR c st=true):∃x p,st=.Expr x p/\c x=true/\jm x=true:=by cases st with|Expr x p=>have h:(_&&_)=true:=h;simp only [U1] at h;exact⟨_,_,rfl,h⟩|_=>exact(U3 h).elim
theorem uo {c:Expr->Expr->Bool}(h:qv c st=true):∃B v p,st=.Assign [B] v p/\c B v=true:=by cases st with|Assign l v p=>(rcases l with _|⟨t,_|_⟩ <;> first|exact⟨_,_,_,rfl,h⟩|exact(U3 h).elim)|_=>exact(U3 h).elim
theorem LY {a b:List Stmt->Bool}(h:Be c a b st=true):∃t x y p,st=.If t x y p/\c t=true/\a x=true/\b y=true:=by cases st with|If t x y p=>have h:(_&&_&&_)=true:=h;simp only [U1] at h;exact⟨_,_,_,_,rfl,h.1.1,h.1.2,h.2⟩|_=>exact(U3 h).elim
theorem MQ {p:Expr->Bool}{i:Expr->Expr->Bool}{b:List Stmt->Bool}(h:HQ p i b st=true):∃B x y q,st=.For B x y [] q/\p B=true/\i B x=true/\dS x=true/\b y=true:=by cases st with|For t x y z q=>(cases z with|nil=>have h:(_&&_&&_&&_)=true:=h;simp only [U1] at h;exact⟨_,_,_,_,rfl,h.1.1.1,h.1.1.2,h.1.2,h.2⟩|cons _ _=>exact(U3 h).elim)|_=>exact(U3 h).elim
theorem MP {b:List Stmt->Bool}(h:HP c b st=true):∃t x q,st=.While t x [] q/\c t=true/\b x=true:=by cases st with|While t x z q=>(cases z with|nil=>have h:(_&&_)=true:=h;simp only [U1] at h;exact⟨_,_,_,rfl,h.1,h.2⟩|cons _ _=>exact(U3 h).elim)|_=>exact(U3 h).elim
section
variable {C:Cs}
theorem Oi (h:yq e=true):swappedStores [B] e env=pure none:=by cases e <;> first | (cases B <;> rfl)|cases h
theorem PC {a b:Expr}:swappedStores [.Subscript a b p] e env=pure none:=by cases e <;> rfl
theorem CF (h:noStar B=true):(assignEach [B] env).map (·.2)=[assign B env]:=by cases B <;> first|rfl|cases h
structure rq (S : Gm)(X:Cx)(F:Fr)(w:bM)(c:Sk):Prop where
 s:∀st,c.s st=true->PS X st (LS X.K F w)
 b:∀gU,c.b gU=true->PSs X gU (LS X.K F w)
theorem jB {w:bM}{c:Stmt->Bool}(h:∀st,c st=true->PS X st (LS X.K F w)):rq S X F w (jh c) where
 s:=h
 b:=fun gU hs=>by match gU,hs with|[st],hs=>exact fV (h st hs)
theorem zF {B:Option Expr}{n:Nat}(h:jm e=true):swapsWith e B n env=pure false:=by cases e <;> first|rfl|cases h
theorem Fu {n:Nat}(h:jm e=true):swapsWithSole [B] e n env=pure false:=by cases e <;> first|rfl|cases h
theorem PE.swp {a:Pos}{v:Expr}{e:IE}(A:At S C X)(O:C.N[i]?=some x)(P:C.loc x=true)(l:(ck S e C).e v=true):PS X (.Assign [.Name x p] v a) (LS X.K F (AH i (au S e).e)):=by
 obtain⟨l1,m⟩:=Cs.loc_is A P;have n:X.N.Nodup:=by rw[A.N];exact A.nd
 have o:X.N[i]?=some x:=by rw[A.N];exact O
 have s:=(eh S e C X F A).e v l;by_cases I:jm v=true;exact(lD n o l1 s (zF I) m).imp fun D L H=>LS.set;cases v with
 |ListComp elt gens scope pos=>
  have d:∃b,swapsWith (.ListComp elt gens scope pos) (some (.Name x p)) a.line X.env=pure b:=⟨_,rfl⟩;obtain⟨b,d⟩:=d;cases b with
  |false=>(exact(lD n o l1 s d m).imp fun D L H=>LS.set)
  |true=>
   cases e with
   |comp Z own J it c e=>(obtain⟨r,B,iter,ifs,f,T,t,h⟩:=uq l;cases t;obtain⟨N',g,Q,h1,u,hb⟩:=uK (F:=F) A (eh S it) (eh S c) (eh S e) h;exact(Fy A.calm n o l1 Q h1 hb d (rh u) m).imp fun D L H k=>by obtain⟨G,w,M,z,R,k,q⟩:=LS.set k;exact LE.comp g ⟨G,w,M,z,R,k,q⟩)
   |cmpv Z own J j c e=>
    obtain⟨r,B,iter,ifs,f,T,t,h⟩:=uq l;cases t;have E:bV (fun x=>C.N[j]? == some x&&C.vis x&&iG x) iter=true:=by replace h:(lG (fun x=>C.names.lookup x) C.N scope (b6 C Z own) (Z.map some++List.replicate own.length none)&&bV (fun x=>C.N[j]? == some x&&C.vis x&&iG x) iter&&dS iter&&ckP (C.in scope (b6 C Z own)) J B&&(ck S c (C.in scope (b6 C Z own))).ts ifs&&(ck S e (C.in scope (b6 C Z own))).e elt&&decide (b6 C Z own).Nodup)=true:=h;simp only [U1] at h;exact h.1.1.1.1.1.2
    obtain⟨N',g,Q,h1,u,hb⟩:=uK (F:=F) (it:=.var j) A (Di S j) (eh S c) (eh S e) h;obtain⟨y,q,rfl,E⟩:=gO E;exact(Fy A.calm n o l1 Q (yW (tT (F:=F) (A.var E))) hb d (rh u) m).imp fun D L H k=>by obtain⟨G,w,M,z,R,k,q⟩:=LS.set k;exact LE.compV g ⟨G,w,M,z,R,k,q⟩
   |_=>cases l
 |SetComp _ _ _ _=>(cases e <;> cases l)|DictComp U V gens scope pos=>(have d:∃b,swapsWith (.DictComp U V gens scope pos) (some (.Name x p)) a.line X.env=pure b:=⟨_,rfl⟩;obtain⟨b,d⟩:=d;cases b with|false=>(exact(lD n o l1 s d m).imp fun D L H=>LS.set)|true=>cases e with|_=>cases l)|_=>exact absurd rfl I
theorem LS.cut {a b:bM}{D:a7}:LS X.K F (HV a b) D L H->yh (LS X.K F a) (LS X.K F b) D L H:=fun⟨G,M,P,R,⟨h,k,k2⟩,ok⟩=>
 ⟨G,M,_,R,k,fun c d e i p f g=>⟨d,c,P,f,k2 c p,ok.up g⟩,ok.rt,ok.bk,ok.ct⟩
theorem T3 (S : Gm)(C:Cs)(X:Cx)(F:Fr)(A:At S C X)(I:∀e s,X.xe e s->False):∀n:IS,rq S X F (aF S n) (fE S n C):=by have J:PassesOwn (model X.prog X.w) X.A X.env X.xe:=fun e s h=>(I e s h).elim;have u:∀D L H,LS X.K F Cb D L H->iN D L H:=fun D L H Z=>(by obtain⟨G,M,P,R,k,ok⟩:=Z;exact ok.nx M G L H k R (Same.refl _));intro n;induction n with|skip=>(refine⟨fun st h=>?_,fun l h=>?_⟩;obtain⟨p,rfl⟩:=DX h;exact ps_pass.imp u;match l,h with|[],_=>exact pss_nil.imp u|[st],h=>obtain⟨p,rfl⟩:=DX h;exact fV (ps_pass.imp u))|seq a b g f=>(refine⟨(fun st h=>by cases h),fun l h=>?_⟩;match l,h with|st::r,h=>have h':((fE S a C).s st&&(fE S b C).b r)=true:=h;simp only [U1] at h';exact(fG (g.s st h'.1) (f.b r h'.2)).imp fun D L H z=>LS.seq (by rw[<- lj (aF S b)];exact z))|cut a b g f=>(refine⟨(fun st h=>by cases h),fun l h=>?_⟩;match l,h with|st::r,h=>have h':((fE S a C).s st&&(fE S b C).b r)=true:=h;simp only [U1] at h';exact(fG (g.s st h'.1) (f.b r h'.2)).imp fun D L H z=>LS.cut (by rw[<- lj (aF S b)];exact z))|ret e=>(exact jB fun st h=>by obtain⟨x,p,rfl,h⟩:=MS h;exact(mG ((eh S e C X F A).e x h)).imp fun D L H=>LS.ret)|exp e=>(exact jB fun st h=>by obtain⟨x,p,rfl,h,j⟩:=MR h;exact(uk ((eh S e C X F A).e x h) (zF j)).imp fun D L H=>LS.exp)|set i e=>(exact jB fun st h=>by obtain⟨B,v,p,rfl,h⟩:=uo h;replace h:(bV (fun x=>C.N[i]? == some x&&C.loc x) B&&(ck S e C).e v)=true:=h;simp only [U1] at h;obtain⟨x,q,rfl,h1⟩:=gO h.1;replace h1:(C.N[i]? == some x&&C.loc x)=true:=h1;simp only [U1,Vt] at h1;exact PE.swp A h1.1 h1.2 h.2)|asg p e=>(exact jB fun st h=>by obtain⟨B,v,q,rfl,h⟩:=uo h;replace h:(ckP C p B&&(ck S e C).e v&&jm v&&yq v&&noStar B)=true:=h;simp only [U1] at h;obtain⟨⟨⟨⟨h1,j⟩,m⟩,E⟩,O⟩:=h;exact(yD ((eh S e C X F A).e v j) ((yH A p).1 B h1) (Fu m) (Oi E) (CF O)).imp fun D L H=>LS.asgP)|ife c a b g f=>(exact jB fun st h=>by obtain⟨t,x,y,q,rfl,h1,j,m⟩:=LY h;exact(nW ((eh S c C X F A).t t h1) (g.b x j) (f.b y m)).imp fun D L H z=>LS.ite (by rw[<- lj (aF S a),<- lj (aF S b)];exact z))| «for» p it b f =>(exact jB fun st h=>by obtain⟨B,x,y,q,rfl,h1,j,m,E⟩:=MQ h;exact(Ea J A.calm ((eh S it C X F A).i B x j) ((yH A p).1 B h1) (f.b y E) (rh m)).imp fun D L H z=>LS.for (by rw[<- lj (aF S b)];exact z))|whl c b f=>(exact jB fun st h=>by obtain⟨t,x,q,rfl,h1,j⟩:=MP h;exact(OI J ((eh S c C X F A).t t h1) (f.b x j)).imp fun D L H z=>LS.whl (by rw[<- lj (aF S b)];exact z))|no=>exact⟨fun st _=>Ui,fun l _=>pss_no⟩|trp b f=>(exact jB fun st h=>by obtain⟨Q,h0,T,p,rfl,h⟩:=MT h;exact QJ I (f.b Q h))|dput v d k=>(exact jB fun st h=>by obtain⟨B,x,q,rfl,h⟩:=uo h;replace h:(kY (fun o i=>(ck S d C).e o&&(ck S k C).e i) B&&(ck S v C).e x&&jm x)=true:=h;simp only [U1] at h;obtain⟨o,i,p,rfl,h1⟩:=qM h.1.1;replace h1:((ck S d C).e o&&(ck S k C).e i)=true:=h1;simp only [U1] at h1;exact(NO (by have:=A.un;lia) ((eh S d C X F A).e o h1.1) ((eh S k C X F A).e i h1.2) ((eh S v C X F A).e x h.1.2) (zF h.2)).imp fun D L H=>LS.dput)|lput v o i=>exact jB fun st h=>by obtain⟨B,x,q,rfl,h⟩:=uo h;replace h:(kY (fun a b=>(ck S o C).e a&&(ck S i C).e b&&lB b) B&&(ck S v C).e x&&jm x)=true:=h;simp only [U1] at h;obtain⟨a,b,p,rfl,h1⟩:=qM h.1.1;replace h1:((ck S o C).e a&&(ck S i C).e b&&lB b)=true:=h1;simp only [U1] at h1;exact(yD ((eh S v C X F A).e x h.1.2) (Mx ((eh S o C X F A).e a h1.1.1) ((eh S i C X F A).e b h1.1.2) OC (fun v=>by have:=h1.2;cases b <;> first|rfl|cases this)) (Fu h.2) PC (CF rfl)).imp fun D L H=>LS.lput
end
section
def Fk (P:Program)(w:World)(K:W.Frag)(mg:Str->Option Value)(base:Heap)(k:Nat)(p:Str×aP):Prop:=∃j f U ps,FnOk P w K mg base bX j f U ps (f6 K p.2)/\j<=k/\mg p.1=some (.ref f)/\PySem.W.keepIn K (.ref f)=true/\Binds K U ps []
theorem Fun.okI {f:Addr}{N:List Str}{k:Nat}(S : Gm)(c:IS)(F:Fun K x y st f U)(Q:aB N ps (aR st))(len:∀args k,Y args k->args.length=ps.length)
  (i:(fE S c ⟨N,(aR st).names,true⟩).b (di st)=true) (bl:∀x ∈ S.bl,mg x=none) (kt:∀T ∈ S.kt,∀n ∈ ["NoneType","bool","int","str","tuple","list","dict"],PySem.W.kitOne K (.type n) (.type T)=some (jv n T)) (gl:∀p ∈ S.gl,∃v u,mg p.1=some u/\RelV v u/\∀G,IsT K G v p.2) (fns:∀p ∈ S.fns,Fk P w K mg base k p) (fv:∀p ∈ S.fv,∃j,j<=k/\∀a,p.1 a->∃U ps,FnOk P w K mg base bX j a U ps (f6 K (p.2 a))/\PySem.W.keepIn K (.ref a)=true/\Binds K U ps [])
  (h:∀args k,Y args k->aM (aF S c) (a9 args k) (entry N.length args)):FnOk P w K mg base bX (k+1) f U ps (f6 K Y):=
 F.okW Q len (fun m A outer s H E Fr d=>(T3 S ⟨N,(aR st).names,true⟩ _ Fr ⟨rfl,Q.nd,rfl,Q.kind,fun _ _=>rfl,rfl,bl,d.units,d.gd,kt,gl,fun p e=>by
  obtain⟨j,f,U,ps,h1,g,l⟩:=fns p e
  exact⟨j,f,U,ps,h1,d.mono g,l⟩,fun p e=>by
  obtain⟨j,h1,g⟩:=fv p e
  exact⟨j,d.mono h1,g⟩⟩ (fun _ _ h=>h) c).b _ i) (fun args k q=>by rw[<- lj (aF S c)];exact h args k q)
end
end
section
variable {t:Tv}
theorem bx {o:Option Tv}{f:Rs->Prop}(h:o=some t)(k:f (.v t)):bz (ofO o) f:=by rw[h];exact k
theorem ib {i j:Int}(h : -(2 ^ 64)<i)(h':i<2 ^ 64):CMul i j:=.inl ⟨h,h'⟩
theorem qH {i j:Int}(h : -(2 ^ 64)<j)(h':j<2 ^ 64):CMul i j:=.inr ⟨h,h'⟩
end
section
variable {q:Type}
theorem iH {l:List q}{i:Int}(h0:0<=i)(h1:i<l.length):∃t,cJ l i=some t/\t∈l:=by
 obtain⟨j,rfl⟩:=Wh h0;have a:j<l.length:=by lia
 exact⟨l[j],U4 a,WA a⟩
end
section
variable {P:Program}{w:World}{K:W.Frag}{mg:Str->Option Value}{base:Heap}{ps:List Str}{j:aP}
theorem Oh {k:Nat}{f:Addr}{d:FuncData}(h:∀args k,¬j args k):FnOk P w K mg base bX k f d ps (f6 K j):=⟨fun c H Q E z=>by obtain⟨G,args,g,e,_,_,_,b,_⟩:=z;exact (h _ _ b).elim,fun A outer s H args i c Q E l m hb r y=>by obtain⟨_,a,_,e,_,_,_,b,_⟩:=y;exact (h _ _ b).elim⟩
end
section
noncomputable def yc:List Str:=["range","list","repr","isinstance","bool","len","tuple","int","sum","dict","zip","reversed","all","any","enumerate","str","set","sorted"]
noncomputable def wK:List String:=["tuple","bool","int","str"]
abbrev gm (f:List (Str×aP))(g:List (Str×Tv)):Gm:=⟨yc,f,wK,g,[]⟩
abbrev nN (K:W.Frag)(T:String):Prop:=∀n ∈ ["NoneType","bool","int","str","tuple","list","dict"],PySem.W.kitOne K (.type n) (.type T)=some (jv n T)
structure Tx (K:W.Frag)(mg:Str->Option Value):Prop where
 bl:∀x∈yc,mg x=none
 kt:∀T∈wK,nN K T
structure Fn (K:W.Frag)(mg:Str->Option Value)(x:Str)(st:Stmt)(ps:List Str)(f:Addr)(d:FuncData):Prop where
 F:Fun K x x st f d
 b:Binds K d ps []
 m:mg x=some (.ref f)
def AS (K:W.Frag)(mg:Str->Option Value)(x:Str)(st:Stmt)(ps:List Str):Prop:=∃f d,Fn K mg x st ps f d
def T2 (st:Stmt):List Str:=((aR st).names.filter fun y=>y.2 == .local||y.2 == .cell).map (·.1)
def jy (st:Stmt):List Str:=(fg st).args.map (·.arg)
noncomputable def v8 (N P:List Str)(a:Scope):Bool:=decide (a.kind=.function) && !a.isCoroutine && !a.isGenerator&&decide N.Nodup&&decide (N.take P.length=P)&&P.all (fun x=>decide (a.names.lookup x=some .local∨a.names.lookup x=some .cell))&&a.names.all (fun y=>decide (y.2 ≠ .free))
variable {x:Str}{P:Program}{w:World}{K:W.Frag}{st:Stmt}{j:Nat}{mg:Str->Option Value}{base:Heap}{ps:List Str}{r:aP}
theorem LX {N P:List Str}{i:Scope}(h:v8 N P i=true):aB N P i:=by simp only [v8,U1,Wg,Wi,V7] at h;obtain⟨⟨⟨⟨⟨⟨a,b⟩,c⟩,d⟩,e⟩,f⟩,g⟩:=h;exact⟨a,b,c,d,e,f,g⟩
def rW (a : Gm)(c:IS)(N:List Str)(n m:Nat)(st:Stmt):Bool:=v8 N (jy st) (aR st)&&(fE a c ⟨N,(aR st).names,true⟩).b (di st)&&N.length==n&&(jy st).length==m
abbrev bH (a : Gm)(b:IS)(n m:Nat)(st:Stmt):Prop:=rW a b (T2 st) n m st=true
def UX:aP:=fun _ _=>True
section
def AllF (P:Program)(w:World)(K:W.Frag)(mg:Str->Option Value)(base:Heap)(k:Nat):List (Str×aP)->Prop
 |[]=>True
 |p::r=>Fk P w K mg base k p/\AllF P w K mg base k r
theorem AllF.mem {k:Nat}{l:List (Str×aP)}(h:AllF P w K mg base k l):∀p∈l,Fk P w K mg base k p:=by induction l with|nil=>(intro p b;cases b)|cons a r c=>intro p b;cases b with|head=>exact h.1|tail _ b=>exact c h.2 p b
def AllG (K:W.Frag)(mg:Str->Option Value):List (Str×Tv)->Prop
 |[]=>True
 |p::r=>(∃v u,mg p.1=some u/\RelV v u/\∀G,IsT K G v p.2)/\AllG K mg r
theorem AllG.mem {l:List (Str×Tv)}(h:AllG K mg l):∀p∈l,∃v u,mg p.1=some u/\RelV v u/\∀G,IsT K G v p.2:=by induction l with|nil=>(intro p b;cases b)|cons a r c=>intro p b;cases b with|head=>exact h.1|tail _ b=>exact c h.2 p b
theorem Fk.up {k:Nat}{p:Str×aP}(h:Fk P w K mg base j p)(e:j<=k:=by decide):Fk P w K mg base k p:=by obtain⟨i,f,d,ps,a,b,c⟩:=h;exact⟨i,f,d,ps,a,VL b e,c⟩
def Fs (P:Program)(w:World)(K:W.Frag)(mg:Str->Option Value)(base:Heap)(k:Nat)(x:Str)(st:Stmt)(r:aP):Prop:=∃f d,Fn K mg x st (jy st) f d/\FnOk P w K mg base bX k f d (jy st) (f6 K r)
theorem Fs.up {k:Nat}(h:Fs P w K mg base j x st r)(e:j<=k:=by decide):Fk P w K mg base k (x,r):=by obtain⟨f,d,F,h⟩:=h;exact⟨j,f,d,_,h,e,F.m,F.F.kp,F.b⟩
theorem Fs.lift {k:Nat}(h:Fs P w K mg base j x st r)(e:j<=k):Fs P w K mg base k x st r:=by obtain⟨f,d,F,h⟩:=h;exact⟨f,d,F,h.mono e⟩
theorem bE {N:List Str}{n m k:Nat}{f:List (Str×aP)}{g:List (Str×Tv)}{b:IS}(T:Tx K mg)(h:AS K mg x st (jy st))(c:rW (gm f g) b N n m st=true)(e:∀a q,r a q->aM (aF (gm f g) b) (a9 a q) (entry n a))(fns:AllF P w K mg base k f)(gl:AllG K mg g:=by exact trivial)(len:∀a q,r a q->a.length=m:=by intro _ _ h;cases h;subst_vars;rfl):Fs P w K mg base (k+1) x st r:=by obtain⟨a,d,F⟩:=h;simp only [rW,U1,Vt] at c;obtain⟨⟨⟨i,j⟩,rfl⟩,rfl⟩:=c;exact⟨a,d,F,Fun.okI (gm f g) b F.F (LX i) len j T.bl T.kt gl.mem fns.mem (fun p l=>by cases l) e⟩
theorem lT {k:Nat}(h:AS K mg x st (jy st))(b:∀a q,¬r a q):Fs P w K mg base k x st r:=by obtain⟨a,d,F⟩:=h;exact⟨a,d,F,Oh b⟩
theorem Fn.same {c:List Str}{f a:Addr}{d d':FuncData}(F:Fn K mg x st ps f d)(b:Fn K mg x st c a d'):a=f/\d'=d:=by have e:=F.m.symm.trans b.m;cases e;obtain⟨_,_,_,_,_,_,_,_,_,_,l,_⟩:=F.F.ex;obtain⟨_,_,_,_,_,_,_,_,_,_,g,_⟩:=b.F.ex;have e:=l.symm.trans g;cases e;exact⟨rfl,rfl⟩
theorem Fs.any {k:Nat}{ι:Type}{sp:ι -> aP}(i : ι)(h:∀i,Fs P w K mg base j x st (sp i))(e:∀a q,r a q->∃i,sp i a q)(u:j<=k:=by decide):Fk P w K mg base k (x,r):=by
 obtain⟨f,d,F,_⟩:=h i;have g:∀i,FnOk P w K mg base bX j f d (jy st) (f6 K (sp i)):=fun i=>by obtain⟨I,d',v,h'⟩:=h i;obtain⟨rfl,rfl⟩:=F.same v;exact h'
 refine⟨j,f,d,_,⟨fun l H Q E ⟨G,args,n,o,a,b,c,p,z⟩=>?_,fun A outer s H args y l Q E B he hb C ⟨G,D,n,o,a,b,c,p,z⟩=>?_⟩,u,F.m,F.F.kp,F.b⟩;obtain⟨i,t⟩:=e _ _ p;exact(g i).len l H Q E ⟨G,args,n,o,a,b,c,t,z⟩;obtain⟨i,t⟩:=e _ _ p;exact(g i).run A outer s H args y l Q E B he hb C ⟨G,D,n,o,a,b,c,t,z⟩
end
end
section
def G8:IS:=.ret (.and (.isi "int" (.v 0)) (.not (.isi "bool" (.v 0))))
abbrev GZ:Gm:=gm [] []
variable {x:Str}{q:Type}{N i j:Nat}{r:List Sl}{l:List Tv}{lo B:Option Int}{m:Int}{u s3 y s0 C G:aP}{ws:List (aw×Tv)}{ns:List Int}{H:Gm}{I:List Str}
theorem Tz:bH (GZ) G8 1 1 (top 14):=by kernel_rfl
abbrev Og:IE:=.v 0
def Ej:IS:=.ret (.b1 .tuple (.comp [] ["part"] (.nm 0) (.v 0) (.isi "tuple" (.v 0)) Og))
abbrev Ei:Gm:=gm [] []
theorem Rh:bH (Ei) Ej 1 1 (top 15):=by kernel_rfl
abbrev CD:IS:=.seq (.set 4 (.call 0 (.k (.ix (.v 2) (.neg (.n 1))) .o))) (.seq (.ife (.or (.not (.call 1 (.k (.v 3) .o))) (.not (.chn .le .lt (.n 0) (.v 3) (.b1 .len (.v 4))))) .no .skip) (.exp (.mth .app (.v 2) (.k (.ix (.v 4) (.v 3)) .o))))
def Cw:IS:=.seq (.set 2 (.lst (.k (.v 0) .o))) (.cut (.for (.nm 3) (.v 1) CD) (.ret (.v 2)))
abbrev Cv (s0 u:aP):Gm:=gm [("parts",s0),("is_whole",u)] []
theorem Pu:bH (Cv s0 u) Cw 5 2 (top 16):=by kernel_rfl
abbrev uP:IE:=.ix (.v 0) (.n 1)
def HA:IS:=.seq (.set 2 (.slc (.call 0 (.k (.v 0) (.k (.v 1) .o))) .o (.neg (.n 1)))) (.ret (.b1 .tuple (.comp [] ["node","at"] (.k (.nm 0) (.k (.nm 1) .o)) (.zpl (.k (.v 2) (.k (.v 1) .o))) (.and (.cmp .eq (.ix (.v 0) (.n 0)) (.s "let")) (.cmp .eq (.v 1) (.n 1))) uP)))
abbrev Hz (s0:aP):Gm:=gm [("way",s0)] []
theorem Tw:bH (Hz s0) HA 3 2 (top 18):=by kernel_rfl
abbrev Ew:IE:=.v 2
def EX:IS:=.seq (.asg (.k (.nm 1) (.k (.nm 2) .o)) (.v 0)) (.ret (.b1 .tuple (.bin .add (.comp [] ["name","params","body"] (.k (.nm 0) (.k (.nm 1) (.k (.nm 2) .o))) (.v 1) .tt Ew) (.lst (.k (.v 2) .o)))))
abbrev EW:Gm:=gm [] []
theorem RS:bH (EW) EX 3 1 (top 20):=by kernel_rfl
def Hq:IS:=.seq (.ife (.or (.not (.isi "tuple" (.v 1))) (.cmp .ne (.b1 .len (.v 1)) (.n 2))) .no .skip) (.seq (.asg (.k (.nm 2) (.k (.nm 3) .o)) (.v 1)) (.seq (.set 4 (.call 0 (.k (.v 0) .o))) (.seq (.ife (.or (.not (.call 1 (.k (.v 2) .o))) (.or (.not (.chn .le .lt (.n 0) (.v 2) (.b1 .len (.v 4)))) (.not (.isi "tuple" (.v 3))))) .no .skip) (.trp (.ret (.call 2 (.k (.ix (.v 4) (.v 2)) (.k (.v 3) .o))))))))
abbrev Ho (s0 u C:aP):Gm:=gm [("bodies",s0),("is_whole",u),("way",C)] []
theorem TH:bH (Ho s0 u C) Hq 5 2 (top 22):=by kernel_rfl
def HK:IS:=.seq (.set 2 (.ix (.call 0 (.k (.v 0) (.k (.v 1) .o))) (.n 0))) (.seq (.set 3 (.ix (.v 0) (.n 0))) (.seq (.asg (.k (.nm 4) (.k (.nm 5) .o)) (.v 1)) (.seq (.set 6 (.ite (.cmp .lt (.v 4) (.b1 .len (.v 3))) (.ix (.ix (.v 3) (.v 4)) (.n 1)) (.tup .o))) (.ret (.b1 .tuple (.srt (.bin .add (.v 6) (.call 1 (.k (.v 2) (.k (.v 5) .o))))))))))
abbrev HI (s0 u:aP):Gm:=gm [("place_way",s0),("bound_at",u)] []
theorem TR:bH (HI s0 u) HK 7 2 (top 23):=by kernel_rfl
def EV:IS:=.ret (.dct ["cells","at","left"] (.k (.b1 .list (.slc (.v 0) .o (.n 63))) (.k (.n 0) (.k (.n 0) .o))))
abbrev EU:Gm:=gm [] []
theorem RR:bH (EU) EV 1 1 (top 25):=by kernel_rfl
def ET:IS:=.seq (.ife (.cmp .gt (.dg (.v 0) (.s "left")) (.n 0)) (.seq (.set 2 (.bin .mod (.dg (.v 0) (.s "left")) (.v 1))) (.seq (.dput (.bin .fdiv (.dg (.v 0) (.s "left")) (.v 1)) (.v 0) (.s "left")) (.ret (.v 2)))) .skip) (.seq (.set 3 (.dg (.v 0) (.s "at"))) (.seq (.dput (.bin .add (.v 3) (.n 1)) (.v 0) (.s "at")) (.seq (.set 4 (.bin .add (.bin .mul (.v 3) (.v 3)) (.n 7))) (.cut (.ife (.cmp .ne (.dg (.v 0) (.s "cells")) (.lst .o)) (.set 4 (.ix (.dg (.v 0) (.s "cells")) (.bin .mod (.v 3) (.b1 .len (.dg (.v 0) (.s "cells")))))) .skip) (.seq (.ife (.cmp .ge (.v 4) (.bin .pow (.n 10) (.n 18))) (.seq (.dput (.bin .fdiv (.v 4) (.v 1)) (.v 0) (.s "left")) (.ret (.bin .mod (.v 4) (.v 1)))) .skip) (.seq (.set 5 (.bin .mod (.bin .mul (.bin .add (.bin .add (.bin .mod (.v 4) (.n 2147483647)) (.bin .mul (.n 104729) (.v 3))) (.n 1)) (.n 48271)) (.n 2147483629))) (.seq (.set 5 (.bin .mod (.bin .add (.bin .add (.bin .mul (.v 5) (.v 5)) (.bin .mul (.n 7919) (.v 3))) (.n 5)) (.n 2147483647))) (.seq (.set 5 (.bin .mod (.bin .add (.bin .mul (.v 5) (.n 69621)) (.v 3)) (.n 2147483629))) (.ret (.bin .mod (.bin .fdiv (.bin .mod (.bin .mul (.v 5) (.v 5)) (.n 2147483587)) (.n 64)) (.v 1)))))))))))
abbrev ES:Gm:=gm [] []
theorem RQ:bH (ES) ET 6 2 (top 26):=by kernel_rfl
def Gq:IS:=.seq (.set 1 (.call 0 (.k (.v 0) (.k (.n 6) .o)))) (.seq (.ife (.cmp .eq (.v 1) (.n 0)) (.ret (.bin .sub (.n 999999999) (.call 0 (.k (.v 0) (.k (.n 3) .o))))) .skip) (.seq (.ife (.cmp .eq (.v 1) (.n 1)) (.ret (.bin .add (.bin .mul (.call 0 (.k (.v 0) (.k (.n 40000) .o))) (.n 25000)) (.call 0 (.k (.v 0) (.k (.n 25000) .o))))) .skip) (.ret (.call 0 (.k (.v 0) (.k (.bin .sub (.bin .mul (.n 3) (.v 1)) (.n 3)) .o))))))
abbrev Gp (s0:aP):Gm:=gm [("_law_draw",s0)] []
theorem SM:bH (Gp s0) Gq 2 1 (top 27):=by kernel_rfl
abbrev Sy:IS:=.seq (.set 2 (.bin .add (.v 2) (.ix (.s "abcdefghijklmnopqrstuvwxyz") (.bin .mod (.v 0) (.n 26))))) (.set 0 (.bin .fdiv (.v 0) (.n 26)))
def Hm:IS:=.seq (.set 2 (.s "")) (.cut (.for (.nm 3) (.rng (.v 1)) Sy) (.ret (.v 2)))
abbrev Aj:Gm:=gm [] []
theorem TF:bH (Aj) Hm 4 2 (top 28):=by kernel_rfl
abbrev Pr:IS:=.seq (.set 5 (.bin .add (.v 5) (.n 1))) (.seq (.set 4 (.bin .add (.bin .mod (.v 4) (.n 8)) (.n 1))) (.set 6 (.call 1 (.k (.v 5) (.k (.v 4) .o)))))
def ER:IS:=.seq (.set 2 (.lst (.k (.s "num") (.k (.s "name") (.k (.s "op") (.k (.s "pick") (.k (.s "let") (.k (.s "set") (.k (.s "say") (.k (.s "take") .o)))))))))) (.seq (.set 2 (.bin .add (.v 2) (.lst (.k (.s "do") (.k (.s "again") (.k (.s "call") (.k (.s "own") (.k (.s "hole") .o)))))))) (.seq (.set 3 (.call 0 (.k (.v 0) (.k (.n 6) .o)))) (.seq (.set 4 (.bin .add (.n 1) (.call 0 (.k (.v 0) (.k (.n 8) .o))))) (.seq (.set 5 (.bin .add (.bin .mul (.call 0 (.k (.v 0) (.k (.n 456976) .o))) (.n 456976)) (.call 0 (.k (.v 0) (.k (.n 456976) .o))))) (.seq (.set 6 (.call 1 (.k (.v 5) (.k (.v 4) .o)))) (.cut (.ife (.cmp .eq (.v 3) (.n 0)) (.set 6 (.bin .add (.ix (.v 2) (.call 0 (.k (.v 0) (.k (.n 13) .o)))) (.ix (.v 6) (.n 0)))) .skip) (.cut (.ife (.cmp .eq (.v 3) (.n 3)) (.set 6 (.ix (.lst (.k (.s "a") (.k (.s "b") (.k (.s "c") (.k (.s "d") (.k (.s "x") (.k (.s "y") (.k (.s "z") (.k (.s "n") (.k (.s "v") (.k (.s "aa") (.k (.s "ab") (.k (.s "tmp") .o))))))))))))) (.call 0 (.k (.v 0) (.k (.n 12) .o))))) .skip) (.cut (.ife (.and (.cmp .eq (.v 3) (.n 1)) (.cmp .ne (.v 1) (.lst .o))) (.set 6 (.slc (.bin .add (.ix (.v 1) (.call 0 (.k (.v 0) (.k (.b1 .len (.v 1)) .o)))) (.v 6)) .o (.bin .add (.n 1) (.bin .mod (.v 5) (.n 8))))) .skip) (.cut (.ife (.and (.cmp .eq (.v 3) (.n 2)) (.cmp .ne (.v 1) (.lst .o))) (.seq (.set 7 (.ix (.v 1) (.call 0 (.k (.v 0) (.k (.b1 .len (.v 1)) .o))))) (.seq (.set 8 (.bin .mod (.v 5) (.b1 .len (.v 7)))) (.set 6 (.bin .add (.bin .add (.slc (.v 7) .o (.v 8)) (.ix (.v 6) (.n 0))) (.slc (.v 7) (.bin .add (.v 8) (.n 1)) .o))))) .skip) (.cut (.whl (.or (.cmp .isin (.v 6) (.v 1)) (.cmp .isin (.v 6) (.v 2))) Pr) (.ret (.v 6))))))))))))
abbrev zI (s0 u:aP):Gm:=gm [("_law_draw",s0),("_law_spelled",u)] []
theorem RP:bH (zI s0 u) ER 9 2 (top 29):=by kernel_rfl
abbrev QH:IS:=.exp (.mth .app (.v 2) (.k (.call 0 (.k (.v 0) (.k (.v 2) .o))) .o))
def Gn:IS:=.seq (.set 2 (.lst .o)) (.cut (.for (.nm 3) (.rng (.v 1)) QH) (.ret (.v 2)))
abbrev zV (s0:aP):Gm:=gm [("_law_name",s0)] []
theorem SJ:bH (zV s0) Gn 4 2 (top 30):=by kernel_rfl
abbrev QF:IE:=.v 0
def Af:IS:=.ret (.comp [] ["_law_part"] (.nm 0) (.slc (.v 0) (.n 1) .o) (.isi "tuple" (.v 0)) QF)
abbrev rj:Gm:=gm [] []
theorem SH:bH (rj) Af 1 1 (top 31):=by kernel_rfl
abbrev Po:IE:=.v 0
def zU:IS:=.ret (.b1 .tuple (.bin .add (.comp [] ["_law_part"] (.nm 0) (.v 0) (.not (.isi "tuple" (.v 0))) Po) (.v 1)))
abbrev rg:Gm:=gm [] []
theorem RO:bH (rg) zU 2 2 (top 32):=by kernel_rfl
abbrev QE:IE:=.call 1 (.k (.v 0) .o)
def Gk:IS:=.ret (.bin .add (.n 1) (.b1 .sum (.comp [] ["_law_part"] (.nm 0) (.call 0 (.k (.v 0) .o)) .tt QE)))
abbrev uM (s0 u:aP):Gm:=gm [("_law_parts",s0),("_law_nodes",u)] []
theorem SG:bH (uM s0 u) Gk 1 1 (top 33):=by kernel_rfl
abbrev Pn:IE:=.call 1 (.k (.v 1) (.k (.v 0) .o))
def EO:IS:=.seq (.set 2 (.b1 .sum (.comp [1] ["_law_part"] (.nm 1) (.call 0 (.k (.v 0) .o)) .tt Pn))) (.seq (.ife (.cmp .eq (.ix (.v 0) (.n 0)) (.s "again")) (.ret (.bin .add (.n 1) (.bin .mul (.ix (.v 0) (.n 1)) (.v 2)))) .skip) (.seq (.ife (.cmp .eq (.ix (.v 0) (.n 0)) (.s "call")) (.ret (.bin .add (.bin .add (.n 1) (.v 2)) (.dg (.v 1) (.ix (.v 0) (.n 1))))) .skip) (.ret (.bin .add (.n 1) (.v 2)))))
abbrev oC (s0 u:aP):Gm:=gm [("_law_parts",s0),("_law_work",u)] []
theorem RN:bH (oC s0 u) EO 3 2 (top 34):=by kernel_rfl
abbrev zQ:IE:=.call 0 (.k (.v 1) (.k (.v 0) .o))
def Gj:IS:=.seq (.ife (.and (.cmp .eq (.ix (.v 0) (.n 0)) (.s "set")) (.cmp .isin (.ix (.v 0) (.n 1)) (.v 1))) (.ret (.cst (.bl false))) .skip) (.seq (.ife (.cmp .eq (.ix (.v 0) (.n 0)) (.s "let")) (.ret (.and (.call 0 (.k (.ix (.v 0) (.n 2)) (.k (.v 1) .o))) (.call 0 (.k (.ix (.v 0) (.n 3)) (.k (.bin .add (.v 1) (.lst (.k (.ix (.v 0) (.n 1)) .o))) .o))))) .skip) (.ret (.b1 .all (.comp [1] ["_law_part"] (.nm 1) (.call 1 (.k (.v 0) .o)) .tt zQ))))
abbrev oI (s0 u:aP):Gm:=gm [("_law_right",s0),("_law_parts",u)] []
theorem SF:bH (oI s0 u) Gj 2 2 (top 35):=by kernel_rfl
def EN:IS:=.seq (.set 3 (.call 0 (.k (.v 0) (.k (.n 6) .o)))) (.seq (.ife (.and (.cmp .eq (.v 3) (.n 0)) (.dg (.v 1) (.s "takes"))) (.ret (.tup (.k (.s "take") .o))) .skip) (.seq (.set 4 (.bin .add (.bin .add (.dg (.v 1) (.s "names")) (.v 2)) (.v 2))) (.seq (.ife (.or (.cmp .lt (.v 3) (.n 3)) (.cmp .eq (.v 4) (.lst .o))) (.ret (.tup (.k (.s "num") (.k (.call 1 (.k (.v 0) .o)) .o)))) .skip) (.ret (.tup (.k (.s "name") (.k (.ix (.v 4) (.call 0 (.k (.v 0) (.k (.b1 .len (.v 4)) .o)))) .o)))))))
abbrev EM (s0 u:aP):Gm:=gm [("_law_draw",s0),("_law_value",u)] []
theorem RM:bH (EM s0 u) EN 5 3 (top 36):=by kernel_rfl
abbrev Gi:IE:=.call 2 (.k (.v 2) (.k (.v 0) (.k (.v 1) .o)))
def GX:IS:=.cut (.ife (.and (.cmp .isin (.ix (.v 0) (.n 0)) (.tup (.k (.s "name") (.k (.s "set") .o)))) (.cmp .isin (.ix (.v 0) (.n 1)) (.v 1))) (.set 0 (.bin .add (.tup (.k (.ix (.v 0) (.n 0)) (.k (.ix (.v 2) (.idx (.v 1) (.k (.ix (.v 0) (.n 1)) .o))) .o))) (.slc (.v 0) (.n 2) .o))) .skip) (.ret (.call 0 (.k (.v 0) (.k (.comp [1,2] ["_law_part"] (.nm 2) (.call 1 (.k (.v 0) .o)) .tt Gi) .o))))
abbrev GV (s0 u C:aP):Gm:=gm [("_law_with",s0),("_law_parts",u),("_law_turned",C)] []
theorem Tu:bH (GV s0 u C) GX 3 3 (top 37):=by kernel_rfl
abbrev Gh:IS:=.seq (.set 5 (.call 1 (.k (.ix (.v 3) (.v 4)) .o))) (.cut (.ife (.chn .le .lt (.n 0) (.v 1) (.v 5)) (.lput (.call 2 (.k (.ix (.v 3) (.v 4)) (.k (.v 1) (.k (.v 2) .o)))) (.v 3) (.v 4)) .skip) (.set 1 (.bin .sub (.v 1) (.v 5))))
def GU:IS:=.seq (.ife (.cmp .eq (.v 1) (.n 0)) (.ret (.v 2)) .skip) (.seq (.set 3 (.call 0 (.k (.v 0) .o))) (.seq (.set 1 (.bin .sub (.v 1) (.n 1))) (.cut (.for (.nm 4) (.rng (.b1 .len (.v 3))) Gh) (.ret (.call 3 (.k (.v 0) (.k (.v 3) .o)))))))
abbrev GS (s0 u C s3:aP):Gm:=gm [("_law_parts",s0),("_law_nodes",u),("_law_spoilt",C),("_law_with",s3)] []
theorem Tt:bH (GS s0 u C s3) GU 6 3 (top 38):=by kernel_rfl
abbrev Gg:IE:=.ix (.v 0) (.n 0)
def GR:IS:=.seq (.ife (.cmp .eq (.dg (.v 1) (.s "seeds")) (.lst .o)) (.ret (.call 0 (.k (.v 0) (.k (.v 1) (.k (.v 2) .o))))) .skip) (.seq (.set 5 (.ix (.dg (.v 1) (.s "seeds")) (.call 1 (.k (.v 0) (.k (.b1 .len (.dg (.v 1) (.s "seeds"))) .o))))) (.seq (.set 6 (.dg (.v 1) (.s "names"))) (.seq (.set 7 (.call 1 (.k (.v 0) (.k (.b1 .len (.v 6)) .o)))) (.seq (.set 8 (.bin .add (.slc (.v 6) (.v 7) .o) (.slc (.v 6) .o (.v 7)))) (.cut (.ife (.cmp .eq (.call 1 (.k (.v 0) (.k (.n 6) .o))) (.n 0)) (.set 8 (.comp [8] ["_law_name_here"] (.nm 1) (.v 6) .tt Gg)) .skip) (.seq (.set 9 (.call 2 (.k (.v 5) (.k (.v 6) (.k (.v 8) .o))))) (.cut (.ife (.cmp .eq (.call 1 (.k (.v 0) (.k (.n 2) .o))) (.n 0)) (.set 9 (.call 3 (.k (.v 9) (.k (.call 1 (.k (.v 0) (.k (.call 4 (.k (.v 9) .o)) .o))) (.k (.call 0 (.k (.v 0) (.k (.v 1) (.k (.v 2) .o)))) .o))))) .skip) (.seq (.set 10 (.bin .mul (.v 4) (.call 5 (.k (.v 9) (.k (.dg (.v 1) (.s "works")) .o))))) (.seq (.ife (.or (.not (.call 6 (.k (.v 9) (.k (.v 2) .o)))) (.or (.cmp .gt (.v 10) (.bin .sub (.dg (.v 1) (.s "toil")) (.bin .mul (.n 30) (.v 4)))) (.cmp .gt (.call 4 (.k (.v 9) .o)) (.dg (.v 1) (.s "room"))))) (.ret (.call 0 (.k (.v 0) (.k (.v 1) (.k (.v 2) .o))))) .skip) (.seq (.dput (.bin .sub (.dg (.v 1) (.s "toil")) (.v 10)) (.v 1) (.s "toil")) (.seq (.dput (.bin .sub (.dg (.v 1) (.s "room")) (.call 4 (.k (.v 9) .o))) (.v 1) (.s "room")) (.ret (.v 9)))))))))))))
abbrev GO (s0 u C s3 y G a:aP):Gm:=gm [("_law_leaf",s0),("_law_draw",u),("_law_turned",C),("_law_spoilt",s3),("_law_nodes",y),("_law_work",G),("_law_right",a)] []
theorem Ts {a:aP}:bH (GO s0 u C s3 y G a) GR 11 5 (top 39):=by kernel_rfl
abbrev QB:IE:=.v 1
def Gf:IS:=.seq (.set 6 (.comp [2] ["_law_name_here"] (.nm 1) (.dg (.v 1) (.s "names")) (.cmp .notin (.v 1) (.v 0)) QB)) (.seq (.ife (.and (.cmp .eq (.v 5) (.s "set")) (.cmp .ne (.v 6) (.lst .o))) (.seq (.set 7 (.ix (.v 6) (.call 0 (.k (.v 0) (.k (.b1 .len (.v 6)) .o))))) (.ret (.tup (.k (.s "set") (.k (.v 7) (.k (.call 1 (.k (.v 0) (.k (.v 1) (.k (.v 2) (.k (.bin .sub (.v 3) (.n 1)) (.k (.v 4) .o)))))) .o)))))) .skip) (.seq (.ife (.cmp .eq (.v 5) (.s "let")) (.seq (.set 6 (.bin .add (.dg (.v 1) (.s "names")) (.dg (.v 1) (.s "lets")))) (.seq (.set 7 (.ix (.v 6) (.call 0 (.k (.v 0) (.k (.b1 .len (.v 6)) .o))))) (.seq (.set 8 (.call 1 (.k (.v 0) (.k (.v 1) (.k (.v 2) (.k (.bin .sub (.v 3) (.n 1)) (.k (.v 4) .o))))))) (.ret (.tup (.k (.s "let") (.k (.v 7) (.k (.v 8) (.k (.call 1 (.k (.v 0) (.k (.v 1) (.k (.bin .add (.v 2) (.lst (.k (.v 7) .o))) (.k (.bin .sub (.v 3) (.n 1)) (.k (.v 4) .o)))))) .o))))))))) .skip) (.ret (.tup (.k (.s "say") (.k (.call 1 (.k (.v 0) (.k (.v 1) (.k (.v 2) (.k (.bin .sub (.v 3) (.n 1)) (.k (.v 4) .o)))))) .o))))))
abbrev Ge (s0 u:aP):Gm:=gm [("_law_draw",s0),("_law_expr",u)] []
theorem SE:rW (Ge s0 u) Gf ["_law_feed_here","_law_world_here","_law_bound_here","_law_below","_law_times","_law_kind","_law_some","_law_name_here","_law_first"] 9 6 (top 40)=true:=by kernel_rfl
abbrev RT:IE:=.call 2 (.k (.v 0) (.k (.v 1) (.k (.v 2) (.k (.bin .sub (.v 4) (.n 1)) (.k (.v 3) .o)))))
def GK:IS:=.seq (.ife (.cmp .eq (.dg (.v 1) (.s "functions")) (.lst .o)) (.ret (.call 0 (.k (.v 0) (.k (.v 1) (.k (.v 2) .o))))) .skip) (.seq (.asg (.k (.nm 5) (.k (.nm 6) .o)) (.ix (.dg (.v 1) (.s "functions")) (.call 1 (.k (.v 0) (.k (.b1 .len (.dg (.v 1) (.s "functions"))) .o))))) (.seq (.set 7 (.bin .mul (.v 4) (.dg (.dg (.v 1) (.s "works")) (.v 5)))) (.seq (.ife (.cmp .lt (.dg (.v 1) (.s "toil")) (.bin .add (.bin .mul (.n 30) (.v 4)) (.v 7))) (.ret (.call 0 (.k (.v 0) (.k (.v 1) (.k (.v 2) .o))))) .skip) (.seq (.dput (.bin .sub (.dg (.v 1) (.s "toil")) (.v 7)) (.v 1) (.s "toil")) (.ret (.b1 .tuple (.bin .add (.lst (.k (.s "call") (.k (.v 5) .o))) (.comp [0,1,2,4,3] ["_law_k"] (.nm 5) (.rng (.v 6)) .tt RT))))))))
abbrev GJ (s0 u C:aP):Gm:=gm [("_law_leaf",s0),("_law_draw",u),("_law_expr",C)] []
theorem Tr:bH (GJ s0 u C) GK 8 5 (top 41):=by kernel_rfl
abbrev Pl:IE:=.call 5 (.k (.v 0) (.k (.v 1) (.k (.v 2) (.k (.bin .sub (.v 4) (.n 1)) (.k (.v 3) .o)))))
def EL:IS:=.seq (.dput (.bin .sub (.dg (.v 1) (.s "room")) (.n 1)) (.v 1) (.s "room")) (.seq (.dput (.bin .sub (.dg (.v 1) (.s "toil")) (.v 4)) (.v 1) (.s "toil")) (.seq (.set 5 (.lst (.k (.s "op") (.k (.s "op") (.k (.s "copy") (.k (.s "pick") (.k (.s "let") (.k (.s "set") (.k (.s "say") (.k (.s "do") (.k (.s "again") (.k (.s "call") (.k (.s "copy") (.k (.s "op") (.k (.s "leaf") (.k (.s "let") .o)))))))))))))))) (.seq (.set 6 (.ix (.v 5) (.call 0 (.k (.v 0) (.k (.n 14) .o))))) (.seq (.ife (.or (.cmp .lt (.v 3) (.n 2)) (.or (.cmp .lt (.dg (.v 1) (.s "room")) (.n 6)) (.or (.cmp .lt (.dg (.v 1) (.s "toil")) (.bin .mul (.n 30) (.v 4))) (.cmp .eq (.v 6) (.s "leaf"))))) (.ret (.call 1 (.k (.v 0) (.k (.v 1) (.k (.v 2) .o))))) .skip) (.cut (.ife (.and (.cmp .eq (.v 6) (.s "copy")) (.cmp .gt (.v 3) (.n 5))) (.ret (.call 2 (.k (.v 0) (.k (.v 1) (.k (.v 2) (.k (.v 3) (.k (.v 4) .o))))))) .skip) (.seq (.ife (.cmp .eq (.v 6) (.s "call")) (.ret (.call 3 (.k (.v 0) (.k (.v 1) (.k (.v 2) (.k (.v 3) (.k (.v 4) .o))))))) .skip) (.seq (.ife (.cmp .isin (.v 6) (.tup (.k (.s "let") (.k (.s "set") (.k (.s "say") .o))))) (.ret (.call 4 (.k (.v 0) (.k (.v 1) (.k (.v 2) (.k (.v 3) (.k (.v 4) (.k (.v 6) .o)))))))) .skip) (.seq (.ife (.cmp .eq (.v 6) (.s "again")) (.seq (.set 7 (.ix (.lst (.k (.n 2) (.k (.n 3) (.k (.n 0) (.k (.n 1) (.k (.n 5) (.k (.n 2) .o))))))) (.call 0 (.k (.v 0) (.k (.n 6) .o))))) (.cut (.ife (.cmp .lt (.dg (.v 1) (.s "toil")) (.bin .mul (.bin .mul (.n 30) (.v 4)) (.v 7))) (.set 7 (.n 1)) .skip) (.ret (.tup (.k (.s "again") (.k (.v 7) (.k (.call 5 (.k (.v 0) (.k (.v 1) (.k (.v 2) (.k (.bin .sub (.v 3) (.n 1)) (.k (.bin .mul (.v 4) (.v 7)) .o)))))) .o))))))) .skip) (.seq (.set 8 (.lst (.k (.s "do") .o))) (.seq (.set 7 (.ix (.lst (.k (.n 2) (.k (.n 3) (.k (.n 1) (.k (.n 2) (.k (.n 4) (.k (.n 6) .o))))))) (.call 0 (.k (.v 0) (.k (.n 6) .o))))) (.cut (.ife (.cmp .eq (.v 6) (.s "pick")) (.seq (.set 8 (.lst (.k (.s "pick") .o))) (.set 7 (.n 3))) .skip) (.cut (.ife (.cmp .eq (.v 6) (.s "op")) (.seq (.set 8 (.lst (.k (.s "op") (.k (.ix (.s "+-*/<=") (.call 0 (.k (.v 0) (.k (.n 6) .o)))) .o)))) (.set 7 (.n 2))) .skip) (.ret (.b1 .tuple (.bin .add (.v 8) (.comp [0,1,2,4,3] ["_law_k"] (.nm 5) (.rng (.v 7)) .tt Pl))))))))))))))))
abbrev EK (s0 u C s3 y G:aP):Gm:=gm [("_law_draw",s0),("_law_leaf",u),("_law_copied",C),("_law_called",s3),("_law_bound",y),("_law_expr",G)] []
theorem RL:bH (EK s0 u C s3 y G) EL 9 5 (top 42):=by kernel_rfl
def Gd:IS:=.ret (.dct ["names","lets","functions","works","seeds","room","toil","takes"] (.k (.v 0) (.k (.v 1) (.k (.v 2) (.k (.v 3) (.k (.lst .o) (.k (.v 4) (.k (.v 5) (.k (.cst (.bl true)) .o)))))))))
abbrev Gb:Gm:=gm [] []
theorem SD:bH (Gb) Gd 6 6 (top 43):=by kernel_rfl
abbrev Fq:IS:=.seq (.set 5 (.b1 .dict (.v 1))) (.seq (.dput (.lst .o) (.v 5) (.s "seeds")) (.seq (.dput (.n 7) (.v 5) (.s "room")) (.seq (.dput (.n 60) (.v 5) (.s "toil")) (.exp (.mth .app (.v 3) (.k (.call 0 (.k (.v 0) (.k (.v 5) (.k (.lst .o) (.k (.n 4) (.k (.n 1) .o)))))) .o))))))
def Ga:IS:=.seq (.set 3 (.lst .o)) (.cut (.for (.nm 4) (.rng (.v 2)) Fq) (.ret (.v 3)))
abbrev zT (s0:aP):Gm:=gm [("_law_expr",s0)] []
theorem Sz:bH (zT s0) Ga 6 3 (top 44):=by kernel_rfl
abbrev Sv:IE:=.ix (.v 0) (.n 0)
abbrev Su:IE:=.ix (.v 0) (.n 0)
abbrev GC:IS:=.seq (.set 8 (.call 2 (.k (.v 0) (.k (.cmpv [] ["_law_one_here"] (.nm 0) 4 .tt Sv) .o)))) (.seq (.set 9 (.bin .add (.v 2) (.slc (.v 3) .o (.n 1)))) (.seq (.set 10 (.ix (.v 9) (.bin .mod (.v 7) (.b1 .len (.v 9))))) (.cut (.ife (.and (.cmp .eq (.call 1 (.k (.v 0) (.k (.n 2) .o))) (.n 0)) (.cmp .notin (.v 10) (.cmpv [] ["_law_one_here"] (.nm 0) 4 .tt Su))) (.set 8 (.v 10)) .skip) (.seq (.set 11 (.call 1 (.k (.v 0) (.k (.b1 .len (.v 9)) .o)))) (.cut (.set 12 (.slc (.bin .add (.slc (.v 9) (.v 11) .o) (.slc (.v 9) .o (.v 11))) .o (.ix (.lst (.k (.n 1) (.k (.n 2) (.k (.n 0) (.k (.n 3) (.k (.n 1) (.k (.n 2) (.k (.n 2) (.k (.n 6) .o))))))))) (.call 1 (.k (.v 0) (.k (.n 8) .o)))))) (.seq (.set 13 (.call 3 (.k (.v 2) (.k (.v 3) (.k (.v 5) (.k (.v 6) (.k (.n 9) (.k (.n 120) .o)))))))) (.seq (.set 14 (.call 4 (.k (.v 0) (.k (.v 13) (.k (.v 12) (.k (.n 4) (.k (.n 1) .o))))))) (.seq (.exp (.mth .app (.v 4) (.k (.tup (.k (.v 8) (.k (.b1 .tuple (.v 12)) (.k (.v 14) .o)))) .o))) (.seq (.set 5 (.bin .add (.v 5) (.lst (.k (.tup (.k (.v 8) (.k (.b1 .len (.v 12)) .o))) .o)))) (.seq (.set 6 (.b1 .dict (.v 6))) (.dput (.call 5 (.k (.v 14) (.k (.v 6) .o))) (.v 6) (.v 8))))))))))))
def Hl:IS:=.seq (.set 2 (.call 0 (.k (.v 0) (.k (.bin .add (.n 2) (.call 1 (.k (.v 0) (.k (.n 4) .o)))) .o)))) (.seq (.set 3 (.lst (.k (.call 2 (.k (.v 0) (.k (.v 2) .o))) (.k (.ix (.v 2) (.n 0)) .o)))) (.seq (.set 4 (.lst .o)) (.seq (.set 5 (.lst .o)) (.seq (.set 6 .dnew) (.cut (.for (.nm 7) (.rng (.ix (.lst (.k (.n 1) (.k (.n 0) (.k (.n 2) (.k (.n 4) (.k (.n 3) .o)))))) (.call 1 (.k (.v 0) (.k (.n 5) .o))))) GC) (.seq (.set 13 (.call 3 (.k (.v 2) (.k (.v 3) (.k (.v 5) (.k (.v 6) (.k (.v 1) (.k (.n 1400) .o)))))))) (.seq (.dput (.call 6 (.k (.v 0) (.k (.v 13) (.k (.bin .add (.n 1) (.call 1 (.k (.v 0) (.k (.n 2) .o)))) .o)))) (.v 13) (.s "seeds")) (.ret (.tup (.k (.b1 .tuple (.v 4)) (.k (.call 4 (.k (.v 0) (.k (.v 13) (.k (.lst .o) (.k (.n 7) (.k (.n 1) .o)))))) .o)))))))))))
abbrev Hk (s0 u C s3 y G a:aP):Gm:=gm [("_law_names",s0),("_law_draw",u),("_law_name",C),("_law_world",s3),("_law_expr",y),("_law_work",G),("_law_seeds",a)] []
theorem TC {a:aP}:bH (Hk s0 u C s3 y G a) Hl 15 2 (top 45):=by kernel_rfl
def Ft:IS:=.ret (.ix (.v 1) (.call 0 (.k (.v 0) (.k (.b1 .len (.v 1)) .o))))
abbrev Fp (s0:aP):Gm:=gm [("_law_draw",s0)] []
theorem Rg:bH (Fp s0) Ft 2 2 (top 46):=by kernel_rfl
abbrev Hs:IE:=.tup (.k (.bin .add (.tup (.k (.v 0) .o)) (.v 1)) (.k (.v 2) .o))
abbrev Hr:IS:=.set 1 (.bin .add (.v 1) (.comp [2] ["_law_path","_law_other"] (.k (.nm 1) (.k (.nm 2) .o)) (.call 1 (.k (.v 3) .o)) .tt Hs))
def HE:IS:=.seq (.set 1 (.lst (.k (.tup (.k (.tup .o) (.k (.v 0) .o))) .o))) (.cut (.for (.k (.nm 2) (.k (.nm 3) .o)) (.enu (.call 0 (.k (.v 0) .o))) Hr) (.ret (.v 1)))
abbrev HD (s0 u:aP):Gm:=gm [("_law_parts",s0),("_law_all_paths",u)] []
theorem TQ:bH (HD s0 u) HE 4 1 (top 47):=by kernel_rfl
abbrev F9:IE:=.ix (.v 0) (.n 2)
def GH:IS:=.ret (.bin .add (.comp [] ["_law_one_here"] (.nm 0) (.ix (.v 0) (.n 0)) .tt F9) (.lst (.k (.ix (.v 0) (.n 1)) .o)))
abbrev GG:Gm:=gm [] []
theorem Tq:bH (GG) GH 1 1 (top 48):=by kernel_rfl
abbrev F8:IE:=.tup (.k (.tup (.k (.v 0) (.k (.v 2) .o))) (.k (.v 3) .o))
abbrev F7:IS:=.set 2 (.bin .add (.v 2) (.comp [3,1] ["_law_path","_law_one_here"] (.k (.nm 2) (.k (.nm 3) .o)) (.call 2 (.k (.v 4) .o)) (.cmp .ge (.call 1 (.k (.v 3) .o)) (.v 1)) F8))
def GF:IS:=.seq (.set 2 (.lst .o)) (.cut (.for (.k (.nm 3) (.k (.nm 4) .o)) (.enu (.call 0 (.k (.v 0) .o))) F7) (.ret (.v 2)))
abbrev GD (s0 u C:aP):Gm:=gm [("_law_bodies",s0),("_law_nodes",u),("_law_all_paths",C)] []
theorem Tp:bH (GD s0 u C) GF 5 2 (top 49):=by kernel_rfl
abbrev Hh:IS:=.cut (.ife (.and (.cmp .eq (.ix (.v 5) (.n 0)) (.s "let")) (.cmp .eq (.v 6) (.n 1))) (.exp (.mth .app (.v 4) (.k (.ix (.v 5) (.n 1)) .o))) .skip) (.set 5 (.ix (.call 1 (.k (.v 5) .o)) (.v 6)))
def Hy:IS:=.seq (.asg (.k (.nm 2) (.k (.nm 3) .o)) (.v 1)) (.seq (.set 4 (.lst .o)) (.cut (.ife (.cmp .lt (.v 2) (.b1 .len (.ix (.v 0) (.n 0)))) (.set 4 (.b1 .list (.ix (.ix (.ix (.v 0) (.n 0)) (.v 2)) (.n 1)))) .skip) (.seq (.set 5 (.ix (.call 0 (.k (.v 0) .o)) (.v 2))) (.cut (.for (.nm 6) (.v 3) Hh) (.ret (.b1 .tuple (.srt (.v 4))))))))
abbrev Hx (s0 u:aP):Gm:=gm [("_law_bodies",s0),("_law_parts",u)] []
theorem To:bH (Hx s0 u) Hy 7 2 (top 50):=by kernel_rfl
abbrev DJ:IS:=.ife (.cmp .ne (.b1 .repr (.call 3 (.k (.v 2) (.k (.v 4) .o)))) (.b1 .repr (.call 4 (.k (.v 2) (.k (.v 4) .o))))) (.ret (.cst (.bl false))) .skip
abbrev DI:IS:=.seq (.asg (.k (.k (.nm 7) (.k (.nm 8) .o)) (.k (.nm 5) .o)) (.call 5 (.k (.v 1) (.k (.v 3) .o)))) (.seq (.set 9 (.bin .add (.b1 .len (.call 6 (.k (.v 5) .o))) (.call 7 (.k (.v 1) (.k (.n 2) .o))))) (.seq (.set 10 (.lst (.k (.tup (.k (.v 7) (.k (.bin .add (.v 8) (.tup (.k (.v 9) .o))) .o))) (.k (.tup (.k (.v 7) (.k (.bin .add (.v 8) (.tup (.k (.neg (.n 1)) .o))) .o))) (.k (.tup (.k (.bin .add (.b1 .len (.ix (.v 2) (.n 0))) (.n 1)) (.k (.v 8) .o))) (.k (.tup (.k (.neg (.n 1)) (.k (.v 8) .o))) (.k (.lst (.k (.v 7) (.k (.v 8) .o))) (.k (.v 7) (.k (.cst .non) .o))))))))) (.seq (.set 10 (.bin .add (.v 10) (.lst (.k (.tup (.k (.v 7) (.k (.b1 .list (.v 8)) .o))) (.k (.tup (.k (.cst (.bl true)) (.k (.v 8) .o))) (.k (.tup (.k (.v 7) (.k (.v 8) (.k (.n 0) .o)))) (.k (.tup (.k (.v 7) (.k (.bin .add (.v 8) (.tup (.k (.cst (.bl false)) .o))) .o))) (.k (.tup .o) (.k (.s "place") (.k (.bin .add (.v 8) (.tup (.k (.v 7) .o))) .o)))))))))) (.seq (.set 11 (.call 5 (.k (.v 1) (.k (.v 10) .o)))) (.ife (.cmp .ne (.b1 .repr (.call 8 (.k (.v 2) (.k (.v 11) .o)))) (.b1 .repr (.lst (.k (.v 11) .o)))) (.ret (.cst (.bl false))) .skip)))))
def Dz:IS:=.seq (.set 1 (.call 0 (.k (.v 0) .o))) (.seq (.set 2 (.call 1 (.k (.v 1) (.k (.n 40) .o)))) (.seq (.set 3 (.call 2 (.k (.v 2) (.k (.n 1) .o)))) (.cut (.for (.k (.nm 4) (.k (.nm 5) .o)) (.v 3) DJ) (.cut (.for (.nm 6) (.rng (.n 6)) DI) (.ret (.cst (.bl true)))))))
abbrev Dy (s0 u C s3 y G a b c:aP):Gm:=gm [("_law_feed",s0),("_law_program",u),("_law_pieces",C),("local_names",s3),("_law_locals",y),("_law_one",G),("_law_parts",a),("_law_draw",b),("_law_refused",c)] []
theorem Pp {a b c:aP}:bH (Dy s0 u C s3 y G a b c) Dz 12 1 (top 52):=by kernel_rfl
noncomputable abbrev ti (i:Int):Tv:=.at (.int i)
noncomputable abbrev ts (x:Str):Tv:=.at (.str x)
noncomputable abbrev fi (i:Int):Sl:=.fz (.at (.int i))
noncomputable abbrev fs (x:Str):Sl:=.fz (.at (.str x))
def Az (x:Str):Prop:=∀c∈x.cps.toList,97<=c/\c<=122
inductive cb (args:SA)(k:SK):Prop
 |mk (a b:Int) (_:args=[fi a,fi b]) (_:0<=b) (_:b<=20) (_:∀x:Str,(x.length:Int)=b->Az x->(1<=b->x.cps.toList[0]?=some (97+(a % 26).toNat))->k (fs x) [fi a,fi b])
theorem Az.app {y:Str}(b:Az x)(d:Az y):Az (x++y):=fun c a=>by
 have e:(x++y).cps.toList=x.cps.toList++y.cps.toList:=by show(x.cps++y.cps).toList=_;simp
 rw[e] at a;rcases Vo.mp a with h|h;exact b c h;exact d c h
noncomputable def abc:Str:="abcdefghijklmnopqrstuvwxyz"
theorem MO:∀c∈abc.cps.toList,97<=c/\c<=122:=by decide+kernel
theorem MN:abc.cps.toList.length=26:=by decide+kernel
theorem LW:Az "":=fun c a=>by
 have:("":Str).cps.toList=[]:=by decide+kernel
 rw[this] at a;cases a
theorem LV:∀j<26,abc.cps.toList[j]?=some (97+j):=by decide+kernel
def AQ (a0 a:Int)(x:Str):Prop:=(x.length=0/\a=a0)∨(1<=x.length/\x.cps.toList[0]?=some (97+(a0 % 26).toNat))
theorem GA {a0 b:Int}(hb:b<=20){P:PD}(n:∀(a:Int)(x:Str)(s:Option Sl),(x.length:Int)=b->Az x->AQ a0 a x->P.nx ⟨[some (fi a),some (fi b),some (fs x),s],[],[]⟩):∀(l:List Tv)(a:Int)(x:Str)(s:Option Sl),(x.length:Int)+l.length=b->Az x->AQ a0 a x->cN (bd (.nm 3)) (aM (aF Aj (.seq (.set 2 (.bin .add (.var 2) (.ix (.cst (.str "abcdefghijklmnopqrstuvwxyz")) (.bin .mod (.var 0) (.cst (.int 26)))))) (.set 0 (.bin .fdiv (.var 0) (.cst (.int 26))))))) P l ⟨[some (fi a),some (fi b),some (fs x),s],[],[]⟩
 |[],a,x,s,h,f,g=>n a x s (by simpa using h) f g
 |t::l,a,x,s,h,f,g=>by
  have k:(0:Int)<26:=by decide
  have e:cJ abc.cps.toList (a % 26)=some (97+(a % 26).toNat):=by obtain⟨j,r⟩:=Wh (Int.emod_nonneg a (by decide:(26:Int)≠0));have:=Xf a k;rw[r];exact LV j (by lia)
  generalize u:97+(a % 26).toNat=c at e;have v:c∈abc.cps.toList:=by obtain⟨A,p,m⟩:=iH (l:=abc.cps.toList) (i:=a % 26) (Int.emod_nonneg _ (by decide)) (by rw[MN];exact Xf _ k);rw[e] at p;cases p;exact m
  have w:(t::l).length=l.length+1:=rfl;rw[w] at h;have y:Az ⟨#[c]⟩:=fun d hd=>by rw[show d=c by simpa using hd];exact MO c v
  have q:(x++(⟨#[c]⟩:Str)).length=x.length+1:=lC;refine⟨k,bx (o:=(cJ abc.cps.toList (a % 26)).map fun c=>.at (.str ⟨#[c]⟩)) (t:=ts ⟨#[c]⟩) (by rw[e];rfl) ⟨by show x.length+1<=16777216;lia,⟨by decide,by decide⟩,?_⟩⟩;refine GA hb n l _ _ _ (by rw[q];lia) (f.app y) (.inr ⟨by rw[q];lia,?_⟩);have z:(x++(⟨#[c]⟩:Str)).cps.toList=x.cps.toList++[c]:=by show(x.cps ++ #[c]).toList=_;simp
  have el:x.cps.toList.length=x.length:=by simp [Str.length]
  rw[z];rcases g with ⟨h0,rfl⟩|⟨h0,h1⟩;rw[Vn (by lia),el,h0,u];rfl;rw[Vy (by lia)];exact h1
theorem Qv:∀args k,cb args k->aM (aF Aj Hm) (a9 args k) (entry 4 args):=by rintro args k ⟨a,b,rfl,h0,h1,q⟩;refine⟨fun M=>∃(c:Int)(x:Str)(s:Option Sl),M=⟨[some (fi c),some (fi b),some (fs x),s],[],[]⟩/\(x.length:Int)=b/\Az x/\AQ a c x,?_,?_⟩;refine⟨⟨by lia,by lia⟩,GA (a0:=a) h1 ?_ _ a "" none ?_ LW (.inl ⟨by decide+kernel,rfl⟩)⟩;exact fun a x s e d f=>⟨a,x,s,rfl,e,d,f⟩;unfold fc;rw[U6,Wz];show(0:Int)+_=_;lia;rintro M ⟨c,x,s,rfl,e,d,f⟩;exact q x e d fun hb=>f.elim (fun z=>by lia) (·.2)
def aH (ns:List Int)(n:Nat)(z:Int):Ob:=.dic [(.inr "cells",.lst (ns.map ti)),(.inr "at",ti n),(.inr "left",ti z)]
inductive aN (args:SA)(k:SK):Prop
 |mk (ns n z m:_) (_:args=[.own (aH ns n z),fi m]) (_:ns.length<=63) (_:n<=1000000000000) (_:0<m) (_:m<=1000000000000) (_:∀r n' z',0<=r->r<m->n'<=n+1->k (fi r) [.own (aH ns n' z'),fi m])
theorem MM:∀args k,aN args k->aM (aF ES ET) (a9 args k) (entry 6 args):=by
 rintro args k ⟨ns,n,z,m,rfl,y,A,d,v,q⟩;have u:∀z,yz z m:=fun z=>⟨d,by lia⟩;have w:CMul (n:Int) n:=ib (by lia) (by lia);have r:∀(a b c:aw×Tv),[a,b,c].length<16777216:=fun _ _ _=>by show 3<16777216;decide
 have f:∀(i j:Int),0<j->0<=i % j/\i % j<j:=fun i j h=>⟨Int.emod_nonneg _ (by lia),Xf _ h⟩;refine aE (fun g=>?_) (fun g=>?_);exact⟨d,u z,r _ _ _,q _ n _ (f _ _ d).1 (f _ _ d).2 (by lia)⟩;refine⟨r _ _ _,w,fun M=>∃c,M=⟨[some (.out 0),some (fi m),none,some (fi n),some (fi c),none],[.own (aH ns (n+1) z)],[]⟩,aE (fun g=>?_) (fun g=>⟨_,rfl⟩),?_⟩;have h0:ns ≠ []:=fun z=>by rw[z] at g;exact absurd g (by decide)
 have h1:0<(ns.length:Int):=by have:=We.mpr h0;lia
 have o:=f n ns.length h1;have s:((ns.map ti).length:Int)=ns.length:=by rw[U6]
 obtain⟨t,e,x⟩:=iH (l:=ns.map ti) (i:=(n:Int) % ((ns.map ti).length:Nat)) (by rw[s];exact o.1) (by rw[s];exact o.2);obtain⟨c,_,rfl⟩:=VG.mp x;exact⟨by show(0:Int)<((ns.map ti).length:Nat);rw[s];exact h1,bx e ⟨_,rfl⟩⟩;rintro M ⟨c,rfl⟩;refine⟨⟨by decide,by decide,by decide⟩,aE (fun g=>?_) (fun g=>?_)⟩;exact⟨u c,r _ _ _,d,q _ (n+1) _ (f _ _ d).1 (f _ _ d).2 (by lia)⟩;have p:∀{i:Int},0<=i->i<2147483647->CMul i i:=fun h h'=>ib (by lia) (by lia);refine⟨by show(0:Int)<_;decide,ib (by decide) (by decide),qH (by decide) (by decide),by show(0:Int)<_;decide,?_⟩;have o:=f ((c % 2147483647+104729*(n:Int)+1)*48271) 2147483629 (by decide);refine⟨p o.1 (by lia),ib (by decide) (by decide),by show(0:Int)<_;decide,qH (by decide) (by decide),by show(0:Int)<_;decide,p (f _ _ (by decide)).1 (Int.lt_trans (f _ 2147483629 (by decide)).2 (by decide)),by show(0:Int)<_;decide,⟨by decide,by decide⟩,d,?_⟩;exact q _ (n+1) _ (f _ _ d).1 (f _ _ d).2 (by lia)
inductive f9 (args:SA)(k:SK):Prop
 |mk (ns n z:_) (_:args=[.own (aH ns n z)]) (_:ns.length<=63) (_:n+3<=1000000000000) (_:∀r n' z',0<=r->r<=999999999->n'<=n+3->k (fi r) [.own (aH ns n' z')])
theorem Of:∀args k,f9 args k->aM (aF (Gp aN) Gq) (a9 args k) (entry 2 args):=by rintro args k ⟨ns,n,z,rfl,a,j,q⟩;refine⟨rfl,ns,n,z,6,rfl,a,by lia,by decide,by decide,fun w n1 d l m f=>?_⟩;refine aE (fun g=>?_) (fun g=>?_);refine⟨rfl,ns,n1,d,3,rfl,a,by lia,by decide,by decide,fun r b c h0 h1 e=>?_⟩;exact q _ b c (by lia) (by lia) (by lia);refine aE (fun g2=>?_) (fun g2=>?_);refine⟨rfl,ns,n1,d,40000,rfl,a,by lia,by decide,by decide,fun r b c h0 h1 e=>?_⟩;refine⟨ib (by lia) (by lia),rfl,ns,b,c,25000,rfl,a,by lia,by decide,by decide,fun o h i p s t=>?_⟩;exact q _ h i (by lia) (by lia) (by lia);have u:w≠0:=fun z=>g (by rw[z];decide);have v:w≠1:=fun z=>g2 (by rw[z];decide);refine⟨ib (by decide) (by decide),rfl,ns,n1,d,_,rfl,a,by lia,by lia,by lia,fun r b c h0 h1 e=>?_⟩;exact q _ b c (by lia) (by lia) (by lia)
noncomputable def c7:Tv->Bool
 | .tup _=>true
 |_=>false
def okTy (t:Tv):Prop:=∃n,rN t=some n
inductive gf (args:SA)(k:SK):Prop
 |mk (l:_) (_:args=[.fz (.tup l)]) (_:l.length<=16777216) (_:(∀t∈l,okTy t)) (_:k (.own (.lst ((l.drop 1).filter c7))) [.fz (.tup l)])
theorem oJ {k:List Tv->Ms->Prop}:∀(ts b:List Tv)(s:Option Sl),(∀t∈ts,okTy t)->(∀s',k (b++ts.filter c7) ⟨[s'],[],[]⟩)->bo (bd (.nm 0)) (au rj (.isi "tuple" (.var 0))).t (au rj (.var 0)).e k ts b ⟨[s],[],[]⟩
 |[],b,s,_,q=>by have:=q s;rw[filter_nil,Vk] at this;exact this
 |t::ts,b,s,h,q=>by have c:∀t∈ts,okTy t:=fun x f=>h x (Vb _ f);obtain⟨n,d⟩:=h t Vc;cases t with|tup l=>(exact oJ ts (b++[.tup l]) _ c fun s'=>by simpa [WZ,c7] using q s')| «at» v =>( cases v <;> first | (cases d; done) | exact oJ ts b _ c fun s' => by simpa [WZ, c7] using q s')|lst l=>(exact oJ ts b _ c fun s'=>by simpa [WZ,c7] using q s')|dic l=>(exact oJ ts b _ c fun s'=>by simpa [WZ,c7] using q s')|scr l=>(cases d)|ktp l=>(cases d)|fnv a=>cases d
theorem TZ (l:List q):aV l (some 1) none=l.drop 1:=by
 unfold aV;cases l with
 |nil=>rfl
 |cons a l=>
  show(List.drop (min (1:Int).toNat (l.length+1)) (a::l)).take (l.length+1-min (1:Int).toNat (l.length+1))=l;have:min (1:Int).toNat (l.length+1)=1:=by show min 1 (l.length+1)=1;lia
  rw[this];simp
theorem RB:∀args k,gf args k->aM (aF rj Af) (a9 args k) (entry 1 args):=by rintro args k ⟨l,rfl,b,a,q⟩;have e:=TZ l;refine⟨?_,rfl,?_⟩;show(aV l (some 1) none).length<=_;rw[e,Wt];lia;show bo _ _ _ _ (aV l (some 1) none) _ _;rw[e];exact oJ _ _ _ (fun t h=>a t (mem_of_mem_drop h)) fun s'=>q
theorem Df (hd:List V)(a:List Tv)(h:∀k∈a,c7 k=true):(hd.map Tv.at++a).filter c7=a:=by rw[filter_append,filter_eq_nil_iff.mpr (fun t b=>by obtain⟨v,_,rfl⟩:=VG.mp b;simp [c7]),VY,filter_eq_self.mpr h]
def ji (s:Sl)(l:List Tv):Prop:=s=.own (.lst l)∨s=.fz (.lst l)
inductive iQ (args:SA)(k:SK):Prop
 |mk (l s ks:_) (_:args=[.fz (.tup l),s]) (_:ji s ks) (_:l.length+ks.length<=16777216) (_:(∀t∈l,okTy t)) (_:k (.fz (.tup (l.filter (fun t => !c7 t)++ks))) args)
theorem oH {k:List Tv->Ms->Prop}:∀(l a:List Tv)(s:Option Sl),(∀t∈l,okTy t)->(∀s',k (a++l.filter fun t => !c7 t) ⟨[s'],[],[]⟩)->bo (bd (.nm 0)) (au rg (.not (.isi "tuple" (.var 0)))).t (au rg (.var 0)).e k l a ⟨[s],[],[]⟩
 |[],a,s,_,q=>by have:=q s;rw[filter_nil,Vk] at this;exact this
 |t::l,a,s,h,q=>by have b:∀t∈l,okTy t:=fun x d=>h x (Vb _ d);obtain⟨n,c⟩:=h t Vc;cases t with|tup u=>(exact oH l a _ b fun s'=>by simpa [WZ,c7] using q s')| «at» v =>( cases v <;> first | (cases c; done) | exact oH l (a++[_]) _ b fun s' => by simpa [WZ, c7] using q s')|lst u=>(exact oH l (a++[_]) _ b fun s'=>by simpa [WZ,c7] using q s')|dic u=>(exact oH l (a++[_]) _ b fun s'=>by simpa [WZ,c7] using q s')|scr u=>(cases c)|ktp u=>(cases c)|fnv u=>cases c
theorem Pj:∀args k,iQ args k->aM (aF rg zU) (a9 args k) (entry 2 args):=by rintro args k ⟨l,s,a,rfl,c,d,b,q⟩;have e:(l.filter fun t => !c7 t).length<=l.length:=length_filter_le _ _;rcases c with rfl|rfl;refine⟨by lia,rfl,oH l [] _ b fun s'=>⟨?_,q⟩⟩;show([]++l.filter fun t => !c7 t).length+a.length<=_;rw[VY];lia;refine⟨by lia,rfl,oH l [] _ b fun s'=>⟨?_,q⟩⟩;show([]++l.filter fun t => !c7 t).length+a.length<=_;rw[VY];lia
noncomputable def wordsL:List Str:=["num","name","op","pick","let","set","say","take","do","again","call","own","hole"]
def Nm (x:Str):Prop:=1<=x.length/\x.length<=8/\Az x
inductive d5 (args:SA)(k:SK):Prop
 |mk (ns:List Int) (n:Nat) (z:Int) (s:Sl) (xs ds:List Str) (_:args=[.own (aH ns n z),s]) (_:ji s (xs.map ts)) (_:ns.length<=63) (_:n+10<=1000000000000) (_:xs.length<=16777216) (_:ds.length<=40) (_:(∀x∈xs,x∈ds)) (_:(∀x∈xs,Nm x)) (_:∀x n' z',Nm x->x∉xs->x∉wordsL->n'<=n+10->k (fs x) [.own (aH ns n' z'),s])
inductive gg (args:SA)(k:SK):Prop
 |mk (ns n z m:_) (_:args=[.own (aH ns n z),fi m]) (_:ns.length<=63) (_:0<=m) (_:m<=40) (_:n+1000<=1000000000000) (_:∀(xs:List Str) n' z',(xs.length:Int)=m->xs.Nodup->(∀x∈xs,Nm x/\x∉wordsL)->n'<=n+1000->k (.own (.lst (xs.map ts))) [.own (aH ns n' z'),fi m])
theorem Fo {n0:Nat}(f:ns.length<=63)(j:m<=40)(k:n0+1000<=1000000000000){P:PD}(g:∀(xs:List Str)(n:Nat)(z:Int)(s:Option Sl),(xs.length:Int)=m->xs.Nodup->(∀x∈xs,Nm x/\x∉wordsL)->n<=n0+10*xs.length->P.nx ⟨[some (.out 0),some (fi m),some (.own (.lst (xs.map ts))),s],[.own (aH ns n z)],[]⟩):∀(l:List Tv)(xs:List Str)(n:Nat)(z:Int)(s:Option Sl),(xs.length:Int)+l.length=m->xs.Nodup->(∀x∈xs,Nm x/\x∉wordsL)->n<=n0+10*xs.length →cN (bd (.nm 3)) (aM (aF (zV d5) (.exp (.mth .app (.var 2) (.cons (.call 0 (.cons (.var 0) (.cons (.var 2) .nil))) .nil))))) P l ⟨[some (.out 0),some (fi m),some (.own (.lst (xs.map ts))),s],[.own (aH ns n z)],[]⟩
 |[],xs,n,z,s,h,nd,c,i=>g xs n z s (by simpa using h) nd c i
 |t::l,xs,n,z,s,h,nd,c,i=>by
  have h':(xs.length:Int)+(l.length+1:Nat)=m:=h;refine⟨rfl,rfl,ns,n,z,_,xs,xs,rfl,.inl rfl,f,by lia,by lia,by lia,fun _ h=>h,fun x d=>(c x d).1,fun x o p r u v B=>⟨?_,?_⟩⟩;show(xs.map ts).length<16777216;rw[U6];lia;have e:xs.map ts++[ts x]=(xs++[x]).map ts:=by simp
  show cN _ _ _ l ⟨[_,_,some (.own (.lst (xs.map ts++[ts x]))),_],_,_⟩;rw[e];refine Fo f j k g l (xs++[x]) o p _ (by simp;lia) (nodup_append.mpr ⟨nd,by simp,fun a w b hb=>by simp at hb;rw[hb];exact fun z=>u (z▸w)⟩) (fun y A=>?_) (by simp;lia);rcases Vo.mp A with q|q;exact c y q;simp at q;rw[q];exact⟨r,v⟩
theorem Oe:∀args k,gg args k->aM (aF (zV d5) Gn) (a9 args k) (entry 4 args):=by rintro args k ⟨ns,n,z,m,rfl,g,h0,h1,h,q⟩;refine⟨fun M=>∃(xs:List Str)(e:Nat)(f:Int)(s:Option Sl),M=⟨[some (.out 0),some (fi m),some (.own (.lst (xs.map ts))),s],[.own (aH ns e f)],[]⟩/\(xs.length:Int)=m/\xs.Nodup/\(∀x∈xs,Nm x/\x∉wordsL)/\e<=n+10*xs.length,?_,?_⟩;refine⟨⟨by lia,by lia⟩,Fo g h1 h ?_ _ [] n z none ?_ nodup_nil (fun x i=>by cases i) (by simp)⟩;exact fun xs e f s a b c d=>⟨xs,e,f,s,rfl,a,b,c,d⟩;unfold fc;rw[U6,Wz];show(0:Int)+_=_;lia;rintro M ⟨xs,e,f,s,rfl,a,b,c,d⟩;exact q xs e f a b c (by lia)
inductive Tree (q : Type) where
 |nd (a : q) (ks:List (Tree q))
mutual
noncomputable def Tree.tv {q : Type}(f : q -> List V):Tree q -> Tv
 | .nd a b=>.tup ((f a).map Tv.at++Tree.tvL f b)
noncomputable def Tree.tvL {q : Type}(f : q -> List V):List (Tree q)->List Tv
 |[]=>[]
 |k::a=>Tree.tv f k::Tree.tvL f a
end
mutual
noncomputable def Tree.cnt {q : Type}:Tree q -> Nat
 | .nd _ a=>1+Tree.cntL a
noncomputable def Tree.cntL {q : Type}:List (Tree q)->Nat
 |[]=>0
 |k::a=>Tree.cnt k+Tree.cntL a
end
mutual
noncomputable def Tree.all {q : Type}:Tree q -> List (Tree q)
 | .nd a b=>.nd a b::Tree.allL b
noncomputable def Tree.allL {q : Type}:List (Tree q)->List (Tree q)
 |[]=>[]
 |k::a=>Tree.all k++Tree.allL a
end
theorem ef (f : q -> List V):∀a:List (Tree q),Tree.tvL f a=a.map (Tree.tv f)
 |[]=>rfl
 |k::a=>by rw[Tree.tvL,ef f a];rfl
inductive Wd where
 |num (i:Int)|name (x:Str)|take|op (s:Str)|pick|lt (x:Str)|st (x:Str)|say|do|again (m:Int)|call (f:Str)
noncomputable def Wd.hd:Wd->List V
 | .num i=>[.str "num",.int i]
 | .name x=>[.str "name",.str x]
 | .take=>[.str "take"]
 | .op s=>[.str "op",.str s]
 | .pick=>[.str "pick"]
 | .lt x=>[.str "let",.str x]
 | .st x=>[.str "set",.str x]
 | .say=>[.str "say"]
 | .do=>[.str "do"]
 | .again m=>[.str "again",.int m]
 | .call f=>[.str "call",.str f]
abbrev E:=Tree Wd
abbrev E.tv (e:E):Tv:=Tree.tv Wd.hd e
abbrev E.tvL (a:List E):List Tv:=Tree.tvL Wd.hd a
noncomputable def fJ:List Str:=["+","-","*","/","<","="]
structure Rl where
 X:Str->Prop
 A:Str->Nat->Prop
def Ar (R:Rl):Wd->Nat->Prop
 | .num i,m=>m=0/\0<=i/\i<=999999999
 | .name x,m=>m=0/\R.X x
 | .take,m=>m=0
 | .op s,m=>m=2/\s∈fJ
 | .pick,m=>m=3
 | .lt x,m=>m=2/\R.X x
 | .st x,m=>m=1/\R.X x
 | .say,m=>m=1
 | .do,m=>1<=m/\m<=6
 | .again j,m=>m=1/\0<=j/\j<=5
 | .call f,m=>m<=7/\Nm f/\R.A f m
inductive Ex (R:Rl):Nat->E->Prop where
 |mk {n:Nat} {w:Wd} {ks:List E} (h:Ar R w ks.length) (hk:∀k∈ks,Ex R n k):Ex R (n+1) (.nd w ks)
variable {R:Rl}
theorem Ar.mono {R':Rl}(a:∀x,R.X x->R'.X x)(b:∀f m,R.A f m->R'.A f m){w:Wd}{m:Nat}(h:Ar R w m):Ar R' w m:=by cases w with|name x=>exact⟨h.1,a _ h.2⟩|lt x=>exact⟨h.1,a _ h.2⟩|st x=>exact⟨h.1,a _ h.2⟩|call f=>exact⟨h.1,h.2.1,b _ _ h.2.2⟩|_=>exact h
theorem Ex.mono {R':Rl}(a:∀x,R.X x->R'.X x)(b:∀f m,R.A f m->R'.A f m){n:Nat}{e:E}(h:Ex R n e):Ex R' n e:=by induction h with|mk h d c=>exact .mk (h.mono a b) c
theorem Ex.up {n:Nat}{e:E}(h:Ex R n e):∀{m:Nat},n<=m->Ex R m e:=by induction h with|mk h b a=>intro m c;obtain⟨j,rfl⟩:∃j,m=j+1:=⟨m-1,by lia⟩;exact .mk h fun k z=>a k z (by lia)
theorem Ar.le {w:Wd}{m:Nat}(h:Ar R w m):m<=7:=by cases w with|num i=>have:=h.1;lia|name x=>have:=h.1;lia|take=>have:m=0:=h;lia|op s=>have:=h.1;lia|pick=>have:m=3:=h;lia|lt x=>have:=h.1;lia|st x=>have:=h.1;lia|say=>have:m=1:=h;lia| «do» => have := h.2; lia|again j=>have:=h.1;lia|call f=>exact h.1
theorem LM {l:List q}(h:l.length=2):∃a b,l=[a,b]:=by match l,h with|[a,b],_=>exact⟨a,b,rfl⟩
theorem E.tp (e:E):c7 e.tv=true:=by cases e;rfl
theorem E.okTy (e:E):okTy e.tv:=by cases e;exact⟨_,rfl⟩
theorem ow (w:Wd):(∀v∈w.hd,okTy (.at v))/\1<=w.hd.length/\w.hd.length<=2:=by
 cases w <;> exact⟨fun v a=>by
  simp only [Wd.hd,Vg,Vp,VN] at a
  first
   | (rcases a with rfl|rfl <;> exact⟨_,rfl⟩)
   | (subst a;exact⟨_,rfl⟩),by simp [Wd.hd],by simp [Wd.hd]⟩
theorem Ph (a:List E):(E.tvL a).filter (fun t => !c7 t)=[]:=by rw[E.tvL,ef];exact filter_eq_nil_iff.mpr fun t b=>by obtain⟨k,_,rfl⟩:=VG.mp b;simp [E.tp k]
theorem cj (a:List E):(E.tvL a).length=a.length:=by rw[E.tvL,ef,U6]
theorem Od (w:Wd)(a:List E):((w.hd.map Tv.at++E.tvL a).drop 1).filter c7=E.tvL a:=by
 have h:=(ow w).2.1;have e:(w.hd.map Tv.at++E.tvL a).drop 1=(w.hd.drop 1).map Tv.at++E.tvL a:=by rw[List.drop_append_of_le_length (by rw[U6];exact h),map_drop]
 rw[e];exact Df _ _ fun k b=>by rw[E.tvL,ef] at b;obtain⟨k,_,rfl⟩:=VG.mp b;exact E.tp k
theorem LU (w:Wd)(a:List E):(w.hd.map Tv.at++E.tvL a).filter (fun t => !c7 t)=w.hd.map Tv.at:=by rw[filter_append,Ph,Vk];exact filter_eq_self.mpr fun t b=>by obtain⟨k,_,rfl⟩:=VG.mp b;rfl
theorem yG (w:Wd)(a:List E):∀t∈w.hd.map Tv.at++E.tvL a,okTy t:=fun t b=>by rcases Vo.mp b with h|h;obtain⟨v,c,rfl⟩:=VG.mp h;exact(ow w).1 v c;rw[E.tvL,ef] at h;obtain⟨k,_,rfl⟩:=VG.mp h;exact E.okTy k
inductive aj (args:SA)(k:SK):Prop
 |mk (w:Wd) (ks:List E) (_:args=[.fz (Tree.tv Wd.hd (.nd w ks))]) (_:ks.length<=1000) (_:k (.own (.lst (E.tvL ks))) [.fz (Tree.tv Wd.hd (.nd w ks))])
theorem LR {args:List Sl}{k:Sl->List Sl->Prop}(h:aj args k):gf args k:=by obtain⟨w,a,rfl,b,q⟩:=h;have c:=(ow w).2.2;refine⟨w.hd.map Tv.at++E.tvL a,rfl,?_,yG w a,?_⟩;rw[U9,U6,cj];lia;rw[Od];exact q
theorem Pg:∀args k,aj args k->aM (aF rj Af) (a9 args k) (entry 1 args):=fun args k h=>RB args k (LR h)
inductive bD (args:SA)(k:SK):Prop
 |mk (w:Wd) (ks:List E) (s:Sl) (js:List Tv) (_:args=[.fz (Tree.tv Wd.hd (.nd w ks)),s]) (_:ji s js) (_:ks.length<=1000) (_:js.length<=1000) (_:k (.fz (.tup (w.hd.map Tv.at++js))) [.fz (Tree.tv Wd.hd (.nd w ks)),s])
theorem Ug {args:List Sl}{k:Sl->List Sl->Prop}(h:bD args k):iQ args k:=by obtain⟨w,a,s,b,rfl,c,d,e,q⟩:=h;have f:=(ow w).2.2;refine⟨w.hd.map Tv.at++E.tvL a,s,b,rfl,c,?_,yG w a,?_⟩;rw[U9,U6,cj];lia;rw[LU];exact q
theorem Oc:∀args k,bD args k->aM (aF rg zU) (a9 args k) (entry 2 args):=fun args k h=>Pj args k (Ug h)
inductive aK (R:Rl)(N:Nat)(args:SA)(k:SK):Prop
 |mk (e:E) (_:args=[.fz e.tv]) (_:Ex R N e) (_:k (fi e.cnt) [.fz e.tv])
theorem F4 {k:List Tv->Ms->Prop}:∀(a:List E)(b:List Tv)(s:Option Sl),(∀t∈a,Ex R N t)->(∀s',k (b++a.map fun t=>ti t.cnt) ⟨[s'],[],[]⟩)->bo (bd (.nm 0)) (au (uM aj (aK R N)) .tt).t (au (uM aj (aK R N)) (.call 1 (.cons (.var 0) .nil))).e k (E.tvL a) b ⟨[s],[],[]⟩
 |[],b,s,_,q=>by have:=q s;rw[map_nil,Vk] at this;exact this
 |t::a,b,s,h,q=>⟨rfl,t,rfl,h t Vc,F4 a (b++[ti t.cnt]) _ (fun x c=>h x (Vb _ c)) fun s'=>by simpa using q s'⟩
theorem Oa (a:List E):((a.map fun t=>ti t.cnt).map vU).sum=(Tree.cntL a:Nat):=by induction a with|nil=>rfl|cons t ts b=>rw[VB,VB,List.sum_cons,b];show(t.cnt:Int)+_=((t.cnt+Tree.cntL ts:Nat):Int);lia
theorem Pf (R:Rl)(N:Nat):∀args k,aK R (N+1) args k->aM (aF (uM aj (aK R N)) Gk) (a9 args k) (entry 1 args):=by
 rintro args k ⟨e,rfl,h,q⟩;cases h with
 | @mk _ w a h b=>
  have f:=h.le;refine⟨rfl,w,a,rfl,by lia,?_⟩;refine⟨by rw[cj];lia,rfl,F4 a [] _ b fun s'=>?_⟩;refine⟨fun t c=>by obtain⟨u,_,rfl⟩:=VG.mp c;exact⟨_,rfl⟩,?_⟩;have d:∀i:Int,i=1+(Tree.cntL a:Nat)->k (fi i) _:=fun i B=>by
   have:((Tree.cnt (.nd w a):Nat):Int)=i:=by rw[B,Tree.cnt];lia
   rw[<- this];exact q
  exact d _ (by rw[VY,Oa])
noncomputable def mi (m:Int)(i:Nat):Int:=(m-1+i) % 8+1
def jk (x m:Int)(u:Str)(j:Nat):Prop:=(u.length:Int)=mi m j/\u.cps.toList[0]?=some (97+((x+j) % 26).toNat)
instance (x m:Int)(u:Str)(j:Nat):Decidable (jk x m u j):=by unfold jk;exact inferInstance
theorem Pe {x:Int}{u:Str}(B:i<=60)(f:j<i)(a:jk x m u i)(b:jk x m u j):False:=by
 obtain⟨d,e⟩:=a;obtain⟨b1,c⟩:=b;unfold mi at d b1;rw[e] at c;have g:=Vq c;have h1:0<=(x+i) % 26:=by lia
 have h:0<=(x+j) % 26:=by lia
 omega
structure Left (x m:Int)(ex R:List Str)(i:Nat):Prop where
 few:R.length+i<=54
 all:∀u∈ex,u∈R∨∃j,j<i/\jk x m u j
theorem Left.zero {x:Int}{ex:List Str}(h:ex.length<=53):Left x m ex ex 0:=⟨by lia,fun u a=>.inl a⟩
theorem Left.one {x:Int}{ex:List Str}(h:ex.length<=53):Left x m ex ex 1:=⟨by lia,fun u a=>.inl a⟩
theorem Left.next {x:Int}{ex R:List Str}{t:Str}(h:Left x m ex R i)(c:t∈ex)(k:jk x m t i):Left x m ex (R.filter fun u => !decide (jk x m u i)) (i+1):=by
 have d:t∈R:=by rcases h.all t c with z|⟨j,b,a⟩;exact z;exact(Pe (by have:=h.few;lia) b k a).elim
 have f:(R.filter fun u => !decide (jk x m u i)).length<R.length:=by rw[List.length_filter_lt_length_iff_exists];exact⟨t,d,by simp [k]⟩
 refine⟨by have:=h.few;lia,fun u e=>?_⟩;rcases h.all u e with z|⟨j,b,a⟩;by_cases q:jk x m u i;exact .inr ⟨i,WL _,q⟩;exact .inl (mem_filter.mpr ⟨z,by simp [q]⟩);exact .inr ⟨j,by lia,a⟩
theorem lF (t:Str)(xs:List Str):iu (.str t) ((xs.map ts).map gR)=true↔t∈xs:=by
 have e:(xs.map ts).map gR=xs.map V.str:=by rw[map_map];rfl
 rw[e];unfold iu;rw[List.any_map,List.any_eq_true];constructor;rintro⟨y,a,e⟩;have b:(y==t)=true:=e;rw[<- Vt.mp b];exact a;intro h;exact⟨t,h,W6 t⟩
theorem iI (xs:List Str):flatL (xs.map ts):=fun t h=>by obtain⟨i,_,rfl⟩:=VG.mp h;exact⟨_,rfl,rfl⟩
theorem ze {xs:List Str}(h:(true ^^ (xs.map ts).isEmpty)=true):xs ≠ []:=fun z=>by rw[z] at h;exact absurd h (by decide)
theorem Nm.ch {c:Nat}(a:Az x)(h:c∈x.cps.toList):Az ⟨#[c]⟩:=fun d hd=>by
 have:d=c:=by simpa using hd
 rw[this];exact a c h
theorem zt (h:Az x):Az (Txt.slice x lo B):=by unfold Txt.slice;split;exact h;intro c b;have a:=b;simp only [mem_filterMap] at a;obtain⟨i,_,e⟩:=a;exact h c (Array.mem_toList_iff.mpr (Array.mem_of_getElem? e))
theorem DV {t:Str}(h:1<=t.length):∃c,cJ t.cps.toList 0=some c/\c∈t.cps.toList:=iH (by decide) (by
  have a:t.cps.toList.length=t.length:=by simp [Str.length]
  rw[a];lia)
instance (x:Str):Decidable (Az x):=by unfold Az;exact inferInstance
theorem N9:∀w∈wordsL,1<=w.length/\w.length<=5/\Az w:=by decide+kernel
noncomputable def smallL:List Str:=["a","b","c","d","x","y","z","n","v","aa","ab","tmp"]
theorem N8:∀w∈smallL,1<=w.length/\w.length<=8/\Az w:=by decide+kernel
theorem Nm.app {y:Str}(h1:Az x)(a:Az y)(b:1<=x.length+y.length)(c:x.length+y.length<=8):Nm (x++y):=⟨by rw[lC];exact b,by rw[lC];exact c,h1.app a⟩
def tF (b:Sl)(r:List Sl)(ns:List Int)(n:Nat)(c m u:Int)(M:Ms):Prop:=∃(x:Str)(a:Nat)(d:Int)(e f:Option Sl),M=⟨[some (.out 0),some b,some (.own (.lst (wordsL.map ts))),some (fi c),some (fi m),some (fi u),some (fs x),e,f],.own (aH ns a d)::r,[]⟩/\Nm x/\a<=n
def CC (a:Sl)(r:List Sl)(ns:List Int)(n:Nat)(z b m U:Int)(c d:Option Sl)(ex:List Str)(j:Nat)(M:Ms):Prop:=∃(i:Nat)(R:List Str)(t:Str),j+i=100/\M=⟨[some (.out 0),some a,some (.own (.lst (wordsL.map ts))),some (fi b),some (fi (mi m i)),some (fi (U+i)),some (fs t),c,d],.own (aH ns n z)::r,[]⟩/\Nm t/\Left U m ex R i/\(0<i->jk U m t i)
theorem N7 {n a:Nat}{c e U:Int}{s:Sl}{xs d:List Str}{k:Sl->List Sl->Prop}{b:Sl}{f h:Option Sl}{H:Ob}
  (V:n+10<=1000000000000) (hd:d.length<=40) (I:∀x∈xs,x∈d) (J:Nm x) (W:a<=n+9) (X:1<=m/\m<=8)
  (A:(b=.out 1/\r=[.own (.lst (xs.map ts))]/\s=.own (.lst (xs.map ts)))∨(b=.fz (.lst (xs.map ts))/\r=[]/\s=.fz (.lst (xs.map ts))))
  (q:∀x C K,Nm x->x∉xs->x∉wordsL->C<=n+10->k (fs x) [.own (aH ns C K),s]):
  aM (aF (zI aN cb) (.cut (.whl (.or (.cmp .isin (.var 6) (.var 1)) (.cmp .isin (.var 6) (.var 2))) (.seq (.set 5 (.bin .add (.var 5) (.cst (.int 1)))) (.seq (.set 4 (.bin .add (.bin .mod (.var 4) (.cst (.int 8))) (.cst (.int 1)))) (.set 6 (.call 1 (.cons (.var 5) (.cons (.var 4) .nil))))))) (.ret (.var 6)))) (a9 [.own H,s] k) ⟨[some (.out 0),some b,some (.own (.lst (wordsL.map ts))),some (fi e),some (fi m),some (fi U),some (fs x),f,h],.own (aH ns a c)::r,[]⟩:=by
 have hex:(d++wordsL).length<=53:=by
  rw[U9];have:wordsL.length=13:=by decide+kernel
  lia
 rw[lj];refine⟨fun M=>∃(y:Str)(o p:Option Sl),M=⟨[some (.out 0),some b,some (.own (.lst (wordsL.map ts))),some (fi e),o,p,some (fs y),f,h],.own (aH ns a c)::r,[]⟩/\Nm y/\y∉xs/\y∉wordsL,?_,?_⟩
 .refine⟨CC b r ns a c e m U f h (d++wordsL),⟨100,0,_,x,rfl,?_,J,Left.zero hex,fun z=>absurd z (VI _)⟩,?_⟩
  .have u:mi m 0=m:=by unfold mi;lia
   have v:U+((0:Nat):Int)=U:=by lia
   rw[u,v]
  .rintro j M ⟨i,R,t,Y,rfl,L,D,N⟩
   have B:i<=54:=by have:=D.few;lia
   have u:mi m i % 8+1=mi m (i+1):=by unfold mi;lia
   have v:U+(i:Int)+1=U+((i+1:Nat):Int):=by lia
   have Z:1<=mi m (i+1)/\mi m (i+1)<=8:=by unfold mi;lia
   have E:t∈d++wordsL->∀t':Str,(t'.length:Int)=mi m i % 8+1->Az t'->(1<=mi m i % 8+1->t'.cps.toList[0]?=some (97+((U+i+1) % 26).toNat)) →∃F,F<j/\CC b r ns a c e m U f h (d++wordsL) F ⟨[some (.out 0),some b,some (.own (.lst (wordsL.map ts))),some (fi e),some (fi (mi m i % 8+1)),some (fi (U+i+1)),some (fs t'),f,h],.own (aH ns a c)::r,[]⟩:=by intro O t' h1 w l;rw[u] at h1 l;rw[v] at l;have G:jk U m t' (i+1):=⟨h1,l (by lia)⟩;rw[u,v];by_cases P:i=0;subst P;exact⟨j-1,by lia,1,_,t',by lia,rfl,⟨by lia,by lia,w⟩,Left.one hex,fun _=>G⟩;exact⟨j-1,by lia,i+1,_,t',by lia,rfl,⟨by lia,by lia,w⟩,D.next O (N (by lia)),fun _=>G⟩
   have Q:¬ (false ^^ iu (.str t) ((xs.map ts).map gR))=true->¬ (false ^^ iu (.str t) ((wordsL.map ts).map gR))=true->∃(y:Str)(o p:Option Sl),(⟨[some (.out 0),some b,some (.own (.lst (wordsL.map ts))),some (fi e),some (fi (mi m i)),some (fi (U+i)),some (fs t),f,h],.own (aH ns a c)::r,[]⟩:Ms)=⟨[some (.out 0),some b,some (.own (.lst (wordsL.map ts))),some (fi e),o,p,some (fs y),f,h],.own (aH ns a c)::r,[]⟩/\Nm y/\y∉xs/\y∉wordsL:=fun g g2=>
    ⟨t,_,_,rfl,L,fun z=>g (by rw[(lF t xs).mpr z];rfl),fun z=>g2 (by rw[(lF t wordsL).mpr z];rfl)⟩
   have S:(false ^^ iu (.str t) ((xs.map ts).map gR))=true->t∈d++wordsL:=fun g=>Vo.mpr (.inl (I t ((lF t xs).mp (by simpa using g))));have T:(false ^^ iu (.str t) ((wordsL.map ts).map gR))=true->t∈d++wordsL:=fun g=>Vo.mpr (.inr ((lF t wordsL).mp (by simpa using g)));rcases A with ⟨rfl,rfl,rfl⟩|⟨rfl,rfl,rfl⟩
   all_goals
    refine⟨⟨iI xs,rfl⟩,aE (fun g=>?_) (fun g=>⟨⟨iI wordsL,rfl⟩,aE (fun g2=>?_) (fun g2=>Q g g2)⟩)⟩
    .exact⟨by show(0:Int)<8;decide,rfl,_,_,rfl,by lia,by lia,E (S g)⟩
    .exact⟨by show(0:Int)<8;decide,rfl,_,_,rfl,by lia,by lia,E (T g2)⟩
 .rintro M ⟨y,o,p,rfl,h1,w,l⟩;rcases A with ⟨rfl,rfl,rfl⟩|⟨rfl,rfl,rfl⟩ <;> exact q y a c h1 w l (by lia)
theorem ML:∀args k,d5 args k->aM (aF (zI aN cb) ER) (a9 args k) (entry 9 args):=by
 rintro args k ⟨ns,n,z,s,xs,ds,rfl,hs,A,hn,R,hd,pX,S,q⟩;rcases hs with rfl|rfl;all_goals
  refine⟨by decide,rfl,ns,n,z,6,rfl,A,by lia,by decide,by decide,fun I n1 z1 w0 w1 hn1=>?_⟩;refine⟨rfl,ns,n1,z1,8,rfl,A,by lia,by decide,by decide,fun m n2 z2 m0 m1 iw=>?_⟩;refine⟨rfl,ns,n2,z2,456976,rfl,A,by lia,by decide,by decide,fun u n3 z3 u0 u1 i5=>?_⟩;refine⟨qH (by decide) (by decide),rfl,ns,n3,z3,456976,rfl,A,by lia,by decide,by decide,fun v n4 T v0 v1 l7=>?_⟩;refine⟨rfl,_,_,rfl,by lia,by lia,fun x Kg V UG=>?_⟩;have b:Nm x:=⟨by lia,by lia,V⟩;generalize hU:u*456976+v=U;have UR:0<=U:=by lia
  refine⟨tF _ _ ns (n+6) I (1+m) U,aE (fun g=>?_) (fun g=>⟨x,n4,T,none,none,rfl,b,by lia⟩),?_⟩
  .refine⟨rfl,ns,n4,T,13,rfl,A,by lia,by decide,by decide,fun r K L p w kO=>?_⟩;obtain⟨t,e,B⟩:=iH (l:=wordsL.map ts) (i:=r) p w;obtain⟨N,O,rfl⟩:=VG.mp B;obtain⟨c,P,Q⟩:=DV b.1;have C:=N9 N O;have W:(⟨#[c]⟩:Str).length=1:=rfl;refine bx e (bx (o:=(cJ x.cps.toList 0).map fun c=>.at (.str ⟨#[c]⟩)) (t:=ts ⟨#[c]⟩) (by rw[P];rfl) ⟨?_,_,K,L,none,none,rfl,Nm.app C.2.2 (Nm.ch V Q) (by lia) (by lia),by lia⟩);show N.length+1<=16777216;lia
  rintro M ⟨x,K,L,d,f,rfl,b,kO⟩;refine⟨tF _ _ ns (n+7) I (1+m) U,aE (fun g=>?_) (fun g=>⟨x,K,L,d,f,rfl,b,by lia⟩),?_⟩
  .refine⟨rfl,ns,K,L,12,rfl,A,by lia,by decide,by decide,fun r D E p w sC=>?_⟩;obtain⟨t,e,B⟩:=iH (l:=smallL.map ts) (i:=r) p w;obtain⟨N,O,rfl⟩:=VG.mp B;have C:=N8 N O;exact bx e ⟨_,D,E,d,f,rfl,⟨C.1,C.2.1,C.2.2⟩,by lia⟩
  rintro M ⟨x,D,E,d,f,rfl,b,sC⟩;have tk:xs ≠ []->∀{r:Int},0<=r->r<((xs.map ts).length:Nat)->∃y,cJ (xs.map ts) r=some (ts y)/\y∈xs:=fun _ r p w=>by obtain⟨t,e,B⟩:=iH (l:=xs.map ts) (i:=r) p w;obtain⟨y,F,rfl⟩:=VG.mp B;exact⟨y,e,F⟩
  have tl:xs ≠ []->(0:Int)<((xs.map ts).length:Nat):=fun h=>by rw[U6];have:=We.mpr h;lia
  refine⟨tF _ _ ns (n+8) I (1+m) U,aE (fun g=>aE (fun g2=>?_) (fun g2=>⟨x,D,E,d,f,rfl,b,by lia⟩)) (fun g=>⟨x,D,E,d,f,rfl,b,by lia⟩),?_⟩
  .have ne:=ze g2
   refine⟨rfl,ns,D,E,_,rfl,A,by lia,tl ne,by rw[U6];lia,fun r G H p w w4=>?_⟩;obtain⟨y,e,F⟩:=tk ne p w;have a:=S y F;have h8:0<=U % 8/\U % 8<8:=⟨by lia,by lia⟩;have W:=NK (x:=y++x) (j:=1+U % 8) (by rw[lC];have:=a.1;lia) (by lia);have c2:=CJ (x:=y++x) (j:=1+U % 8) (by lia);have l1:=a.2.1;have l2:=b.2.1;refine bx e ⟨?_,by show(0:Int)<8;decide,?_,_,G,H,d,f,rfl,⟨by lia,by lia,zt (a.2.2.app b.2.2)⟩,by lia⟩
   .show y.length+x.length<=16777216;lia
   .show(Txt.slice (y++x) none (some (1+U % 8))).length<=16777216;lia
  rintro M ⟨x,G,H,d,f,rfl,b,w4⟩;refine⟨tF _ _ ns (n+9) I (1+m) U,aE (fun g=>aE (fun g2=>?_) (fun g2=>⟨x,G,H,d,f,rfl,b,by lia⟩)) (fun g=>⟨x,G,H,d,f,rfl,b,by lia⟩),?_⟩
  .have ne:=ze g2
   refine⟨rfl,ns,G,H,_,rfl,A,by lia,tl ne,by rw[U6];lia,fun r X Y p w Z=>?_⟩;obtain⟨y,e,F⟩:=tk ne p w;have a:=S y F;have l1:=a.2.1;have l0:=a.1;obtain⟨c,P,Q⟩:=DV b.1;have Bj:(0:Int)<(y.length:Nat):=by lia
   have h9:0<=U % (y.length:Nat)/\U % (y.length:Nat)<(y.length:Nat):=⟨Int.emod_nonneg _ (by lia),Xf _ Bj⟩;generalize hJ:U % (y.length:Nat)=J at h9;have W:=CJ (x:=y) (j:=J) h9.1;have c3:=Ox (x:=y) (i:=J+1) (by lia) (by lia);have hs1:=Txt.slice_le y none (some J);have c4:(⟨#[c]⟩:Str).length=1:=rfl;refine bx e ⟨Bj,?_⟩;subst hJ;refine⟨?_,bx (o:=(cJ x.cps.toList 0).map fun c=>.at (.str ⟨#[c]⟩)) (t:=ts ⟨#[c]⟩) (by rw[P];rfl) ⟨?_,?_,?_,_,X,Y,_,_,rfl,Nm.app ((zt a.2.2).app (Nm.ch b.2.2 Q)) (zt a.2.2) ?_ ?_,by lia⟩⟩
   .show(Txt.slice y none (some (U % (y.length:Nat)))).length<=16777216;lia
   .show(Txt.slice y none (some (U % (y.length:Nat)))).length+1<=16777216;lia
   .show(Txt.slice y (some (U % (y.length:Nat)+1)) none).length<=16777216;lia
   .show(Txt.slice y none (some (U % (y.length:Nat)))++(⟨#[c]⟩:Str)).length+(Txt.slice y (some (U % (y.length:Nat)+1)) none).length<=16777216;rw[lC];lia
   .rw[lC];lia
   .rw[lC];lia
  rintro M ⟨x,X,Y,d,f,rfl,b,Z⟩;exact N7 hn hd pX b Z ⟨by lia,by lia⟩ (by simp) q
theorem Ex.one {e:E}(h:Ex R 1 e):e.cnt=1:=by cases h with| @mk _ w a h b=>cases a with|nil=>simp [Tree.cnt,Tree.cntL]|cons k a=>cases b k Vc
noncomputable def bj (r:Int):Nat:=(r-6).toNat
structure Wo where
 names:List Str
 lets:List Str
 fs:List (Str×Nat)
 ws:List (aw×Tv)
 sd:List E
 room:Int
 toil:Int
def gF (p:Str×Nat):Tv:=.tup [ts p.1,ti p.2]
def bO (W:Wo):Ob:=.dic [(.inr "names",.lst (W.names.map ts)),(.inr "lets",.lst (W.lets.map ts)),(.inr "functions",.lst (W.fs.map gF)),(.inr "works",.dic W.ws),(.inr "seeds",.lst (E.tvL W.sd)),(.inr "room",ti W.room),(.inr "toil",ti W.toil),(.inr "takes",.at (.bl true))]
structure WoOk (R:Rl)(W:Wo):Prop where
 n0:W.names ≠ []
 n1:W.names.length<=40
 l1:W.lets.length<=40
 f1:W.fs.length<=40
 nX:∀x∈W.names,R.X x
 lX:∀x∈W.lets,R.X x
 sX:W.sd.length<=40/\∀e∈W.sd,Ex R 4 e/\e.cnt<=8
 wA:∀(f:Str)(m:Nat),R.A f m->∃i,cF W.ws (.inr f)=some (ti i)
 fA:∀p∈W.fs,R.A p.1 p.2/\Nm p.1/\p.2<=6/\∃i,cF W.ws (.inr p.1)=some (ti i)
noncomputable def Wo.at (W:Wo)(r t:Int):Wo:={ W with room:=r,toil:=t }
theorem WoOk.at {W:Wo}(h:WoOk R W)(r t:Int):WoOk R (W.at r t):=⟨h.n0,h.n1,h.l1,h.f1,h.nX,h.lX,h.sX,h.wA,h.fA⟩
theorem qG {xs:List Str}{r:Int}(a:0<=r)(b:r<((xs.map ts).length:Nat)):∃y,cJ (xs.map ts) r=some (ts y)/\y∈xs:=by obtain⟨t,e,c⟩:=iH (l:=xs.map ts) (i:=r) a b;obtain⟨y,d,rfl⟩:=VG.mp c;exact⟨y,e,d⟩
theorem MK {xs:List Str}(h:¬ (false ^^ (xs.map ts).isEmpty)=true):xs ≠ []:=fun z=>h (by rw[z];rfl)
theorem tO {xs:List Str}(h:xs ≠ []):(0:Int)<((xs.map ts).length:Nat):=by rw[U6];have:=We.mpr h;lia
inductive cc (R:Rl)(args:SA)(k:SK):Prop
 |mk (ns:List Int) (n:Nat) (z:Int) (W:Wo) (s:Sl) (bs:List Str) (_:args=[.own (aH ns n z),.own (bO W),s]) (_:ji s (bs.map ts)) (_:ns.length<=63) (_:n+10<=1000000000000) (_:WoOk R W) (_:bs.length<=1000) (_:(∀x∈bs,R.X x)) (_:∀(e:E) n' z',Ex R 1 e->n'<=n+10->k (.fz (E.tv e)) [.own (aH ns n' z'),.own (bO W),s])
theorem MJ (R:Rl):∀args k,cc R args k->aM (aF (EM aN f9) EN) (a9 args k) (entry 5 args):=by
 rintro args k ⟨ns,n,z,W,s,bs,rfl,C,o,G,A,hb,f,q⟩;have u:=A.n1;have app:∀(a b c:List Str),a.map ts++b.map ts++c.map ts=(a++b++c).map ts:=fun a b c=>by simp
 have D:∀x∈W.names++bs++bs,R.X x:=fun x B=>by simp only [Vo] at B;rcases B with (h|h)|h;exact A.nX x h;exact f x h;exact f x h
 have v:∀(w:Wd),Ar R w 0->Ex R 1 (.nd w []):=fun w h=>.mk h fun k E=>by cases E
 rcases C with rfl|rfl;all_goals
  refine⟨rfl,ns,n,z,6,rfl,o,by lia,by decide,by decide,fun H n1 p I J u=>?_⟩;refine aE (fun g=>q (.nd .take []) n1 p (v _ rfl) (by lia)) (fun g=>?_);refine⟨by show(W.names.map ts).length+(bs.map ts).length<=_;rw[U6,U6];lia,by show(W.names.map ts++bs.map ts).length+(bs.map ts).length<=_;rw[U9,U6,U6];lia,?_⟩;have num:∀{d:Nat}{j:Int}(i:Int),0<=i->i<=999999999->d<=n+10->k (.fz (.tup [ts "num",ti i])) [.own (aH ns d j),.own (bO W),_]:=fun i h0 h1 t=>q (.nd (.num i) []) _ _ (v _ ⟨rfl,h0,h1⟩) t;rw[app];refine aE (fun g=>?_) (fun g=>aE (fun g2=>?_) (fun g2=>?_))
  .exact⟨rfl,ns,n1,p,rfl,o,by lia,fun r d j l m t=>num r l m (by lia)⟩
  .exact⟨rfl,ns,n1,p,rfl,o,by lia,fun r d j l m t=>num r l m (by lia)⟩
  .have ne:=MK g2;refine⟨rfl,ns,n1,p,_,rfl,o,by lia,tO ne,by rw[U6];simp only [U9];lia,fun r d j l m t=>?_⟩;obtain⟨y,e,F⟩:=qG l m;exact bx e (q (.nd (.name y) []) d j (v _ ⟨rfl,D y F⟩) (by lia))
noncomputable def D (b:Nat):Nat:=20*8 ^ b
theorem LQ (b:Nat):D (b+1)=8*D b:=by unfold D;rw[Nat.pow_succ];lia
theorem yn (b:Nat):20<=D b:=by unfold D;have:0<8 ^ b:=Nat.pos_of_ne_zero (by simp);lia
inductive br (R:Rl)(b:Nat)(args:SA)(k:SK):Prop
 |mk (ns:List Int) (n:Nat) (z:Int) (W:Wo) (s:Sl) (bs:List Str) (β tm:Int) (_:args=[.own (aH ns n z),.own (bO W),s,fi β,fi tm]) (_:ji s (bs.map ts)) (_:ns.length<=63) (_ : β=b) (_:1<=b) (_:n+D b<=1000000000000) (_:WoOk R W) (_:bs.length+b<=1000) (_:(∀x∈bs,R.X x)) (_:0<=tm) (_:tm*5 ^ b<=1000000000) (_:∀(e:E) n' z' r t,Ex R b e->e.cnt+7*bj r<=1+7*bj W.room->n'<=n+D b->k (.fz (E.tv e)) [.own (aH ns n' z'),.own (bO (W.at r t)),s,fi β,fi tm])
noncomputable def cW:List Str:=["let","set","say"]
inductive gj (R:Rl)(b:Nat)(args:SA)(k:SK):Prop
 |mk (ns:List Int) (n:Nat) (z:Int) (W:Wo) (s:Sl) (bs:List Str) (β tm:Int) (kd:Str) (_:args=[.own (aH ns n z),.own (bO W),s,fi β,fi tm,fs kd]) (_:ji s (bs.map ts)) (_:kd∈cW) (_:ns.length<=63) (_ : β - 1=b) (_:1<=b) (_:n+10+2*D b<=1000000000000) (_:WoOk R W) (_:bs.length+b+1<=1000) (_:(∀x∈bs,R.X x)) (_:0<=tm) (_:tm*5 ^ b<=1000000000) (_:∀(e:E) n' z' r t,Ex R (b+1) e->e.cnt+7*bj r<=7+7*bj W.room->n'<=n+10+2*D b->k (.fz (E.tv e)) [.own (aH ns n' z'),.own (bO (W.at r t)),s,fi β,fi tm,fs kd])
theorem zE {bs:List Str}{a0:Sl}{k:List Tv->Ms->Prop}(c:(a0=.out 0/\r=[.own (.lst (bs.map ts))])∨(a0=.fz (.lst (bs.map ts))/\r=[])):∀(l a:List Str)(s:Option Sl),(∀(b:List Str) s',(∀y∈b,y∈a∨y∈l)->b.length<=a.length+l.length->k (b.map ts) ⟨[some a0,s'],r,[]⟩)->bo (bd (.nm 1)) (au H (.cmp .notin (.var 1) (.var 0))).t (au H (.var 1)).e k (l.map ts) (a.map ts) ⟨[some a0,s],r,[]⟩
 |[],a,s,q=>q a s (fun y h=>.inl h) (by simp)
 |x::l,a,s,q=>by
  have h1:∀s,bo (bd (.nm 1)) (au H (.cmp .notin (.var 1) (.var 0))).t (au H (.var 1)).e k (l.map ts) (a.map ts++[ts x]) ⟨[some a0,s],r,[]⟩:=fun s=>by
   have e:a.map ts++[ts x]=(a++[x]).map ts:=by simp
   rw[e];refine zE c l (a++[x]) s fun b s' h d=>q b s' (fun y f=>?_) (by simp at d ⊢;lia);rcases h y f with z|z;rcases Vo.mp z with z|z;exact .inl z;simp at z;exact .inr (z▸Vc);exact .inr (Vb _ z)
  have i:∀s,bo (bd (.nm 1)) (au H (.cmp .notin (.var 1) (.var 0))).t (au H (.var 1)).e k (l.map ts) (a.map ts) ⟨[some a0,s],r,[]⟩:=fun s=>
   zE c l a s fun b s' h d=>q b s' (fun y f=>(h y f).elim .inl fun z=>.inr (Vb _ z)) (by simp at d ⊢;lia)
  rcases c with ⟨rfl,rfl⟩|⟨rfl,rfl⟩;exact⟨⟨iI bs,rfl⟩,aE (fun g=>h1 _) (fun g=>i _)⟩;exact⟨⟨iI bs,rfl⟩,aE (fun g=>h1 _) (fun g=>i _)⟩
theorem BX (bs:List Str)(y:Str):ji (.own (.lst (bs.map ts++[ts y]))) ((bs++[y]).map ts):=.inl (by rw[VQ];rfl)
theorem N6 (R:Rl)(b:Nat):∀args k,gj R b args k->aM (aF (Ge aN (br R b)) Gf) (a9 args k) (entry 9 args):=by
 rintro args k ⟨ns,n,z,W,s,bs,β,tm,kd,rfl,P,D,m,c,hb,hn,d,Q,f,i,A,q⟩;have S:=d.n1;have T:=d.l1;have D0:=yn b;have app:∀(a b:List Str),a.map ts++b.map ts=(a++b).map ts:=fun a b=>by simp
 have L:∀x∈W.names++W.lets,R.X x:=fun x F=>(Vo.mp F).elim (d.nX x) (d.lX x);have B:∀{w:Wd}{e:E},Ar R w 1->Ex R b e->Ex R (b+1) (.nd w [e]):=fun h he=>.mk h fun k C=>by simp at C;subst C;exact he
 have U:∀{w:Wd}{e M:E},Ar R w 2->Ex R b e->Ex R b M->Ex R (b+1) (.nd w [e,M]):=fun h he gD=>.mk h fun k C=>by simp at C;rcases C with rfl|rfl <;> assumption
 have V:kd="let"∨kd="set"∨kd="say":=by simpa [cW] using D
 rcases P with rfl|rfl;all_goals
  refine⟨by rw[U6];lia,rfl,zE (bs:=bs) (by first|exact .inl ⟨rfl,rfl⟩|exact .inr ⟨rfl,rfl⟩) W.names [] none fun N s' v Y=>?_⟩
  have Z:∀y∈N,R.X y:=fun y h=>by
   rcases v y h with z|z
   .cases z
   .exact d.nX y z
  have Kf:N.length<=40:=by simp at Y;lia
  rcases V with rfl|rfl|rfl
  .refine⟨by show(W.names.map ts).length+(W.lets.map ts).length<=_;rw[U6,U6];lia,?_⟩;rw[app];have ne:W.names++W.lets ≠ []:=fun h=>d.n0 (List.append_eq_nil_iff.mp h).1;refine⟨rfl,ns,n,z,_,rfl,m,by lia,tO ne,by rw[U6,U9];lia,fun r n1 G H I iw=>?_⟩;obtain⟨y,e,v⟩:=qG H I;refine bx e ⟨rfl,ns,n1,G,W,_,bs,_,tm,rfl,by first|exact .inl rfl|exact .inr rfl,m,c,hb,by lia,d,by lia,f,i,A,fun B o p j t u J K=>?_⟩;refine⟨by show(bs.map ts).length+1<=_;rw[U6];lia,rfl,ns,o,p,W.at j t,_,bs++[y],_,tm,rfl,BX bs y,m,c,hb,by lia,d.at _ _,by rw[U9];show bs.length+1+b<=_;lia,fun x F=>(Vo.mp F).elim (f x) fun h=>by simp at h;exact h▸L y v,i,A,fun l n3 z3 O t3 KH Kx l7=>?_⟩;exact q (.nd (.lt y) [B,l]) n3 z3 O t3 (U ⟨rfl,L y v⟩ u KH) (by have Kw:l.cnt+7*bj O<=1+7*bj j:=Kx;simp only [Tree.cnt,Tree.cntL];lia) (by lia)
  .refine aE (fun g=>?_) (fun g=>?_)
   .have ne:=ze g;refine⟨rfl,ns,n,z,_,rfl,m,by lia,tO ne,by rw[U6];lia,fun r n1 G H I iw=>?_⟩;obtain⟨y,e,v⟩:=qG H I;refine bx e ⟨rfl,ns,n1,G,W,_,bs,_,tm,rfl,by first|exact .inl rfl|exact .inr rfl,m,c,hb,by lia,d,by lia,f,i,A,fun l o p j t u J K=>?_⟩;exact q (.nd (.st y) [l]) o p j t (B ⟨rfl,Z y v⟩ u) (by simp only [Tree.cnt,Tree.cntL];lia) (by lia)
   .refine⟨rfl,ns,n,z,W,_,bs,_,tm,rfl,by first|exact .inl rfl|exact .inr rfl,m,c,hb,by lia,d,by lia,f,i,A,fun l o p j t u J K=>?_⟩;exact q (.nd .say [l]) o p j t (B rfl u) (by simp only [Tree.cnt,Tree.cntL];lia) (by lia)
  .refine⟨rfl,ns,n,z,W,_,bs,_,tm,rfl,by first|exact .inl rfl|exact .inr rfl,m,c,hb,by lia,d,by lia,f,i,A,fun l o p j t u J K=>?_⟩;exact q (.nd .say [l]) o p j t (B rfl u) (by simp only [Tree.cnt,Tree.cntL];lia) (by lia)
theorem um:∀a b:List E,Tree.cntL (a++b)=Tree.cntL a+Tree.cntL b
 |[],b=>by simp [Tree.cntL]
 |k::a,b=>by rw[WM,Tree.cntL,um a b,Tree.cntL];lia
theorem zD {b:Nat}{g:Sl}{tm bl:Sl}{m:TW}{k:List Tv->Ms->Prop}
  (o:∀(n:Nat)(z:Int)(W:Wo)(s:Option Sl)(p:Ev->Ms->Prop),n+D b<=1000000000000->WoOk R W->(∀(e:E) c f a t',Ex R b e->e.cnt+7*bj a<=1+7*bj W.room->c<=n+D b->p (.fz (E.tv e)) ⟨[some (.out 0),some (.out 1),some g,some tm,some bl,s],.own (aH ns c f) :: .own (bO (W.at a t'))::r,[]⟩)->m ⟨[some (.out 0),some (.out 1),some g,some tm,some bl,s],.own (aH ns n z) :: .own (bO W)::r,[]⟩ p):
  ∀(l:List Tv)(es:List E)(n:Nat)(z:Int)(W:Wo)(s:Option Sl),n+l.length*D b<=1000000000000->WoOk R W->(∀e∈es,Ex R b e) →(∀(d:List E) c f a t' s',d.length=es.length+l.length->(∀e∈d,Ex R b e)->Tree.cntL d+7*bj a<=Tree.cntL es+l.length+7*bj W.room->c<=n+l.length*D b->k (E.tvL d) ⟨[some (.out 0),some (.out 1),some g,some tm,some bl,s'],.own (aH ns c f) :: .own (bO (W.at a t'))::r,[]⟩) →bo (bd (.nm 5)) (fun M k=>k true M) m k l (E.tvL es) ⟨[some (.out 0),some (.out 1),some g,some tm,some bl,s],.own (aH ns n z) :: .own (bO W)::r,[]⟩
 |[],es,n,z,W,s,u,i,he,q=>q es n z W.room W.toil s rfl he (U5 _) (by simp)
 |t::l,es,n,z,W,s,u,i,he,q=>by
  have v:(t::l).length*D b=l.length*D b+D b:=by rw[Vw,Nat.succ_mul]
  rw[v] at u;refine o n z W _ _ (by lia) i fun e c f a t' h1 B L=>?_;have A:E.tvL es++[E.tv e]=E.tvL (es++[e]):=by simp only [E.tvL,ef,VQ];rfl
  show bo _ _ _ _ l (E.tvL es++[E.tv e]) _;rw[A];refine zD o l (es++[e]) c f (W.at a t') _ (by lia) (i.at _ _) (fun x F=>(Vo.mp F).elim (he x) fun h=>by simp at h;exact h▸h1) fun d G H w I C j J K N=>q d G H w I C (by rw[j,U9,Vw];simp;lia) J (by have y:Tree.cntL d+7*bj w<=Tree.cntL (es++[e])+l.length+7*bj a:=K;rw[um] at y;simp only [Tree.cntL] at y;rw[Vw];lia) (by rw[v];lia)
inductive eL (R:Rl)(b:Nat)(args:SA)(k:SK):Prop
 |mk (ns:List Int) (n:Nat) (z:Int) (W:Wo) (s:Sl) (bs:List Str) (β tm:Int) (_:args=[.own (aH ns n z),.own (bO W),s,fi β,fi tm]) (_:ji s (bs.map ts)) (_:ns.length<=63) (_ : β - 1=b) (_:1<=b) (_:n+20+6*D b<=1000000000000) (_:WoOk R W) (_:bs.length+b+1<=1000) (_:(∀x∈bs,R.X x)) (_:0<=tm) (_:tm*5 ^ b<=1000000000) (_:∀(e:E) n' z' r t,Ex R (b+1) e->e.cnt+7*bj r<=7+7*bj W.room->n'<=n+20+6*D b->k (.fz (E.tv e)) [.own (aH ns n' z'),.own (bO (W.at r t)),s,fi β,fi tm])
theorem BW {tm:Int}{b:Nat}(h0:0<=tm)(h:tm*5 ^ b<=1000000000):tm<=1000000000:=by
 have a:(1:Int)<=5 ^ b:=by
  have:0<5 ^ b:=Nat.pos_of_ne_zero (by simp);have e:((5 ^ b:Nat):Int)=(5:Int) ^ b:=by simp
  lia
 have:=Int.mul_le_mul_of_nonneg_left a h0;lia
theorem Pd (R:Rl)(b:Nat):∀args k,eL R b args k->aM (aF (GJ (cc R) aN (br R b)) GK) (a9 args k) (entry 8 args):=by
 rintro args k ⟨ns,n,z,W,s,bs,x,tm,rfl,H,m,v,hb,y,a,I,c,d,A,q⟩;have D0:=yn b;have J:=BW d A;have K:=a.f1;rcases H with rfl|rfl;all_goals
  have B:∀(n1:Nat)(f:Int),n1<=n+1->∀(e:E) o w,Ex R 1 e->o<=n1+10->k (.fz (E.tv e)) [.own (aH ns o w),.own (bO W),_,fi x,fi tm]:=fun n1 f h1 e o w he gC=>q e o w W.room W.toil (he.up (by lia)) (by rw[he.one];lia) (by lia);refine aE (fun g=>?_) (fun g=>?_)
  .exact⟨rfl,ns,n,z,W,_,bs,rfl,by first|exact .inl rfl|exact .inr rfl,m,by lia,a,by lia,c,B n z (by lia)⟩
  have ne:W.fs ≠ []:=fun h=>g (by rw[h];rfl);have Lh:((W.fs.map gF).length:Int)=W.fs.length:=by rw[U6]
  have F:=We.mpr ne;refine⟨rfl,ns,n,z,_,rfl,m,by lia,by lia,by lia,fun r n1 f L M N=>?_⟩;obtain⟨t,e,O⟩:=iH (l:=W.fs.map gF) (i:=r) L M;obtain⟨p,P,rfl⟩:=VG.mp O;obtain⟨Q,S,T,i,U⟩:=a.fA p P;refine bx e (bx U ⟨ib (by lia) (by lia),⟨ib (by decide) (by decide),aE (fun g=>?_) (fun g=>?_)⟩⟩)
  .exact⟨rfl,ns,n1,f,W,_,bs,rfl,by first|exact .inl rfl|exact .inr rfl,m,by lia,a,by lia,c,B n1 f (by lia)⟩
  have u:(fc (((p.2:Nat):Int).toNat)).length=p.2:=by unfold fc;rw[U6,Wz];lia
  have e6:p.2*D b<=6*D b:=Nat.mul_le_mul_right _ T;refine⟨by show 8<16777216;decide,⟨by lia,by lia⟩,by rw[u];lia,rfl,zD (R:=R) (b:=b) (ns:=ns) (tm:=fi tm) (bl:=fi x) (fun n z W s k' y a V=>?_) _ [] n1 f (W.at W.room (W.toil-tm*i)) none (by rw[u];lia) (a.at _ _) (fun e h=>by cases h) (fun es X Y G Z C j he xo iw=>?_)⟩
  .exact⟨rfl,ns,n,z,W,_,bs,_,tm,rfl,by first|exact .inl rfl|exact .inr rfl,m,v,hb,y,a,by lia,c,d,A,V⟩
  .rw[u] at j iw
   have xc:es.length=p.2:=by simpa using j
   refine⟨by show 2+(E.tvL es).length<=_;rw[cj];lia,?_⟩;exact q (.nd (.call p.1) es) X Y G Z (.mk ⟨by lia,S,by rw[xc];exact Q⟩ he) (by have jW:Tree.cntL es+7*bj G<=0+_+7*bj W.room:=xo;rw[u] at jW;rw[Tree.cnt];lia) (by lia)
def TY (s:Sl)(l:List (aw×Tv)):Prop:=s=.own (.dic l)∨s=.fz (.dic l)
inductive ba (R:Rl)(N:Nat)(args:SA)(k:SK):Prop
 |mk (e:E) (s:Sl) (ws:List (aw×Tv)) (_:args=[.fz (E.tv e),s]) (_:TY s ws) (_:Ex R N e) (_:(∀(f:Str)(m:Nat),R.A f m->∃i,cF ws (.inr f)=some (ti i))) (_:∀i,k (fi i) [.fz (E.tv e),s])
theorem Eu {a0:Sl}{k:List Tv->Ms->Prop}(d:(a0=.out 0/\r=[.own (.dic ws)])∨(a0=.fz (.dic ws)/\r=[]))(c:∀(f:Str)(m:Nat),R.A f m->∃i,cF ws (.inr f)=some (ti i)):∀(b:List E)(a:List Int)(s:Option Sl),(∀e∈b,Ex R N e)->(∀(is:List Int)(s':Option Sl),k (is.map ti) ⟨[some a0,s'],r,[]⟩)->bo (bd (.nm 1)) (au (oC aj (ba R N)) .tt).t (au (oC aj (ba R N)) (.call 1 (.cons (.var 1) (.cons (.var 0) .nil)))).e k (E.tvL b) (a.map ti) ⟨[some a0,s],r,[]⟩
 |[],a,s,_,q=>q a s
 |e::b,a,s,h,q=>by
  have h1:∀i s,bo (bd (.nm 1)) (au (oC aj (ba R N)) .tt).t (au (oC aj (ba R N)) (.call 1 (.cons (.var 1) (.cons (.var 0) .nil)))).e k (E.tvL b) (a.map ti++[ti i]) ⟨[some a0,s],r,[]⟩:=fun i s=>by
   have g:a.map ti++[ti i]=(a++[i]).map ti:=by simp
   rw[g];exact Eu d c b (a++[i]) s (fun x j=>h x (Vb _ j)) q
  have he:=h e Vc;rcases d with ⟨rfl,rfl⟩|⟨rfl,rfl⟩;exact⟨rfl,e,_,ws,rfl,.inl rfl,he,c,fun i=>h1 i _⟩;exact⟨rfl,e,_,ws,rfl,.inr rfl,he,c,fun i=>h1 i _⟩
theorem MI (R:Rl)(N:Nat):∀args k,ba R (N+1) args k->aM (aF (oC aj (ba R N)) EO) (a9 args k) (entry 3 args):=by
 rintro args k ⟨e,s,ws,rfl,c,he,a,q⟩;cases he with
 | @mk _ w b h d=>
  have j:=h.le;rcases c with rfl|rfl;all_goals
   refine⟨rfl,w,b,rfl,by lia,by rw[cj];lia,rfl,Eu (ws:=ws) (by first|exact .inl ⟨rfl,rfl⟩|exact .inr ⟨rfl,rfl⟩) a b [] none d fun is s'=>?_⟩;refine⟨fun t g=>by obtain⟨u,_,rfl⟩:=VG.mp g;exact⟨_,rfl⟩,?_⟩
   cases w with
   |again m=>exact⟨ib (by have:=h.2.1;lia) (by have:=h.2.2;lia),q _⟩
   |call f=>obtain⟨i,B⟩:=a f _ h.2.2;exact bx B (q _)
   |_=>exact q _
noncomputable abbrev fb (b:Bool):Sl:=.fz (.at (.bl b))
noncomputable abbrev tb (b:Bool):Tv:=.at (.bl b)
inductive aU (R:Rl)(N:Nat)(args:SA)(k:SK):Prop
 |mk (e:E) (s:Sl) (bs:List Str) (_:args=[.fz (E.tv e),s]) (_:ji s (bs.map ts)) (_:bs.length+N<=1000) (_:Ex R N e) (_:∀b,k (fb b) [.fz (E.tv e),s])
theorem zP {bs:List Str}{a0:Sl}{k:List Tv->Ms->Prop}(c:(a0=.out 0/\r=[.own (.lst (bs.map ts))])∨(a0=.fz (.lst (bs.map ts))/\r=[]))(hb:bs.length+N<=1000):∀(b:List E)(a:List Bool)(s:Option Sl),(∀e∈b,Ex R N e)->(∀(bl:List Bool)(s':Option Sl),k (bl.map tb) ⟨[some a0,s'],r,[]⟩)->bo (bd (.nm 1)) (au (oI (aU R N) aj) .tt).t (au (oI (aU R N) aj) zQ).e k (E.tvL b) (a.map tb) ⟨[some a0,s],r,[]⟩
 |[],a,s,_,q=>q a s
 |e::b,a,s,h,q=>by
  have h1:∀i s,bo (bd (.nm 1)) (au (oI (aU R N) aj) .tt).t (au (oI (aU R N) aj) zQ).e k (E.tvL b) (a.map tb++[tb i]) ⟨[some a0,s],r,[]⟩:=fun i s=>by
   have d:a.map tb++[tb i]=(a++[i]).map tb:=by simp
   rw[d];exact zP c hb b (a++[i]) s (fun x f=>h x (Vb _ f)) q
  have he:=h e Vc;rcases c with ⟨rfl,rfl⟩|⟨rfl,rfl⟩;exact⟨rfl,e,_,bs,rfl,.inl rfl,hb,he,fun i=>h1 i _⟩;exact⟨rfl,e,_,bs,rfl,.inr rfl,hb,he,fun i=>h1 i _⟩
theorem De (bl:List Bool):blL (bl.map tb):=fun t a=>by obtain⟨b,_,rfl⟩:=VG.mp a;exact⟨b,rfl⟩
theorem N5 (R:Rl)(N:Nat):∀args k,aU R (N+1) args k->aM (aF (oI (aU R N) aj) Gj) (a9 args k) (entry 2 args):=by
 rintro args k ⟨e,s,bs,rfl,g,hb,he,q⟩;cases he with
 | @mk _ w d h f=>
  have i:=h.le;rcases g with rfl|rfl;all_goals
   cases w with
   |lt x=>obtain⟨a,c,rfl⟩:=LM h.1;refine⟨rfl,a,_,bs,rfl,by first|exact .inl rfl|exact .inr rfl,by lia,f a (by simp),fun b=>aE (fun _=>?_) (fun _=>q _)⟩;exact⟨by show(bs.map ts).length+1<=_;rw[U6];lia,rfl,c,_,bs++[x],rfl,BX bs x,by rw[U9];show bs.length+1+N<=_;lia,f c (by simp),fun b=>q b⟩
   |st x=>refine⟨⟨iI bs,rfl⟩,aE (fun _=>q false) (fun _=>?_)⟩;exact⟨rfl,.st x,d,rfl,by lia,by rw[cj];lia,rfl,zP (bs:=bs) (by first|exact .inl ⟨rfl,rfl⟩|exact .inr ⟨rfl,rfl⟩) (by lia) d [] none f fun bl s'=>⟨De bl,q _⟩⟩
   |_=>exact⟨rfl,_,d,rfl,by lia,by rw[cj];lia,rfl,zP (bs:=bs) (by first|exact .inl ⟨rfl,rfl⟩|exact .inr ⟨rfl,rfl⟩) (by lia) d [] none f fun bl s'=>⟨De bl,q _⟩⟩
noncomputable def rf:Nat->Nat->List Tv
 |_,0=>[]
 |i,j+1=>ti i::rf (i+1) j
theorem CB:∀(j i:Nat),(List.range' i j).map (fun(a:Nat)=>ti (a:Int))=rf i j
 | 0,i=>rfl
 |j+1,i=>by rw[List.range'_succ,VB,CB j (i+1)];rfl
theorem Dd (n:Nat):fc n=rf 0 n:=by unfold fc;rw[List.range_eq_range'];exact CB n 0
inductive bR (R:Rl)(m N:Nat)(args:SA)(k:SK):Prop
 |mk (e l:E) (i:Int) (_:args=[.fz (E.tv e),fi i,.fz (E.tv l)]) (_:Ex R N e) (_:Ex R m l) (_:∀e',Ex R (N+m) e'->e'.cnt<=e.cnt+l.cnt->k (.fz (E.tv e')) [.fz (E.tv e),fi i,.fz (E.tv l)])
abbrev gS (R:Rl)(m N:Nat):Gm:=GS aj (aK R N) (bR R m N) bD
theorem MH (a b:List E)(t:E):cJ (E.tvL (a++t::b)) (a.length:Int)=some (E.tv t):=by show(E.tvL (a++t::b))[a.length]?=_;rw[E.tvL,ef,VQ,Vn (by rw[U6];exact U5 _),U6,Nat.sub_self];rfl
theorem MG (a b:List E)(t u:E):(E.tvL (a++t::b)).set a.length (E.tv u)=E.tvL (a++u::b):=by rw[E.tvL,E.tvL,ef,ef,VQ,VQ];have h:=List.set_append_right (s:=a.map (Tree.tv Wd.hd)) (t:=(t::b).map (Tree.tv Wd.hd)) a.length (E.tv u) (by rw[U6];exact U5 _);rw[h,U6,Nat.sub_self];rfl
theorem MF (a b:List E)(t:E):gz (E.tvL (a++t::b)).length (a.length:Int)=some a.length:=by rw[cj,U9,Vw];unfold gz;rw[Vm (by lia),Vm (by lia)];simp
theorem F0 {m:Nat}{e l:E}{P:PD}(b:Ex R m l):∀(r done:List E)(i:Int)(y G:Option Sl),(∀e∈r,Ex R N e)->(∀e∈done,Ex R (N+m) e) →(∀(es:List E)(d:Int) y G,es.length=done.length+r.length->(∀e∈es,Ex R (N+m) e)->Tree.cntL es<=Tree.cntL done+Tree.cntL r+(if 0<=i then l.cnt else 0)->P.nx ⟨[some (.fz (E.tv e)),some (fi d),some (.fz (E.tv l)),some (.own (.lst (E.tvL es))),y,G],[],[]⟩) →cN (bd (.nm 4)) (aM (aF (gS R m N) Gh)) P (rf done.length r.length) ⟨[some (.fz (E.tv e)),some (fi i),some (.fz (E.tv l)),some (.own (.lst (E.tvL (done++r)))),y,G],[],[]⟩
 |[],done,i,y,G,_,hd,q=>by rw[Vk];exact q done i y G rfl hd (by simp only [Tree.cntL];lia)
 |t::r,done,i,y,G,h,hd,q=>by
  have c:=h t Vc;have j:=MH done r t;refine bx j ⟨rfl,t,rfl,c,?_⟩;refine⟨fun M=>∃t',Ex R (N+m) t'/\(t'=t∨(t'.cnt<=t.cnt+l.cnt/\0<=i/\i<t.cnt))/\M=⟨[some (.fz (E.tv e)),some (fi i),some (.fz (E.tv l)),some (.own (.lst (E.tvL (done++t'::r)))),some (fi done.length),some (fi t.cnt)],[],[]⟩,aE (fun g1=>aE (fun g2=>?_) (fun _=>⟨t,c.up (by lia),.inl rfl,rfl⟩)) (fun _=>⟨t,c.up (by lia),.inl rfl,rfl⟩),?_⟩;refine bx j ⟨rfl,t,l,i,rfl,c,b,fun k n a=>⟨_,MF done r t,k,n,.inr ⟨a,VA g1,VA g2⟩,?_⟩⟩;rw[<- MG done r t k];rfl;rintro M ⟨t',f,g,rfl⟩;have o:done++t'::r=(done++[t'])++r:=by simp
  have p:done.length+1=(done++[t']).length:=by simp
  have tp:1<=t.cnt:=by cases t;rw[Tree.cnt];lia
  have:=F0 b r (done++[t']) (i-t.cnt) (some (fi done.length)) (some (fi t.cnt)) (fun e he=>h e (Vb _ he)) (fun e he=>(Vo.mp he).elim (hd e) fun z=>by simp at z;exact z▸f) fun es d y G b s a=>q es d y G (by rw[b,U9,Vw];simp;lia) s (by
    rw[um] at a;simp only [Tree.cntL] at a ⊢;rcases g with rfl|⟨v,u,w⟩
    .by_cases h0:0<=i
     .rw[Vm h0]
      split at a <;> lia
     .rw[Vi (by lia)] at a ⊢;lia
    .rw[Vi (by lia)] at a
     rw[Vm u];lia)
  rw[<- o,<- p] at this;exact this
theorem Pc (R:Rl)(m N:Nat):∀args k,bR R m (N+1) args k->aM (aF (gS R m N) GU) (a9 args k) (entry 6 args):=by rintro args k ⟨e,l,i,rfl,he,b,q⟩;refine aE (fun g=>q l (b.up (by lia)) (by lia)) (fun g=>?_);cases he with| @mk _ w a h f=>have j:=h.le;refine⟨rfl,w,a,rfl,by lia,fun M=>∃(es:List E)(i:Int)(y G:Option Sl),es.length=a.length/\(∀e∈es,Ex R (N+m) e)/\Tree.cntL es<=Tree.cntL a+l.cnt/\M=⟨[some (.fz (E.tv (.nd w a))),some (fi i),some (.fz (E.tv l)),some (.own (.lst (E.tvL es))),y,G],[],[]⟩,?_,?_⟩;have tl:=cj a;refine⟨⟨by lia,by lia⟩,?_⟩;show cN _ _ _ (fc (E.tvL a).length) _;rw[tl,Dd];exact F0 b a [] _ none none f (fun e he=>by cases he) fun es i y G b c d=>⟨es,i,y,G,by simpa using b,c,by simp only [Tree.cntL] at d;split at d <;> lia,rfl⟩;rintro M ⟨es,n,y,G,c,he,d,rfl⟩;refine⟨rfl,w,a,_,E.tvL es,rfl,.inl rfl,by lia,by rw[cj];lia,?_⟩;exact q (.nd w es) (by rw[Nat.add_right_comm];exact .mk (by rw[c];exact h) he) (by rw[Tree.cnt,Tree.cnt];lia)
theorem rm (l:List q)(a:Nat):aV l (some (a:Int)) none=l.drop a:=by unfold aV;rw[sIx_nat];show(l.drop (min a l.length)).take (l.length-min a l.length)=l.drop a;rcases Nat.le_total a l.length with h|h;rw[Nat.min_eq_left h,Wf (by rw[Wt];exact U5 _)];rw[Nat.min_eq_right h,WX h];simp
theorem qR (l:List q)(a:Nat):aV l none (some (a:Int))=l.take a:=by unfold aV;rw[sIx_nat];show(l.drop 0).take (min a l.length-0)=l.take a;rw[drop_zero,Nat.sub_zero];rcases Nat.le_total a l.length with h|h;rw[Nat.min_eq_left h];rw[Nat.min_eq_right h,Wf (U5 _),Wf h]
theorem xf {b:Bool}(h:(false ^^ b)=true):b=true:=by simpa using h
theorem zr {q : Type}[DecidableEq q]{x : q}:∀{xs:List q},x∈xs->∃j:Nat,xs[j]?=some x/\∀m:Nat,m<j->xs[m]? ≠ some x
 |[],h=>by cases h
 |y::xs,h=>by by_cases e:y=x;exact⟨0,by rw[e];rfl,fun m a=>by lia⟩;obtain⟨j,h1,b⟩:=zr (xs:=xs) ((Vg.mp h).resolve_left fun z=>e z.symm);refine⟨j+1,h1,fun m a=>?_⟩;cases m with|zero=>(exact fun z=>e (by injection z))|succ m=>exact b m (by lia)
inductive bQ (R:Rl)(N:Nat)(args:SA)(k:SK):Prop
 |mk (e:E) (xs ys:List Str) (_:args=[.fz (E.tv e),.fz (.lst (xs.map ts)),.own (.lst (ys.map ts))]) (_:xs.length<=1000) (_:ys.length=xs.length) (_:(∀y∈ys,R.X y)) (_:Ex R N e) (_:∀e',Ex R N e'->e'.cnt=e.cnt->k (.fz (E.tv e')) [.fz (E.tv e),.fz (.lst (xs.map ts)),.own (.lst (ys.map ts))])
abbrev xP (R:Rl)(N:Nat):Gm:=GV bD aj (bQ R N)
theorem FZ {xs c:List Str}{k:List Tv->Ms->Prop}(f:xs.length<=1000)(g:c.length=xs.length)(i:∀y∈c,R.X y):∀(a es:List E)(s:Option Sl),(∀e∈a,Ex R N e)->(∀e∈es,Ex R N e)->(∀(b:List E)(s':Option Sl),b.length=es.length+a.length->(∀e∈b,Ex R N e)->Tree.cntL b=Tree.cntL es+Tree.cntL a->k (E.tvL b) ⟨[some (.fz (.lst (xs.map ts))),some (.out 0),s'],[.own (.lst (c.map ts))],[]⟩) →bo (bd (.nm 2)) (au (xP R N) .tt).t (au (xP R N) Gi).e k (E.tvL a) (E.tvL es) ⟨[some (.fz (.lst (xs.map ts))),some (.out 0),s],[.own (.lst (c.map ts))],[]⟩
 |[],es,s,_,he,q=>q es s rfl he (by simp [Tree.cntL])
 |e::a,es,s,j,he,q=>by
  refine⟨rfl,e,xs,c,rfl,f,g,i,j e Vc,fun d l p=>?_⟩;have m:E.tvL es++[E.tv d]=E.tvL (es++[d]):=by simp only [E.tvL,ef,VQ];rfl
  show bo _ _ _ _ (E.tvL a) (E.tvL es++[E.tv d]) _;rw[m];exact FZ f g i a (es++[d]) _ (fun x h=>j x (Vb _ h)) (fun x h=>(Vo.mp h).elim (he x) fun z=>by rw[VS.mp z];exact l) fun b s' h1 n o=>q b s' (by rw[h1,U9,Vw];simp;lia) n (by rw[o,um];simp only [Tree.cntL];lia)
theorem Pb (R:Rl)(N:Nat):∀args k,bQ R (N+1) args k->aM (aF (xP R N) GX) (a9 args k) (entry 3 args):=by
 rintro args k ⟨e,xs,b,rfl,o,p,m,he,q⟩;cases he with
 | @mk _ w a h r=>
  have v:=h.le;refine⟨fun M=>∃d,Ar R d a.length/\M=⟨[some (.fz (E.tv (.nd d a))),some (.fz (.lst (xs.map ts))),some (.out 0)],[.own (.lst (b.map ts))],[]⟩,?_,?_⟩;cases w with
  |name x=>
   refine⟨⟨iI ["name","set"],rfl⟩,⟨iI xs,rfl⟩,aE (fun g=>?_) (fun _=>⟨_,h,rfl⟩)⟩;obtain⟨j,f,c⟩:=zr ((lF x xs).mp (xf g));have i:j<b.length:=by have:=(U7.mp f).1;lia
   have n:cJ (b.map ts) (j:Int)=some (ts b[j]):=by show(b.map ts)[j]?=_;rw[Vl,U4 i];rfl
   refine⟨rfl,xs,x,j,rfl,rfl,f,c,bx n ?_⟩;have l:aV ([ts "name",ts x]++E.tvL a) (some 2) none=E.tvL a:=rm _ 2;refine⟨by show 2+(aV ([ts "name",ts x]++E.tvL a) (some 2) none).length<=_;rw[l,cj];lia,.name b[j],⟨h.1,m _ (WA i)⟩,?_⟩;show(⟨[some (.fz (.tup ([ts "name",ts b[j]]++aV ([ts "name",ts x]++E.tvL a) (some 2) none))),_,_],_,_⟩:Ms)=_;rw[l];rfl
  |st x=>
   refine⟨⟨iI ["name","set"],rfl⟩,⟨iI xs,rfl⟩,aE (fun g=>?_) (fun _=>⟨_,h,rfl⟩)⟩;obtain⟨j,f,c⟩:=zr ((lF x xs).mp (xf g));have i:j<b.length:=by have:=(U7.mp f).1;lia
   have n:cJ (b.map ts) (j:Int)=some (ts b[j]):=by show(b.map ts)[j]?=_;rw[Vl,U4 i];rfl
   refine⟨rfl,xs,x,j,rfl,rfl,f,c,bx n ?_⟩;have l:aV ([ts "set",ts x]++E.tvL a) (some 2) none=E.tvL a:=rm _ 2;refine⟨by show 2+(aV ([ts "set",ts x]++E.tvL a) (some 2) none).length<=_;rw[l,cj];lia,.st b[j],⟨h.1,m _ (WA i)⟩,?_⟩;show(⟨[some (.fz (.tup ([ts "set",ts b[j]]++aV ([ts "set",ts x]++E.tvL a) (some 2) none))),_,_],_,_⟩:Ms)=_;rw[l];rfl
  |_=>exact⟨⟨iI ["name","set"],rfl⟩,_,h,rfl⟩
  rintro M ⟨d,h',rfl⟩;refine⟨rfl,d,a,rfl,by lia,by rw[cj];lia,rfl,FZ o p m a [] none r (fun e h=>by cases h) fun es s' h1 s t=>?_⟩;have u:es.length=a.length:=by simpa using h1
  refine⟨rfl,d,a,_,E.tvL es,rfl,.inl rfl,by lia,by rw[cj];lia,?_⟩;exact q (.nd d es) (.mk (by rw[u];exact h') s) (by rw[Tree.cnt,Tree.cnt,t];simp [Tree.cntL])
inductive bS (R:Rl)(args:SA)(k:SK):Prop
 |mk (ns:List Int) (n:Nat) (z:Int) (W:Wo) (s:Sl) (bs:List Str) (a b:Int) (_:args=[.own (aH ns n z),.own (bO W),s,fi a,fi b]) (_:ji s (bs.map ts)) (_:ns.length<=63) (_:n+40<=1000000000000) (_:WoOk R W) (_:bs.length<=994) (_:(∀x∈bs,R.X x)) (_:0<=b) (_:b<=1000000000) (_:∀(e:E) n' z' r t,Ex R 5 e->(e.cnt=1/\r=W.room∨(e.cnt:Int)<=W.room/\r=W.room-e.cnt)->n'<=n+40->k (.fz (E.tv e)) [.own (aH ns n' z'),.own (bO (W.at r t)),s,fi a,fi b])
abbrev Le (R:Rl):Gm:=GO (cc R) aN (bQ R 4) (bR R 1 4) (aK R 5) (ba R 5) (aU R 5)
theorem LN {es:List E}{r:Int}(b:0<=r)(c:r<((E.tvL es).length:Nat)):∃t,cJ (E.tvL es) r=some t/\∃e,e∈es/\t=E.tv e:=by obtain⟨t,e,a⟩:=iH (l:=E.tvL es) (i:=r) b c;rw[E.tvL,ef] at a;obtain⟨x,d,rfl⟩:=VG.mp a;exact⟨_,e,x,d,rfl⟩
theorem Et {y:Str}{c:List Str}{k:List Tv->Ms->Prop}:∀(l:List Str)(a:List Str)(s:Option Sl),(∀(b:List Str)(s':Option Sl),b.length=a.length+l.length->(∀z∈b,z∈a∨z=y)->k (b.map ts) ⟨[some (.out 0),s'],[.own (.lst ((y::c).map ts))],[]⟩)->bo (bd (.nm 1)) (au H .tt).t (au H Gg).e k (l.map ts) (a.map ts) ⟨[some (.out 0),s],[.own (.lst ((y::c).map ts))],[]⟩
 |[],a,s,q=>q a s rfl fun z h=>.inl h
 |x::l,a,s,q=>by
  have d:a.map ts++[ts y]=(a++[y]).map ts:=by simp
  show bo _ _ _ _ (l.map ts) (a.map ts++[ts y]) _;rw[d];exact Et l (a++[y]) _ fun b s' h1 f=>q b s' (by rw[h1,U9,Vw];simp;lia) fun z g=>by rcases f z g with h|h;rcases Vo.mp h with h|h;exact .inl h;exact .inr (VS.mp h);exact .inr h
theorem Pa (R:Rl):∀args k,bS R args k->aM (aF (Le R) GR) (a9 args k) (entry 11 args):=by
 rintro args k ⟨ns,n,z,W,s,bs,a,b,rfl,T,j,hn,d,hb,f,b0,b1,q⟩;have U:=d.n1;have V:=We.mpr d.n0;have UM:(W.names.map ts).length=W.names.length:=U6 ..;have UK:(E.tvL W.sd).length=W.sd.length:=cj _;rcases T with rfl|rfl;all_goals
  have N:∀(n1:Nat)(C:Int),n1<=n+30->∀(e:E) c m,Ex R 1 e->c<=n1+10->k (.fz (E.tv e)) [.own (aH ns c m),.own (bO W),_,fi a,fi b]:=fun n1 C h1 e c m he gC=>q e c m W.room W.toil (he.up (by lia)) (.inl ⟨he.one,rfl⟩) (by lia);refine aE (fun g=>?_) (fun g=>?_)
  .exact⟨rfl,ns,n,z,W,_,bs,rfl,by first|exact .inl rfl|exact .inr rfl,j,by lia,d,by lia,f,N n z (by lia)⟩
  have Y:W.sd ≠ []:=fun h=>g (by rw[h];rfl);have O:=We.mpr Y;refine⟨rfl,ns,n,z,_,rfl,j,by lia,by lia,by have:=d.sX.1;lia,fun r n1 C Z r1 iw=>?_⟩;obtain⟨t,e1,sd,D,rfl⟩:=LN Z r1;obtain⟨D,Bn⟩:=d.sX.2 sd D;refine bx e1 ?_;refine⟨rfl,ns,n1,C,_,rfl,j,by lia,by lia,by lia,fun r2 n2 z2 P rR i5=>?_⟩;have hs1:0<=r2:=P;obtain⟨sh,rfl⟩:=Wh P;have hsh:sh<W.names.length:=by lia
  have F:aV (W.names.map ts) (some (sh:Int)) none=(W.names.drop sh).map ts:=by rw[rm,map_drop]
  have G:aV (W.names.map ts) none (some (sh:Int))=(W.names.take sh).map ts:=by rw[qR,map_take]
  refine⟨by show(aV _ _ _).length+(aV _ _ _).length<=_;rw[F,G,U6,U6,Wt,VU];lia,?_⟩;refine⟨fun M=>∃(L:List Tv)(c:Nat)(m:Int),M=⟨[some (.out 0),some (.out 1),_,some (fi a),some (fi b),some (.fz (E.tv sd)),some (.fz (.lst (W.names.map ts))),some (fi sh),some (.own (.lst L)),none,none],.own (aH ns c m) :: .own (bO W)::_,[]⟩/\(∃p:List Str,L=p.map ts/\p.length=W.names.length/\∀y∈p,R.X y)/\c<=n+3,⟨rfl,ns,n2,z2,6,rfl,j,by lia,by decide,by decide,fun r3 w x wm wj l7=>aE (fun g2=>?_) (fun _=>⟨_,w,x,rfl,⟨W.names.drop sh++W.names.take sh,?_,?_,?_⟩,?_⟩)⟩,?_⟩
  .refine⟨by lia,rfl,?_⟩
   have ne:aV (W.names.map ts) (some (sh:Int)) none++aV (W.names.map ts) none (some (sh:Int))=(W.names.drop sh++W.names.take sh).map ts:=by rw[F,G,VQ]
   generalize hL:aV (W.names.map ts) (some (sh:Int)) none++aV (W.names.map ts) none (some (sh:Int))=L at ne ⊢;have Q:(W.names.drop sh++W.names.take sh).length=W.names.length:=by rw[U9,Wt,VU];lia
   have S:∀y∈W.names.drop sh++W.names.take sh,R.X y:=fun y H=>d.nX y ((Vo.mp H).elim (mem_of_mem_drop ·) (mem_of_mem_take ·));generalize W.names.drop sh++W.names.take sh=I at ne Q S
   cases I with
   |nil=>simp at Q;lia
   |cons y p=>
    rw[ne]
    exact Et W.names [] none fun zs s' h1 h2=>⟨_,w,x,rfl,⟨zs,rfl,by simpa using h1,fun v hv=>by
     rcases h2 v hv with h|h
     .cases h
     .rw[h];exact S y Vc⟩,by lia⟩
  .rw[F,G,VQ]
  .rw[U9,Wt,VU];lia
  .exact fun y H=>d.nX y ((Vo.mp H).elim (mem_of_mem_drop ·) (mem_of_mem_take ·))
  .lia
  rintro M ⟨_,w,x,rfl,⟨p,rfl,jP,wV⟩,l7⟩;refine⟨rfl,sd,W.names,p,rfl,by lia,jP,wV,D,fun A J UP=>?_⟩;refine⟨fun M=>∃(e:E)(c:Nat)(m:Int),M=⟨[some (.out 0),some (.out 1),_,some (fi a),some (fi b),some (.fz (E.tv sd)),some (.fz (.lst (W.names.map ts))),some (fi sh),some (.own (.lst (p.map ts))),some (.fz (E.tv e)),none],.own (aH ns c m) :: .own (bO W)::_,[]⟩/\Ex R 5 e/\e.cnt<=9/\c<=n+20,⟨rfl,ns,w,x,2,rfl,j,by lia,by decide,by decide,fun r3 n4 o wm wj kO=>aE (fun g2=>?_) (fun _=>⟨A,n4,o,rfl,J.up (by lia),by lia,by lia⟩)⟩,?_⟩
  .refine⟨rfl,A,rfl,J.up (by lia),⟨rfl,ns,n4,o,_,rfl,j,by lia,by cases A;rw[Tree.cnt];lia,by lia,fun r4 n5 z5 Jz Jy sC=>?_⟩⟩;refine⟨rfl,ns,n5,z5,W,_,bs,rfl,by first|exact .inl rfl|exact .inr rfl,j,by lia,d,by lia,f,fun l n6 z6 u w4=>?_⟩;exact⟨rfl,A,l,r4,rfl,J,u,fun B gD K=>⟨B,n6,z6,rfl,gD,by rw[u.one] at K;lia,by lia⟩⟩
  rintro M ⟨e,n4,o,rfl,he,hec,kO⟩;refine⟨rfl,e,_,W.ws,rfl,.inr rfl,he,d.wA,fun i=>⟨ib (by lia) (by lia),?_⟩⟩;have out:∀B c m,Ex R 1 B->c<=n4+10->k (.fz (E.tv B)) [.own (aH ns c m),.own (bO W),_,fi a,fi b]:=N n4 o (by lia);refine⟨rfl,e,_,bs,rfl,by first|exact .inl rfl|exact .inr rfl,by lia,he,fun rb=>aE (fun _=>?_) (fun _=>⟨ib (by decide) (by decide),aE (fun _=>?_) (fun _=>⟨rfl,e,rfl,he,aE (fun _=>?_) (fun g5=>?_)⟩)⟩)⟩
  .exact⟨rfl,ns,n4,o,W,_,bs,rfl,by first|exact .inl rfl|exact .inr rfl,j,by lia,d,by lia,f,out⟩
  .exact⟨rfl,ns,n4,o,W,_,bs,rfl,by first|exact .inl rfl|exact .inr rfl,j,by lia,d,by lia,f,out⟩
  .exact⟨rfl,ns,n4,o,W,_,bs,rfl,by first|exact .inl rfl|exact .inr rfl,j,by lia,d,by lia,f,out⟩
  .have g6:¬W.room<e.cnt:=fun h=>g5 (Vj h);refine⟨by show 8<16777216;decide,rfl,e,rfl,he,by show 8<16777216;decide,?_⟩;exact q e n4 o (W.room-e.cnt) (W.toil-b*i) he (.inr ⟨by lia,rfl⟩) (by lia)
noncomputable def kindsL:List Str:=["op","op","copy","pick","let","set","say","do","again","call","copy","op","leaf","let"]
noncomputable def signS:Str:="+-*/<="
theorem O9:∀c∈signS.cps.toList,(⟨#[c]⟩:Str)∈fJ:=by decide+kernel
theorem O8:signS.cps.toList.length=6:=by decide+kernel
theorem nZ {r:Int}{P:Tv->Prop}(h:∀t∈l,P t)(a:0<=r)(b:r<l.length):∃t,cJ l r=some t/\P t:=by obtain⟨t,e,c⟩:=iH a b;exact⟨t,e,h t c⟩
def HM (R:Rl)(b:Sl)(r:List Sl)(ns:List Int)(n:Nat)(c tm:Int)(kd:Str)(W:Wo)(M:Ms):Prop:=∃(w:Wd)(m a:Nat)(d:Int),M=⟨[some (.out 0),some (.out 1),some b,some (fi c),some (fi tm),some (.own (.lst (kindsL.map ts))),some (fs kd),some (fi m),some (.own (.lst (w.hd.map Tv.at)))],.own (aH ns a d) :: .own (bO W)::r,[]⟩/\Ar R w m/\m<=6/\a<=n
theorem ME (R:Rl)(b:Nat):∀args k,br R (b+1) args k->aM (aF (EK aN (cc R) (bS R) (eL R b) (gj R b) (br R b)) EL) (a9 args k) (entry 9 args):=by
 rintro args k ⟨ns,n,z,W,s,bs,p,tm,rfl,hs,f,hβ,hb,hn,O,hbs,a,d,gZ,q⟩;have D0:=yn b;have D1:=LQ b;have Q:=BW d gZ;have S:tm*5 ^ b<=1000000000:=by
  have T:(0:Int)<=5 ^ b:=by
   have e:((5 ^ b:Nat):Int)=(5:Int) ^ b:=by simp
   rw[<- e];exact Int.natCast_nonneg _
  have:=Int.mul_nonneg d T;have e:tm*5 ^ (b+1)=5*(tm*5 ^ b):=by rw[Int.pow_succ];rw[<- Int.mul_assoc];lia
  lia
 have x:=O.at (W.room-1) (W.toil-tm);rcases hs with rfl|rfl;all_goals
  refine⟨by show 8<16777216;decide,by show 8<16777216;decide,rfl,ns,n,z,14,rfl,f,by lia,by decide,by decide,fun r n1 v r0 r1 hn1=>?_⟩;obtain⟨t,e,y⟩:=iH (l:=kindsL.map ts) (i:=r) r0 r1;obtain⟨kd,hkd,rfl⟩:=VG.mp y;refine bx e ?_;have J:∀(e:E) j u,Ex R 1 e->j<=n1+10->k (.fz (E.tv e)) [.own (aH ns j u),.own (bO (W.at (W.room-1) (W.toil-tm))),_,fi p,fi tm]:=fun e j u he K=>q e j u _ _ (he.up (by lia)) (by rw[he.one];unfold bj;lia) (by lia);refine aE (fun g=>?_) (fun g=>aE (fun _=>?_) (fun gr=>⟨ib (by decide) (by decide),aE (fun _=>?_) (fun _=>aE (fun _=>?_) (fun gl=>?_))⟩))
  .exact⟨rfl,ns,n1,v,W.at (W.room-1) (W.toil-tm),_,bs,rfl,by first|exact .inl rfl|exact .inr rfl,f,by lia,x,by lia,a,J⟩
  .exact⟨rfl,ns,n1,v,W.at (W.room-1) (W.toil-tm),_,bs,rfl,by first|exact .inl rfl|exact .inr rfl,f,by lia,x,by lia,a,J⟩
  .exact⟨rfl,ns,n1,v,W.at (W.room-1) (W.toil-tm),_,bs,rfl,by first|exact .inl rfl|exact .inr rfl,f,by lia,x,by lia,a,J⟩
  .exact⟨rfl,ns,n1,v,W.at (W.room-1) (W.toil-tm),_,bs,rfl,by first|exact .inl rfl|exact .inr rfl,f,by lia,x,by lia,a,J⟩
  have UL:¬W.room-1<6:=fun h=>gr (Vj h);have cl:bj W.room=1+bj (W.room-1):=by unfold bj;lia
  have b1:1<=b:=by
   rcases Nat.eq_zero_or_pos b with h|h
   .exact absurd (by simp;lia) g
   .exact h
  refine⟨fun M=>M=⟨[some (.out 0),some (.out 1),_,some (fi p),some (fi tm),some (.own (.lst (kindsL.map ts))),some (fs kd),none,none],.own (aH ns n1 v) :: .own (bO (W.at (W.room-1) (W.toil-tm)))::_,[]⟩,aE (fun _=>aE (fun g5=>?_) (fun _=>rfl)) (fun _=>rfl),?_⟩
  .have g6:5 < p := VA g5;refine⟨rfl,ns,n1,v,W.at (W.room-1) (W.toil-tm),_,bs,p,tm,rfl,by first|exact .inl rfl|exact .inr rfl,f,by lia,x,by lia,a,d,Q,fun e j u r t he U K=>?_⟩;have hc':e.cnt=1/\r=W.room-1∨(e.cnt:Int)<=W.room-1/\r=W.room-1-e.cnt:=U;exact q e j u r t (he.up (by lia)) (by rw[cl];unfold bj;lia) (by lia)
  rintro M rfl;refine aE (fun _=>?_) (fun _=>⟨⟨iI cW,rfl⟩,aE (fun g3=>?_) (fun _=>aE (fun _=>?_) (fun _=>?_))⟩)
  .exact⟨rfl,ns,n1,v,W.at (W.room-1) (W.toil-tm),_,bs,p,tm,rfl,by first|exact .inl rfl|exact .inr rfl,f,by lia,b1,by lia,x,by lia,a,d,S,fun e j u r t he B K=>q e j u r t he (by have F:e.cnt+7*bj r<=7+7*bj (W.room-1):=B;lia) (by lia)⟩
  .have h3:kd∈cW:=(lF kd cW).mp (xf g3);exact⟨rfl,ns,n1,v,W.at (W.room-1) (W.toil-tm),_,bs,p,tm,kd,rfl,by first|exact .inl rfl|exact .inr rfl,h3,f,by lia,b1,by lia,x,by lia,a,d,S,fun e j u r t he B K=>q e j u r t he (by have F:e.cnt+7*bj r<=7+7*bj (W.room-1):=B;lia) (by lia)⟩
  ·
   refine⟨rfl,ns,n1,v,6,rfl,f,by lia,by decide,by decide,fun r2 H I V X iw=>?_⟩
   obtain⟨t,e,m,rfl,L,m5⟩:=nZ (l:=[ti 2,ti 3,ti 0,ti 1,ti 5,ti 2]) (P:=fun t=>∃m:Int,t=ti m/\0<=m/\m<=5) (by
    intro t y;simp only [Vg,Vp,VN] at y
    rcases y with rfl|rfl|rfl|rfl|rfl|rfl <;> exact⟨_,rfl,by decide,by decide⟩) V X
   refine bx e ⟨fun M=>∃m:Int,0<=m/\m<=5/\M=⟨[some (.out 0),some (.out 1),_,some (fi p),some (fi tm),some (.own (.lst (kindsL.map ts))),some (fs kd),some (fi m),none],.own (aH ns H I) :: .own (bO (W.at (W.room-1) (W.toil-tm)))::_,[]⟩,⟨ib (by decide) (by decide),qH (by lia) (by lia),aE (fun _=>⟨1,by decide,by decide,rfl⟩) (fun _=>⟨m,L,m5,rfl⟩)⟩,?_⟩;rintro M ⟨m,L,m5,rfl⟩;have t0:0<=tm*m:=Int.mul_nonneg d L
   have Y:tm*m*5 ^ b<=1000000000:=by
    have T:(0:Int)<=5 ^ b:=by
     have e:((5 ^ b:Nat):Int)=(5:Int) ^ b:=by simp
     rw[<- e];exact Int.natCast_nonneg _
    have h1:tm*m<=tm*5:=Int.mul_le_mul_of_nonneg_left m5 d;have h2:=Int.mul_le_mul_of_nonneg_right h1 T;have e:tm*5 ^ (b+1)=tm*5*5 ^ b:=by rw[Int.pow_succ,Int.mul_assoc,Int.mul_comm 5 (5 ^ b)]
    lia
   refine⟨qH (by lia) (by lia),rfl,ns,H,I,W.at (W.room-1) (W.toil-tm),_,bs,p - 1,tm*m,rfl,by first|exact .inl rfl|exact .inr rfl,f,by lia,b1,by lia,x,by lia,a,t0,Y,fun e j u r t he B K=>?_⟩;exact q (.nd (.again m) [e]) j u r t (.mk ⟨rfl,L,m5⟩ fun k hk=>by simp at hk;subst hk;exact he) (by have F:e.cnt+7*bj r<=1+7*bj (W.room-1):=B;simp only [Tree.cnt,Tree.cntL];lia) (by lia)
  .refine⟨rfl,ns,n1,v,6,rfl,f,by lia,by decide,by decide,fun r2 H I V X iw=>?_⟩
   obtain⟨t,e,m,rfl,m1,m6⟩:=nZ (l:=[ti 2,ti 3,ti 1,ti 2,ti 4,ti 6]) (P:=fun t=>∃m:Nat,t=ti m/\1<=m/\m<=6) (by
    intro t y;simp only [Vg,Vp,VN] at y;rcases y with rfl|rfl|rfl|rfl|rfl|rfl
    .exact⟨2,rfl,by decide,by decide⟩
    .exact⟨3,rfl,by decide,by decide⟩
    .exact⟨1,rfl,by decide,by decide⟩
    .exact⟨2,rfl,by decide,by decide⟩
    .exact⟨4,rfl,by decide,by decide⟩
    .exact⟨6,rfl,by decide,by decide⟩) V X
   refine bx e ⟨HM R _ _ ns (n+2) p tm kd (W.at (W.room-1) (W.toil-tm)),aE (fun _=>⟨.pick,3,H,I,rfl,rfl,by decide,by lia⟩) (fun _=>⟨.do,m,H,I,rfl,⟨m1,m6⟩,m6,by lia⟩),?_⟩;rintro M ⟨w,m,n3,z3,rfl,A,C,i5⟩;refine⟨HM R _ _ ns (n+3) p tm kd (W.at (W.room-1) (W.toil-tm)),aE (fun _=>?_) (fun _=>⟨w,m,n3,z3,rfl,A,C,by lia⟩),?_⟩
   .refine⟨rfl,ns,n3,z3,6,rfl,f,by lia,by decide,by decide,fun r3 n4 Z wm wj l7=>?_⟩;obtain⟨c,ec,U⟩:=iH (l:=signS.cps.toList) (i:=r3) wm (by rw[O8];exact wj);exact bx (o:=(cJ signS.cps.toList r3).map fun c=>.at (.str ⟨#[c]⟩)) (t:=ts ⟨#[c]⟩) (by rw[ec];rfl) ⟨.op ⟨#[c]⟩,2,n4,Z,rfl,⟨rfl,O9 c U⟩,by decide,by lia⟩
   rintro M ⟨w,m,n4,Z,rfl,A,C,l7⟩;have N:(fc (((m:Nat):Int).toNat)).length=m:=by unfold fc;rw[U6,Wz];lia
   have e6:m*D b<=6*D b:=Nat.mul_le_mul_right _ C;refine⟨⟨by lia,by lia⟩,by rw[N];lia,rfl,zD (R:=R) (b:=b) (ns:=ns) (tm:=fi tm) (bl:=fi p) (fun n z W s k' hn O q'=>?_) _ [] n4 Z (W.at (W.room-1) (W.toil-tm)) none (by rw[N];lia) x (fun e h=>by cases h) (fun es n5 z5 r5 Y G Bv he Kv kO=>?_)⟩
   .exact⟨rfl,ns,n,z,W,_,bs,_,tm,rfl,by first|exact .inl rfl|exact .inr rfl,f,by lia,b1,hn,O,by lia,a,d,S,q'⟩
   .rw[N] at Bv kO
    have xb:es.length=m:=by simpa using Bv
    have h2:=(ow w).2.2;refine⟨by show(w.hd.map Tv.at).length+(E.tvL es).length<=_;rw[cj,U6];lia,?_⟩;exact q (.nd w es) n5 z5 r5 Y (.mk (by rw[xb];exact A) he) (by have xn:Tree.cntL es+7*bj r5<=0+_+7*bj (W.room-1):=Kv;rw[N] at xn;rw[Tree.cnt];lia) (by lia)
inductive fZ (args:SA)(k:SK):Prop
 |mk (u C:Sl) (names lets:List Str) (fs:List (Str×Nat)) (ws:List (aw×Tv)) (r t:Int) (_:args=[u,C,.own (.lst (fs.map gF)),.own (.dic ws),fi r,fi t]) (_:((u=.own (.lst (names.map ts))/\C=.own (.lst (lets.map ts)))∨(u=.fz (.lst (names.map ts))/\C=.fz (.lst (lets.map ts))))) (_:k (.own (bO ⟨names,lets,fs,ws,[],r,t⟩)) [.fz (.lst (names.map ts)),.fz (.lst (lets.map ts)),.fz (.lst (fs.map gF)),.fz (.dic ws),fi r,fi t])
theorem N4:∀args k,fZ args k->aM (aF Gb Gd) (a9 args k) (entry 6 args):=by rintro args k ⟨u,C,names,lets,fs,ws,r,t,rfl,h1,q⟩;rcases h1 with ⟨rfl,rfl⟩|⟨rfl,rfl⟩ <;> exact⟨rfl,q⟩
inductive gc (R:Rl)(args:SA)(k:SK):Prop
 |mk (ns:List Int) (n:Nat) (z:Int) (W:Wo) (m:Int) (_:args=[.own (aH ns n z),.own (bO W),fi m]) (_:ns.length<=63) (_:n+10*D 4<=1000000000000) (_:0<=m) (_:m<=10) (_:WoOk R W) (_:∀(l:List E) n' z',l.length<=10->(∀e∈l,Ex R 4 e/\e.cnt<=8)->n'<=n+10*D 4->k (.own (.lst (E.tvL l))) [.own (aH ns n' z'),.own (bO W),fi m])
theorem Fm {n0:Nat}{W:Wo}(f:ns.length<=63)(i:m<=10)(j:n0+10*D 4<=1000000000000)(b:WoOk R W){P:PD}(g:∀(a:List E)(n:Nat)(z:Int)(y G:Option Sl),a.length<=10->(∀e∈a,Ex R 4 e/\e.cnt<=8)->n<=n0+10*D 4->P.nx ⟨[some (.out 0),some (.out 1),some (fi m),some (.own (.lst (E.tvL a))),y,G],[.own (aH ns n z),.own (bO W)],[]⟩):∀(l:List Tv)(a:List E)(n:Nat)(z:Int)(y G:Option Sl),(a.length:Int)+l.length=m->(∀e∈a,Ex R 4 e/\e.cnt<=8)->n<=n0+a.length*D 4 →cN (bd (.nm 4)) (aM (aF (zT (br R 4)) Fq)) P l ⟨[some (.out 0),some (.out 1),some (fi m),some (.own (.lst (E.tvL a))),y,G],[.own (aH ns n z),.own (bO W)],[]⟩
 |[],a,n,z,y,G,h,c,k=>by have:a.length*D 4<=10*D 4:=Nat.mul_le_mul_right _ (by simp at h;lia);exact g a n z y G (by simp at h;lia) c (by lia)
 |t::l,a,n,z,y,G,h,c,k=>by
  have h':(a.length:Int)+(l.length+1:Nat)=m:=h;have o:(a.length+1)*D 4<=10*D 4:=Nat.mul_le_mul_right _ (by lia);rw[Nat.succ_mul] at o;refine⟨by show 8<16777216;decide,by show 8<16777216;decide,by show 8<16777216;decide,rfl,rfl,ns,n,z,⟨W.names,W.lets,W.fs,W.ws,[],7,60⟩,_,[],4,1,rfl,.inl rfl,f,rfl,by decide,by lia,⟨b.n0,b.n1,b.l1,b.f1,b.nX,b.lX,⟨VW _,fun e h=>(by cases h)⟩,b.wA,b.fA⟩,by decide,fun x d=>(by cases d),by decide,by decide,fun e p q r t' he B w=>⟨by rw[cj];lia,?_⟩⟩;have s:E.tvL a++[E.tv e]=E.tvL (a++[e]):=by simp only [E.tvL,ef,VQ];rfl
  have u:e.cnt<=8:=by
   have v:e.cnt+7*bj r<=1+7*bj 7:=B;have:bj 7=1:=by decide
   lia
  show cN _ _ _ l ⟨[_,_,_,some (.own (.lst (E.tvL a++[E.tv e]))),_,_],_,_⟩;rw[s];exact Fm f i j b g l (a++[e]) p q _ _ (by simp;lia) (fun x d=>(Vo.mp d).elim (c x) fun z=>by rw[VS.mp z];exact⟨he,u⟩) (by simp [Nat.succ_mul];lia)
theorem N3 (R:Rl):∀args k,gc R args k->aM (aF (zT (br R 4)) Ga) (a9 args k) (entry 6 args):=by rintro args k ⟨ns,n,z,W,m,rfl,i,j,h0,h1,l,q⟩;refine⟨fun M=>∃(d:List E)(f:Nat)(g:Int)(y G:Option Sl),M=⟨[some (.out 0),some (.out 1),some (fi m),some (.own (.lst (E.tvL d))),y,G],[.own (aH ns f g),.own (bO W)],[]⟩/\d.length<=10/\(∀e∈d,Ex R 4 e/\e.cnt<=8)/\f<=n+10*D 4,?_,?_⟩;refine⟨⟨by lia,by lia⟩,Fm i h1 j l ?_ _ [] n z none none ?_ (fun e h=>by cases h) (by simp)⟩;exact fun d f g y G a b c=>⟨d,f,g,y,G,rfl,a,b,c⟩;unfold fc;rw[U6,Wz];show(0:Int)+_=_;lia;rintro M ⟨d,f,g,y,G,rfl,a,b,c⟩;exact q d f g a b c
structure Fd where
 nm:Str
 ps:List Str
 bd:E
def Fd.tv (f:Fd):Tv:=.tup [ts f.nm,.tup (f.ps.map ts),E.tv f.bd]
noncomputable def Rp (I:List Str)(fs:List Fd):Rl:=⟨fun x=>x∈I,fun g m=>∃f∈fs,f.nm=g/\f.ps.length=m⟩
structure FdOk (I:List Str)(fs:List Fd)(f:Fd):Prop where
 nm:Nm f.nm
 nd:f.ps.Nodup
 l6:f.ps.length<=6
 sub:∀x∈f.ps,x∈I
 bd:Ex (Rp I fs) 4 f.bd
 bc:f.bd.cnt<=30
theorem FdOk.up {fs a:List Fd}{f:Fd}(h:FdOk I fs f)(s:∀g∈fs,g∈a):FdOk I a f:=⟨h.nm,h.nd,h.l6,h.sub,h.bd.mono (R:=Rp I fs) (R':=Rp I a) (fun _ h=>h) fun g m z=>by obtain⟨f,b,e⟩:=z;exact ⟨f,s f b,e⟩,h.bc⟩
structure PgOk (I:List Str)(fs:List Fd)(main:E):Prop where
 pl:I.length<=6
 pn:∀x∈I,Nm x
 fl:fs.length<=4
 fo:∀f∈fs,FdOk I fs f
 nd:(fs.map Fd.nm).Nodup
 mn:Ex (Rp I fs) 7 main
 mc:main.cnt<=240
def cu (fs:List Fd)(main:E):Tv:=.tup [.tup (fs.map Fd.tv),E.tv main]
noncomputable def kn (fs:List Fd):List (Str×Nat):=fs.map fun f=>(f.nm,f.ps.length)
def Dc:aP:=fun args k=>∃R b,b<=7/\br R b args k
def C9:aP:=fun args k=>∃R,ba R 4 args k
def DU:aP:=fun args k=>∃R,gc R args k
inductive iT (args:SA)(k:SK):Prop
 |mk (ns:List Int) (n:Nat) (z r:Int) (_:args=[.own (aH ns n z),fi r]) (_:r<=40) (_:ns.length<=63) (_:n+100000000<=1000000000000) (_:∀I fs main n' z',PgOk I fs main->n'<=n+100000000->k (.fz (cu fs main)) [.own (aH ns n' z'),fi r])
theorem O7 (l:List (aw×Tv))(k e:aw)(t:Tv):cF (iC l k t) e=if k=e then some t else cF l e:=by
 unfold iC;split
 .next h=>
  have:∀l:List (aw×Tv),l.any (fun p=>decide (p.1=k))=true->cF (l.map fun p=>if p.1=k then (p.1,t) else p) e=if k=e then some t else cF l e:=fun l=>by
   induction l with
   |nil=>(intro h;cases h)
   |cons p l i=>
    obtain⟨a,b⟩:=p;intro h;by_cases g:a=k;subst g;by_cases f:a=e;simp [cF,f];have:∀l:List (aw×Tv),cF (l.map fun p=>if p.1=a then (p.1,t) else p) e=cF l e:=fun l=>by induction l with|nil=>rfl|cons q l j=>obtain⟨c,d⟩:=q;by_cases m:c=a;subst m;simp [cF,f];exact j;simp only [VB,m,if_false,cF];rw[j]
    simp only [VB,if_true,cF,f,if_false];exact this l;have h':l.any (fun p=>decide (p.1=k))=true:=by simpa [g] using h
    simp only [VB,g,if_false,cF];by_cases f:a=e;subst f;rw[Vm rfl,Vi (fun z=>g z.symm),Vm rfl];rw[Vi f,Vi f];exact i h'
  exact this l (by simpa using h)
 .next h=>
  have h':∀p∈l,p.1≠k:=fun p n z=>h (by simp only [List.any_eq_true];exact⟨p,n,by simp [z]⟩);clear h;induction l with|nil=>simp [cF]|cons p l i=>obtain⟨a,b⟩:=p;have g:=h' (a,b) Vc;have i:=i fun q o=>h' q (Vb _ o);simp only [WM,cF];by_cases f:a=e;subst f;rw[Vm rfl,Vi (fun z=>g z.symm),Vm rfl];rw[Vi f,Vi f];exact i
theorem RK {l:List Str}(h:l.Nodup)(a:Nat):(l.drop a++l.take a).Nodup:=by have e:(l.take a++l.drop a).Perm (l.drop a++l.take a):=List.perm_append_comm;rw[take_append_drop] at e;exact e.nodup_iff.mp h
theorem z9 {k:List Tv->Ms->Prop}:∀(l:List Fd)(a:List Str)(s:Option Sl),(∀s',k ((a++l.map Fd.nm).map ts) ⟨[s'],[],[]⟩)->bo (bd (.nm 0)) (au H .tt).t (au H (.ix (.var 0) (.cst (.int 0)))).e k (l.map Fd.tv) (a.map ts) ⟨[s],[],[]⟩
 |[],a,s,q=>by have:=q s;rw[map_nil,Vk] at this;exact this
 |f::l,a,s,q=>by
  have b:a.map ts++[ts f.nm]=(a++[f.nm]).map ts:=by simp
  show bo _ _ _ _ (l.map Fd.tv) (a.map ts++[ts f.nm]) _;rw[b];exact z9 l (a++[f.nm]) _ fun s'=>by simpa using q s'
structure PInv (P:List Str)(fs:List Fd)(ws:List (aw×Tv)):Prop where
 fo:∀f∈fs,FdOk P fs f
 nd:(fs.map Fd.nm).Nodup
 wk:∀f∈fs,∃i,cF ws (.inr f.nm)=some (ti i)
 wl:ws.length<=fs.length
theorem N2 (l:List (aw×Tv))(k:aw)(t:Tv):(iC l k t).length<=l.length+1:=by unfold iC;split;rw[U6];lia;rw[U9];simp
theorem PInv.add {P:List Str}{fs:List Fd}{f:Fd}(h:PInv P fs ws)(hn:f.nm∉fs.map Fd.nm)(hf:FdOk P fs f)(i:Int):PInv P (fs++[f]) (iC ws (.inr f.nm) (ti i)) where
 fo:=fun g hg=>by rcases Vo.mp hg with z|z;exact(h.fo g z).up fun x hx=>V6 _ hx;simp at z;subst z;exact hf.up fun x hx=>V6 _ hx
 nd:=by rw[VQ];exact nodup_append.mpr ⟨h.nd,by simp,fun a ha b hb=>by simp at hb;rw[hb];exact fun z=>hn (z▸ha)⟩
 wk:=fun g hg=>by rw[O7];by_cases e:(Sum.inr f.nm:aw)=.inr g.nm;rw[Vm e];exact⟨i,rfl⟩;rw[Vi e];rcases Vo.mp hg with z|z;exact h.wk g z;simp at z;subst z;exact absurd rfl e
 wl:=by have:=N2 ws (.inr f.nm) (ti i);have:=h.wl;rw[U9];simp;lia
theorem PInv.wo {P names lets:List Str}{fs:List Fd}{sd:List E}{r t:Int}(h:PInv P fs ws)(hf:fs.length<=4)(hn:names ≠ [])(hn1:names.length<=40)(hl1:lets.length<=40)(hN:∀x∈names,x∈P)(hL:∀x∈lets,x∈P)(lW:sd.length<=40/\∀e∈sd,Ex (Rp P fs) 4 e/\e.cnt<=8):WoOk (Rp P fs) ⟨names,lets,kn fs,ws,sd,r,t⟩ where
 n0:=hn
 n1:=hn1
 l1:=hl1
 f1:=by show(kn fs).length<=40;unfold kn;rw[U6];lia
 nX:=hN
 lX:=hL
 sX:=lW
 wA:=fun f m ⟨g,hg,e,_⟩=>e▸h.wk g hg
 fA:=fun p hp=>by obtain⟨f,hf,rfl⟩:=VG.mp hp;have h2:=h.fo f hf;exact⟨⟨f,hf,rfl,rfl⟩,h2.nm,h2.l6,h.wk f hf⟩
theorem PInv.A {P:List Str}{fs:List Fd}(h:PInv P fs ws):∀(f:Str)(m:Nat),(Rp P fs).A f m->∃i,cF ws (.inr f)=some (ti i):=fun f m ⟨g,a,e,_⟩=>e▸h.wk g a
abbrev gP:Gm:=Hk gg aN d5 fZ Dc C9 DU
theorem Es {ns:List Int}{r:Int}{names:List Str}{y x0:Str}{n0:Nat}(H:ns.length<=63)(pL:n0+1000000<=1000000000000)(V:2<=names.length)(K2:names.length<=5)(qc:∀x∈names++[y],Nm x)(sN:(names++[y]).Nodup)(lV:x0∈names){Q:PD}
  (hQ:∀(fs:List Fd)(ws:List (aw×Tv))(n:Nat)(z:Int)(c k:Sl)(I J K L o C u v:Option Sl),PInv (names++[y]) fs ws->fs.length<=4->n<=n0+fs.length*100000->((c=.own (.lst (names.map ts))/\k=.own (.lst ([y,x0].map ts)))∨(c=.fz (.lst (names.map ts))/\k=.fz (.lst ([y,x0].map ts)))) →Q.nx ⟨[some (.out 0),some (fi r),some c,some k,some (.own (.lst (fs.map Fd.tv))),some (.own (.lst ((kn fs).map gF))),some (.own (.dic ws)),I,J,K,L,o,C,u,v],[.own (aH ns n z)],[]⟩):
  ∀(j i:Nat)(fs:List Fd)(ws:List (aw×Tv))(n:Nat)(z:Int)(c k:Sl)(I J K L o C u v:Option Sl),i+j<=4->fs.length=i->PInv (names++[y]) fs ws->n<=n0+i*100000->((c=.own (.lst (names.map ts))/\k=.own (.lst ([y,x0].map ts)))∨(c=.fz (.lst (names.map ts))/\k=.fz (.lst ([y,x0].map ts)))) →cN (bd (.nm 7)) (aM (aF gP GC)) Q (rf i j) ⟨[some (.out 0),some (fi r),some c,some k,some (.own (.lst (fs.map Fd.tv))),some (.own (.lst ((kn fs).map gF))),some (.own (.dic ws)),I,J,K,L,o,C,u,v],[.own (aH ns n z)],[]⟩
 | 0,i,fs,ws,n,z,c,k,I,J,K,L,o,C,u,v,h3,B,F,hn,X=>hQ fs ws n z c k I J K L o C u v F (by lia) (by rw[B];exact hn) X
 |j+1,i,fs,ws,n,z,c,k,I,J,K,L,o,C,u,v,h3,B,F,hn,X=>by
  have Bu:(fs.map Fd.tv).length<=16777216:=by rw[U6];lia
  have JM:∀x∈fs.map Fd.nm,Nm x:=fun x b=>by obtain⟨f,hf,rfl⟩:=VG.mp b;exact(F.fo f hf).nm
  have i3:i*100000<=300000:=by lia
  have eP:names.map ts++aV ([y,x0].map ts) none (some 1)=(names++[y]).map ts:=by rw[show aV ([y,x0].map ts) none (some 1)=([y,x0].map ts).take 1 from qR _ 1];simp
  obtain⟨Y,O⟩:∃s,s=c:=⟨_,rfl⟩;obtain⟨Z,w⟩:∃s,s=k:=⟨_,rfl⟩;rcases X with ⟨rfl,rfl⟩|⟨rfl,rfl⟩;all_goals
   refine⟨Bu,rfl,z9 fs [] none fun s'=>⟨rfl,ns,n,z,_,fs.map Fd.nm,fs.map Fd.nm,rfl,.inl rfl,H,by lia,by rw[U6];lia,by rw[U6];lia,fun _ h=>h,JM,fun x n1 z1 b T UE hn1=>?_⟩⟩;refine⟨by rw[U6];show names.length+1<=16777216;lia,?_⟩;rw[eP];have UC:((names++[y]).map ts).length=names.length+1:=by rw[U6,U9];rfl
   obtain⟨p,ep,hp⟩:=qG (xs:=names++[y]) (r:=(i:Int) % (((names++[y]).map ts).length:Nat)) (Int.emod_nonneg _ (by lia)) (Xf _ (by lia));refine⟨by lia,bx ep ?_⟩
   refine⟨fun M=>∃(x:Str)(n:Nat)(z:Int),M=⟨[some (.out 0),some (fi r),some _,some _,some (.own (.lst (fs.map Fd.tv))),some (.own (.lst ((kn fs).map gF))),some (.own (.dic ws)),some (fi i),some (Lake.fs x),some (.own (.lst ((names++[y]).map ts))),some (.fz (ts p)),o,C,u,v],[.own (aH ns n z)],[]⟩/\Nm x/\x∉fs.map Fd.nm/\n<=n0+i*100000+20,⟨rfl,ns,n1,z1,2,rfl,H,by lia,by decide,by decide,fun d n2 z2 d0 d1 iw=>aE (fun g=>?_) (fun g=>⟨x,n2,z2,rfl,b,T,by lia⟩)⟩,?_⟩
   .refine⟨Bu,rfl,z9 fs [] none fun s'=>⟨⟨iI _,rfl⟩,aE (fun g2=>⟨p,n2,z2,rfl,qc p hp,?_,by lia⟩) (fun g2=>⟨x,n2,z2,rfl,b,T,by lia⟩)⟩⟩;intro hm;rw[VY,(lF p _).mpr hm] at g2;exact absurd g2 (by decide)
   rintro M ⟨x,n3,z3,rfl,b,T,i5⟩;refine⟨rfl,ns,n3,z3,_,rfl,H,by lia,tO (by simp),by rw[U6,U9];simp;lia,fun a n4 z4 a0 a1 l7=>?_⟩;obtain⟨a,rfl⟩:=Wh a0;have eR:aV ((names++[y]).map ts) (some (a:Int)) none++aV ((names++[y]).map ts) none (some (a:Int))=((names++[y]).drop a++(names++[y]).take a).map ts:=by rw[rm,qR,<- map_drop,<- map_take,<- VQ]
   have lR:(aV ((names++[y]).map ts) (some (a:Int)) none).length+(aV ((names++[y]).map ts) none (some (a:Int))).length<=16777216:=by rw[rm,qR,Wt,VU,U6,U9];simp;lia
   refine⟨fun M=>∃(ps:List Str)(N:Nat)(R:Int)(o:Option Sl),M=⟨[some (.out 0),some (fi r),some Y,some Z,some (.own (.lst (fs.map Fd.tv))),some (.own (.lst ((kn fs).map gF))),some (.own (.dic ws)),some (fi i),some (Lake.fs x),some (.own (.lst ((names++[y]).map ts))),some (.fz (ts p)),o,some (.own (.lst (ps.map ts))),u,v],[.own (aH ns N R)],[]⟩/\ps.Nodup/\ps.length<=6/\(∀x∈ps,x∈names++[y])/\N<=n0+i*100000+30,⟨lR,rfl,ns,n4,z4,8,rfl,H,by lia,by decide,by decide,fun r8 N R Jv Ju kO=>?_⟩,?_⟩
   .obtain⟨t,e8,m,rfl,m6⟩:=nZ (l:=[ti 1,ti 2,ti 0,ti 3,ti 1,ti 2,ti 2,ti 6]) (P:=fun t=>∃m:Nat,t=ti m/\m<=6) (by
     intro t ht;simp only [Vg,Vp,VN] at ht;rcases ht with rfl|rfl|rfl|rfl|rfl|rfl|rfl|rfl
     .exact⟨1,rfl,by decide⟩
     .exact⟨2,rfl,by decide⟩
     .exact⟨0,rfl,by decide⟩
     .exact⟨3,rfl,by decide⟩
     .exact⟨1,rfl,by decide⟩
     .exact⟨2,rfl,by decide⟩
     .exact⟨2,rfl,by decide⟩
     .exact⟨6,rfl,by decide⟩) Jv Ju
    have eQ:aV (aV ((names++[y]).map ts) (some (a:Int)) none++aV ((names++[y]).map ts) none (some (a:Int))) none (some (m:Int))=(((names++[y]).drop a++(names++[y]).take a).take m).map ts:=by rw[eR,qR,<- map_take]
    have U:(((names++[y]).drop a++(names++[y]).take a).take m).Nodup:=(RK sN a).sublist (take_sublist _ _);have q:(((names++[y]).drop a++(names++[y]).take a).take m).length<=6:=by rw[VU];lia
    have S:∀x∈((names++[y]).drop a++(names++[y]).take a).take m,x∈names++[y]:=fun x b=>by
     rcases Vo.mp (mem_of_mem_take b) with h|h
     .exact mem_of_mem_drop h
     .exact mem_of_mem_take h
    generalize ((names++[y]).drop a++(names++[y]).take a).take m=ps at eQ U q S;exact bx e8 ⟨ps,N,R,_,(by rw[<- eQ];subst O;subst w;rfl),U,q,S,by lia⟩
   rintro M ⟨ps,N,R,o,rfl,U,q,S,kO⟩;rw[O,w];have hD:D 4=81920:=by decide
   have W:=F.wo (sd:=[]) (r:=9) (t:=120) (names:=names) (lets:=[y,x0]) (by lia) (fun h=>by rw[h] at V;simp at V) (by lia) (by simp) (fun x b=>V6 _ b) (fun x b=>by
    simp only [Vg,Vp,VN] at b;rcases b with rfl|rfl
    .simp
    .exact V6 _ lV) ⟨VW _,fun e h=>(by cases h)⟩
   refine⟨rfl,_,_,names,[y,x0],kn fs,ws,9,120,rfl,by first|exact .inl ⟨rfl,rfl⟩|exact .inr ⟨rfl,rfl⟩,?_⟩;refine⟨rfl,Rp (names++[y]) fs,4,by decide,ns,N,R,⟨names,[y,x0],kn fs,ws,[],9,120⟩,_,ps,4,1,rfl,.inl rfl,H,rfl,by decide,by lia,W,by lia,S,by decide,by decide,fun e n6 z6 r6 t6 he Ku sC=>?_⟩;have JR:(fs.map Fd.tv).length<16777216:=by rw[U6];lia
   have JQ:((kn fs).map gF).length+1<=16777216:=by rw[U6];unfold kn;rw[U6];lia
   have JP:ws.length<16777216:=by have:=F.wl;lia
   refine⟨rfl,JR,JQ,rfl,Rp (names++[y]) fs,e,_,ws,rfl,.inl rfl,he,F.A,fun i'=>⟨JP,?_⟩⟩;have G:=Es (r:=r) H pL V K2 qc sN lV hQ j (i+1) (fs++[⟨x,ps,e⟩]) (iC ws (.inr x) (ti i')) n6 z6 (.fz (.lst (names.map ts))) (.fz (.lst ([y,x0].map ts))) (some (fi i)) (some (Lake.fs x)) (some (.own (.lst ((names++[y]).map ts)))) (some (.fz (ts p))) o (some (.own (.lst (ps.map ts)))) (some (.own (bO ((⟨names,[y,x0],kn fs,ws,[],9,120⟩:Wo).at r6 t6)))) (some (.fz (E.tv e))) (by lia) (by rw[U9];simp;lia) (F.add (f:=⟨x,ps,e⟩) T ⟨b,U,q,S,he,by have h9:e.cnt+7*bj r6<=1+7*3:=Ku;show e.cnt<=30;lia⟩ i') (by lia) (.inr ⟨rfl,rfl⟩);have e1:(fs++[(⟨x,ps,e⟩:Fd)]).map Fd.tv=fs.map Fd.tv++[.tup [ts x,.tup (ps.map ts),E.tv e]]:=by simp [Fd.tv]
   have e2:(kn (fs++[(⟨x,ps,e⟩:Fd)])).map gF=(kn fs).map gF++[.tup [ts x,ti (ps.map ts).length]]:=by simp [kn,gF]
   rw[e1,e2] at G;exact G
theorem Qu:∀args k,iT args k->aM (aF gP Hl) (a9 args k) (entry 15 args):=by
 rintro args k ⟨ns,n,z,r,rfl,J,g,hn,q⟩;have UT:D 4=81920:=by decide
 have US:D 7=41943040:=by decide
 refine⟨rfl,ns,n,z,4,rfl,g,by lia,by decide,by decide,fun r4 n1 Q Jz Jy R=>?_⟩;refine⟨rfl,ns,n1,Q,_,rfl,g,by lia,by lia,by lia,fun xs S T K U L iw=>?_⟩;refine⟨rfl,ns,S,T,_,xs,xs,rfl,.inl rfl,g,by lia,by lia,by lia,fun _ h=>h,fun x c=>(L x c).1,fun y V X Y Z UD i5=>?_⟩;obtain⟨x0,e0,p⟩:=qG (xs:=xs) (r:=0) (by decide) (by rw[U6];lia);have sN:(xs++[y]).Nodup:=nodup_append.mpr ⟨U,by simp,fun a ha b hb=>by simp at hb;rw[hb];exact fun z=>Z (z▸ha)⟩;have N:∀x∈xs++[y],Nm x:=fun x c=>by rcases Vo.mp c with h|h;exact(L x h).1;simp at h;exact h▸Y
 refine bx e0 ?_;refine⟨fun M=>∃(fs:List Fd)(ws:List (aw×Tv))(s:Nat)(z:Int)(i j:Sl)(u v w A B C F G:Option Sl),M=⟨[some (.out 0),some (fi r),some i,some j,some (.own (.lst (fs.map Fd.tv))),some (.own (.lst ((kn fs).map gF))),some (.own (.dic ws)),u,v,w,A,B,C,F,G],[.own (aH ns s z)],[]⟩/\PInv (xs++[y]) fs ws/\fs.length<=4/\s<=n+500000/\((i=.own (.lst (xs.map ts))/\j=.own (.lst ([y,x0].map ts)))∨(i=.fz (.lst (xs.map ts))/\j=.fz (.lst ([y,x0].map ts)))),?_,?_⟩;refine⟨rfl,ns,V,X,5,rfl,g,by lia,by decide,by decide,fun r5 n4 z4 Jx Jw l7=>?_⟩;obtain⟨t,e,m,rfl,m3⟩:=nZ (l:=[ti 1,ti 0,ti 2,ti 4,ti 3]) (P:=fun t=>∃m:Nat,t=ti m/\m<=4) (by
  intro t O;simp only [Vg,Vp,VN] at O;rcases O with rfl|rfl|rfl|rfl|rfl
  .exact⟨1,rfl,by decide⟩
  .exact⟨0,rfl,by decide⟩
  .exact⟨2,rfl,by decide⟩
  .exact⟨4,rfl,by decide⟩
  .exact⟨3,rfl,by decide⟩) Jx Jw
 refine bx e ⟨⟨by lia,by lia⟩,?_⟩;show cN _ _ _ (fc ((m:Int).toNat)) _;rw[show fc ((m:Int).toNat)=rf 0 m from Dd m];refine Es (n0:=n4) (names:=xs) (y:=y) (x0:=x0) g (by lia) (by lia) (by lia) N sN p ?_ m 0 [] [] n4 z4 _ _ none none none none none none none none (by lia) rfl ⟨fun f H=>(by cases H),nodup_nil,fun f H=>(by cases H),U5 _⟩ (by lia) (.inl ⟨rfl,rfl⟩);exact fun fs ws s z' i j u v w A B C F G h1 h2 h3 h4=>⟨fs,ws,s,z',i,j,u,v,w,A,B,C,F,G,rfl,h1,h2,by lia,h4⟩
 .rintro M ⟨fs,ws,n5,z5,i,j,u,v,w,A,B,C,F,G,rfl,I,o,kO,hA⟩;have W:=fun(sd:List E) lW=>I.wo (sd:=sd) (r:=r) (t:=1400) (names:=xs) (lets:=[y,x0]) o (fun h=>by rw[h] at p;cases p) (by lia) (by simp) (fun x c=>V6 _ c) (fun x c=>by
    simp only [Vg,Vp,VN] at c;rcases c with rfl|rfl
    .simp
    .exact V6 _ p) lW
  have pl:(xs++[y]).length<=6:=by rw[U9];simp;lia
  rcases hA with ⟨rfl,rfl⟩|⟨rfl,rfl⟩;all_goals
   refine⟨rfl,_,_,xs,[y,x0],kn fs,ws,r,1400,rfl,by first|exact .inl ⟨rfl,rfl⟩|exact .inr ⟨rfl,rfl⟩,?_⟩;refine⟨rfl,ns,n5,z5,2,rfl,g,by lia,by decide,by decide,fun d n6 z6 d0 d1 sC=>?_⟩;refine⟨rfl,Rp (xs++[y]) fs,ns,n6,z6,⟨xs,[y,x0],kn fs,ws,[],r,1400⟩,_,rfl,g,by lia,by lia,by lia,W [] ⟨VW _,fun e h=>(by cases h)⟩,fun l n7 z7 UN K5 w4=>⟨by show 8<16777216;decide,?_⟩⟩;refine⟨rfl,Rp (xs++[y]) fs,7,by decide,ns,n7,z7,⟨xs,[y,x0],kn fs,ws,l,r,1400⟩,_,[],7,1,rfl,.inl rfl,g,rfl,by decide,by lia,W l ⟨by lia,K5⟩,by decide,fun x c=>(by cases c),by decide,by decide,fun e n8 z8 r8 t8 he Kt sA=>?_⟩;have h9:e.cnt+7*bj r8<=1+7*bj r:=Kt;have BD:bj r<=34:=by unfold bj;lia
   exact q (xs++[y]) fs e n8 z8 ⟨pl,N,o,I.fo,I.nd,he,by lia⟩ (by lia)
abbrev tk (i:Nat):Tv:=ti (i:Int)
mutual
noncomputable def cH:E->List (List Nat×E)
 | .nd w a=>([],.nd w a)::fU 0 a
noncomputable def fU (i:Nat):List E->List (List Nat×E)
 |[]=>[]
 |k::a=>(cH k).map (fun p=>(i::p.1,p.2))++fU (i+1) a
end
mutual
theorem uF:∀e:E,(cH e).length=e.cnt
 | .nd w a=>by rw[cH,Vw,DT,Tree.cnt];lia
theorem DT:∀(i:Nat)(a:List E),(fU i a).length=Tree.cntL a
 |_,[]=>rfl
 |i,k::a=>by rw[fU,U9,U6,uF k,DT (i+1) a,Tree.cntL]
end
mutual
theorem zq:∀e:E,(cH e).map (·.2)=e.all
 | .nd w a=>by rw[cH,VB,DS,Tree.all]
theorem DS:∀(i:Nat)(a:List E),(fU i a).map (·.2)=Tree.allL a
 |_,[]=>rfl
 |i,k::a=>by rw[fU,VQ,map_map,DS (i+1) a,Tree.allL,<- zq k];rfl
end
theorem EJ {e:E}(h:Ex R N e):∀p∈cH e,p.1.length<=N:=by
 induction h with
 | @mk n w a h d g=>
  have go:∀(a:List E)(i:Nat),(∀k∈a,∀p∈cH k,p.1.length<=n)->∀p∈fU i a,p.1.length<=n+1:=by intro a;induction a with|nil=>(intro i _ p b;cases b)|cons k a c=>intro i f p b;rw[fU] at b;rcases Vo.mp b with z|z;obtain⟨q,j,rfl⟩:=VG.mp z;have:=f k Vc q j;simp;lia;exact c (i+1) (fun k d=>f k (Vb _ d)) p z
  intro p b;rw[cH] at b;rcases Vg.mp b with rfl|z;simp;exact go a 0 g p z
def dv (p:List Nat):Tv:=.tup (p.map tk)
def dF (p:List Nat×E):Tv:=.tup [dv p.1,E.tv p.2]
noncomputable def mm:Nat->List Tv->List Tv
 |_,[]=>[]
 |i,t::l=>.tup [ti i,t]::mm (i+1) l
theorem BV:∀(l:List Tv)(i:Nat),(((List.range' i l.length).zip l).map fun p=>(.tup [.at (.int (p.1:Nat)),p.2]:Tv))=mm i l
 |[],i=>rfl
 |t::l,i=>by rw[Vw,List.range'_succ,List.zip_cons_cons,VB,BV l (i+1)];rfl
theorem Cu (l:List Tv):j1 l=mm 0 l:=by unfold j1;rw[List.range_eq_range'];exact BV l 0
inductive cG (R:Rl)(N:Nat)(args:SA)(k:SK):Prop
 |mk (e:E) (_:args=[.fz (E.tv e)]) (_:Ex R N e) (_:N<=100) (_:e.cnt<=100000) (_:k (.own (.lst ((cH e).map dF))) [.fz (E.tv e)])
abbrev BG (R:Rl)(N:Nat):Gm:=HD aj (cG R N)
theorem C8 {k:List Tv->Ms->Prop}:∀(l a:List (List Nat×E))(u C:Option Sl),(∀p∈l,p.1.length<=1000)->(∀u C,k ((a++l.map fun p=>(i::p.1,p.2)).map dF) ⟨[some (fi i),u,C],[],[]⟩)->bo (bd (.cons (.nm 1) (.cons (.nm 2) .nil))) (au H .tt).t (au H Hs).e k (l.map dF) (a.map dF) ⟨[some (fi i),u,C],[],[]⟩
 |[],a,u,C,_,q=>by have:=q u C;rw[map_nil,Vk] at this;exact this
 |p::l,a,u,C,h,q=>by
  have d:=h p Vc;refine⟨by show 1+(p.1.map tk).length<=_;rw[U6];lia,?_⟩;have b:a.map dF++[dF (i::p.1,p.2)]=(a++[(i::p.1,p.2)]).map dF:=by simp
  show bo _ _ _ _ (l.map dF) (a.map dF++[dF (i::p.1,p.2)]) _;rw[b];exact C8 l _ _ _ (fun x c=>h x (Vb _ c)) fun u C=>by simpa using q u C
theorem Fj {P:PD}{e:Sl}(c:N<=100):∀(b:List E)(i:Nat)(a:List (List Nat×E))(C s3:Option Sl),(∀k∈b,Ex R N k)->a.length+Tree.cntL b<=100000->(∀C s3,P.nx ⟨[some e,some (.own (.lst ((a++fU i b).map dF))),C,s3],[],[]⟩) →cN (bd (.cons (.nm 2) (.cons (.nm 3) .nil))) (aM (aF (BG R N) Hr)) P (mm i (E.tvL b)) ⟨[some e,some (.own (.lst (a.map dF))),C,s3],[],[]⟩
 |[],i,a,C,s3,_,_,q=>by have:=q C s3;rw[fU,Vk] at this;exact this
 |k::b,i,a,C,s3,d,f,q=>by
  rw[Tree.cntL] at f;have he:=d k Vc;have pl:=uF k;refine⟨rfl,k,rfl,he,c,by lia,by rw[U6];lia,rfl,C8 (cH k) [] none none (fun p g=>by have:=EJ he p g;lia) fun l m=>?_⟩;rw[VY];refine⟨by rw[U6,U6,U6];lia,?_⟩;have h:a.map dF++((cH k).map fun p=>(i::p.1,p.2)).map dF=(a++(cH k).map fun p=>(i::p.1,p.2)).map dF:=by rw[VQ]
  show cN _ _ _ (mm (i+1) (E.tvL b)) ⟨[_,some (.own (.lst (a.map dF++((cH k).map fun p=>(i::p.1,p.2)).map dF))),_,_],_,_⟩;rw[h];refine Fj c b (i+1) _ _ _ (fun x j=>d x (Vb _ j)) (by rw[U9,U6];lia) fun C s3=>?_;have:=q C s3;rw[fU] at this;rw[W7];exact this
theorem N1 (R:Rl)(N:Nat):∀args k,cG R (N+1) args k->aM (aF (BG R N) HE) (a9 args k) (entry 4 args):=by rintro args k ⟨e,rfl,he,d,b,q⟩;cases he with| @mk _ w a h c=>have f:=h.le;rw[Tree.cnt] at b;refine⟨fun M=>∃C s3,M=⟨[some (.fz (E.tv (.nd w a))),some (.own (.lst ((cH (.nd w a)).map dF))),C,s3],[],[]⟩,?_,?_⟩;refine⟨rfl,w,a,rfl,by lia,?_⟩;show cN _ _ _ (j1 (E.tvL a)) _;rw[Cu];exact Fj (R:=R) (N:=N) (by lia) a 0 [([],.nd w a)] none none c (by simp;lia) fun C s3=>⟨C,s3,rfl⟩;rintro M ⟨C,s3,rfl⟩;exact q
noncomputable def aW (fs:List Fd)(main:E):List E:=fs.map Fd.bd++[main]
theorem ua (a b:List E):E.tvL (a++b)=E.tvL a++E.tvL b:=by simp only [E.tvL,ef,VQ]
theorem DR {k:List Tv->Ms->Prop}:∀(l:List Fd)(a:List E)(s:Option Sl),(∀s,k (E.tvL (a++l.map Fd.bd)) ⟨[s],[],[]⟩)->bo (bd (.nm 0)) (au H .tt).t (au H F9).e k (l.map Fd.tv) (E.tvL a) ⟨[s],[],[]⟩
 |[],a,s,q=>by have:=q s;rw[map_nil,Vk] at this;exact this
 |f::l,a,s,q=>by
  have b:E.tvL a++[E.tv f.bd]=E.tvL (a++[f.bd]):=by rw[ua];rfl
  show bo _ _ _ _ (l.map Fd.tv) (E.tvL a++[E.tv f.bd]) _;rw[b];exact DR l _ _ fun s=>by simpa using q s
theorem CA {e:E}(h:Ex R N e):∀x∈e.all,Ex R N x:=by
 induction h with
 | @mk n w a h c g=>
  have go:∀a:List E,(∀k∈a,∀x∈k.all,Ex R n x)->∀x∈Tree.allL a,Ex R n x:=by intro a;induction a with|nil=>(intro _ x b;cases b)|cons k a d=>intro f x b;rw[Tree.allL] at b;rcases Vo.mp b with z|z;exact f k Vc x z;exact d (fun k c=>f k (Vb _ c)) x z
  intro x b;rw[Tree.all] at b;rcases Vg.mp b with rfl|z;exact .mk h c;exact(go a g x z).up (WD _)
inductive cf (args:SA)(k:SK):Prop
 |mk (fs:List Fd) (main:E) (_:args=[.fz (cu fs main)]) (_:fs.length<=100) (_:k (.own (.lst (E.tvL (aW fs main)))) [.fz (cu fs main)])
theorem Qt:∀args k,cf args k->aM (aF GG GH) (a9 args k) (entry 1 args):=by
 rintro args k ⟨fs,main,rfl,b,q⟩;refine⟨by rw[U6];lia,rfl,DR fs [] none fun s=>?_⟩;rw[VY];have a:E.tvL (fs.map Fd.bd)++[E.tv main]=E.tvL (aW fs main):=by unfold aW;rw[ua];rfl
 refine⟨by rw[cj,U6];show fs.length+1<=_;lia,?_⟩;show k (.own (.lst (E.tvL (fs.map Fd.bd)++[E.tv main]))) _;rw[a];exact q
def jK (p:Nat×List Nat):Tv:=.tup [tk p.1,dv p.2]
def dm (q:(Nat×List Nat)×E):Tv:=.tup [jK q.1,E.tv q.2]
def keep (m:Int)(e:E):List (List Nat×E):=(cH e).filter fun p=>decide (m<=(p.2.cnt:Int))
noncomputable def dw (m:Int)(i:Nat):List E->List ((Nat×List Nat)×E)
 |[]=>[]
 |b::bs=>(keep m b).map (fun p=>((i,p.1),p.2))++dw m (i+1) bs
theorem Hw (m:Int):∀(bs:List E)(i:Nat),(dw m i bs).length<=Tree.cntL bs
 |[],_=>U5 _
 |b::bs,i=>by
  have h1:=Hw m bs (i+1);have a:(keep m b).length<=b.cnt:=by rw[<- uF b];exact length_filter_le ..
  rw[dw,U9,U6,Tree.cntL];lia
inductive eB (R:Rl)(N:Nat)(args:SA)(k:SK):Prop
 |mk (fs:List Fd) (main:E) (m:Int) (_:args=[.fz (cu fs main),fi m]) (_:fs.length<=100) (_:N<=100) (_:(∀b∈aW fs main,Ex R N b)) (_:Tree.cntL (aW fs main)<=100000) (_:k (.own (.lst ((dw m 0 (aW fs main)).map dm))) [.fz (cu fs main),fi m])
abbrev sP (R:Rl)(N:Nat):Gm:=GD cf (aK R N) (cG R N)
theorem zd {k:List Tv->Ms->Prop}:∀(l:List (List Nat×E))(a:List ((Nat×List Nat)×E))(C s3:Option Sl),(∀p∈l,Ex R N p.2)->(∀C s3,k ((a++(l.filter fun p=>decide (m<=(p.2.cnt:Int))).map fun p=>((i,p.1),p.2)).map dm) ⟨[some (fi i),some (fi m),C,s3],[],[]⟩)->bo (bd (.cons (.nm 2) (.cons (.nm 3) .nil))) (au (sP R N) (.cmp .ge (.call 1 (.cons (.var 3) .nil)) (.var 1))).t (au (sP R N) F8).e k (l.map dF) (a.map dm) ⟨[some (fi i),some (fi m),C,s3],[],[]⟩
 |[],a,C,s3,_,q=>by have:=q C s3;rw[filter_nil,map_nil,Vk] at this;exact this
 |p::l,a,C,s3,h,q=>by
  have h':=fun x b=>h x (Vb _ b);refine⟨rfl,p.2,rfl,h p Vc,aE (fun g=>?_) (fun g=>?_)⟩;have c:a.map dm++[dm ((i,p.1),p.2)]=(a++[((i,p.1),p.2)]).map dm:=by simp
  show bo _ _ _ _ (l.map dF) (a.map dm++[dm ((i,p.1),p.2)]) _;rw[c];refine zd l _ _ _ h' fun C s3=>?_;have:=q C s3;rw[List.filter_cons_of_pos (by exact g)] at this;simpa using this;refine zd l _ _ _ h' fun C s3=>?_;have:=q C s3;rwa [List.filter_cons_of_neg (by exact g)] at this
theorem FX {P:PD}{e:Sl}(d:N<=100):∀(bs:List E)(i:Nat)(a:List ((Nat×List Nat)×E))(s3 y:Option Sl),(∀b∈bs,Ex R N b)->a.length+Tree.cntL bs<=100000->(∀s3 y,P.nx ⟨[some e,some (fi m),some (.own (.lst ((a++dw m i bs).map dm))),s3,y],[],[]⟩) →cN (bd (.cons (.nm 3) (.cons (.nm 4) .nil))) (aM (aF (sP R N) F7)) P (mm i (E.tvL bs)) ⟨[some e,some (fi m),some (.own (.lst (a.map dm))),s3,y],[],[]⟩
 |[],i,a,s3,y,_,_,q=>by have:=q s3 y;rw[dw,Vk] at this;exact this
 |b::bs,i,a,s3,y,hb,f,q=>by
  rw[Tree.cntL] at f;have he:=hb b Vc;have pl:=uF b;have k:(keep m b).length<=b.cnt:=by rw[<- pl];exact length_filter_le ..
  have c:∀p∈cH b,Ex R N p.2:=fun p g=>by
   have h:p.2∈b.all:=by rw[<- zq b];exact List.mem_map_of_mem g
   exact CA he _ h
  refine⟨rfl,b,rfl,he,d,by lia,by rw[U6];lia,rfl,zd (cH b) [] none none c fun l n=>?_⟩;rw[VY];refine⟨by rw[U6,U6,U6];show a.length+(keep m b).length<=_;lia,?_⟩;have j:a.map dm++((keep m b).map fun p=>((i,p.1),p.2)).map dm=(a++(keep m b).map fun p=>((i,p.1),p.2)).map dm:=by rw[VQ]
  show cN _ _ _ (mm (i+1) (E.tvL bs)) ⟨[_,_,some (.own (.lst (a.map dm++((keep m b).map fun p=>((i,p.1),p.2)).map dm))),_,_],_,_⟩;rw[j];refine FX d bs (i+1) _ _ _ (fun x c=>hb x (Vb _ c)) (by rw[U9,U6];lia) fun s3 y=>?_;have:=q s3 y;rw[dw] at this;rw[W7];exact this
theorem O5 (R:Rl)(N:Nat):∀args k,eB R N args k->aM (aF (sP R N) GF) (a9 args k) (entry 5 args):=by rintro args k ⟨fs,main,m,rfl,a,b,hb,c,q⟩;refine⟨fun M=>∃s3 y,M=⟨[some (.fz (cu fs main)),some (fi m),some (.own (.lst ((dw m 0 (aW fs main)).map dm))),s3,y],[],[]⟩,?_,?_⟩;refine⟨rfl,fs,main,rfl,a,?_⟩;show cN _ _ _ (j1 (E.tvL (aW fs main))) _;rw[Cu];exact FX (R:=R) (N:=N) b (aW fs main) 0 [] none none hb (by simp;lia) fun s3 y=>⟨s3,y,rfl⟩;rintro M ⟨s3,y,rfl⟩;exact q
end
section
inductive eG (args:SA)(k:SK):Prop
 |mk (w:Wd) (ks:List E) (_:args=[.fz (Tree.tv Wd.hd (.nd w ks))]) (_:ks.length<=1000) (_:k (.fz (.tup (E.tvL ks))) [.fz (Tree.tv Wd.hd (.nd w ks))])
variable {j:Type}{i:Nat}{l:List Tv}{R:Rl}{u:List E}{y:Gm}
theorem OZ:∀args k,eG args k->aM (aF Ei Ej) (a9 args k) (entry 1 args):=by
 rintro args k ⟨w,u,rfl,c,q⟩;have d:=(ow w).2.2;have b:(w.hd.map Tv.at++E.tvL u).length<=16777216:=by rw[U9,U6,cj];lia
 have e:(w.hd.map Tv.at++E.tvL u).filter c7=E.tvL u:=Df _ _ fun k a=>by rw[E.tvL,ef] at a;obtain⟨k,_,rfl⟩:=VG.mp a;exact E.tp k
 refine⟨b,rfl,oJ (w.hd.map Tv.at++E.tvL u) [] none (yG w u) fun s'=>?_⟩;rw[VY,e];exact q
inductive cU (args:SA)(k:SK):Prop
 |mk (fs:List Fd) (main:E) (_:args=[.fz (cu fs main)]) (_:fs.length<=100) (_:k (.fz (.tup (E.tvL (aW fs main)))) [.fz (cu fs main)])
theorem DN {k:List Tv->Ms->Prop}:∀(l:List Fd)(c:List E)(s0 a b:Option Sl),(∀s0 a b,k (E.tvL (c++l.map Fd.bd)) ⟨[s0,a,b],[],[]⟩)->bo (bd (.cons (.nm 0) (.cons (.nm 1) (.cons (.nm 2) .nil)))) (au y .tt).t (au y Ew).e k (l.map Fd.tv) (E.tvL c) ⟨[s0,a,b],[],[]⟩
 |[],c,s0,a,b,q=>by have:=q s0 a b;rw[map_nil,Vk] at this;exact this
 |f::l,c,s0,a,b,q=>by
  have d:E.tvL c++[E.tv f.bd]=E.tvL (c++[f.bd]):=by rw[ua];rfl
  show bo _ _ _ _ (l.map Fd.tv) (E.tvL c++[E.tv f.bd]) _;rw[d];exact DN l _ _ _ _ fun s0 a b=>by simpa using q s0 a b
theorem OR:∀args k,cU args k->aM (aF EW EX) (a9 args k) (entry 3 args):=by
 rintro args k ⟨fs,main,rfl,b,q⟩;refine⟨by rw[U6];lia,rfl,DN fs [] none none none fun s0 c d=>?_⟩;rw[VY];have a:E.tvL (fs.map Fd.bd)++[E.tv main]=E.tvL (aW fs main):=by unfold aW;rw[ua];rfl
 refine⟨by rw[cj,U6];show fs.length+1<=_;lia,?_⟩;show k (.fz (.tup (E.tvL (fs.map Fd.bd)++[E.tv main]))) _;rw[a];exact q
inductive cR (args:SA)(k:SK):Prop
 |mk (i:_) (_:args=[fi i]) (_:k (fb true) [fi i])
theorem OQ:∀args k,cR args k->aM (aF GZ G8) (a9 args k) (entry 1 args):=by rintro args k ⟨i,rfl,q⟩;exact q
noncomputable def du:E->List Nat->Option E
 |e,[]=>some e
 | .nd _ u,i::p=>(u[i]?).bind fun k=>du k p
noncomputable def d8:E->List Nat->List E
 | .nd w u,[]=>[.nd w u]
 | .nd w u,i::p=>.nd w u::match u[i]? with
  |some k=>d8 k p
  |none=>[]
mutual
theorem C5:∀(e:E),∀q∈cH e,du e q.1=some q.2
 | .nd w u,q,h=>by rw[cH] at h;rcases Vg.mp h with rfl|h;rw[du];obtain⟨i,p,k,a,b,c⟩:=DM u 0 q h;rw[a,du,Nat.zero_add,b];exact c
theorem DM:∀(u:List E)(i:Nat),∀q∈fU i u,∃j p k,q.1=(i+j)::p/\u[j]?=some k/\du k p=some q.2
 |[],_,q,h=>by cases h
 |k::u,i,q,h=>by rw[fU] at h;rcases Vo.mp h with h|h;obtain⟨r,a,rfl⟩:=VG.mp h;exact⟨0,r.1,k,rfl,rfl,C5 k r a⟩;obtain⟨j,p,b,c,d,e⟩:=DM u (i+1) q h;exact⟨j+1,p,b,by rw[c];congr 1;lia,d,e⟩
end
inductive iR (args:SA)(k:SK):Prop
 |mk (R:Rl) (N:Nat) (e t:E) (p:List Nat) (_:args=[.fz (E.tv e),.fz (dv p)]) (_:Ex R N e) (_:p.length<=1000) (_:du e p=some t) (_:k (.own (.lst (E.tvL (d8 e p)))) [.fz (E.tv e),.fz (dv p)])
abbrev BF:Gm:=Cv eG cR
theorem Rr (L:List Tv)(x:Tv):cJ (L++[x]) (-1)=some x:=by show(if 0<(L++[x]).length then (L++[x])[(L++[x]).length-(0+1)]? else none)=some x;rw[Vm (by simp),U9];simp
theorem qt {k:E}(h:u[i]?=some k):cJ (E.tvL u) (i:Int)=some (E.tv k):=by show(E.tvL u)[i]?=_;rw[E.tvL,ef,Vl,h];rfl
theorem E1 {P:PD}{e g:Sl}{t:E}:∀(p:List Nat)(b:E)(N:Nat)(L:List Tv)(s3 a:Option Sl),Ex R N b->du b p=some t->L.length+p.length<=2000->(∀s3 a,P.nx ⟨[some e,some g,some (.own (.lst (L++E.tvL (d8 b p)))),s3,a],[],[]⟩)->cN (bd (.nm 3)) (aM (aF BF CD)) P (p.map tk) ⟨[some e,some g,some (.own (.lst (L++[E.tv b]))),s3,a],[],[]⟩
 |[],b,N,L,s3,a,he,c,h,q=>by cases b;exact q s3 a
 |i::p,.nd w u,N,L,s3,a,he,c,h,q=>by rw[du] at c;cases d:u[i]? with|none=>(rw[d] at c;cases c)|some k=>rw[d] at c;have j:du k p=some t:=c;cases he with| @mk n _ _ l f=>have m:=l.le;have r:i<u.length:=(U7.mp d).1;have s:(E.tvL u).length=u.length:=cj u;have o:k∈u:=VF d;rw[Vw] at h;refine bx (Rr L (E.tv (.nd w u))) ⟨rfl,w,u,rfl,by lia,rfl,(i:Int),rfl,?_⟩;refine aE (fun g2=>absurd g2 ?_) (fun _=>?_);show ¬ (!decide ((i:Int)<((E.tvL u).length:Nat)))=true;rw[Vj (by lia)];decide;refine⟨rfl,bx (qt d) ⟨by show(L++[E.tv (.nd w u)]).length<16777216;rw[U9];show L.length+1<_;lia,?_⟩⟩;refine E1 p k n (L++[E.tv (.nd w u)]) _ _ (f k o) j (by rw[U9];show L.length+1+_<=_;lia) fun s3 a=>?_;have:=q s3 a;rw[d8,d] at this;rw[W7];exact this
theorem Pm:∀args k,iR args k->aM (aF BF Cw) (a9 args k) (entry 5 args):=by rintro args k ⟨R,N,e,t,p,rfl,he,c,b,q⟩;refine⟨fun M=>∃(s3 a:Option Sl),M=⟨[some (.fz (E.tv e)),some (.fz (dv p)),some (.own (.lst (E.tvL (d8 e p)))),s3,a],[],[]⟩,?_,?_⟩;exact E1 (R:=R) p e N [] none none he b (by simp;lia) fun s3 a=>⟨s3,a,rfl⟩;rintro M ⟨s3,a,rfl⟩;exact q
noncomputable def gG (p:E×Nat):List Str:=match p.1 with
 | .nd (.lt x) _=>if p.2=1 then [x] else []
 |_=>[]
def nJ (p:E×Nat):Tv:=.tup [E.tv p.1,tk p.2]
def ac (e:E)(p:List Nat):List Str:=((d8 e p).dropLast.zip p).flatMap gG
theorem Ef {t:E}:∀(p:List Nat)(e:E),du e p=some t->(d8 e p).length=p.length+1
 |[],.nd w u,_=>rfl
 |i::p,.nd w u,h=>by rw[du] at h;rw[d8];cases a:u[i]? with|none=>(rw[a] at h;cases h)|some k=>rw[a] at h;have:=Ef p k h;show(d8 k p).length+1=_;rw[this,Vw]
noncomputable abbrev cB:IE:=.and (.cmp .eq (.ix (.var 0) (.cst (.int 0))) (.cst (.str "let"))) (.cmp .eq (.var 1) (.cst (.int 1)))
theorem Dg (w:Wd)(h:∀x,w ≠ .lt x):∃a r,w.hd=.str a::r/\a≠"let":=by cases w <;> first|exact⟨_,_,rfl,by decide+kernel⟩|exact absurd rfl (h _)
theorem OP {k:List Tv->Ms->Prop}{a:Str}{d c:List Tv}{s0 b:Option Sl}(f:a≠"let")(q:∀s0 b,bo (bd (.cons (.nm 0) (.cons (.nm 1) .nil))) (au y cB).t (au y uP).e k l c ⟨[s0,b],[],[]⟩):bo (bd (.cons (.nm 0) (.cons (.nm 1) .nil))) (au y cB).t (au y uP).e k (.tup [.tup (.at (.str a)::d),tk i]::l) c ⟨[s0,b],[],[]⟩:=by
 have no:¬ (false ^^ decide (V.str a=V.str "let"))=true:=fun h=>by have:=VA (show decide (V.str a=V.str "let")=true by simpa using h);exact f (V.str.inj this)
 exact aE (fun g=>absurd g no) (fun _=>q _ _)
theorem uJ {k:List Tv->Ms->Prop}:∀(l:List (E×Nat))(c:List Str)(s0 b:Option Sl),(∀s0 b,k ((c++l.flatMap gG).map ts) ⟨[s0,b],[],[]⟩)->bo (bd (.cons (.nm 0) (.cons (.nm 1) .nil))) (au y cB).t (au y uP).e k (l.map nJ) (c.map ts) ⟨[s0,b],[],[]⟩
 |[],c,s0,b,q=>by have:=q s0 b;rw[List.flatMap_nil,Vk] at this;exact this
 | (.nd w u,i)::l,c,s0,b,q=>by
  by_cases d:∃x,w=.lt x;obtain⟨x,rfl⟩:=d;by_cases f:i=1;subst f;have h:c.map ts++[ts x]=(c++[x]).map ts:=by simp
  show bo _ _ _ _ (l.map nJ) (c.map ts++[ts x]) _;rw[h];refine uJ l _ _ _ fun s0 b=>?_;have:=q s0 b;rw[flatMap_cons] at this;rw[W7];exact this;refine aE (fun g=>?_) (fun _=>?_);have h1:decide (V.int (i:Int)=V.int 1)=true:=by simpa using g
  have o:=V.int.inj (VA h1);exact absurd (by lia) f;refine uJ l _ _ _ fun s0 b=>?_;have:=q s0 b;rw[flatMap_cons] at this;have e:gG (Tree.nd (.lt x) u,i)=[]:=Vi f;rw[e] at this;exact this;obtain⟨a,r,e,j⟩:=Dg w fun x e=>d ⟨x,e⟩;have m:gG (Tree.nd w u,i)=[]:=by cases w with|lt x=>exact absurd ⟨x,rfl⟩ d|_=>rfl
  have n:nJ (Tree.nd w u,i)=.tup [.tup (.at (.str a)::(r.map Tv.at++E.tvL u)),tk i]:=by show Tv.tup [Tv.tup (w.hd.map Tv.at++E.tvL u),tk i]=_;rw[e];rfl
  rw[VB,n];refine OP j fun s0 b=>uJ l _ _ _ fun s0 b=>?_;have:=q s0 b;rw[flatMap_cons,m] at this;exact this
inductive eM (args:SA)(k:SK):Prop
 |mk (R:Rl) (N:Nat) (e t:E) (p:List Nat) (_:args=[.fz (E.tv e),.fz (dv p)]) (_:Ex R N e) (_:p.length<=1000) (_:du e p=some t) (_:k (.fz (.tup ((ac e p).map ts))) [.fz (E.tv e),.fz (dv p)])
abbrev Lf:Gm:=Hz iR
theorem DH:∀(l:List E)(p:List Nat),nU (E.tvL l) (p.map tk)=(l.zip p).map nJ
 |[],_=>rfl
 |_::_,[]=>rfl
 |e::l,i::p=>by have:=DH l p;unfold nU at this ⊢;show nJ (e,i)::_=nJ (e,i)::_;congr 1
theorem Rc (l:List j)(h:l ≠ []):aV l none (some (-1))=l.dropLast:=by
 have c:0<l.length:=We.mpr h;unfold aV;have a:sIx l.length 0 none=0:=rfl;have b:sIx l.length l.length (some (-1))=l.length-1:=by show(if (-1:Int)<0 then ((-1:Int)+(l.length:Int)).toNat else min (-1:Int).toNat l.length)=_;rw[Vm (by decide)];lia
 rw[a,b,drop_zero,Nat.sub_zero,List.dropLast_eq_take]
theorem RJ:∀args k,eM args k->aM (aF Lf HA) (a9 args k) (entry 3 args):=by
 rintro args k ⟨R,N,e,t,p,rfl,he,d,a,q⟩;have b:=Ef p e a;have c:aV (E.tvL (d8 e p)) none (some (-1))=E.tvL (d8 e p).dropLast:=by rw[Rc _ (fun z=>by have:=V8 List.length z;rw[cj,b] at this;simp at this),E.tvL,ef,E.tvL,ef,List.map_dropLast]
 have hd:(d8 e p).dropLast.length=p.length:=by rw[List.length_dropLast,b];rfl
 refine⟨rfl,R,N,e,t,p,rfl,he,d,a,?_⟩;refine⟨?_,?_⟩;show(aV (E.tvL (d8 e p)) none (some (-1))).length=(p.map tk).length;rw[c,cj,hd,U6];rw[c,DH];refine⟨by rw[U6,length_zip];lia,rfl,uJ _ [] none none fun s0 f=>?_⟩;rw[VY];exact q
theorem DG (l:List Str):∃out:List Str,out.Perm l/\sortedS out=true:=by
 refine⟨l.mergeSort fun a b => !PySem.Spec.ltCps b.cps.toList a.cps.toList,List.mergeSort_perm ..,sortedS_of_pairwise _ ?_⟩;have h:=List.pairwise_mergeSort (le:=fun a b:Str => !PySem.Spec.ltCps b.cps.toList a.cps.toList) (fun a b c h1 d=>by
  simp only [ltCps_eq,Wi,decide_eq_false_iff_not] at h1 d ⊢
  exact List.le_trans (show a.cps.toList<=b.cps.toList from h1) (show b.cps.toList<=c.cps.toList from d)) (fun a b=>by
  simp only [ltCps_eq,Bool.or_eq_true,Wi,decide_eq_false_iff_not]
  exact List.le_total a.cps.toList b.cps.toList) l
 exact h.imp fun h=>by simpa using h
def la (ns:List Str):List Str:=Classical.choose (DG (Stx.ofL ns))
theorem uz (ns:List Str):(la ns).Perm (Stx.ofL ns)/\sortedS (la ns)=true:=Classical.choose_spec (DG (Stx.ofL ns))
theorem y0 {ns:List Str}{f:Rs->Prop}(e:l=ns.map ts)(a:ns.length<=60)(h:f (.n (.lst ((la ns).map ts)))):bz (.ex (yP l)) f:=⟨_,⟨ns,la ns,e,a,(uz ns).1,(uz ns).2,rfl⟩,h⟩
end
section
structure uR (fs:List Fd)(main:E)(x:Nat×List Nat)(b t:E):Prop where
 hb:(aW fs main)[x.1]?=some b
 g:du b x.2=some t
 ex:∃(R:Rl)(N:Nat),Ex R N b
 fl:fs.length<=100
 pl:x.2.length<=1000
inductive cS (args:SA)(k:SK):Prop
 |mk (fs:List Fd) (main:E) (x:Nat×List Nat) (b t:E) (_:args=[.fz (cu fs main),.fz (jK x)]) (_:uR fs main x b t) (_:k (.own (.lst (E.tvL (d8 b x.2)))) [.fz (cu fs main),.fz (jK x)])
abbrev Lc:Gm:=Ho cU cR iR
variable {i:Nat}{R:Rl}{u:List E}{j:List Str}{main:E}
theorem Tn:∀args k,cS args k->aM (aF Lc Hq) (a9 args k) (entry 5 args):=by rintro args k ⟨fs,main,⟨n,p⟩,b,t,rfl,a,q⟩;obtain⟨R,N,he⟩:=a.ex;have hb:=a.hb;have c:n<(aW fs main).length:=(U7.mp hb).1;have d:(E.tvL (aW fs main)).length=(aW fs main).length:=cj _;refine⟨rfl,fs,main,rfl,a.fl,rfl,(n:Int),rfl,?_⟩;refine aE (fun g2=>absurd g2 ?_) (fun _=>?_);show ¬ (!decide ((n:Int)<((E.tvL (aW fs main)).length:Nat)))=true;rw[Vj (by lia)];decide;exact bx (qt hb) ⟨rfl,R,N,b,t,p,rfl,he,a.pl,a.g,q⟩
def d6 (fs:List Fd)(b:E)(x:Nat×List Nat):List Str:=(match fs[x.1]? with|some f=>f.ps|none=>[])++ac b x.2
inductive gh (args:SA)(k:SK):Prop
 |mk (fs:List Fd) (main:E) (x:Nat×List Nat) (b t:E) (_:args=[.fz (cu fs main),.fz (jK x)]) (_:uR fs main x b t) (_:(d6 fs b x).length<=60) (_:k (.fz (.tup ((la (d6 fs b x)).map ts))) [.fz (cu fs main),.fz (jK x)])
abbrev Ld:Gm:=HI cS eM
theorem Pk (b:E)(p:List Nat):cJ (E.tvL (d8 b p)) 0=some (E.tv b):=by cases b;cases p <;> rfl
theorem Rb:∀args k,gh args k->aM (aF Ld HK) (a9 args k) (entry 7 args):=by
 rintro args k ⟨fs,main,⟨n,p⟩,b,t,rfl,a,c,q⟩;obtain⟨R,N,he⟩:=a.ex;refine⟨rfl,fs,main,(n,p),b,t,rfl,a,bx (Pk b p) ?_⟩;refine aE (fun g=>?_) (fun g=>?_);have g':(n:Int)<((fs.map Fd.tv).length:Nat):=VA g;rw[U6] at g';have d:n<fs.length:=by lia
 have i:cJ (fs.map Fd.tv) (n:Int)=some (fs[n]).tv:=by show(fs.map Fd.tv)[n]?=_;rw[Vl,U4 d];rfl
 have e:d6 fs b (n,p)=(fs[n]).ps++ac b p:=by unfold d6;rw[U4 d]
 rw[e] at q c;rw[U9] at c;generalize fs[n]=f at i q c;refine bx i ⟨rfl,R,N,b,t,p,rfl,he,a.pl,a.g,by simp;lia,?_⟩;refine y0 (ns:=f.ps++ac b p) (by simp) (by rw[U9];lia) ?_;exact q;have g':¬ (n:Int)<((fs.map Fd.tv).length:Nat):=fun h=>g (Vj h);rw[U6] at g';have e:d6 fs b (n,p)=[]++ac b p:=by unfold d6;rw[Wx (by lia)]
 rw[e] at q c;rw[U9] at c;refine⟨rfl,R,N,b,t,p,rfl,he,a.pl,a.g,by simp;lia,?_⟩;refine y0 (ns:=[]++ac b p) (by simp) (by rw[U9];lia) ?_;exact q
theorem O6 (e:E)(p:List Nat):d8 e p ≠ []:=by cases e;cases p <;> exact List.cons_ne_nil _ _
theorem Ee (e:E):ac e []=[]:=by unfold ac;rw[List.zip_nil_right];rfl
theorem EZ {w:Wd}{k:E}(p:List Nat)(h:u[i]?=some k):ac (.nd w u) (i::p)=gG (.nd w u,i)++ac k p:=by unfold ac;rw[d8,h];show((Tree.nd w u::d8 k p).dropLast.zip (i::p)).flatMap gG=_;rw[List.dropLast_cons_of_ne_nil (O6 k p),List.zip_cons_cons,flatMap_cons]
abbrev xQ:Gm:=Hx cf aj
noncomputable abbrev cL:IE:=.and (.cmp .eq (.ix (.var 5) (.cst (.int 0))) (.cst (.str "let"))) (.cmp .eq (.var 6) (.cst (.int 1)))
noncomputable abbrev aL:IS:=.exp (.mth .app (.var 4) (.cons (.ix (.var 5) (.cst (.int 1))) .nil))
theorem OO {P:PD}{s0 c d s3:Option Sl}{b:List Str}{w:Wd}(o:b.length<=1000)
  (q:P.nx ⟨[s0,c,d,s3,some (.own (.lst ((b++gG (.nd w u,i)).map ts))),some (.fz (E.tv (.nd w u))),some (.fz (tk i))],[],[]⟩):
  aM (aF xQ (.ife cL aL .skip)) P ⟨[s0,c,d,s3,some (.own (.lst (b.map ts))),some (.fz (E.tv (.nd w u))),some (.fz (tk i))],[],[]⟩:=by
 by_cases f:∃x,w=.lt x
 .obtain⟨x,rfl⟩:=f
  by_cases j:i=1
  .subst j
   refine⟨rfl,by show(b.map ts).length<_;rw[U6];lia,?_⟩;have l:b.map ts++[ts x]=(b++[x]).map ts:=by simp
   show P.nx ⟨[s0,c,d,s3,some (.own (.lst (b.map ts++[ts x]))),_,_],[],[]⟩;rw[l];exact q
  .refine aE (fun g=>?_) (fun _=>?_)
   .have h1:decide (V.int (i:Int)=V.int 1)=true:=by simpa using g
    have p:=V.int.inj (VA h1);exact absurd (by lia) j
   .have e:gG (Tree.nd (.lt x) u,i)=[]:=Vi j;rw[e,Vk] at q;exact q
 .obtain⟨a,r,e,m⟩:=Dg w fun x e=>f ⟨x,e⟩
  have n:gG (Tree.nd w u,i)=[]:=by cases w with|lt x=>exact absurd ⟨x,rfl⟩ f|_=>rfl
  have k:E.tv (Tree.nd w u)=.tup (.at (.str a)::(r.map Tv.at++E.tvL u)):=by show Tv.tup (w.hd.map Tv.at++E.tvL u)=_;rw[e];rfl
  rw[n,Vk,k] at q;rw[k];have no:¬ (false ^^ decide (V.str a=V.str "let"))=true:=fun h=>by have:=VA (show decide (V.str a=V.str "let")=true by simpa using h);exact m (V.str.inj this)
  exact aE (fun g=>absurd g no) (fun _=>q)
theorem Ed {P:PD}{t:E}{s0 f g s3:Option Sl}:∀(p:List Nat)(e:E)(N:Nat)(b:List Str)(a:Option Sl),Ex R N e->du e p=some t->b.length+p.length<=1000->(∀h a,P.nx ⟨[s0,f,g,s3,some (.own (.lst ((b++ac e p).map ts))),h,a],[],[]⟩) →cN (bd (.nm 6)) (aM (aF xQ Hh)) P (p.map tk) ⟨[s0,f,g,s3,some (.own (.lst (b.map ts))),some (.fz (E.tv e)),a],[],[]⟩
 |[],e,N,b,a,_,_,_,q=>by have:=q (some (.fz (E.tv e))) a;rw[Ee,Vk] at this;exact this
 |i::p,.nd w u,N,b,a,he,c,l,q=>by
  rw[du] at c;rw[Vw] at l;cases d:u[i]? with
  |none=>(rw[d] at c;cases c)
  |some k=>
   rw[d] at c;have m:du k p=some t:=c;cases he with
   | @mk n _ _ o j=>
    have r:=o.le;have s:k∈u:=VF d;have v:(gG (Tree.nd w u,i)).length<=1:=by cases w with|lt x=>show(if i=1 then [x] else []).length<=1;split <;> simp|_=>exact VW _
    refine⟨fun M=>M=⟨[s0,f,g,s3,some (.own (.lst ((b++gG (.nd w u,i)).map ts))),some (.fz (E.tv (.nd w u))),some (.fz (tk i))],[],[]⟩,OO (by lia) rfl,?_⟩;rintro M rfl;refine⟨rfl,w,u,rfl,by lia,bx (qt d) ?_⟩;refine Ed p k n (b++gG (.nd w u,i)) _ (j k s) m (by rw[U9];lia) fun h a=>?_;have:=q h a;rw[EZ p d] at this;rw[W7];exact this
inductive dE (args:SA)(k:SK):Prop
 |mk (fs:List Fd) (main:E) (x:Nat×List Nat) (b t:E) (_:args=[.fz (cu fs main),.fz (jK x)]) (_:uR fs main x b t) (_:(d6 fs b x).length<=60) (_:x.2.length<=900) (_:k (.fz (.tup ((la (d6 fs b x)).map ts))) [.fz (cu fs main),.fz (jK x)])
theorem Sx:∀args k,dE args k->aM (aF xQ Hy) (a9 args k) (entry 7 args):=by
 rintro args k ⟨fs,main,⟨n,p⟩,b,t,rfl,a,j,i,q⟩;obtain⟨R,N,he⟩:=a.ex;refine⟨fun M=>∃ps:List Str,d6 fs b (n,p)=ps++ac b p/\M=⟨[some (.fz (cu fs main)),some (.fz (jK (n,p))),some (.fz (tk n)),some (.fz (dv p)),some (.own (.lst (ps.map ts))),none,none],[],[]⟩,?_,?_⟩;refine aE (fun g=>?_) (fun g=>?_);have g':(n:Int)<((fs.map Fd.tv).length:Nat):=VA g;rw[U6] at g';have l:n<fs.length:=by lia
 have m:cJ (fs.map Fd.tv) (n:Int)=some (fs[n]).tv:=by show(fs.map Fd.tv)[n]?=_;rw[Vl,U4 l];rfl
 have e:d6 fs b (n,p)=(fs[n]).ps++ac b p:=by unfold d6;rw[U4 l]
 generalize fs[n]=f at m e;exact bx m ⟨f.ps,e,rfl⟩;have g':¬ (n:Int)<((fs.map Fd.tv).length:Nat):=fun h=>g (Vj h);rw[U6] at g';refine⟨[],?_,rfl⟩;unfold d6;rw[Wx (by lia)];rintro M ⟨ps,e,rfl⟩;rw[e] at q j;rw[U9] at j;refine⟨rfl,fs,main,rfl,a.fl,bx (qt a.hb) ?_⟩;refine⟨fun M=>∃c d,M=⟨[some (.fz (cu fs main)),some (.fz (jK (n,p))),some (.fz (tk n)),some (.fz (dv p)),some (.own (.lst ((ps++ac b p).map ts))),c,d],[],[]⟩,?_,?_⟩;exact Ed (R:=R) p b N ps none he a.g (by have o:p.length<=900:=i;lia) fun c d=>⟨c,d,rfl⟩;rintro M ⟨c,d,rfl⟩;refine y0 (ns:=ps++ac b p) rfl (by rw[U9];lia) ?_;exact q
theorem Qs (l:List Fd):(∀f∈l,f.bd.cnt<=30)->Tree.cntL (l.map Fd.bd++[main])<=30*l.length+main.cnt:=by induction l with|nil=>(intro _;show Tree.cntL [main]<=_;rw[Tree.cntL,Tree.cntL];simp)|cons f l a=>intro h;have h1:=h f Vc;have c:=a fun g b=>h g (Vb _ b);rw[VB,WM,Tree.cntL,Vw];lia
theorem PgOk.bs {fs:List Fd}(h:PgOk j fs main):∀b∈aW fs main,Ex (Rp j fs) 7 b:=fun b hb=>by unfold aW at hb;rcases Vo.mp hb with hb|hb;obtain⟨f,a,rfl⟩:=VG.mp hb;exact(h.fo f a).bd.up (by decide);rw[VS.mp hb];exact h.mn
theorem PgOk.cn {fs:List Fd}(h:PgOk j fs main):Tree.cntL (aW fs main)<=360:=by have:=Qs (main:=main) fs fun f a=>(h.fo f a).bc;have:=h.fl;have:=h.mc;unfold aW;lia
theorem O4:∀(N:Nat)(e:E),Ex R N e->∀p∈cH e,∀i∈p.1,i<=7:=by
 intro N e h;induction h with
 | @mk n w u h d g=>
  have o:=h.le;have go:∀(u:List E)(i:Nat),i+u.length<=8->(∀k∈u,∀p∈cH k,∀i∈p.1,i<=7)->∀p∈fU i u,∀j∈p.1,j<=7:=by intro u;induction u with|nil=>(intro i _ _ p a;cases a)|cons k u c=>intro i l f p a j b;rw[Vw] at l;rw[fU] at a;rcases Vo.mp a with z|z;obtain⟨q,m,rfl⟩:=VG.mp z;rcases Vg.mp b with e|e;lia;exact f k Vc q m j e;exact c (i+1) (by lia) (fun k d=>f k (Vb _ d)) p z j b
  intro p a j b;rw[cH] at a;rcases Vg.mp a with e|z;rw[e] at b;cases b;exact go u 0 (by lia) g p z j b
inductive iV (args:SA)(k:SK):Prop
 |mk (ns:List Int) (_:args=[.fz (.scr (ns.map ti))]) (_:ns.length<=16777216) (_:k (.own (aH (ns.take 63) 0 0)) [.fz (.scr (ns.map ti))])
theorem Qn:∀args k,iV args k->aM (aF EU EV) (a9 args k) (entry 1 args):=by
 rintro args k ⟨ns,rfl,c,q⟩;have e:aV (ns.map ti) none (some 63)=(ns.take 63).map ti:=by
  unfold aV;have h0:sIx (ns.map ti).length 0 none=0:=rfl;have h1:sIx (ns.map ti).length (ns.map ti).length (some 63)=min 63 ns.length:=by rw[U6];unfold sIx;simp
  rw[h0,h1,drop_zero,Nat.sub_zero,<- map_take];rw[show min 63 ns.length=min 63 ns.length from rfl,List.take_eq_take_min,List.take_eq_take_min (i:=63)];simp
 have a:k (.own (.dic [(.inr "cells",.lst (aV (ns.map ti) none (some 63))),(.inr "at",ti 0),(.inr "left",ti 0)])) [.fz (.scr (ns.map ti))]:=by rw[e];exact q
 have b:(aV (ns.map ti) none (some 63)).length<=16777216:=by rw[e,U6,VU];lia
 first|exact a|exact⟨b,a⟩|exact⟨rfl,a⟩|exact⟨b,rfl,a⟩
inductive ku (args:SA)(k:SK):Prop
 |mk (ns:List Int) (n:Nat) (z:Int) (s:Sl) (l:List Tv) (_:args=[.own (aH ns n z),s]) (_:ji s l) (_:ns.length<=63) (_:n<=1000000000000) (_:0<l.length) (_:l.length<=1000000) (_:∀t∈l,∀n' z',n'<=n+1->k (.fz t) [.own (aH ns n' z'),s])
theorem O3:∀args k,ku args k->aM (aF (Fp aN) Ft) (a9 args k) (entry 2 args):=by rintro args k ⟨ns,n,z,s,l,rfl,i,g,h,h0,h1,q⟩;rcases i with rfl|rfl;refine⟨rfl,ns,n,z,(l.length:Nat),rfl,g,h,by lia,by lia,fun r n1 c d e a=>?_⟩;obtain⟨t,f,b⟩:=nZ (P:=fun t=>t∈l) (fun t b=>b) d e;exact bx f (q t b n1 c a);refine⟨rfl,ns,n,z,(l.length:Nat),rfl,g,h,by lia,by lia,fun r n1 c d e a=>?_⟩;obtain⟨t,f,b⟩:=nZ (P:=fun t=>t∈l) (fun t b=>b) d e;exact bx f (q t b n1 c a)
end
noncomputable def uQ (c:Nat):Bool:=decide (32<c)&&decide (c<127)&&decide (c≠39)&&decide (c≠92)
def v7 (x:Str):Bool:=x.cps.toList.all uQ
def kT:V->Bool
 | .str x=>decide (x.length<=16)&&v7 x
 | .int i=>decide (0<=i)&&decide (i<10 ^ 12)
 |_=>false
mutual
noncomputable def gvT:Tv->Bool
 | .at v=>kT v
 | .tup l=>gvTs l
 |_=>false
noncomputable def gvTs:List Tv->Bool
 |[]=>true
 |t::l=>gvT t&&gvTs l
end
mutual
noncomputable def aT:Tv->Th
 | .at v=>.at v
 | .tup l=>.tup (bN l)
 | .lst l=>.lst (bN l)
 |_=>.at .non
noncomputable def bN:List Tv->List Th
 |[]=>[]
 |t::l=>aT t::bN l
end
mutual
noncomputable def mS:Tv->Nat
 | .tup l=>1+lE l
 |_=>1
noncomputable def lE:List Tv->Nat
 |[]=>0
 |t::l=>mS t+lE l
end
mutual
noncomputable def sT:Tv->Nat
 | .tup l=>1+lA l
 |_=>0
noncomputable def lA:List Tv->Nat
 |[]=>0
 |t::l=>max (sT t) (lA l)
end
theorem OL {v:V}(h:kT v=true):lg v=true:=by cases v with|str x=>unfold kT at h;rw[U1,VM] at h;exact Vj (by lia)|int i=>rfl|_=>cases h
mutual
theorem gvT.th:∀{t:Tv},gvT t=true->TvTh t (aT t)
 | .at v,h=>.at (OL h)
 | .tup l,h=>.tup (gvTs.th (by rw[gvT] at h;exact h))
 | .ktp l,h=>by cases h
 | .lst l,h=>by cases h
 | .scr l,h=>by cases h
 | .dic l,h=>by cases h
theorem gvTs.th:∀{l:List Tv},gvTs l=true->TvThs l (bN l)
 |[],_=>.nil
 |t::l,h=>by rw[gvTs,U1] at h;exact .cons (gvT.th h.1) (gvTs.th h.2)
end
theorem CW {i:Int}(h:i.natAbs<10 ^ 12):i.natAbs.log2<1920:=by by_cases h0:i.natAbs=0;rw[h0];decide;have h1:i.natAbs<2 ^ 40:=Ve h (by decide);have:=(Nat.log2_lt h0).mpr h1;lia
mutual
theorem gvT.ok:∀{t:Tv},gvT t=true->(aC (aT t)).showable=true/\(aC (aT t)).leavesShort 13=true/\(aC (aT t)).bulk+1<=17*mS t/\(aC (aT t)).depth<=sT t
 | .at v,h=>by
  rw[gvT] at h;rw[aT];cases v with
  |str x=>(unfold kT at h;rw[U1,VM] at h;have d:x.cps.size=x.length:=rfl;refine⟨by simp [aC,ek,PyData.showable],?_,?_,by simp [aC,ek,PyData.depth]⟩;simp only [aC,ek,PyData.leavesShort];refine V7.mpr fun c a=>?_;have:=V7.mp h.2 c a;unfold uQ at this;simp only [U1,Wg] at this;exact Vj (by lia);simp only [aC,ek,PyData.bulk,mS];lia)
  |int i=>
   unfold kT at h;rw[U1,VM,VM] at h;have h':i.natAbs<10 ^ 12:=by lia
   refine⟨?_,?_,by simp [aC,ek,PyData.bulk,mS],by simp [aC,ek,PyData.depth]⟩;simp only [aC,ek,PyData.showable];exact Vj (CW h');simp only [aC,ek,PyData.leavesShort];exact Vj (PyData.shown_int_le h')
  |_=>cases h
 | .tup l,h=>by rw[gvT] at h;obtain⟨h1,b,e,f⟩:=gvTs.ok h;rw[aT];refine⟨by simpa only [aC,PyData.showable] using h1,by simpa only [aC,PyData.leavesShort] using b,?_,?_⟩;simp only [aC,PyData.bulk,mS];lia;simp only [aC,PyData.depth,sT];lia
 | .ktp l,h=>by cases h
 | .lst l,h=>by cases h
 | .scr l,h=>by cases h
 | .dic l,h=>by cases h
theorem gvTs.ok:∀{l:List Tv},gvTs l=true->PyData.showableAll (cy (bN l))=true/\PyData.leavesShortAll 13 (cy (bN l))=true/\PyData.bulkAll (cy (bN l))<=17*lE l/\PyData.depthAll (cy (bN l))<=lA l
 |[],_=>⟨by simp [cy,bN,PyData.showableAll],by simp [cy,bN,PyData.leavesShortAll],by simp [cy,bN,PyData.bulkAll],by simp [cy,bN,PyData.depthAll]⟩
 |t::l,h=>by rw[gvTs,U1] at h;obtain⟨a,b,d,e⟩:=gvT.ok h.1;obtain⟨b1,c,f,g⟩:=gvTs.ok h.2;rw[bN,cy];refine⟨?_,?_,?_,?_⟩;rw[PyData.showableAll,a,b1];rfl;rw[PyData.leavesShortAll,b,c];rfl;rw[PyData.bulkAll,lE];lia;rw[PyData.depthAll,lA];lia
end
section
variable {x:Str}{l:List Tv}{R:Rl}{r:List Str}{main:E}
theorem Nm.gv (h:Nm x):kT (.str x)=true:=by unfold kT;rw[U1,VM];refine⟨by have:=h.2.1;lia,V7.mpr fun c a=>?_⟩;have:=h.2.2 c a;unfold uQ;simp only [U1,Wg];lia
theorem BU:∀l:List V,(∀v∈l,kT v=true)->gvTs (l.map Tv.at)=true
 |[],_=>rfl
 |v::l,h=>by rw[VB,gvTs,BU l fun w a=>h w (Vb _ a),gvT,h v Vc];rfl
theorem BS:∀l:List V,lE (l.map Tv.at)=l.length
 |[]=>rfl
 |v::l=>by have e:lE ((v::l).map Tv.at)=1+lE (l.map Tv.at):=rfl;rw[e,BS l,Vw];lia
theorem BR:∀l:List V,lA (l.map Tv.at)=0
 |[]=>rfl
 |v::l=>by have e:lA ((v::l).map Tv.at)=max 0 (lA (l.map Tv.at)):=rfl;rw[e,BR l];rfl
theorem Ag (m:Int):∀(bs:List E)(i:Nat)(q:(Nat×List Nat)×E),q∈dw m i bs->∃j b,bs[j]?=some b/\q.1.1=i+j/\(q.1.2,q.2)∈cH b
 |[],i,q,h=>by cases h
 |b::bs,i,q,h=>by rw[dw] at h;rcases Vo.mp h with h|h;obtain⟨p,a,e⟩:=VG.mp h;subst e;exact⟨0,b,rfl,rfl,(mem_filter.mp a).1⟩;obtain⟨j,c,h1,f,d⟩:=Ag m bs (i+1) q h;exact⟨j+1,c,by simpa using h1,by lia,d⟩
theorem OK (b:gvTs l=true)(g:lE l<=60000)(hd:lA l<=50):∃u,TvTh (.tup l) u/\(aC u).showable=true/\(aC u).depth<=60/\(aC u).shown.length<=16777216:=by
 have a:gvT (.tup l)=true:=by rw[gvT];exact b
 obtain⟨c,d,e,f⟩:=gvT.ok a;rw[mS] at e;rw[sT] at f;refine⟨_,gvT.th a,c,by lia,?_⟩;have h:=PyData.shown_le_bulk 13 (by decide) _ d;lia
theorem ON (ns:List Str):ns.map ts=(ns.map V.str).map Tv.at:=by rw[map_map];rfl
theorem Qf {ns:List Str}(h:∀x∈ns,Nm x)(c:ns.length<=1000):∃u,TvTh (.tup (ns.map ts)) u/\(aC u).showable=true/\(aC u).depth<=60/\(aC u).shown.length<=16777216:=by rw[ON];refine OK (BU _ fun v a=>?_) (by rw[BS,U6];lia) (by rw[BR];lia);obtain⟨x,b,rfl⟩:=VG.mp a;exact(h x b).gv
theorem Qb (q:E×Nat):(gG q).length<=1:=by obtain⟨⟨w,a⟩,i⟩:=q;cases w with|lt x=>show(if i=1 then [x] else []).length<=1;split <;> simp|_=>exact VW _
theorem P0 (e:E)(p:List Nat):(ac e p).length<=p.length:=by
 unfold ac;have h:∀l:List (E×Nat),(l.flatMap gG).length<=l.length:=fun l=>by induction l with|nil=>simp|cons q l a=>rw[flatMap_cons,U9,Vw];have:=Qb q;lia
 have:=h ((d8 e p).dropLast.zip p);rw[length_zip] at this;lia
theorem DF {t:E}:∀(p:List Nat)(e:E)(N:Nat),Ex R N e->du e p=some t->∀x∈ac e p,R.X x
 |[],e,N,_,_,x,a=>by rw[Ee] at a;cases a
 |i::p,.nd w g,N,he,b,x,a=>by
  rw[du] at b;cases c:g[i]? with
  |none=>(rw[c] at b;cases b)
  |some k=>
   rw[c] at b;rw[EZ p c] at a;cases he with
   | @mk n _ _ h d=>
    rcases Vo.mp a with a|a;cases w with|lt y=>(have f:x∈(if i=1 then [y] else []):=a;split at f;rw[VS.mp f];exact h.2;cases f)|_=>cases a
    exact DF p k n (d k (VF c)) b x a
structure PlD (r:List Str)(fs:List Fd)(main:E)(x:Nat×List Nat)(b t:E):Prop where
 pb:uR fs main x b t
 ex:Ex (Rp r fs) 7 b
 p7:x.2.length<=7
 i7:∀i∈x.2,i<=7
 n4:x.1<=4
theorem PlD.of {fs:List Fd}(h:PgOk r fs main){m:Int}{q:(Nat×List Nat)×E}(e:q∈dw m 0 (aW fs main)):∃b,PlD r fs main q.1 b q.2:=by
 obtain⟨j,b,h1,c,a⟩:=Ag m _ 0 q e;have hb:=h.bs b (VF h1);have d:=EJ hb _ a;have f:=(U7.mp h1).1;have g:(aW fs main).length=fs.length+1:=by unfold aW;simp
 have i:=h.fl;rw[Nat.zero_add] at c;exact⟨b,⟨by rw[c];exact h1,C5 b _ a,⟨_,_,hb⟩,by lia,by have:q.1.2.length<=7:=d;lia⟩,hb,d,O4 7 b hb _ a,by lia⟩
theorem PlD.len {fs:List Fd}(h:PgOk r fs main){x:Nat×List Nat}{b t:E}(d:PlD r fs main x b t):(d6 fs b x).length<=60:=by have h1:=P0 b x.2;have a:=d.p7;unfold d6;rw[U9];cases e:fs[x.1]? with|none=>simp;lia|some f=>have:=(h.fo f (VF e)).l6;show f.ps.length+_<=_;lia
theorem PlD.nm {fs:List Fd}(h:PgOk r fs main){x:Nat×List Nat}{b t:E}(d:PlD r fs main x b t):∀y∈la (d6 fs b x),Nm y:=fun y a=>by
 have a:=(Stx.ofL_mem _ y).mp ((uz _).1.mem_iff.mp a);unfold d6 at a;rcases Vo.mp a with a|a;cases e:fs[x.1]? with|none=>(rw[e] at a;cases a)|some f=>rw[e] at a;exact h.pn y ((h.fo f (VF e)).sub y a)
 exact h.pn y (DF x.2 b 7 d.ex d.pb.g y a)
theorem PlD.repr {fs:List Fd}(h:PgOk r fs main){x:Nat×List Nat}{b t:E}(d:PlD r fs main x b t):∃u,TvTh (.tup ((la (d6 fs b x)).map ts)) u/\(aC u).showable=true/\(aC u).depth<=60/\(aC u).shown.length<=16777216:=Qf (d.nm h) (by
  have h1:=(uz (d6 fs b x)).1.length_eq;have a:=Stx.ofL_len (d6 fs b x);have c:=d.len h
  lia)
end
section
def qd:V->Bool
 | .str x=>decide (x.length<=16)&&v7 x
 | .int i=>decide (i.natAbs<10 ^ 12)
 | .bl _=>true
 | .non=>true
 |_=>false
mutual
noncomputable def gwT:Tv->Bool
 | .at v=>qd v
 | .tup l=>gwTs l
 | .lst l=>gwTs l
 |_=>false
noncomputable def gwTs:List Tv->Bool
 |[]=>true
 |t::l=>gwT t&&gwTs l
end
mutual
noncomputable def dj:Tv->Nat
 | .tup l=>1+cE l
 | .lst l=>1+cE l
 |_=>1
noncomputable def cE:List Tv->Nat
 |[]=>0
 |t::l=>dj t+cE l
end
mutual
noncomputable def d9:Tv->Nat
 | .tup l=>1+cA l
 | .lst l=>1+cA l
 |_=>0
noncomputable def cA:List Tv->Nat
 |[]=>0
 |t::l=>max (d9 t) (cA l)
end
variable {t:Tv}
theorem RI {v:V}(h:qd v=true):lg v=true:=by cases v with|str x=>unfold qd at h;rw[U1,VM] at h;exact Vj (by lia)|int i=>rfl|bl b=>rfl|non=>rfl|_=>cases h
mutual
theorem gwT.th:∀{t:Tv},gwT t=true->TvTh t (aT t)
 | .at v,h=>.at (RI h)
 | .tup l,h=>.tup (gwTs.th (by rw[gwT] at h;exact h))
 | .ktp l,h=>by cases h
 | .lst l,h=>.lst (gwTs.th (by rw[gwT] at h;exact h))
 | .scr l,h=>by cases h
 | .dic l,h=>by cases h
theorem gwTs.th:∀{l:List Tv},gwTs l=true->TvThs l (bN l)
 |[],_=>.nil
 |t::l,h=>by rw[gwTs,U1] at h;exact .cons (gwT.th h.1) (gwTs.th h.2)
end
mutual
theorem gwT.ok:∀{t:Tv},gwT t=true->(aC (aT t)).showable=true/\(aC (aT t)).leavesShort 13=true/\(aC (aT t)).bulk+1<=17*dj t/\(aC (aT t)).depth<=d9 t
 | .at v,h=>by rw[gwT] at h;rw[aT];cases v with|str x=>(unfold qd at h;rw[U1,VM] at h;have g:x.cps.size=x.length:=rfl;refine⟨by simp [aC,ek,PyData.showable],?_,?_,by simp [aC,ek,PyData.depth]⟩;simp only [aC,ek,PyData.leavesShort];refine V7.mpr fun c d=>?_;have:=V7.mp h.2 c d;unfold uQ at this;simp only [U1,Wg] at this;exact Vj (by lia);simp only [aC,ek,PyData.bulk,dj];lia)|int i=>unfold qd at h;have h':i.natAbs<10 ^ 12:=VA h;refine⟨?_,?_,by simp [aC,ek,PyData.bulk,dj],by simp [aC,ek,PyData.depth]⟩;simp only [aC,ek,PyData.showable];exact Vj (CW h');simp only [aC,ek,PyData.leavesShort];exact Vj (PyData.shown_int_le h')|bl b=>(cases b <;> exact⟨by decide,by decide,by decide,by decide⟩)|non=>exact⟨by decide,by decide,by decide,by decide⟩|_=>cases h
 | .tup l,h=>by rw[gwT] at h;obtain⟨h1,a,e,f⟩:=gwTs.ok h;rw[aT];refine⟨by simpa only [aC,PyData.showable] using h1,by simpa only [aC,PyData.leavesShort] using a,?_,?_⟩;simp only [aC,PyData.bulk,dj];lia;simp only [aC,PyData.depth,d9];lia
 | .ktp l,h=>by cases h
 | .lst l,h=>by rw[gwT] at h;obtain⟨h1,a,e,f⟩:=gwTs.ok h;rw[aT];refine⟨by simpa only [aC,PyData.showable] using h1,by simpa only [aC,PyData.leavesShort] using a,?_,?_⟩;simp only [aC,PyData.bulk,dj];lia;simp only [aC,PyData.depth,d9];lia
 | .scr l,h=>by cases h
 | .dic l,h=>by cases h
theorem gwTs.ok:∀{l:List Tv},gwTs l=true->PyData.showableAll (cy (bN l))=true/\PyData.leavesShortAll 13 (cy (bN l))=true/\PyData.bulkAll (cy (bN l))<=17*cE l/\PyData.depthAll (cy (bN l))<=cA l
 |[],_=>⟨by simp [cy,bN,PyData.showableAll],by simp [cy,bN,PyData.leavesShortAll],by simp [cy,bN,PyData.bulkAll],by simp [cy,bN,PyData.depthAll]⟩
 |t::l,h=>by rw[gwTs,U1] at h;obtain⟨a,b,d,e⟩:=gwT.ok h.1;obtain⟨b1,c,f,g⟩:=gwTs.ok h.2;rw[bN,cy];refine⟨?_,?_,?_,?_⟩;rw[PyData.showableAll,a,b1];rfl;rw[PyData.leavesShortAll,b,c];rfl;rw[PyData.bulkAll,cE];lia;rw[PyData.depthAll,cA];lia
end
theorem PZ (a:gwT t=true)(d:dj t<=60000)(hd:d9 t<=50):∃u,TvTh t u/\(aC u).showable=true/\(aC u).depth<=60/\(aC u).shown.length<=16777216:=by obtain⟨b,c,e,f⟩:=gwT.ok a;refine⟨_,gwT.th a,b,by lia,?_⟩;have g:=PyData.shown_le_bulk 13 (by decide) _ c;lia
end
section
noncomputable def iy:E->List Int->Bool
 |_,[]=>true
 | .nd _ a,z::b=>if 0<=z then (match a[z.toNat]? with|some k=>iy k b|none=>false) else false
variable {i:Nat}{B:List Str}{main:E}
theorem Ec {t:E}(a:List Int):∀(p:List Nat)(e:E),du e p=some t->iy e (p.map (fun(i:Nat)=>(i:Int))++a)=iy t a
 |[],e,h=>by rw[du] at h;cases h;rfl
 |i::p,.nd w c,h=>by rw[du] at h;cases b:c[i]? with|none=>(rw[b] at h;cases h)|some k=>rw[b] at h;rw[VB,WM,iy,Vm (by lia),VX,b];exact Ec a p k h
structure ig (fs:List Fd)(main:E)(t:Tv):Prop where
 gw:gwT t=true
 sz:dj t<=100
 dp:d9 t<=5
 fl:fs.length<=100
 ex:∃(R:Rl)(N:Nat),(∀x,R.X x->Nm x)/\∀b∈aW fs main,Ex R N b
 no:∀(n:Int)(zs:List Int)(b:E),t=.tup [ti n,.tup (zs.map ti)]->0<=n->(aW fs main)[n.toNat]?=some b->iy b zs=false
 el:∀(a:Tv)(l:List Tv),t=.tup [a,.tup l]->l.length<=1000/\∀x∈l,(∃i,x=ti i)∨∃c,x=.at (.bl c)
 nb:∀c,t ≠ .at (.bl c)
inductive iS (args:SA)(k:SK):Prop
 |mk (fs:List Fd) (main:E) (t:Tv) (_:args=[.fz (cu fs main),.fz t]) (_:ig fs main t) (_:k (.own (.lst [t])) [.fz (cu fs main),.fz t])
noncomputable def CY:E->Nat
 | .nd _ a=>a.length
theorem O1 {l m:List Int}(h:l.map ti=m.map ti):l=m:=by
 induction l generalizing m with
 |nil=>cases m with
  |nil=>rfl
  |cons _ _=>cases h
 |cons a l c=>cases m with
  |nil=>cases h
  |cons b m=>rw[VB,VB] at h;injection h with h1 d;injection h1 with h1;injection h1 with h1;rw[h1,c d]
theorem O0 (p:List Nat):p.map tk=(p.map fun(i:Nat)=>(i:Int)).map ti:=by rw[map_map];rfl
def vW (c:Int)(k:Nat)(p:List Nat)(more:Int):List Tv:=[.tup [tk k,.tup (p.map tk++[ti more])],.tup [tk k,.tup (p.map tk++[ti (-1)])],.tup [ti c,dv p],.tup [ti (-1),dv p],.lst [tk k,dv p],tk k,.at .non]
def yM (k:Nat)(p:List Nat):List Tv:=[.tup [tk k,.lst (p.map tk)],.tup [.at (.bl true),dv p],.tup [tk k,dv p,ti 0],.tup [tk k,.tup (p.map tk++[.at (.bl false)])],.tup [],ts "place",.tup (p.map tk++[tk k])]
theorem OY (h:i<=1000000):gwT (tk i)=true:=Vj (by show(i:Int).natAbs<_;lia)
theorem uI:∀a b:List Tv,gwTs (a++b)=(gwTs a&&gwTs b)
 |[],b=>by simp [gwTs]
 |t::a,b=>by rw[WM,gwTs,gwTs,uI a b,Bool.and_assoc]
theorem uH:∀a b:List Tv,cE (a++b)=cE a+cE b
 |[],b=>by simp [cE]
 |t::a,b=>by rw[WM,cE,cE,uH a b];lia
theorem uG:∀a b:List Tv,cA (a++b)=max (cA a) (cA b)
 |[],b=>by simp [cA]
 |t::a,b=>by rw[WM,cA,cA,uG a b];lia
theorem kg:∀p:List Nat,(∀i∈p,i<=1000000)->gwTs (p.map tk)=true
 |[],_=>rfl
 |i::p,h=>by rw[VB,gwTs,OY (h i Vc),kg p fun j a=>h j (Vb _ a)];rfl
theorem kf:∀p:List Nat,cE (p.map tk)=p.length
 |[]=>rfl
 |i::p=>by rw[VB,cE,kf p,Vw];show 1+p.length=_;lia
theorem ke:∀p:List Nat,cA (p.map tk)=0
 |[]=>rfl
 |i::p=>by rw[VB,cA,ke p];rfl
section
variable {fs:List Fd}
theorem iF (h:PgOk B fs main){u:Tv}(g:gwT u=true)(s:dj u<=100)(dd:d9 u<=5)
  (no:∀(n:Int)(d:List Int)(b:E),u=.tup [ti n,.tup (d.map ti)]->0<=n->(aW fs main)[n.toNat]?=some b->iy b d=false)
  (el:∀(a:Tv)(l:List Tv),u=.tup [a,.tup l]->l.length<=1000/\∀x∈l,(∃i,x=ti i)∨∃c,x=.at (.bl c)) (nb:∀c,u ≠ .at (.bl c):=by intro c z;cases z):ig fs main u:=
 ⟨g,s,dd,by have:=h.fl;lia,⟨Rp B fs,7,h.pn,h.bs⟩,no,el,nb⟩
variable {x:Nat×List Nat}{b t:E}
theorem PlD.big (d:PlD B fs main x b t):∀i∈x.2,i<=1000000:=fun i a=>by have:=d.i7 i a;lia
theorem DE {p:List Nat}{y:Tv}(b:(∃i,y=ti i)∨∃c,y=.at (.bl c)):∀z∈p.map tk++[y],(∃i,z=ti i)∨∃c,z=.at (.bl c):=fun z a=>by rcases Vo.mp a with a|a;obtain⟨i,_,rfl⟩:=VG.mp a;exact .inl ⟨_,rfl⟩;rw[VS.mp a];exact b
theorem EY (h:PgOk B fs main)(d:PlD B fs main x b t){m:Int}(p:m.natAbs<=100)(j:iy t [m]=false):ig fs main (.tup [tk x.1,.tup (x.2.map tk++[ti m])]):=by have q:=d.p7;refine iF h ?_ ?_ ?_ (fun n k r e h0 hb=>?_) (fun a l e=>?_);simp only [gwT,gwTs,uI,kg x.2 d.big,WG,WH];rw[U1];exact⟨Vj (by have:=d.n4;show(x.1:Int).natAbs<_;lia),Vj (by lia)⟩;simp only [dj,cE,uH,kf];lia;simp only [d9,cA,uG,ke];decide;injection e with e;injection e with f c;injection c with c _;injection c with c;injection f with f;injection f with f;have o:(x.2.map (fun(i:Nat)=>(i:Int))++[m])=k:=O1 (by rw[VQ,<- O0];exact c);rw[<- f,VX,d.pb.hb] at hb;cases hb;rw[<- o,Ec [m] x.2 b d.pb.g,j];injection e with e;injection e with f c;injection c with c _;injection c with c;rw[<- c];exact⟨by simp;lia,DE (.inl ⟨m,rfl⟩)⟩
theorem C7 (p:List Nat):∀z∈p.map tk,(∃i,z=ti i)∨∃c,z=.at (.bl c):=fun z a=>by obtain⟨i,_,rfl⟩:=VG.mp a;exact .inl ⟨_,rfl⟩
theorem FU (h:PgOk B fs main)(d:PlD B fs main x b t){m:Int}(i:m.natAbs<=100)(g:0<=m->fs.length<m.toNat):ig fs main (.tup [ti m,dv x.2]):=by
 have j:=d.p7;unfold dv;refine iF h ?_ ?_ ?_ (fun n k o e h0 hb=>?_) (fun a l e=>?_);simp only [gwT,gwTs,kg x.2 d.big,WG,WH];exact Vj (by lia);simp only [dj,cE,kf];lia;simp only [d9,cA,ke];decide;injection e with e;injection e with c f;injection c with c;injection c with c;subst c;have p:(aW fs main).length=fs.length+1:=by unfold aW;simp
 have:=(U7.mp hb).1;have:=g h0;lia;injection e with e;injection e with c f;injection f with f _;injection f with f;rw[<- f];exact⟨by simp;lia,C7 x.2⟩
theorem PY (h:PgOk B fs main)(d:PlD B fs main x b t){more c:Int}(h1:(CY t:Int)<=more)(s:more<=100)(v:c=fs.length+1):∀u∈vW c x.1 x.2 more++yM x.1 x.2,ig fs main u:=by
 have y:=d.p7;have k:=d.n4;have A:=h.fl;have o:∀{n:Nat},n<=4->decide ((n:Int).natAbs<10 ^ 12)=true:=fun C=>Vj (by lia);have q:∀m:Int,(0<=m->CY t<=m.toNat)->iy t [m]=false:=fun m hm=>by obtain⟨w,D⟩:=t;rw[iy];by_cases h0:0<=m;rw[Vm h0,Wx (hm h0)];rw[Vi h0]
 intro u p;unfold vW yM at p;simp only [WM,VY,Vg,Vp,VN] at p;rcases p with rfl|rfl|rfl|rfl|rfl|rfl|rfl|rfl|rfl|rfl|rfl|rfl|rfl|rfl;exact EY h d (by lia) (q more fun _=>by lia);exact EY h d (by decide) (q (-1) fun z=>absurd z (by decide));exact FU h d (by lia) fun _=>by lia
 exact FU h d (by decide) fun z=>absurd z (by decide);refine iF h ?_ ?_ ?_ (fun n g j e=>by cases e) (fun a l e=>by cases e);unfold dv;simp only [gwT,gwTs,kg x.2 d.big,WG,WH];exact o k;unfold dv;simp only [dj,cE,kf];lia;unfold dv;simp only [d9,cA,ke];decide;exact iF h (o k) (show 1<=100 by decide) (show 0<=5 by decide) (fun n g j e=>by cases e) (fun a l e=>by cases e);exact iF h rfl (by decide) (by decide) (fun n g j e=>by cases e) (fun a l e=>by cases e);refine iF h ?_ ?_ ?_ (fun n g j e=>by injection e with e;injection e with _ e;injection e with e _;cases e) (fun a l e=>by injection e with e;injection e with _ e;injection e with e _;cases e);simp only [gwT,gwTs,kg x.2 d.big,WG,WH];exact o k;simp only [dj,cE,kf];lia;simp only [d9,cA,ke];decide;unfold dv;refine iF h ?_ ?_ ?_ (fun n g j e=>by injection e with e;injection e with e _;cases e) (fun a l e=>?_);simp only [gwT,gwTs,kg x.2 d.big,WG,WH];rfl;simp only [dj,cE,kf];lia;simp only [d9,cA,ke];decide;injection e with e;injection e with _ e;injection e with e _;injection e with e;rw[<- e];exact⟨by simp;lia,C7 x.2⟩;unfold dv;refine iF h ?_ ?_ ?_ (fun n g j e=>by injection e with e;injection e with _ e;injection e with _ e;cases e) (fun a l e=>by injection e with e;injection e with _ e;injection e with _ e;cases e);simp only [gwT,gwTs,kg x.2 d.big,WG,WH];rw[U1];exact⟨o k,by decide⟩;simp only [dj,cE,kf];lia;simp only [d9,cA,ke];decide;refine iF h ?_ ?_ ?_ (fun n g j e h0 hb=>?_) (fun a l e=>?_);simp only [gwT,gwTs,uI,kg x.2 d.big,WG,WH];rw[U1];exact⟨o k,by decide⟩;simp only [dj,cE,uH,kf];lia;simp only [d9,cA,uG,ke];decide;injection e with e;injection e with r f;injection f with f _;injection f with f;have hm:(.at (.bl false):Tv)∈g.map ti:=by rw[<- f];simp
 obtain⟨i,_,z⟩:=VG.mp hm;injection z with z;cases z;injection e with e;injection e with r f;injection f with f _;injection f with f;rw[<- f];exact⟨by simp;lia,DE (.inr ⟨false,rfl⟩)⟩;exact iF h rfl (by decide) (by decide) (fun n g j e=>by cases e) (fun a l e=>by cases e);exact iF h (by decide+kernel) (by decide) (by decide) (fun n g j e=>by cases e) (fun a l e=>by cases e);have mem:∀(a:Tv)(l:List Tv),Tv.tup (x.2.map tk++[tk x.1])=.tup [a,.tup l]->False:=fun a l e=>by
  injection e with e;have hm:(.tup l:Tv)∈x.2.map tk++[tk x.1]:=by rw[e];simp
  rcases Vo.mp hm with hm|hm;obtain⟨i,_,z⟩:=VG.mp hm;cases z;cases VS.mp hm
 refine iF h ?_ ?_ ?_ (fun n g j e=>(mem _ _ e).elim) (fun a l e=>(mem _ _ e).elim);simp only [gwT,gwTs,uI,kg x.2 d.big,WG,WH];exact o k;simp only [dj,cE,uH,kf];lia;simp only [d9,cA,uG,ke];decide
end
def FT:aP:=fun args k=>∃R N,N<=8/\eB R N args k
def eI:aP:=fun args k=>∃ns:List Int,args=[.fz (.scr (ns.map ti))]/\ns.length<=16777216/\k (fb true) [.fz (.scr (ns.map ti))]
abbrev yL:Gm:=Dy iV iT FT gh dE ku aj aN iS
section
variable {fs:List Fd}
theorem FO {a0 e f:Option Sl}{P:PD}(h:PgOk B fs main)(q:∀a c,P.nx ⟨[a0,e,some (.fz (cu fs main)),f,a,c,none,none,none,none,none,none],[],[]⟩):∀(l:List ((Nat×List Nat)×E))(a c:Option Sl),(∀x∈l,x∈dw 1 0 (aW fs main))->cN (bd (.cons (.nm 4) (.cons (.nm 5) .nil))) (aM (aF yL DJ)) P (l.map dm) ⟨[a0,e,some (.fz (cu fs main)),f,a,c,none,none,none,none,none,none],[],[]⟩
 |[],a,c,_=>q a c
 |x::l,a,c,i=>by
  obtain⟨b,d⟩:=PlD.of h (i x Vc);obtain⟨u,j,k,m,n⟩:=d.repr h;have o:x.1.2.length<=900:=by have:=d.p7;lia
  refine⟨rfl,fs,main,x.1,b,x.2,rfl,d.pb,d.len h,_,⟨u,rfl,j,k,m,n,rfl⟩,?_⟩;refine⟨rfl,fs,main,x.1,b,x.2,rfl,d.pb,d.len h,o,_,⟨u,rfl,j,k,m,n,rfl⟩,?_⟩;refine aE (fun g=>absurd g ?_) (fun _=>?_);show ¬ ((true ^^ decide (V.str (aC u).shown=V.str (aC u).shown))=true);rw[Vj rfl];decide;exact FO h q l _ _ fun y p=>i y (Vb _ p)
theorem FK {a0:Option Sl}{a:List Int}{P:PD}(h:PgOk B fs main)(G:a.length<=63)(K:0<(dw 1 0 (aW fs main)).length)(S:(dw 1 0 (aW fs main)).length<=100000)(q:∀n z e m o s v A C D,P.nx ⟨[a0,some (.own (aH a n z)),some (.fz (cu fs main)),some (.fz (.lst ((dw 1 0 (aW fs main)).map dm))),e,m,o,s,v,A,C,D],[],[]⟩):∀(l:List Int)(n:Nat)(z:Int)(e m o s v A C D:Option Sl),n+4*l.length<=1000000000000->cN (bd (.nm 6)) (aM (aF yL DI)) P (l.map ti) ⟨[a0,some (.own (aH a n z)),some (.fz (cu fs main)),some (.fz (.lst ((dw 1 0 (aW fs main)).map dm))),e,m,o,s,v,A,C,D],[],[]⟩
 |[],n,z,e,m,o,s,v,A,C,D,_=>q n z e m o s v A C D
 |i::l,n,z,e,m,o,s,v,A,C,D,T=>by
  rw[Vw] at T;refine⟨rfl,a,n,z,_,_,rfl,.inr rfl,G,by lia,by rw[U6];exact K,by rw[U6];lia,fun t J n1 U W=>?_⟩;obtain⟨x,L,rfl⟩:=VG.mp J;obtain⟨b,d⟩:=PlD.of h L;obtain⟨⟨k,p⟩,⟨w,F⟩⟩:=x;have X:Ex (Rp B fs) 7 (.nd w F):=by obtain⟨j,M,h1,_,Y⟩:=Ag 1 _ 0 _ L;exact CA (h.bs M (VF h1)) _ (by rw[<- zq M];exact List.mem_map_of_mem (f:=(·.2)) Y)
  have hk:F.length<=50:=by cases X with| @mk n _ _ Z hks=>have:=Z.le;lia
  have h7:p.length<=7:=d.p7;have hf:=h.fl;refine⟨rfl,w,F,rfl,by lia,?_⟩;refine⟨rfl,a,n1,U,2,rfl,G,by lia,by decide,by decide,fun r n2 z2 r0 r1 iw=>?_⟩;have H:∀y:Tv,(p.map tk).length + [y].length<=16777216:=fun y=>by rw[U6];show p.length+1<=_;lia
  refine⟨H _,H _,H _,H _,by show 7+7<=16777216;decide,?_⟩;refine⟨rfl,a,n2,z2,_,vW (((fs.map Fd.tv).length:Nat)+1) k p (((E.tvL F).length:Nat)+r)++yM k p,rfl,.inl rfl,G,by lia,by show 0<14;decide,by show 14<=_;decide,fun t J n3 z3 i5=>?_⟩;have I:=PY h d (more:=((E.tvL F).length:Nat)+r) (c:=((fs.map Fd.tv).length:Nat)+1) (by rw[cj];show(F.length:Int)<=_;lia) (by rw[cj];lia) (by rw[U6]) t J;obtain⟨u,N,O,Q,R⟩:=PZ (t:=.lst [t]) (by rw[gwT,gwTs,I.gw];rfl) (by have:=I.sz;simp only [dj,cE];lia) (by have:=I.dp;simp only [d9,cA];lia);refine⟨rfl,fs,main,t,rfl,I,_,⟨u,rfl,N,O,Q,R,rfl⟩,?_⟩;refine⟨_,⟨u,rfl,N,O,Q,R,rfl⟩,?_⟩;refine aE (fun g=>absurd g ?_) (fun _=>?_);show ¬ ((true ^^ decide (V.str (aC u).shown=V.str (aC u).shown))=true);rw[Vj rfl];decide;exact FK h G K S q l n3 z3 _ _ _ _ _ _ _ _ (by lia)
theorem Sw:0<(dw 1 0 (aW fs main)).length:=by
 have go:∀(bs:List E)(i:Nat),bs ≠ []->0<(dw 1 i bs).length:=fun bs i hb=>by
  cases bs with
  |nil=>exact absurd rfl hb
  |cons b bs=>
   obtain⟨w,c⟩:=b;rw[dw,U9,U6];have:0<(keep 1 (Tree.nd w c)).length:=by unfold keep;refine We.mpr (List.ne_nil_of_mem (a:=([],Tree.nd w c)) (mem_filter.mpr ⟨by rw[cH];exact Vc,?_⟩));refine Vj ?_;show(1:Int)<=((Tree.nd w c).cnt:Nat);rw[Tree.cnt];lia
   lia
 exact go _ 0 (by unfold aW;simp)
end
theorem OX:∀args k,eI args k->aM (aF yL Dz) (a9 args k) (entry 12 args):=by
 rintro args k ⟨ns,rfl,o,q⟩;refine⟨rfl,ns,rfl,o,?_⟩;generalize p:ns.take 63=d;have l:d.length<=63:=by rw[<- p,VU];lia
 refine⟨rfl,d,0,0,40,rfl,by decide,l,by decide,fun B fs main n1 m c r=>?_⟩;have s:=Hw 1 (aW fs main) 0;have t:=c.cn;have u:=c.fl;refine⟨rfl,Rp B fs,7,by decide,fs,main,1,rfl,by lia,by decide,c.bs,by lia,?_⟩;refine⟨fun M=>∃a b,M=⟨[some (.fz (.scr (ns.map ti))),some (.own (aH d n1 m)),some (.fz (cu fs main)),some (.fz (.lst ((dw 1 0 (aW fs main)).map dm))),a,b,none,none,none,none,none,none],[],[]⟩,?_,?_⟩;refine FO c ?_ _ none none fun x v=>v;exact fun a b=>⟨a,b,rfl⟩;rintro M ⟨a,b,rfl⟩;refine⟨fun M=>∃n z a b e f g h i j,M=⟨[some (.fz (.scr (ns.map ti))),some (.own (aH d n z)),some (.fz (cu fs main)),some (.fz (.lst ((dw 1 0 (aW fs main)).map dm))),a,b,e,f,g,h,i,j],[],[]⟩,?_,?_⟩;refine⟨⟨by decide,by decide⟩,?_⟩;refine FK c l Sw (by lia) ?_ [0,1,2,3,4,5] n1 m _ _ _ _ _ _ _ _ (by show n1+24<=_;lia);exact fun n z a b e f g h i j=>⟨n,z,a,b,e,f,g,h,i,j,rfl⟩;rintro M ⟨n,z,a,b,e,f,g,h,i,j,rfl⟩;exact q
end
section
abbrev tZ:Stmt:=top 14
abbrev tY:Stmt:=top 15
abbrev yK:Stmt:=top 16
structure ic (mg:Str->Option Value):Prop where
 isi:mg "isinstance"=none
 int:mg "int"=none
 bl:mg "bool"=none
 tup:mg "tuple"=none
 len:mg "len"=none
inductive gb (p:Th->Bool)(vs:List V)(H:Hp)(Q:VK):Prop
 |mk (v:V) (t:Th) (_:vs=[v]) (_:IsTh H v t) (_:Q (.bl (p t)) H):gb p vs H Q
def zc (p:Th->Bool):Sp:=fun a H Q _=>gb p a H Q
inductive eD (vs:List V)(H:Hp)(Q:VK):Prop
 |mk (H0:Hp) (v:V) (ts:List Th) (_:vs=[v]) (_:Same H0 H) (_:IsTh H0 v (.tup ts)) (_:ts.length<=1000000) (_:∀(p:Addr)(ws:List V) H',Same H H'->H' p=some (.tup ws)->IsThs H0 ws (jA ts)->Q (.ref p) H'):eD vs H Q
def eE:Sp:=fun a H Q _=>eD a H Q
variable {P:Program}{w:World}{K:W.Frag}{mg:Str->Option Value}{base:Heap}{j:FuncData}
section
theorem PX:aB ["thing"] ["thing"] (aR tZ):=⟨rfl,rfl,rfl,by decide+kernel,rfl,by decide+kernel,by decide+kernel⟩
theorem EI {f:Addr}(F:Fun K "is_whole" "is_whole" tZ f j)(T:ic mg)(c:jo K):FnOk P w K mg base bX 1 f j ["thing"] (zc qU):=by
 refine F.ok PX (fun d H Q E h=>?_) (fun e A outer s H d Q E i h=>?_);obtain⟨v,t,rfl,_⟩:=h;rfl;obtain⟨v,t,rfl,a,k⟩:=h;refine⟨_,fV (mG (yE (fe oh (by rfl) T.isi (by decide+kernel) (aX (pv 0) (aX (my (v:=.ty "int") (by rfl) T.int (by decide+kernel) rfl) pa_nil)))
  (yF (Cp (fe oh (by rfl) T.isi (by decide+kernel) (aX (pv 0) (aX (my (v:=.ty "bool") (by rfl) T.bl (by decide+kernel) rfl) pa_nil))))))),?_⟩
 have b:=Rx t;refine⟨_,rfl,_,_,_,_,rfl,qF a,c.int a,_,rfl,aE (fun g=>?_) (fun g=>?_)⟩;refine⟨_,rfl,_,_,_,_,rfl,qF a,c.bl a,_,rfl,?_⟩;rw[g,WG] at b;rw[b];exact k;rw[show uf t=false by simpa using g,Bool.false_and] at b;rw[b];exact k
theorem PQ:aB ["e"] ["e"] (aR tY):=⟨rfl,rfl,rfl,by decide+kernel,rfl,by decide+kernel,by decide+kernel⟩
theorem Ra {f:Addr}(F:Fun K "parts" "parts" tY f j)(T:ic mg)(z:jo K):FnOk P w K mg base bX 1 f j ["e"] eE:=by
 refine F.ok PQ (fun B H Q E h=>?_) (fun N A outer s H B Q E O h=>?_);obtain⟨H0,v,ts,rfl,_⟩:=h;rfl;obtain⟨H0,v,ts,rfl,s0,D,R,k⟩:=h;refine⟨_,fV (mG (oK HJ (by rfl) T.tup (by decide+kernel) (fj (zx (N':=["part"]) (src:=[none]) rfl (HH (aR tY) rfl ["e"] rfl (by decide+kernel)) (Cm (pv 0))
  (fun cl C ex S U=>⟨qZ (i:=0) (ng _) rfl (Or.inl rfl),tW (ly (fe (id:="isinstance") (TL (K:=K) rfl) (by rfl) T.isi (by decide+kernel) (aX (pv 0) (aX (my (v:=.ty "tuple") (by rfl) T.tup (by decide+kernel) rfl) pa_nil)))),pv 0⟩)) pa_nil))),?_⟩
 obtain⟨a,xs,rfl,n,m⟩:=ym D;have r:=s0 _ _ n;have V:=IsThs.len _ m;refine⟨_,rfl,a,rfl,⟨_,SqT.of r⟩,Ry (K:=K) (a:=a) (xs:=xs) (fun i c d H'=>∃o,d=[o]/\IsThs H0 c ((ts.take i).filter gL)/\c.length<=i/\H'=H) ⟨none,rfl,by rw[List.take_zero];exact .nil,U5 _,rfl⟩ (fun i c d H' Z=>by obtain⟨_,_,_,_,e⟩:=Z;rw[e];exact SqT.of r) ?_ ?_⟩;rintro i x c d H' G u ⟨o,rfl,b,I,rfl⟩;obtain⟨t,J,h1⟩:=Ep _ m G;have y:(ts.take (i+1)).filter gL=(ts.take i).filter gL++(if gL t=true then [t] else []):=Tf _ J;refine⟨by have:sizeLine=16777216:=Vr;lia,?_⟩;refine⟨_,rfl,_,_,_,_,rfl,qF (IsTh.kp (Kp.of s0) h1),z.tup h1,_,rfl,aE (fun g=>?_) (fun g=>?_)⟩;refine⟨_,rfl,nx u ⟨_,rfl,?_,by rw[U9];show c.length+1<=i+1;lia,rfl⟩⟩;rw[y,Vm g];exact IsThs.app _ b (.cons h1 .nil);refine nx u ⟨_,rfl,?_,by lia,rfl⟩;rw[y,Vi g,Vk];exact b;rintro c d H' ⟨o,rfl,b,I,rfl⟩ l q;refine⟨l,_,rfl,.inl ⟨SqL.of aY,fun p L=>?_⟩⟩;rw[Wf (by lia)] at b;have M:=(jn (o:=.lst c) q).trans (jn (o:=.tup c) L);exact k p c _ M aY b
end
end
section
variable {x j:Str}{H:Hp}{a C B:Addr}{P:Program}{w:World}{e:Expr}{h1 base:Heap}{X:Cx}{G:List (Addr×Obj)}{O:St}{pos r p y J:Pos}{R:TE}{K:W.Frag}{st:Stmt}{es:List Expr}{env:Env}{mg:Str->Option Value}{CX:jE}{U:FuncData}{ps:List Str}{Y:Value}{cz:Bool}
section
def C6 (u:Nat)(m:Nat)(t:Th):Prop:=(aC t).showable=true/\u+((aC t).depth+2)<cLine/\(aC t).shown.length+m<=sizeLine/\match t with
 | .at (.int i)=>i.natAbs.log2<1920
 | .at (.str x)=>x.length+m<=sizeLine
 | .at .non=>True
 | .at _=>False
 |_=>True
theorem PN {w:Str}{fp kp J:Pos}{j:_}(D:X.A.guards=some [])(he:PE X e R):PE X (.JoinedStr [.FormattedValue e (-1) none fp,.Constant (.str w) j kp] J)
  (fun O H Q=>R O H fun x m=>∃(t:Th),IsTh m x t/\C6 X.A.units w.length t/\∀y:Str,Q (.str y) m):=by
 intro G s O H Q I h;refine wpAny_JoinedStr ?_;have E:∀y:Str,(Str.empty++y).length=y.length:=fun y=>by rw[Str.length_append];exact Nat.zero_add _
 show wpAny _ _ (eval (.FormattedValue e (-1) none fp) X.env) (fun v n=>∃y t,v=Value.str y t/\(Str.empty++y).length<=sizeLine/\wpAny _ _ (eval (.Constant (.str w) j kp) X.env) (fun v c=>∃d t,v=Value.str d t/\(Str.empty++y++d).length<=sizeLine/\(Str.empty++y++d).length<=sizeLine/\EP X G O Q (Value.str (Str.empty++y++d) c.toks) { c with toks:=c.toks+1 }) _ n) _ s;refine wpAny_FormattedValue_plain (az (he G s O H _ I h) ?_);rintro u n ⟨x,m,l,p,t,F,K,z⟩
 have r:∀(y:Str)(t:Tok)(c:Shared),Inv X G O m c->y.length+w.length<=sizeLine->∃B t',Value.str y t=Value.str B t'/\(Str.empty++B).length<=sizeLine/\wpAny (model X.prog X.w) X.A (eval (.Constant (.str w) j kp) X.env) (fun v c=>∃d t,v=Value.str d t/\(Str.empty++B++d).length<=sizeLine/\(Str.empty++B++d).length<=sizeLine/\EP X G O Q (Value.str (Str.empty++B++d) c.toks) { c with toks:=c.toks+1 }) X.xe c:=fun y t c L M=>by
  refine⟨y,t,rfl,by rw[E];lia,?_⟩;refine Calls.Constant_str ⟨w,_,rfl,?_⟩;have g:(Str.empty++y++w).length<=sizeLine:=by rw[Str.length_append,E];exact M
  refine⟨g,g,.str _,m,?_,⟨_,rfl⟩,z _⟩;exact(L.tok _).tok _
 obtain⟨h1,N,C,g⟩:=K;have ref:∀a,x=.ref a->wpAny (model X.prog X.w) X.A (formatField u Str.empty) (fun v n=>∃y t,v=Value.str y t/\(Str.empty++y).length<=sizeLine/\wpAny (model X.prog X.w) X.A (eval (.Constant (.str w) j kp) X.env) (fun v c=>∃d t,v=Value.str d t/\(Str.empty++y++d).length<=sizeLine/\(Str.empty++y++d).length<=sizeLine/\EP X G O Q (Value.str (Str.empty++y++d) c.toks) { c with toks:=c.toks+1 }) X.xe n) X.xe n:=fun a e=>by subst e;obtain⟨P,rd⟩:=za l F p;cases p;exact formatField_of_reads rd h1 (fun z=>by rw[zA] at z;cases z) D N (fun b o q=>q) (fun h' u tk k=>r _ _ _ (l.kept (t':=tk) k) C) (VL (Nat.le_add_right _ _) C)
 cases F with
 |tup _ _=>exact ref _ rfl
 |lst _ _=>exact ref _ rfl
 | «at» f =>
  cases x with
  |int i=>obtain⟨k,rfl⟩:=p;refine wpAny_formatField_int g (r _ _ _ ((l.tok _).tok _) ?_);exact C
  |str y=>obtain⟨k,rfl⟩:=p;exact wpAny_formatField_str (r _ _ _ l g) (r _ _ _ (l.tok _) g) (by have S:y.length+w.length<=sizeLine:=g;lia)
  |non=>obtain rfl:u=Value.none:=p;exact wpAny_formatField_none (r _ _ _ ((l.tok _).tok _) C)
  |_=>exact g.elim
end
structure Flyz (cz:Bool)(C e d:Addr)(T:Addr)(fl:Value)(h:Heap):Prop where
 obj:∃vs,h.get? e=some { cls:=.ref C,dict:=some d,data:=.fields vs }/\vs[1]?=some (.ref T)/\(cz=true->vs[2]?=some .none)
 ent:∃oT ts,h.get? T=some oT/\oT.data=.fields ts/\ts[3]?=some fl
 ne:T≠e
section
variable {M:Model}{A:Around}{E:Value->Shared->Prop}{s:Shared}{outer:List Env}{L e d:Addr}
theorem G9 {f:Array Value}{head:Value}{n:Bool}{Q:Unit->Shared->Prop}(fr:A.frames=some (env::outer))(i:s.heap.FunFrames base (env::outer))(p:env.frame=some L)
  (he:s.heap.get? e=some { cls:=.ref C,dict:=some d,data:=.fields f }) (h1:1<f.size) (r:cz=true->f[2]?=some .none)
  (h:∀h' T,s.heap.get? T=none->Flyz cz C e d T (rawInt L) h'->Nt (bU (env::outer)) e none s.heap h'->Q () { s with heap:=h' }):
  wpAny M A (do
   let a ← frameOf env
   let pl ← entryPlaceOf L n
   let b ← EntryCells.newEntry head a Value.none (rawInt L) Value.none pl
   setField (Value.ref e) 1 b) Q E s:=by
 have t:e∉bU (env::outer):=fun z=>by obtain⟨_,o,j,u⟩:=i.mem z;rw[he] at j;cases j;exact u f rfl
 refine UZ (wpAny_frameOf_fun fr i p fun c v=>?_);obtain⟨sz,k,w⟩:=v;refine UZ (wpAny_entryPlaceOf fun pl x=>?_);refine UZ (Vu ?_ (x.sizeOk5 _ _ _ _ _));have l:c.get? e=some { cls:=.ref C,dict:=some d,data:=.fields f }:=(k e t).trans he;have g:=U0 (h:=c) { cls:=.type "traceback",data:=.fields ([head,.ref L,.none,rawInt L,.none]++if pl.isEmpty=true then List.replicate 6 Value.none else pl).toArray } l;refine VR g rfl h1 ?_;have m:c.objs.size≠e:=fun z=>absurd (Va l) (by rw[<- z];exact VI _);have y:s.heap.get? c.objs.size=none:=by rw[sz];exact Heap.get?_none_of_le (U5 _)
 refine h _ c.objs.size y ⟨⟨_,Vs _ g rfl,?_,fun z=>?_⟩,⟨_,_,(Vv _ _ (Ne.symm m)).trans (U8 c rfl),rfl,?_⟩,m⟩ ⟨fun b o q B hb _=>?_,fun b o q hb _=>?_⟩
 .simp [h1]
 .rw[WJ (by decide)];exact r z
 .simp
 .exact(Vv _ _ (Ne.symm hb)).trans (U0 _ ((k b B).trans q))
 .obtain⟨D,F⟩:=w b o q;exact⟨D,(Vv _ _ (Ne.symm hb)).trans (U0 _ F)⟩
theorem Flyz.update {T:Addr}{fl fl':Value}{h:Heap}(F:Flyz cz C e d T fl h):Flyz cz C e d T fl' (h.update T (Obj.mapFields fun a=>a.setIfInBounds 3 fl'))/\∀b o,h.get? b=some o->b≠T->(h.update T (Obj.mapFields fun a=>a.setIfInBounds 3 fl')).get? b=some o:=by
 obtain⟨⟨f,he,g,i⟩,⟨m,ts,j,hd,c⟩,ne⟩:=F;have k:∀b o,h.get? b=some o->b≠T->(h.update T (Obj.mapFields fun a=>a.setIfInBounds 3 fl')).get? b=some o:=fun b o q hb=>(Vv _ _ (Ne.symm hb)).trans q;have l:3<ts.size:=by rcases Wm 3 ts.size with z|z;exact z;rw[Wn z] at c;cases c
 refine⟨⟨⟨f,k _ _ he (Ne.symm ne),g,i⟩,⟨_,ts.setIfInBounds 3 fl',Vs _ j (Obj.isFreed_of_fields (Obj.data_mapFields hd _)),Obj.data_mapFields hd _,?_⟩,ne⟩,k⟩;simp [l]
theorem Al {T:Addr}{fl fl':Value}{Q:Unit->Shared->Prop}(F:Flyz cz C e d T fl s.heap)(h:∀h',Flyz cz C e d T fl' h'->(∀b o,s.heap.get? b=some o->b≠T->h'.get? b=some o)->Q () { s with heap:=h' }):wpAny M A (setField (.ref T) 3 fl') Q E s:=by
 obtain⟨c,k⟩:=F.update (fl':=fl');obtain⟨⟨i,he,j,l⟩,⟨m,ts,f,hd,a⟩,ne⟩:=F;have g:3<ts.size:=by rcases Wm 3 ts.size with z|z;exact z;rw[Wn z] at a;cases a
 exact VR f hd g (h _ c k)
theorem rn {T:Addr}{fl:Value}{Q:Unit->Shared->Prop}(F:Flyz cz C e d T fl s.heap)(h:∀h',Flyz cz C e d T .none h'->(∀b o,s.heap.get? b=some o->b≠T->h'.get? b=some o)->Q () { s with heap:=h' }):wpAny M A (setFlight (.ref e) none) Q E s:=by obtain⟨c,he,a,f⟩:=F.obj;refine UZ (VC he rfl a ?_);exact Wc rfl (Al F h)
theorem FJ {a:Array Value}{Q:Unit->Shared->Prop}(fr:A.frames=some (env::outer))(f:s.heap.FunFrames base (env::outer))(c:env.frame=some L)
  (he:s.heap.get? e=some { cls:=.ref C,dict:=some d,data:=.fields a }) (b:a[1]?=some .none) (g:cz=true->a[2]?=some .none)
  (h:∀h' T,s.heap.get? T=none->Flyz cz C e d T (rawInt L) h'->Nt (bU (env::outer)) e none s.heap h'->Q () { s with heap:=h' }):wpAny M A (noteFrame (.ref e) env) Q E s:=by
 have h1:1<a.size:=by rcases Wm 1 a.size with z|z;exact z;rw[Wn z] at b;cases b
 unfold noteFrame;rw[c];refine UZ (VC he rfl b ?_);exact Vf rfl (G9 fr f c he h1 g h)
theorem zK {T:Addr}{Q:Unit->Shared->Prop}(fr:A.frames=some (env::outer))(w:s.heap.FunFrames base (env::outer))(n:env.frame=some L)(F:Flyz cz C e d T .none s.heap)
  (h:∀h' a,s.heap.get? a=none->Flyz cz C e d a (rawInt L) h'->Nt (bU (env::outer)) e (some T) s.heap h'->Q () { s with heap:=h' }):wpAny M A (noteFrame (.ref e) env) Q E s:=by
 obtain⟨I,he,x,J⟩:=F.obj;obtain⟨K,ts,p,hd,y⟩:=F.ent;unfold noteFrame;rw[n];refine UZ (VC he rfl x ?_);refine Wc rfl ?_;refine UZ (VC p hd y ?_);refine Vf rfl ?_;refine UZ (Al F fun f r k2=>?_);obtain⟨c,g,t,i⟩:=r.obj
 have h1:1<c.size:=by rcases Wm 1 c.size with z|z;exact z;rw[Wn z] at t;cases t
 have B:f.FunFrames base (env::outer):=Heap.FunFrames.of_keeps (fun b o q j=>⟨o,k2 b o q (fun z=>by rw[z,p] at q;cases q;exact j ts hd),rfl⟩) w;refine G9 (s:={ s with heap:=f }) fr B n g h1 i fun h' a k D u=>h h' a ?_ D ⟨fun b o q j hb l=>?_,fun b o q hb l=>?_⟩
 .cases z:s.heap.get? a with
  |none=>rfl
  |some o=>
   by_cases v:a=T
   .obtain⟨G,H,m,_,_⟩:=r.ent;rw[v] at k;have:f.get? T=none:=k;rw[m] at this;cases this
   .have:f.get? a=none:=k;rw[k2 a o z v] at this;cases this
 .exact u.keep b o (k2 b o q fun z=>l (by rw[z])) j hb (by simp)
 .exact u.slot b o (k2 b o q fun z=>l (by rw[z])) hb (by simp)
end
def iB (cz:Bool)(P:Program)(w:World)(C:Addr):jE:=fun outer H s E e s'=>∃(a d T:Addr)(H':Hp),e=.ref a/\s'.os=s.os/\AllBare s'.gens/\Un (bU outer) [] H H' s.heap s'.heap/\HOk P w H' s'.heap/\Flyz cz C a d T .none s'.heap/\s.heap.get? a=none/\s.heap.get? T=none/\H' a=none/\H' T=none/\E (.ref C) (some d) H'
section
variable {s:Shared}{d T:Addr}{E:XK}
def uy (cz:Bool)(X:Cx)(C:Addr)(E:XK):Prop:=X.xe=fun e s'=>wpAny (model X.prog X.w) X.A (leaving X.env e) (fun _ a=>iB cz X.prog X.w C X.outer X.H₀ X.s₀ E e a) (fun b a=>iB cz X.prog X.w C X.outer X.H₀ X.s₀ E b a) s'
theorem Ae {T0:Option Addr}{e:Addr}{Z:Value->Shared->Prop}(I:Inv X G O H s)(m:X.stack=X.env::X.outer)(n:X.env.frame=some X.env.locals)(hex:X.ex=[])
  (g:X.s₀.heap.get? a=none) (h:H a=none) (i:∀t,T0=some t->X.s₀.heap.get? t=none/\H t=none) (j:s.heap.get? e=none) {L:Addr} (F:Flyz cz C a d e (rawInt L) h1) (p:Nt (bU X.stack) a T0 s.heap h1) (r:E (.ref C) (some d) H):
  wpAny (model X.prog X.w) X.A (setFlight (.ref a) none) (fun _ u=>iB cz X.prog X.w C X.outer X.H₀ X.s₀ E (.ref a) u) Z { s with heap:=h1 }:=by
 have k:H e=none:=I.hok.unk j
 have l:X.s₀.heap.get? e=none:=by cases z:X.s₀.heap.get? e with|none=>rfl|some o=>obtain⟨o',q⟩:=I.base.there e o z (by rw[hex];simp);rw[j] at q;cases q
 refine rn (s:={ s with heap:=h1 }) F fun v x k2=>?_;have c:Ch (fun b=>b=a∨b=e∨T0=some b) (bU X.stack) s.heap v:=(p.ch (.inl rfl) fun t z=>.inr (.inr z)).trans (Ch.one k2 (.inr (.inl rfl)));have un:=I.base;rw[hex] at un;refine⟨a,d,e,H,rfl,I.os,I.bare,c.un un (fun b z=>?_) (fun b o q z=>?_),c.hok I.hok (fun b z=>?_) I.env0.frf,x,g,l,h,k,r⟩
 .rcases z with rfl|rfl|z
  .exact g
  .exact l
  .exact(i b z).1
 .rw[m] at z
  have f:b=X.env.locals∨b∈bU X.outer:=by unfold bU at z ⊢;rw[filterMap_cons,n] at z;exact Vg.mp z
  rcases f with f|f
  .have:=Va q;rw[f] at this;exact absurd this (Nat.not_lt.mpr I.ok.above)
  .exact f
 .rcases z with rfl|rfl|z
  .exact h
  .exact k
  .exact(i b z).2
theorem Tj {b:Array Value}(g:uy cz X C E)(I:Inv X G O H s)(c:X.stack=X.env::X.outer)(e:X.env.frame=some X.env.locals)(hex:X.ex=[])
  (h:X.s₀.heap.get? a=none) (i:H a=none) (he:s.heap.get? a=some { cls:=.ref C,dict:=some d,data:=.fields b }) (j:b[1]?=some .none) (k:cz=true->b[2]?=some .none) (l:E (.ref C) (some d) H):X.xe (.ref a) s:=by
 rw[g];have fr:=I.env0.frames;have f:=I.env0.funs;rw[c] at fr f;refine UZ (FJ fr f e he j k fun h1 o m F n=>?_);exact Ae (T0:=none) I c e hex h i (fun t z=>by cases z) m F (by rw[c];exact n) l
theorem Q9 {E':XK}(m:uy cz X C E)(f:X.stack=X.env::X.outer)(j:X.env.frame=some X.env.locals)(hex:X.ex=[])(p:∀c o H',E' c o H'->E c o H'):tV (iB cz X.prog X.w C) X E':=by
 intro G O H s e s' I h;obtain⟨a,d,T,H',rfl,os,bare,un,hok,F,r,u,v,HT,z⟩:=h;obtain⟨x,g,y,t,i⟩:=s';obtain rfl:i=s.os:=os;have J:=I.call (h':=x) (g':=g) (d':=y) (t':=t) (ch:=[]) un hok bare (fun b z=>absurd z (by simp));have k:∀b,s.heap.get? b=none->X.s₀.heap.get? b=none:=fun b n=>by cases z:X.s₀.heap.get? b with|none=>rfl|some o=>obtain⟨o',q⟩:=I.base.there b o z (by rw[hex];simp);rw[n] at q;cases q
 rw[m];have fr:=J.env0.frames;have l:=J.env0.funs;rw[f] at fr l;refine UZ (zK fr l j F fun h1 D A F1 B=>?_);exact Ae (T0:=some T) J f j hex (k a r) v (fun t z=>by cases z;exact⟨k T u,HT⟩) A F1 (by rw[f];exact B) (p _ _ _ z)
end
noncomputable def mD (C a d:Addr):HO:=.ext fun h=>∃b,h.get? a=some { cls:=.ref C,dict:=some d,data:=.fields b }/\b[1]?=some .none/\b[2]?=some .none/\b.size=6
section
theorem Q8 {o a:Expr}{f:Str}{tv:TE}(c:iK X.K C B)(P:PySem.W.findIn X.K (.ref C) f=some none)(Q:PE X o R)(S:PE X a tv)(T:swapsWith a (some (.Attribute o f r)) pos.line X.env=pure false):PS X (.Assign [.Attribute o f r] a pos) (fun D O H=>tv O H fun y E=>R O E fun x i=>∃e,x=.ref e/\i e=some (gJ C e)/\∀d,i d=none->d≠e->D.nx O (ax (ax i d (.xd [(f,y)])) e (mD C e d))):=by
 intro G s O H D I h;refine plainObj_wpAny_Assign_Attribute (az (S G s O H _ I h) fun u U ⟨y,E,V,Y,q⟩=>az (Q G U O E _ V q) fun Z j z0=>?_) T;obtain⟨x,i,v,rx,e,ex,w,z⟩:=z0;subst ex;obtain rfl:Z=Value.ref e:=rx;obtain⟨nm,q,N,bs,bm,sn,sub,ab,col,dd,k0,k1,k2,k3,k5,hk,hB,hB2,_,_,dJ,pK⟩:=c.lk;obtain⟨⟨t,L⟩,_,_⟩:=v.hok e _ w;refine QG v.kIn hk c.sa dJ pK P L fun h' F sL k=>?_;have a5:j.heap.objs.size≠e:=fun z=>absurd (Va L) (by rw[<- z];exact VI _);have M:i j.heap.objs.size=none:=v.hok.fresh (U5 _);refine⟨O,_,?_,z _ M a5⟩;have n1:∀b o,j.heap.get? b=some o->b≠j.heap.objs.size:=fun b o q z=>absurd (Va q) (by rw[z];exact VI _);have J:∀b,i b=none->b≠e:=fun b q z=>by rw[z,w] at q;cases q
 have n3:∀b o,i b=some o->b≠j.heap.objs.size:=fun b o q z=>by rw[z,M] at q;cases q
 have same:∀b o,i b=some o->b≠e->ax (ax i j.heap.objs.size (HO.xd [(f,y)])) e (mD C e j.heap.objs.size) b=some o:=fun b o q hb=>by rw[aD hb,aD (n3 b o q)];exact q
 have ne:∀b o,i b=some o->(∀ m,o ≠ .ext m)->b≠e:=fun b o q hb z=>by rw[z,w] at q;cases q;exact hb _ rfl
 refine v.un ⟨fun b o q n _ _=>k b o (J b n) q,fun b o q n _ _=>⟨o.slots,k b o (J b n) q⟩,fun b o q n _=>?_,fun b o q _=>?_,fun b xs q=>same b _ q (ne b _ q (by intro m z;cases z)),fun b o u q=>same b _ q (ne b _ q (by intro m z;cases z)),fun b ps q=>⟨#[],by rw[same b _ q (ne b _ q (by intro m z;cases z))];simp⟩⟩ fun b o q=>?_;rw[aD (J b n),aD (n1 b o q)];exact n;by_cases hb:b=e;subst hb;exact⟨_,F⟩;exact⟨o,k b o hb q⟩;by_cases hb:b=e;subst hb;rw[aY] at q;cases q;exact⟨⟨_,F,rfl,rfl,rfl⟩,⟨_,F⟩,fun g1 g2 z1 k=>by obtain⟨vs,q,q2⟩:=z1;exact ⟨vs,k _ q,q2⟩⟩;rw[aD hb] at q;by_cases hd:b=j.heap.objs.size;subst hd;rw[aY] at q;cases q;refine⟨_,sL,fun g=>?_⟩;show RelO (List.lookup g [(f,y)]) (if g=f then some u else none);by_cases A:g=f;rw[Vm A,A];simp only [List.lookup,W6];exact Y;rw[Vi A];have:(g==f)=false:=V5.mpr A;simp only [List.lookup,this];exact True.intro;rw[aD hd] at q;refine(v.hok b o q).stay (fun c w' p l=>k c w' (fun z=>?_) l) (fun c l=>same c _ l (ne c _ l (by intro m z;cases z))) fun c xs l=>same c _ l (ne c _ l (by intro m z;cases z));rcases p with p|p;exact hb (p▸z);rw[z,w] at p;cases p
end
section
variable {s:Shared}{d:Addr}
theorem Ad {E:XK}{np:Pos}{y:Expr}{t:TA}{k:Nat}{sp:Sp}(c:iK X.K C B)(F:FnOk X.prog X.w X.K X.mg X.base bX k B U ps sp)(hr:Room (k+1) X.A)(hg:Gl X x)(hm:X.mg x=some (.ref C))(hb:Binds X.K U ps [])
  (ha:PA X (y::es) t) (lv:uy cz X C E) (bZ:X.stack=X.env::X.outer) (d7:X.env.frame=some X.env.locals) (hex:X.ex=[]) (pY:X.calm=true)
  (fK:(x==("__debug__":Str))=false:=by decide) (he:starEach (y::es) X.env=(false,eval y X.env)::starEach es X.env:=by rfl) (M:(backTo J (starEach es X.env)).any (·.1)=false:=by rfl):
  PS X (.Raise (some (.Call (.Name x np) (y::es) [] J)) none pos) (fun D O H=>t O H fun L i=>L.length<=10/\∀a,i a=none->sp (.ref a::L) (ax i a (gJ C a)) (fun v T=>v=.non/\∃d,T a=some (mD C a d)/\E (.ref C) (some d) (fF a T)) E0):=by
 intro G s O H D I h;obtain⟨nm,q,N,bs,bm,sn,sub,ab,col,dd,k0,k1,k2,k3,k5,W,hB,P,hA,Q,_,_⟩:=c.lk;rw[arm_exec_Raise];refine UZ (WU ?_);refine Tb (nm:=nm) (q:=q) (C:=C) (N:=N) (bs:=bs) (hdct:=true) (sn:=sn) (sub:=sub) (ab:=ab) (col:=col) (dd:=dd) (k0:=k0) (k1:=k1) (k2:=k2) (k3:=k3) (k5:=k5) (newId:="ValueError.__new__") P (I.ok.hd pY) (UZ ?_);refine Wa (nY I hg hm ?_ fK);refine WO (h₀:=X.base) I.ok.mod.kin c.kp (az (ha J G s O H _ I h) fun g f ⟨L,i,j,r,Y,z⟩=>⟨j.kIn,?_⟩) he M;have l:=r.length;have hn:i (f.heap.objs.size+1)=none:=j.hok.fresh (WD _);have z:=z _ hn;have r9:∀b o,f.heap.get? b=some o->((f.heap.push { cls:=.type "tuple",data:=.seq g.toArray }).push { cls:=.ref C,data:=.fields #[.ref f.heap.objs.size,.none,.none,.none,.bool false,.none] }).get? b=some o:=fun b o e=>U0 _ (U0 _ e)
 have Z:((f.heap.push { cls:=.type "tuple",data:=.seq g.toArray }).push { cls:=.ref C,data:=.fields #[.ref f.heap.objs.size,.none,.none,.none,.bool false,.none] }).get? (f.heap.objs.size+1)=some { cls:=.ref C,data:=.fields #[.ref f.heap.objs.size,.none,.none,.none,.bool false,.none] }:=by have:=U8 (f.heap.push { cls:=.type "tuple",data:=.seq g.toArray }) (o:={ cls:=.ref C,data:=.fields #[.ref f.heap.objs.size,.none,.none,.none,.bool false,.none] }) rfl;rwa [Vz] at this
 have R:Inv X G O (ax i (f.heap.objs.size+1) (gJ C (f.heap.objs.size+1))) { f with heap:=(f.heap.push { cls:=.type "tuple",data:=.seq g.toArray }).push { cls:=.ref C,data:=.fields #[.ref f.heap.objs.size,.none,.none,.none,.bool false,.none] } }:=j.laid (t':=f.toks) r9 (WD _) ⟨⟨_,Z⟩,⟨_,Z⟩,fun g1 g2 z0 kk=>by obtain⟨t,q⟩:=z0;exact ⟨t,kk _ q⟩⟩
 have r2:Vals (V.ref (f.heap.objs.size+1)::L) (Value.ref (f.heap.objs.size+1)::g):=.cons rfl r;have hl:(Value.ref (f.heap.objs.size+1)::g).length=ps.length:=by have e:=r2.length;rw[F.len _ _ _ _ z] at e;exact e.symm
 have m:=hb { f with heap:=(f.heap.push { cls:=.type "tuple",data:=.seq g.toArray }).push { cls:=.ref C,data:=.fields #[.ref f.heap.objs.size,.none,.none,.none,.bool false,.none] } } (Value.ref (f.heap.objs.size+1)::g) R.kIn (by rw[Vk];exact hl);rw[Vk] at m;refine Wj (E7 PySem.F.excBase_ValueError hB hA Q j.kIn W c.ini c.fn (by show g.length<=sizeLine;rw[<- l,Vr];lia) (V3 (F.run _ X.stack _ _ ⟨Value.ref (f.heap.objs.size+1)::g,[]⟩ _ _ _ _ (hr.make C g []) (R.env0.make C g []) m r2 z) fun rs s' n=>?_))
 cases rs with
 |error e=>exact n.elim
 |ok fl=>
  cases fl with
  |ret u=>
   obtain⟨v,H',S,rv,rfl,d,Hd,hE⟩:=R.after n;cases rv;refine⟨rfl,?_⟩;refine UZ (WU (U2 ?_));obtain⟨⟨vT,ho,p,iZ,_⟩,_,_⟩:=S.hok _ _ Hd;refine⟨_,_,_,rfl,S.kIn _ _ W,ho,rfl,rfl,p,?_⟩;have I4:=S.untrack Hd;refine Tj lv I4 bZ d7 hex ?_ (by unfold fF;rw[Vm rfl]) ho p (fun _=>iZ) hE
   cases zz:X.s₀.heap.get? (f.heap.objs.size+1) with
   |none=>rfl
   |some o=>have h1:=Va zz;have h2:=j.sz;exact absurd (Ve h1 h2) (by lia)
  |next=>exact n.elim
  |brk=>exact n.elim
  |cont=>exact n.elim
end
structure FunD (K:W.Frag)(x j:Str)(st:Stmt)(Y:Value)(f:Addr)(U:FuncData):Prop where
 ex:∃(oc:Value)(od:Option Addr)(kV bF pm:Value)(an:Option Addr)(aG ct:Value)(ei:Array (Option Value)),U=PySem.W.fnOf x j (fg st) (di st) (aR st) Y kV bF pm an aG ct/\K.lookup f=some ⟨oc,od,.func U,ei⟩/\PySem.W.codeIn K aG j=true
 kp:PySem.W.keepIn K (.ref f)=true
section
theorem FunD.okX {f:Addr}{N:List Str}{k:Nat}{sp:Sp}(F:FunD K x j st Y f U)(S:aB N ps (aR st))(len:∀a H Q E,sp a H Q E->a.length=ps.length)
  (c:∀(b:Value)(A:Around)(outer:List Env)(s:Shared)(H:Hp)(a:List V)(Q:VK)(E:XK),Room k (A.deeper (envOfC j (aR st) s.heap.objs.size f b))->sp a H Q E →∃t,PSs (j2 CX P w K mg base N j (aR st) f b A outer s H E) (di st) t/\t { nx:=fun _ H'=>Q .non H',rt:=Q } (dO N a) H):FnOk P w K mg base CX (k+1) f U ps sp:=by
 obtain⟨h,od,kV,i,l,m,b,ct,n,rfl,lk,d⟩:=F.ex;exact BP lk d S len fun A outer s H a Q E e g=>c b A outer s H a Q E e g
theorem Fun.d {f:Addr}(F:Fun K x j st f U):FunD K x j st .none f U:=⟨F.ex,F.kp⟩
end
structure RoomH (k:Nat)(A:Around):Prop where
 gd:A.guards=some []
 dp:A.depth+3*k+5<recursionLimit
 un:A.units+16*k+200<cLine
theorem Room.h {k:Nat}{A:Around}(r:Room k A)(e:Option Value):RoomH k (A.mark e):=⟨r.gd,r.dp,r.un⟩
theorem Room.h0 {k:Nat}{A:Around}(r:Room k A):RoomH k A:=⟨r.gd,r.dp,r.un⟩
theorem RoomH.deeper {k:Nat}{A:Around}(r:RoomH (k+1) A)(env:Env):RoomH k (A.deeper env):=⟨r.gd,by have:=r.dp;show A.depth+1+3*k+5<_;lia,by have:=r.un;show A.units+3+16*k+200<_;lia⟩
theorem RoomH.make {k:Nat}{A:Around}(r:RoomH (k+1) A)(C:Addr)(a:List Value)(b:List (Str×Value)):RoomH k (A.under (.builtin "type.__call__" ⟨.ref C::a,b⟩)):=⟨make_guards.trans r.gd,by have:=r.dp;rw[Hf];lia,by have:=r.un;rw[Hc];lia⟩
structure FnH (P:Program)(w:World)(K:W.Frag)(mg:Str->Option Value)(base:Heap)(k:Nat)(f:Addr)(U:FuncData)(ps:List Str)(sp:Sp):Prop where
 len:∀vs H Q E,sp vs H Q E->vs.length=ps.length
 run:∀(A:Around)(outer:List Env)(s:Shared)(H:Hp)(args:Args)(us:List Value)(vs:List V)(Q:VK),RoomH k A->Env0 P w K mg base A outer s H->BindsTo s U args (ps.zip us)->Vals vs us->sp vs H Q E0 →codeAny (model P w) A (.call (.ref f) args) (CR bX outer P w H s Q E0) s
section
abbrev BM (P:Program)(w:World)(K:W.Frag)(mg:Str->Option Value)(base:Heap)(N:List Str)(j:Str)(scope:Scope)(f:Addr)(cd:Value)(A:Around)(outer:List Env)(s:Shared)(H:Hp):Cx:={ j2 bX P w K mg base N j scope f cd A outer s H E0 with calm:=false }
theorem FunD.okH {f:Addr}{N:List Str}{k:Nat}{sp:Sp}(F:FunD K x j st Y f U)(S:aB N ps (aR st))
  (len:∀d H Q E,sp d H Q E->d.length=ps.length)
  (D:∀(i:Value)(A:Around)(outer:List Env)(s:Shared)(H:Hp)(d:List V)(Q:VK),RoomH k (A.deeper (envOfC j (aR st) s.heap.objs.size f i))->sp d H Q E0 →∃t,PSs (BM P w K mg base N j (aR st) f i A outer s H) (di st) t/\t { nx:=fun _ H'=>Q .non H',rt:=Q } (dO N d) H):
  FnH P w K mg base (k+1) f U ps sp:=by
 obtain⟨oc,od,kV,bF,pm,an,i,ct,ei,rfl,lk,G⟩:=F.ex;refine⟨len,fun A outer s H args L d Q m a hb r p=>?_⟩;have M:=len _ _ _ _ p;have B:K.In s.heap:=a.mod.kin.keeps fun b o e=>(a.bs b o e).1;have O:s.heap.NoLimit:=a.mod.nolimit.keeps fun b o e=>(a.bs b o e).1
 have g:∀y∈ps.zip L,(aR st).names.lookup y.1=some .local∨((aR st).names.lookup y.1=some .cell/\((cellsFrom (s.heap.objs.size+1) (aR st).names []).lookup y.1).isSome=true):=fun z0 R=>by obtain⟨n,v⟩:=z0;rcases S.par n (of_mem_zip R).1 with q|q;exact .inl q;exact .inr ⟨q,PySem.W.cellsFrom_some _ _ _ (.inl q)⟩
 have T:A.depth<recursionLimit:=by have:=m.dp;lia
 refine codeAny_call_function T (B _ _ lk) rfl S.co S.gen rfl (PySem.W.codeRec_of B G) (hb _ _ _ _ ?_);refine wpAny_newFunctionEnv_cells S.kind g fun env he C x=>?_;subst he;refine⟨O.keeps x.toInCall.keep,codeAny_func ?_⟩;obtain⟨t,X,Z⟩:=D i A outer s H d Q (m.deeper _) p;have c:=Ds (A:={ A with handled:=none }) (CX:=bX) (E:=E0) S rfl ⟨a.frames,a.mod,a.bs,a.bsz,a.funs,a.frf,a.hok,a.bare⟩ M r x;have ok:=c.ok
 have I:Inv (BM P w K mg base N j (aR st) f i A outer s H) [] (dO N d) H C:=⟨⟨ok.mod,ok.kind,ok.glob,ok.blt,ok.above,ok.inj,ok.has,ok.cab,(fun z=>nomatch z),Around.frames_deeper a.frames,ok.stk,ok.exf,ok.bs,ok.bsz,ok.noex,ok.exfs,ok.funs,ok.frf⟩,c.os,c.bare,c.base,c.loc,c.cell,c.free,c.freeC,c.pin,c.hok,c.len⟩
 refine VE (X [] C (dO N d) H _ I Z) (fun fl s' h=>?_) fun e s' h=>h
 cases fl with
 |ret u=>obtain⟨v,l,H',J,rv,q⟩:=h;exact⟨v,H',J.os,J.bare,J.base,J.hok,rv,q⟩
 |next=>obtain⟨l,H',J,q⟩:=h;exact⟨.non,H',J.os,J.bare,J.base,J.hok,rfl,q⟩
 |brk=>obtain⟨_,_,_,q⟩:=h;exact False.elim q
 |cont=>obtain⟨_,_,_,q⟩:=h;exact False.elim q
theorem FnH.fn {k:Nat}{f:Addr}{sp:Sp}(F:FnH P w K mg base k f U ps sp)(b:∀a H Q E,sp a H Q E->sp a H Q E0):FnOk P w K mg base bX k f U ps sp:=⟨F.len,fun A outer s H args c a Q E d g hb r h=>V3 (F.run A outer s H args c a Q d.h0 g hb r (b _ _ _ _ h)) fun i s' z=>by
  cases i with
  |error e=>exact z.elim
  |ok fl=>cases fl <;> exact z⟩
end
section
theorem Q7 {m:Str}{t:TA}{k:Nat}{cB f:Addr}{sp:Sp}{mc:Value}{pl:Sem Bool}(F:FnH X.prog X.w X.K X.mg X.base k f U ps sp)(o:RoomH k X.A)(v:Gl X x)(z:X.mg x=some (.ref cB))
  (B:PySem.W.specialIn X.K (.ref cB) "__getattribute__"=some (some (.builtin "type.__getattribute__"))) (C:PySem.W.readsIn X.K cB mc=true) (D:PySem.W.findCls X.K (.ref cB) mc m=some (.val (.ref f))) (E:PySem.W.keepIn X.K (.ref f)=true) (hb:Binds X.K U ps [])
  (J:PA X (e::es) t) (L:(x==("__debug__":Str))=false:=by decide) (he:starEach (e::es) X.env=(false,eval e X.env)::starEach es X.env:=by rfl) (g:(backTo pos (starEach es X.env)).any (·.1)=false:=by rfl)
  (M:eval (.Call (.Attribute (.Name x p) m y) (e::es) [] pos) X.env=(do
   let l ← eval (.Name x p) X.env
   standAt y.atName
   let (f,first) ← holding [l] (getMethod l m pl)
   callWith pos f first (backTo pos (starEach (e::es) X.env)) (backToKw pos (keywordEach [] X.env))):=by rfl):
  PE X (.Call (.Attribute (.Name x p) m y) (e::es) [] pos) (fun O H Q=>t O H fun i j=>sp i j Q E0):=by
 intro G s O H Q I h;refine PySem.W.methodCall_KW (pl:=pl) (nY I v z ?_ L) M;refine PySem.W.method_cls I.kIn B (PySem.W.cls_value I.kIn C D rfl ?_);have N:=I.tok (s.toks+1);refine WO (h₀:=X.base) I.ok.mod.kin E (az (J pos G _ O H _ N h) fun c n ⟨i,j,d,r,q⟩=>⟨d.kIn,?_⟩) he g;have P:(c++[]).length=ps.length:=by rw[Vk,<- r.length];exact F.len _ _ _ _ q
 have a:=hb n c d.kIn P;rw[Vk] at a;refine Wj (V3 (F.run X.A X.stack n j ⟨c,[]⟩ c i Q o d.env0 a r q) fun r s' b=>?_)
 cases r with
 |error e=>exact b.elim
 |ok fl=>
  cases fl with
  |ret u=>exact d.after b
  |next=>exact False.elim b
  |brk=>exact False.elim b
  |cont=>exact False.elim b
end
end
section
abbrev sInitL:Stmt:=(yB (top 1)).getD 0 (.Pass ⟨0,0,0,0⟩)
abbrev sInitN:Stmt:=(yB (top 2)).getD 0 (.Pass ⟨0,0,0,0⟩)
inductive eK (C:Addr)(vs:List V)(H:Hp)(Q:VK):Prop
 |mk (e v:_) (_:vs=[.ref e,v]) (_:H e=some (gJ C e)) (_:Q .non H):eK C vs H Q
def Eb (C:Addr):Sp:=fun a H Q _=>eK C a H Q
def ShwT (t:Th):Prop:=(aC t).showable=true/\(aC t).depth<=100/\(aC t).shown.length<=1000000/\match t with
 | .at (.int i)=>i.natAbs.log2<1920
 | .at (.str x)=>x.length<=1000000
 | .at .non=>True
 | .at _=>False
 |_=>True
variable {P:Program}{w:World}{K:W.Frag}{C B r:Addr}{mg:Str->Option Value}{base:Heap}{G:FuncData}{q:Value}
theorem ShwT.fmt {t:Th}{u:Nat}(h:ShwT t)(b:u+102<cLine):C6 u 14 t:=by have hsz:=Vr;obtain⟨h1,c,d,a⟩:=h;refine⟨h1,by lia,by lia,?_⟩;cases t with| «at» v =>(cases v with|int i=>exact a|str x=>have e:x.length<=1000000:=a;show x.length+14<=_;lia|non=>trivial|_=>exact a.elim)|_=>trivial
inductive eJ (C:Addr)(vs:List V)(H:Hp)(Q:VK):Prop
 |mk (e:Addr) (x:V) (t:Th) (_:vs=[.ref e,x]) (_:H e=some (gJ C e)) (_:IsTh H x t) (_:ShwT t) (_:∀d,H d=none->d≠e->Q .non (ax (ax H d (.xd [("place",x)])) e (mD C e d))):eJ C vs H Q
def oB (C:Addr):Sp:=fun a H Q _=>eJ C a H Q
section
theorem PM:aB ["self","words"] ["self","words"] (aR sInitL):=⟨rfl,rfl,rfl,by decide+kernel,rfl,by decide+kernel,by decide+kernel⟩
theorem PL:aB ["self","place"] ["self","place"] (aR sInitN):=⟨rfl,rfl,rfl,by decide+kernel,rfl,by decide+kernel,by decide+kernel⟩
theorem Q6 {f:Addr}(F:FunD K "__init__" "LikeError.__init__" sInitL q f G)(c:iK K C r)(a:mg "ValueError"=none)(b:PySem.W.findCls K (.type "ValueError") (.type "type") "__init__"=some (.val (.builtin "ValueError.__init__"))):FnH P w K mg base 1 f G ["self","words"] (Eb C):=by
 refine F.okH PM (fun d H Q E h=>?_) (fun i A outer s H d Q j h=>?_);obtain⟨e,v,rfl,_⟩:=h;rfl
 .obtain⟨e,v,rfl,g,k⟩:=h;refine'⟨?tt,?body,?aJ⟩;case body=>
   refine' fV ?s1
   case s1=>
    refine' uk ?e1
    case e1=>exact Rq (S9 c) (by rfl) a (by decide+kernel) (by rfl) (by decide+kernel) b (by decide+kernel) (aX (pv 0) (aX (pv 1) pa_nil))
  case aJ=>exact⟨_,rfl,_,rfl,e,v,rfl,g,k⟩
theorem Q5 {f a:Addr}{b:FuncData}(F:FunD K "__init__" "NoPlace.__init__" sInitN .none f G)(c:iK K C r)(m:PySem.W.findIn K (.ref C) "place"=some none)
  (i:FunD K "__init__" "LikeError.__init__" sInitL q a b) (n:Binds K b ["self","words"] []) (o:mg "ValueError"=none) (v:PySem.W.findCls K (.type "ValueError") (.type "type") "__init__"=some (.val (.builtin "ValueError.__init__")))
  (mB:mg "LikeError"=some (.ref B)) (x:PySem.W.specialIn K (.ref B) "__getattribute__"=some (some (.builtin "type.__getattribute__"))) (z:PySem.W.readsIn K B (.type "type")=true) (D:PySem.W.findCls K (.ref B) (.type "type") "__init__"=some (.val (.ref a))):
  FnH P w K mg base 2 f G ["self","place"] (oB C):=by
 have I:FnH P w K mg base 1 a b ["self","words"] (Eb C):=Q6 i c o v;refine F.okH PL (fun J H Q E h=>?_) (fun N A outer s H J Q d h=>?_)
 .obtain⟨e,p,t,rfl,_⟩:=h;rfl
 .obtain⟨e,p,t,rfl,l,L,M,k⟩:=h
  have hsz:=Vr;have O:=d.un;have g:=d.gd;refine'⟨?tt,?body,?aJ⟩
  case body=>
   refine' fG ?s1 (fV ?s2)
   case s1=>
    refine' uk ?e1
    case e1=>
     refine' Q7 I d (by rfl) mB x z D i.kp n ?aa
     case aa=>
      refine' aX (pv 0) ?a1
      case a1=>
       refine' fj ?j pa_nil
       case j=>exact PN g (pv 1)
   case s2=>exact Q8 c m (pv 0) (pv 1) rfl
  case aJ=>
   refine⟨_,rfl,_,rfl,t,L,M.fmt (u:=(A.deeper _).units) (by lia),fun y=>?_⟩;exact⟨e,_,rfl,l,_,rfl,_,rfl,e,rfl,l,k⟩
end
noncomputable def ej:Th->List Th->Option (List Th)
 |t,[]=>some [t]
 |t,u::a=>match u with
  | .at (.int z)=>(match t with
   | .tup xs=>if 0<=z then ((jA xs)[z.toNat]?).bind fun k=>(ej k a).map (t :: ·) else none
   |_=>none)
  |_=>none
theorem FH (w:Str)(ts:List Th):jA (.at (.str w)::ts)=jA ts:=rfl
def OM (u:Th):Prop:=(∃i,u=.at (.int i))∨∃c,u=.at (.bl c)
def uS:Nat->Th->Prop
 | 0,_=>False
 |n+1,t=>∃(w:Str)(ts:List Th),t=.tup (.at (.str w)::ts)/\ts.length<=1000/\∀x∈ts,gL x=true->uS n x
structure mQ (zs:List Th):Prop where
 sh:(aC (.tup zs)).showable=true
 dp:(aC (.tup zs)).depth<=100
 ln:(aC (.tup zs)).shown.length<=1000000
inductive spWayR (C:Addr)(N:Nat)(vs:List V)(H:Hp)(Q:VK)(E:XK):Prop
 |mk (v:V) (ap:Addr) (t:Th) (zs:List Th) (_:vs=[v,.ref ap]) (_:IsTh H v t) (_:uS N t) (_:IsTh H (.ref ap) (.tup zs)) (_:zs.length<=1000) (_:(∀u∈zs,OM u)) (_:mQ zs) (_:(∀ns,ej t zs=some ns->∀(q:Addr)(ws:List V) H',Same H H'->H' q=some (.lst ws)->IsThs H' ws ns->Q (.ref q) H')) (_:(ej t zs=none->∀(d:Addr) H',Same H H'->H d=none->H' d=some (.xd [("place",.ref ap)])->E (.ref C) (some d) H')):spWayR C N vs H Q E
structure uT (K:W.Frag)(mg:Str->Option Value)(C r:Addr)(dI:FuncData):Prop where
 c:iK K C r
 m:mg "NoPlace"=some (.ref C)
 b:Binds K dI ["self","place"] []
section
theorem scWay:aB ["e","path","found","at","inner"] ["e","path"] (aR yK):=⟨rfl,rfl,rfl,by decide+kernel,rfl,by decide+kernel,by decide+kernel⟩
theorem OW {f fW fP:Addr}{dW dP dI:FuncData}(F:Fun K "way" "way" yK f G)(T:ic mg)(KI:jo K)(FP:Fun K "parts" "parts" tY fP dP)(bP:Binds K dP ["e"] [])(mP:mg "parts"=some (.ref fP))(FW:Fun K "is_whole" "is_whole" tZ fW dW)(bW:Binds K dW ["thing"] [])(mW:mg "is_whole"=some (.ref fW))
  (Z:uT K mg C r dI) (GI:FnOk P w K mg base bX 2 r dI ["self","place"] (oB C)) (N:Nat):FnOk P w K mg base (iB true P w C) 4 f G ["e","path"] (spWayR C N):=by
 have GP:FnOk P w K mg base bX 1 fP dP ["e"] eE:=Ra FP T KI;have GW:FnOk P w K mg base bX 1 fW dW ["thing"] (zc qU):=EI FW T KI;refine F.d.okX scWay (fun vs H Q E h=>?_) (fun aG A outer s H vs Q E hr h=>?_)
 .obtain⟨v,J,t,l,rfl,_⟩:=h;rfl
 .obtain⟨v,J,t,l,rfl,ht,hok,hp,hzl,bZ,so,kQ,kE⟩:=h
  have hsz:=Vr;have su:Room 1 _:=hr.mono (by decide);refine'⟨?tt,?body,?aJ⟩
  case body=>
   refine' fG ?s1 ?r1
   case s1=>exact lD (i:=2) scWay.nd rfl (Or.inl rfl) (zM (aX (pv 0) pa_nil))
   case r1=>
    refine' fG ?s2 (fV ?s3)
    case s2=>
     refine' Ea PassesOwn.leaving rfl (Cm (pv 1)) (qZ (i:=3) scWay.nd rfl (Or.inl rfl)) ?blk
     case blk=>
      refine' fG ?b1 ?q1
      case b1=>exact lD (i:=4) scWay.nd rfl (Or.inl rfl) (oF GP su (by rfl) mP FP.kp bP .nil qS (fj (qE ix_list (pv 2) (CU D9 oE) (fun _ _=>rfl)) pa_nil))
      case q1=>
       refine' fG ?b2 (fV ?b3)
       case b2=>
        refine' nW ?c (fV ?ra) pss_nil
        case c=>exact(mx (j3 (ly (oF GW su (by rfl) mW FW.kp bW .nil qS (aX (pv 3) pa_nil)))) (qr (j3 (yJ yd ye oE (pv 3) (fe tX (by rfl) T.len PySem.boot_len (aX (pv 4) pa_nil)))))).pt
        case ra=>exact Ad Z.c GI hr (by rfl) Z.m Z.b (aX (pv 1) pa_nil) rfl rfl rfl rfl rfl
       case b3=>exact uk (y8 PySem.F.plainAttrs_list PySem.F.slot_list_append PySem.F.type_list_append Hj (pv 2) (fj (qE ix_tup (pv 4) (pv 3) (fun _ _=>rfl)) pa_nil))
    case s3=>exact mG (pv 2)
  case aJ=>
   obtain⟨ap',pvs,M,O,R⟩:=ym hp;cases M;have hpvl:=IsThs.len _ R;refine⟨_,rfl,(by show 1<=sizeLine;decide),fun fl S=>?_⟩;have sf:=jn (o:=.lst [v]) S
   have bu:∀B,Same H B->ej t l=none->∀a,B a=none->oB C [.ref a,.ref J] (ax B a (gJ C a)) (fun v L=>v=.non/\∃d,L a=some (mD C a d)/\E (.ref C) (some d) (fF a L)) E0:=by
    intro B s1 U a p;have sa:=jn (o:=gJ C a) p;refine⟨a,.ref J,_,rfl,aY,IsTh.kp (Kp.of (s1.trans sa)) hp,⟨so.sh,so.dp,so.ln,trivial⟩,fun d hd a5=>⟨rfl,d,aY,kE U d _ (fun b o e=>?_) ?_ ?_⟩⟩;have M:=s1 _ _ e;have W:=cm M p;have hbd:=cm (sa _ _ M) hd;unfold fF;rw[Vi W,aD W,aD hbd];exact sa _ _ M;cases z:H d with|none=>rfl|some o=>rw[sa _ _ (s1 _ _ z)] at hd;cases hd
    unfold fF;rw[Vi a5,aD a5,aY]
   refine⟨_,rfl,J,rfl,⟨_,SqT.of (sf _ _ O)⟩,NV (K:=K) (a:=J) (xs:=pvs) (fun i σ H'=>∃(ws:List V)(y:V)(u:Th)(X:List Th)(o3 o4:Option V),σ=[some v,some (.ref J),some (.ref fl),o3,o4]/\Same H H'/\H' fl=some (.lst (ws++[y]))/\IsTh H y u/\IsThs H ws X/\(∃n,uS n u)/\ej t l=(ej u (l.drop i)).map (X ++ ·)/\ws.length=i)
    ⟨[],v,t,[],none,none,rfl,sf,aY,ht,.nil,⟨N,hok⟩,by rw[drop_zero];cases ej t l <;> rfl,rfl⟩ (fun i σ H' _ z0=>by obtain⟨_,_,_,_,_,_,_,e,_⟩:=z0;exact SqT.of (e _ _ O)) ?_ ?_⟩
   .rintro i x σ B hx ⟨ws,y,u,X,o3,o4,rfl,s1,Y,hy,D,⟨n,hn⟩,k,hwl⟩
    obtain⟨tx,htx,h1⟩:=Ep _ R hx;have hj:l[i]?=some tx:=htx;have hi:i<l.length:=(U7.mp hj).1
    have qi:l.drop i=tx::l.drop (i+1):=by rw[drop_eq_getElem_cons hi];congr 1;exact(U7.mp hj).2
    obtain⟨N',rfl⟩:∃N',n=N'+1:=by cases n with|zero=>exact hn.elim|succ N'=>exact⟨N',rfl⟩
    obtain⟨w0,xs,rfl,Kg,hkid⟩:=hn;rw[qi] at k;refine⟨_,rfl,_,rfl,fl,_,-1,y,rfl,rfl,SqL.of Y,OD _ _,H,y,_,rfl,s1,hy,by rw[Vw];lia,fun pp ps L s2 sy dJ=>?_⟩;rw[FH] at dJ;have hpsl:=IsThs.len _ dJ;rcases bZ tx (VF hj) with ⟨z,rfl⟩|⟨c,rfl⟩
    .obtain⟨rfl,_⟩:=yl h1
     rw[ej] at k;simp only [FH] at k;refine⟨_,rfl,.int z,.at (.int z),rfl,.at rfl,_,rfl,?_⟩;refine oM ?_;refine⟨_,rfl,_,_,rfl,rfl,_,rfl,aE (fun g=>?_) (fun g=>?_)⟩
     .have kM:0<=z:=by simpa using g
      rw[Vm kM] at k;refine⟨_,rfl,pp,ps,rfl,.inr (SqT.of sy),_,_,rfl,rfl,_,rfl,aE (fun g2=>?_) (fun g2=>?_)⟩
      .have U:(jA xs)[z.toNat]?=none:=by
        rw[Wx];have:¬z<(ps.length:Int):=by simpa using g2
        lia
       rw[U] at k;exact⟨_,rfl,by show 1<=10;decide,fun a p=>bu L (s1.trans s2) k a p⟩
      .have bT:z<(ps.length:Int):=by simpa using g2
       obtain⟨j,rfl⟩:=Wh kM;obtain⟨kd,I⟩:∃kd,(jA xs)[j]?=some kd:=⟨_,U4 (by lia)⟩;have pP:kd∈xs/\gL kd=true:=mem_filter.mp (VF I);obtain⟨vk,hvk,hvkt⟩:=PB _ dJ I;have Ki:((j:Nat):Int).toNat=j:=VX j;rw[Ki,I] at k;refine⟨_,rfl,.inl ⟨rfl,_,SqL.of (s2 _ _ Y)⟩,_,rfl,_,rfl,pp,ps,(j:Nat),vk,rfl,rfl,SqT.of sy,Dp hvk,fl,ws++[y],vk,rfl,rfl,s2 _ _ Y,by rw[U9,length_singleton];lia,?_⟩;refine⟨ws++[y],vk,kd,X++[_],_,_,rfl,?_,aY,hvkt,IsThs.app _ D (.cons hy .nil),⟨N',hkid kd pP.1 pP.2⟩,?_,by rw[U9,hwl];rfl⟩
       .intro b ob e;rw[aD (cm e S)];exact s2 _ _ (s1 _ _ e)
       .rw[k]
        show((ej kd (l.drop (i+1))).map _).map _=_;rw[Option.map_map]
        congr 1
        funext q
        simp
     .have kM:¬ 0<=z:=fun q=>g (by simpa using q);rw[Vi kM] at k;refine⟨_,rfl,aE (fun _=>⟨_,rfl,by show 1<=10;decide,fun a p=>bu L (s1.trans s2) k a p⟩) (fun g3=>?_)⟩;exfalso;exact g3 (by simpa using kM)
    .obtain⟨rfl,_⟩:=yl h1
     have U:ej t l=none:=by rw[k];rfl
     refine⟨_,rfl,.bl c,.at (.bl c),rfl,.at rfl,_,rfl,?_⟩;refine AI ?_;exact⟨_,rfl,by show 1<=10;decide,fun a p=>bu L (s1.trans s2) U a p⟩
   .rintro σ B ⟨ws,y,u,X,o3,o4,rfl,s1,Y,hy,D,_,k,hwl⟩;rw[List.drop_of_length_le (by lia),ej] at k;exact⟨_,rfl,kQ _ k fl _ B s1 Y (IsThs.app _ (IsThs.kp (Kp.of s1) D) (.cons (IsTh.kp (Kp.of s1) hy) .nil))⟩
end
end
section
variable {x q:Str}{a C B L:Addr}{w:World}{X:Cx}{i j:Nat}{pos p M:Pos}{es:List Expr}{prog:Program}{env:Env}{O:FuncData}{ps sn:List Str}{P sub:List Value}{hdct ab cz:Bool}{col:Option Bool}{dd:Option Addr}{k0 k1 k2 k3 k5:Option Value}{newId:String}
section
variable {A:Around}{E:Value->Shared->Prop}{nm:Str}{N:Addr}{bs:List Value}{s:Shared}
theorem RH {t:Expr}{k:Stmt}{l:List Stmt}{n:List ExceptHandler}{Q:Flow->Shared->Prop}(hb:P.contains (Value.type "BaseException")=true)
  (h:wpAny (model prog w) (A.mark (some (.ref a))) (eval t env) (fun c b=>c=.ref C/\b.heap.get? C=some (excClassObj nm q C N bs P hdct sn sub ab col dd k0 k1 k2 k3 k5 newId)/\(∃i,b.heap.get? a=some i/\i.cls=.ref C) ∧wpAny (model prog w) (A.mark (some (.ref a))) (setFlight (.ref a) none) (fun _ m=>wpAny (model prog w) (A.mark (some (.ref a))) (execs (k::l) env)
    Q (notedBy (model prog w) (A.mark (some (.ref a))) env (cameBackBy (model prog w) A env E)) m) (fun _ _=>False) b) (fun _ _=>False) s):
  wpAny (model prog w) A (handleBy (.ref a) env (ExceptHandler.ExceptHandler (some t) none (k::l) pos::n)) Q E s:=by
 refine wpAny_handleBy_cons (codeAny_handlers_test (VE h ?_ fun _ _ z=>z.elim)) (by intro z;cases z);rintro c ⟨u,g,d,tk,os⟩ ⟨rfl,o,⟨i,he,p⟩,z⟩;refine wpAny_excMatches_sub_self o he p hb ?_;refine codeAny_handlers_suite (VE z ?_ fun _ _ z=>z.elim);intro _ m r;exact VE r (fun f s3 j=>j) fun e s3 j=>j
theorem Ss {x c:Sem Value}{Q:Flow->Shared->Prop}(hb:P.contains (Value.type "BaseException")=true)(M:A.handled=some (.ref a))(p:∀(Q:Value->Shared->Prop)(s:Shared),Q .none s->wpAny (model prog w) A c Q E s)
  (h:wpAny (model prog w) A x (fun v d=>∃e j g r t,v=.ref e/\e≠a/\d.heap.get? C=some (excClassObj nm q C N bs P hdct sn sub ab col dd k0 k1 k2 k3 k5 newId)/\d.heap.get? e=some j/\j.cls=.ref C/\j.data=.fields g/\g[1]?=some .none/\g.size=6 ∧d.heap.get? a=some r/\r.data=.fields t/\t[2]?=some .none ∧∀h',(∀b o,b≠e->d.heap.get? b=some o->h'.get? b=some o)->(∀b,d.heap.get? b=none->h'.get? b=none)->(∃I,h'.get? e=some { j with data:=.fields I }/\I[1]?=some .none)->E (.ref e) { d with heap:=h' }) E s):
  wpAny (model prog w) A (raiseStmt env (some x) (some c)) Q E s:=by
 have u:(Value.ref C::P).contains (Value.type "BaseException")=true:=by rw[Wu,hb,Bool.or_true]
 refine UZ (VE h ?_ fun _ _ z=>z);rintro v d ⟨e,j,g,r,t,rfl,k,n,he,y,hd,h1,hsz,O,R,S,z⟩;obtain⟨T,J,U,K⟩:=j;have hd:U=.fields g:=hd;subst hd;have y:T=.ref C:=y;subst y;refine UZ (Vx (p _ _ (UZ (U2 ?_))));refine UZ (Vx ?_);refine UZ (UZ (uA he rfl (U2 ?_)));refine UZ (oG n he rfl ?_);rw[u];refine U2 ?_;refine UZ (U2 ?_);refine UZ (VR he rfl (by lia) ?_);have no:∀(h:Heap)(f:Obj->Obj) b o,b≠e->h.get? b=some o->(h.update e f).get? b=some o:=fun h f b o hb q=>(Vv _ _ (Ne.symm hb)).trans q;have B:(d.heap.update e (Obj.mapFields (·.setIfInBounds 3 .none))).get? e=some ⟨.ref C,J,.fields (g.setIfInBounds 3 .none),K⟩:=Vs _ he rfl;refine UZ (VR B rfl (by rw[Array.size_setIfInBounds];lia) ?_);have i:((d.heap.update e (Obj.mapFields (·.setIfInBounds 3 .none))).update e (Obj.mapFields (·.setIfInBounds 4 (.bool true)))).get? e=some ⟨.ref C,J,.fields ((g.setIfInBounds 3 .none).setIfInBounds 4 (.bool true)),K⟩:=Vs _ B rfl;generalize l:d.heap.update e (Obj.mapFields (·.setIfInBounds 3 .none))=V at B i ⊢;generalize m:V.update e (Obj.mapFields (·.setIfInBounds 4 (.bool true)))=W at i ⊢;have D:∀b o,b≠e->d.heap.get? b=some o->W.get? b=some o:=fun b o hb q=>by rw[<- m,<- l];exact no _ _ b o hb (no _ _ b o hb q)
 have X:C≠e:=fun z=>by rw[z,he] at n;cases n
 have F:=D _ _ X n;refine UZ (uA i rfl ?_);refine UZ (UZ (gN i ?_));refine UZ (gN F ?_);refine U2 ?_;have L:((g.setIfInBounds 3 .none).setIfInBounds 4 (.bool true))[1]?=some .none:=by rw[WJ (by decide),WJ (by decide)];exact h1
 refine UZ (El i rfl L ?_);refine UZ (wpAny_handled ?_);rw[M];refine Wc (Vj (by rw[bne_iff_ne];intro z;cases z;exact k rfl)) ?_;refine UZ (Vx (runValue_entry (b := Builtin.«proto.unchain») (entryFor_of_tree (by kernel_rfl)) ?_));have G:=D _ _ (Ne.symm k) O;refine UZ (VC G R S ?_);refine Wc rfl (UZ (U2 (U2 ⟨_,rfl,?_⟩)));refine UZ (VR i rfl (by rw[Array.size_setIfInBounds,Array.size_setIfInBounds];lia) ?_);refine wpAny_throw (z _ (fun b o hb q=>no _ _ b o hb (D b o hb q)) (fun b q=>?_) ⟨_,Vs _ i rfl,?_⟩)
 .have H:b≠e:=fun z=>by rw[z,he] at q;cases q
  rw[Vv _ _ (Ne.symm H),<- m,Vv _ _ (Ne.symm H),<- l,Vv _ _ (Ne.symm H)];exact q
 .rw[WJ (by decide)];exact L
end
section
theorem RG {E:XK}{cls y:Str}{v9 np Lu kW yp jp rp jS tp:Pos}{jc:Nat}{l:Expr}{t:TA}{k k2:Nat}{f:Addr}{BJ:FuncData}{wu:List Str}{sp A1:Sp}
  (F:FnOk X.prog X.w X.K X.mg X.base (iB true X.prog X.w C) k f O ps sp) (hr:Room k X.A) (hg:Gl X x) (hm:X.mg x=some (.ref f)) (hk:PySem.W.keepIn X.K (.ref f)=true) (hb:Binds X.K O ps []) (ha:PA X.nox (l::es) t)
  (c:iK X.K C L) (G:FnH X.prog X.w X.K X.mg X.base k2 L BJ wu A1) (hr2:Room (k2+1) X.A) (sF:Gl X cls) (sD:X.mg cls=some (.ref C)) (KW:Binds X.K BJ wu [])
  (lv:uy false X C E) (bZ:X.stack=X.env::X.outer) (d7:X.env.frame=some X.env.locals) (hex:X.ex=[]) (hi:X.N[i]?=some y) (hy:oN X.env.scope y)
  (fK:(x==("__debug__":Str))=false:=by decide) (sI:(cls==("__debug__":Str))=false:=by decide) (xA:(y==("__debug__":Str))=false:=by decide) (jY:(y==("__classdict__":Str))=false:=by decide)
  (wX:starEach (l::es) X.env=(false,eval l X.env)::starEach es X.env:=by rfl) (hpl:(backTo M (starEach es X.env)).any (·.1)=false:=by rfl) (Bo:starEach [.Name y yp] X.env=[(false,eval (.Name y yp) X.env)]:=by rfl):
  PS X (.Try [.Return (some (.Call (.Name x p) (l::es) [] M)) v9] [.ExceptHandler (some (.Name cls np)) none [.Raise (some (.Call (.Name cls Lu) [.Name y yp] [] kW)) (some (.Constant .none jc jp)) rp] jS] [] [] tp)
   (fun D Z H=>t Z H fun vs H1=>sp (vs++[]) H1 D.rt fun _ _ H2=>∃v,Z[i]?=some (some v)/\∀a,H2 a=none->A1 [.ref a,v] (ax H2 a (gJ C a)) (fun u H3=>u=.non/\∃d,H3 a=some (mD C a d)/\E (.ref C) (some d) (fF a H3)) E0):=by
 intro ae s Z H D I h;obtain⟨nm,q,N,bs,P,sn,sub,ab,col,dd,z0,z1,z2,z3,z5,l8,hB,hB2,hA,hNe,_,_⟩:=c.lk;refine wpAny_Try_except (W5 (wpAny_Return_some ?_));refine Wa (nY I hg hm ?_ fK);refine WO (h₀:=X.base) I.ok.mod.kin hk (VE (ha M ae s Z H _ (I.wish _) h) ?_ (fun _ _ z=>z.elim)) wX hpl;rintro us R ⟨vs,H1,n,r,z⟩;have n:=n.unwish;refine⟨n.kIn,?_⟩
 have hl:us.length=ps.length:=by rw[<- r.length];have:=F.len _ _ _ _ z;rwa [Vk] at this
 rw[Vk] at z;refine Wj (V3 (F.run X.A X.stack R H1 ⟨us,[]⟩ us vs _ _ hr n.env0 (by have:=hb R us n.kIn (by rw[Vk];exact hl);rwa [Vk] at this) r z) fun rs s2 m=>?_)
 cases rs with
 |ok fl=>
  cases fl with
  |ret u=>obtain⟨v,H',J,rv,zz⟩:=n.after m;exact⟨v,Z,H',J,rv,zz⟩
  |next=>exact m.elim
  |brk=>exact m.elim
  |cont=>exact m.elim
 |error e=>
  obtain⟨a,d,T,H',rfl,os,bare,un,hok,Fl,ha1,hT,Ha,HT,post⟩:=m;obtain⟨v,hv,post⟩:=post;obtain⟨hh,g,dr,tk,os'⟩:=s2;obtain rfl:os'=R.os:=os;have J:=n.call (h':=hh) (g':=g) (d':=dr) (t':=tk) (ch:=[]) un hok bare (fun b z=>absurd z (by simp));have fr:=J.env0.frames;have ff:=J.env0.funs;rw[bZ] at fr ff;refine zK fr ff d7 Fl fun h1 S hn F1 nt=>?_;rw[<- bZ] at nt
  have sM:R.heap.get? S=none:=by cases z:R.heap.get? S with|none=>rfl|some o=>obtain⟨o',q1⟩:=un.there S o z (by simp);have:hh.get? S=none:=hn;rw[q1] at this;cases this
  have uV:H' S=none:=hok.unk hn;refine rn (s:=⟨h1,g,dr,tk,_⟩) F1 fun h2 F2 k2=>?_;have c1:Ch (fun b=>b=a∨b=S∨b=T) (bU X.stack) hh h2:=(nt.ch (.inl rfl) fun t z=>by cases z;exact .inr (.inr rfl)).trans (Ch.one k2 (.inr (.inl rfl)));have aJ:∀j (lL:Nat),Ch (fun b=>b=a∨b=S∨b=T) (bU X.stack) hh j->Inv X ae Z H' ⟨j,g,dr,lL,R.os⟩:=fun j lL c=>by have u3:Un (bU X.stack) [] H1 H' R.heap j:=c.un un (fun b z=>by rcases z with rfl|rfl|rfl <;> assumption) fun b o _ z=>z;have k3:HOk X.prog X.w H' j:=c.hok hok (fun b z=>by rcases z with rfl|rfl|rfl <;> assumption) J.env0.frf;exact n.call (h':=j) (g':=g) (d':=dr) (t':=lL) (ch:=[]) u3 k3 bare (fun b z=>absurd z (by simp))
  have J2:=aJ h2 tk c1;refine RH hB2 (Ww I.ok.kind sF (Xi (by rw[I.ok.glob];exact I.mod.glob.keeps J2.bk) sD ⟨rfl,J2.kIn _ _ l8,let ⟨vs,q,_⟩:=F2.obj;⟨_,q,rfl⟩,?_⟩) sI);refine rn (s:=⟨h2,g,dr,tk,_⟩) F2 fun j F3 k3=>?_;have B:=aJ j tk (c1.trans (Ch.one k3 (.inr (.inl rfl))));refine W5 ?_;rw[arm_exec_Raise];refine UZ (WU ?_);refine Ss (a:=a) (nm:=nm) (q:=q) (C:=C) (N:=N) (bs:=bs) (hdct:=true) (sn:=sn) (sub:=sub) (ab:=ab) (col:=col) (dd:=dd) (k0:=z0) (k1:=z1) (k2:=z2) (k3:=z3) (k5:=z5) (newId:="ValueError.__new__") hB2 rfl (fun Q s z=>UZ (Constant_none (UZ (WU (U2 z))))) (UZ ?_);refine Wa (Ww I.ok.kind sF (Xi (by rw[I.ok.glob];exact I.mod.glob.keeps B.bk) sD ?_) sI);refine WO (h₀:=X.base) I.ok.mod.kin c.kp ?_ Bo rfl;rw[Bo];show wpAny _ _ (spliced ((false,eval (.Name y yp) X.env)::backTo kW [])) _ _ _;refine Calls.spliced_cons (DK B hi hy hv (fun u ru=>Calls.spliced_nil ⟨B.kIn,?_⟩) xA jY);have i5:H' (j.objs.size+1)=none:=B.hok.fresh (WD _);have z:=post _ i5;have r9:∀b o,j.get? b=some o->((j.push { cls:=.type "tuple",data:=.seq [u].toArray }).push { cls:=.ref C,data:=.fields #[.ref j.objs.size,.none,.none,.none,.bool false,.none] }).get? b=some o:=fun b o e=>U0 _ (U0 _ e)
  have fq:((j.push { cls:=.type "tuple",data:=.seq [u].toArray }).push { cls:=.ref C,data:=.fields #[.ref j.objs.size,.none,.none,.none,.bool false,.none] }).get? (j.objs.size+1)=some { cls:=.ref C,data:=.fields #[.ref j.objs.size,.none,.none,.none,.bool false,.none] }:=by have:=U8 (j.push { cls:=.type "tuple",data:=.seq [u].toArray }) (o:={ cls:=.ref C,data:=.fields #[.ref j.objs.size,.none,.none,.none,.bool false,.none] }) rfl;rwa [Vz] at this
  have I2:=B.laid (t':=tk) (o:=gJ C (j.objs.size+1)) r9 (WD _) ⟨⟨_,fq⟩,⟨_,fq⟩,fun g1 g2 z4 kk=>by obtain⟨t,q⟩:=z4;exact ⟨t,kk _ q⟩⟩;have r2:Vals [V.ref (j.objs.size+1),v] [Value.ref (j.objs.size+1),u]:=.cons rfl (.cons ru .nil);have hl2:([Value.ref (j.objs.size+1),u]++[]).length=wu.length:=(G.len _ _ _ _ z).symm▸rfl;have hb2:=KW _ [Value.ref (j.objs.size+1),u] I2.kIn hl2;rw[Vk] at hb2;have l:=I2.env0.make C [u] [];obtain⟨va,U,hav1,hav2⟩:=F3.obj;refine Wj (E7 PySem.F.excBase_ValueError hB hA hNe B.kIn l8 c.ini c.fn (by show 1<=sizeLine;rw[Vr];decide) (V3 (G.run _ X.stack _ _ ⟨[Value.ref (j.objs.size+1),u],[]⟩ _ _ _ ((hr2.h (some (.ref a))).make C [u] []) ⟨l.frames,l.mod,l.bs,l.bsz,l.funs,l.frf,l.hok,l.bare⟩ hb2 r2 z) fun rs s' m=>?_))
  cases rs with
  |error e=>exact m.elim
  |ok fl=>
   cases fl with
   |ret w'=>
    obtain⟨v2,H3,os3,Y,un3,hok3,rv3,rfl,d3,Hd,hE⟩:=m;cases rv3;refine⟨rfl,?_⟩;refine UZ (WU (U2 ?_));have I3:=I2.call' (s':=s') (ch:=[]) os3 un3 hok3 Y (fun b z=>absurd z (by simp));obtain⟨⟨vs2,ho,hv1,iZ,hsz⟩,_,_⟩:=I3.hok _ _ Hd;have p8:j.objs.size+1≠a:=fun z=>absurd (Va U) (by rw[<- z];show ¬j.objs.size+1<j.objs.size;lia);have KY:a∉bU X.stack:=fun z=>by obtain⟨_,o,ho,hn⟩:=B.env0.funs.mem z;rw[U] at ho;cases ho;exact hn va rfl
    have hao2:=un3.keep a _ (r9 _ _ U) (by rw[aD (Ne.symm p8)];exact Ha) KY (by simp);refine⟨_,_,vs2,_,va,rfl,p8,I3.kIn _ _ l8,ho,rfl,rfl,hv1,hsz,hao2,rfl,hav2 rfl,fun h' kp nw z6=>?_⟩;obtain⟨vs3,ho3,hv3⟩:=z6;have I4:=I3.untrack Hd;have ff3:=I4.env0.funs;have fr3:=I4.env0.frames;rw[bZ] at ff3 fr3;have Li:h'.FunFrames X.base (X.env::X.outer):=Heap.FunFrames.of_keeps (fun b o q nf=>⟨o,kp b o (fun z=>by rw[z,ho] at q;cases q;exact nf vs2 rfl) q,rfl⟩) ff3
    have Kk:X.s₀.heap.get? (j.objs.size+1)=none:=by cases zz:X.s₀.heap.get? (j.objs.size+1) with|none=>rfl|some o=>have h1:=Va zz;have h2:=B.sz;exact absurd (Ve h1 h2) (by show ¬j.objs.size+1<j.objs.size;lia)
    refine FJ (s:={ s' with heap:=h' }) (cz:=false) fr3 Li d7 ho3 hv3 (fun z=>nomatch z) fun hN TN Bt FN wD=>?_;obtain⟨vs4,ho4,hv4,_⟩:=FN.obj;refine UZ (VC ho4 rfl hv4 ?_);refine Vf rfl ?_;refine UZ (VC ho4 rfl hv4 ?_);refine Wc rfl ?_;rw[d7];refine Al (fl':=rawInt X.env.locals) FN fun hS FS kS=>?_;rw[lv];obtain⟨vs5,ho5,hv5,_⟩:=FS.obj;obtain⟨oT,ts,hoT,hdT,htT⟩:=FS.ent;refine UZ (wpAny_noteFrame_inFlight d7 ho5 rfl hv5 hoT hdT htT ?_);have xG:∀b o,b≠j.objs.size+1->s'.heap.get? b=some o->b≠TN:=fun b o hb q z=>by have h1:h'.get? TN=none:=Bt;rw[<- z,kp b o hb q] at h1;cases h1
    rw[<- bZ] at wD;refine Ae (s:=s') (h1:=hS) (T0:=none) I4 bZ d7 hex Kk (by unfold fF;rw[Vm rfl]) (fun t z=>nomatch z) ?_ FS ⟨fun b o q nf hb _=>kS b o (wD.keep b o (kp b o hb q) nf hb (by simp)) (xG b o hb q),fun b o q hb _=>?_⟩ hE
    .cases z:s'.heap.get? TN with
     |none=>rfl
     |some o=>
      by_cases hz:TN=j.objs.size+1
      .have h1:h'.get? TN=none:=Bt;rw[hz,ho3] at h1;cases h1
      .exact absurd rfl (xG TN o hz z)
    .obtain⟨sl,q1⟩:=wD.slot b o (kp b o hb q) hb (by simp);exact⟨sl,kS b _ q1 (xG b o hb q)⟩
   |next=>exact m.elim
   |brk=>exact m.elim
   |cont=>exact m.elim
end
section
variable {nm G Q:Str}{N N':Addr}{bs R S:List Value}{U:Bool}{Y:List Str}{Z:List Value}{nM:Bool}{ia:Option Bool}{fw:Option Addr}{nq nk nj ni nh:Option Value}{cV:String}
theorem PK {cls y L:Str}{qg np yp ep ap jS tp:Pos}{e0:Expr}{t:TA}{k:Nat}{f:Addr}{sp:Sp}
  (F:FnOk X.prog X.w X.K X.mg X.base (iB cz X.prog X.w C) k f O ps sp) (hr:Room k X.A) (hg:Gl X x) (hm:X.mg x=some (.ref f)) (hk:PySem.W.keepIn X.K (.ref f)=true) (hb:Binds X.K O ps []) (ha:PA X.nox (e0::es) t)
  (bZ:X.stack=X.env::X.outer) (d7:X.env.frame=some X.env.locals) (hN:X.N.Nodup) (hi:X.N[i]?=some y) (hy:lI X.env.scope y) (hj:X.N[j]?=some L) (jV:i≠j) (he:X.env.scope.names.lookup L=some .local)
  (sF:Gl X cls) (sD:X.mg cls=some (.ref B)) (l8:X.K.lookup C=some (excClassObj nm q C N bs P hdct sn sub ab col dd k0 k1 k2 k3 k5 newId)) (ml:P.contains (.ref B)=true)
  (xh:X.K.lookup B=some (excClassObj G Q B N' R S U Y Z nM ia fw nq nk nj ni nh cV)) (hB:S.contains (Value.type "BaseException")=true)
  (fK:(x==("__debug__":Str))=false:=by decide) (sI:(cls==("__debug__":Str))=false:=by decide) (xA:(L==("__debug__":Str))=false:=by decide) (jY:(L==("__classdict__":Str))=false:=by decide)
  (wX:starEach (e0::es) X.env=(false,eval e0 X.env)::starEach es X.env:=by rfl) (hpl:(backTo M (starEach es X.env)).any (·.1)=false:=by rfl)
  (g7:swapsWith (.Call (.Name x p) (e0::es) [] M) none qg.line X.env=pure false:=by rfl) (Kj:swapsWith (.Name L ep) (some (.Name y yp)) ap.line X.env=pure false:=by rfl) (Kz:X.fn y=true∨X.env.scope.names.lookup y=some .local:=by first|exact .inl rfl|exact .inr rfl|assumption):
  PS X (.Try [.Expr (.Call (.Name x p) (e0::es) [] M) qg] [.ExceptHandler (some (.Name cls np)) (some L) [.Assign [.Name y yp] (.Name L ep) ap] jS] [] [] tp)
   (fun D σ H=>t σ H fun l H1=>sp (l++[]) H1 (fun _ _=>False) (fun c od H2=>∀a d,od=some d->H2 a=none->D.nx ((((σ.set j (some (.ref a))).set i (some (.ref a))).set j (some .non)).set j none) (ax H2 a (j6 C a d)))):=by
 intro ae s σ H D I h;refine wpAny_Try_except (W5 (wpAny_Expr_any ?_ I.quiet g7));refine Wa (nY I hg hm ?_ fK);refine WO (h₀:=X.base) I.ok.mod.kin hk (VE (ha M ae s σ H _ (I.wish _) h) ?_ (fun _ _ z=>z.elim)) wX hpl;rintro us V ⟨l,H1,m,r,z⟩;have m:=m.unwish;refine⟨m.kIn,?_⟩
 have hl:us.length=ps.length:=by rw[<- r.length];have:=F.len _ _ _ _ z;rwa [Vk] at this
 rw[Vk] at z;refine Wj (V3 (F.run X.A X.stack V H1 ⟨us,[]⟩ us l _ _ hr m.env0 (by have:=hb V us m.kIn (by rw[Vk];exact hl);rwa [Vk] at this) r z) fun rs s2 hq=>?_)
 cases rs with
 |ok fl=>
  cases fl with
  |ret u=>obtain⟨v,H',_,_,_,_,_,zz⟩:=hq;exact zz.elim
  |next=>exact hq.elim
  |brk=>exact hq.elim
  |cont=>exact hq.elim
 |error e=>
  obtain⟨a,d,T,H',rfl,os,bare,un,hok,Fl,ha1,hT,Ha,HT,post⟩:=hq;obtain⟨hh,g,dr,tk,os'⟩:=s2;obtain rfl:os'=V.os:=os;have J:=m.call (h':=hh) (g':=g) (d':=dr) (t':=tk) (ch:=[]) un hok bare (fun b z=>absurd z (by simp));have fr:=J.env0.frames;have ff:=J.env0.funs;rw[bZ] at fr ff;refine zK fr ff d7 Fl fun h1 T1 hn F1 nt=>?_;rw[<- bZ] at nt
  have sM:V.heap.get? T1=none:=by cases z:V.heap.get? T1 with|none=>rfl|some o=>obtain⟨o',q1⟩:=un.there T1 o z (by simp);have:hh.get? T1=none:=hn;rw[q1] at this;cases this
  have uV:H' T1=none:=hok.unk hn;refine rn (s:=⟨h1,g,dr,tk,_⟩) F1 fun h2 F2 k2=>?_;have c1:Ch (fun b=>b=a∨b=T1∨b=T) (bU X.stack) hh h2:=(nt.ch (.inl rfl) fun t z=>by cases z;exact .inr (.inr rfl)).trans (Ch.one k2 (.inr (.inl rfl)));have aJ:∀n (lL:Nat),Ch (fun b=>b=a∨b=T1∨b=T) (bU X.stack) hh n->(∃l,n.get? a=some { cls:=.ref C,dict:=some d,data:=.fields l })->Inv X ae σ (ax H' a (j6 C a d)) ⟨n,g,dr,lL,V.os⟩:=fun n lL c fo=>by have u3:Un (bU X.stack) [] H1 H' V.heap n:=c.un un (fun b z=>by rcases z with rfl|rfl|rfl <;> assumption) fun b o _ z=>z;have k3:HOk X.prog X.w H' n:=c.hok hok (fun b z=>by rcases z with rfl|rfl|rfl <;> assumption) J.env0.frf;exact m.call (h':=n) (g':=g) (d':=dr) (t':=lL) (ch:=[]) (Rt m.hok u3 ha1) (RZ k3 Ha fo) bare (fun b z=>absurd z (by simp))
  have J2:=aJ h2 tk c1 (let ⟨l,q,_⟩:=F2.obj;⟨l,q⟩);refine S1 ml hB (Ww I.ok.kind sF (Xi (by rw[I.ok.glob];exact I.mod.glob.keeps J2.bk) sD ⟨rfl,J2.kIn _ _ l8,J2.kIn _ _ xh,let ⟨l,q,_⟩:=F2.obj;⟨_,q,rfl⟩,?_⟩) sI);refine rn (s:=⟨h2,g,dr,tk,_⟩) F2 fun n F3 k3=>?_;have J3:=aJ n tk (c1.trans (Ch.one k3 (.inr (.inl rfl)))) (let ⟨l,q,_⟩:=F3.obj;⟨l,q⟩);have E:j<σ.length:=by rw[m.len];exact(U7.mp hj).1
  refine qN J3 hN hj (.inl he) (v:=.ref a) rfl (fun s4 J4=>?_) (.inr he);refine W5 (wpAny_Assign_Name (DK J4 hj (.inl he) (WQ E) (fun u ru=>?_) xA jY) Kj);refine qN J4 hN hi hy ru (fun s5 J5=>?_) Kz;refine Xb ?_;refine UZ (wpAny_bindName (qN J5 hN hj (.inl he) (v:=.non) (u:=.none) rfl (fun s6 J6=>?_) (.inr he)));refine wpAny_onRaise (R8 J6 hN hj he (v:=.non) (WQ (by rw[length_set,length_set];exact E)) fun s7 J7=>?_);exact⟨_,_,J7,post a d rfl Ha⟩
end
end
section
variable {x:Str}{P:Program}{w:World}{X:Cx}{N:Nat}{t:Tv}{K:W.Frag}{l:List Tv}{R:Rl}{C B y:Addr}{mg:Str->Option Value}{base:Heap}{I:FuncData}{j:List E}
theorem qY:∀l:List Tv,bN l=l.map aT
 |[]=>rfl
 |t::l=>by rw[bN,qY l,VB]
theorem OV (w:Wd):∃a r,w.hd=.str a::r/\r.length<=2:=by cases w <;> exact⟨_,_,rfl,Nat.le_of_ble_eq_true rfl⟩
theorem yR (w:Wd)(j:List E):∃a b,aT (E.tv (.nd w j))=.tup (.at (.str a)::(b++j.map fun k=>aT (E.tv k)))/\b.length<=2/\∀u∈b,gL u=false:=by obtain⟨a,r,e,c⟩:=OV w;refine⟨a,r.map Th.at,?_,by rw[U6];exact c,fun u d=>?_⟩;show aT (Tv.tup (w.hd.map Tv.at++E.tvL j))=_;rw[aT,qY,e,E.tvL,ef];simp only [VQ,VB,map_map,WM];congr 1;obtain⟨v,_,rfl⟩:=VG.mp d;rfl
theorem Q4 (e:E):gL (aT (E.tv e))=true:=by obtain⟨w,j⟩:=e;obtain⟨a,b,e,_⟩:=yR w j;rw[e];rfl
theorem PJ {a:Str}{b:List Th}(c:∀u∈b,gL u=false):jA (.at (.str a)::(b++j.map fun k=>aT (E.tv k)))=j.map fun k=>aT (E.tv k):=by show List.filter gL (Th.at (.str a)::(b++_))=_;rw[List.filter_cons_of_neg (by show ¬false=true;decide),filter_append,filter_eq_nil_iff.mpr (fun u z=>by rw[c u z];decide),VY,filter_eq_self];intro t d;obtain⟨k,_,rfl⟩:=VG.mp d;exact Q4 k
theorem Ex.okw {e:E}(h:Ex R N e):uS N (aT (E.tv e)):=by induction h with| @mk n w j d l f=>obtain⟨a,m,e,o,g⟩:=yR w j;rw[e];refine⟨a,_,rfl,by rw[U9,U6];have:=d.le;lia,fun x b c=>?_⟩;rcases Vo.mp b with b|b;rw[g x b] at c;cases c;obtain⟨k,i,rfl⟩:=VG.mp b;exact f k i
theorem DD:∀(b:List Int)(e:E),iy e b=false->ej (aT (E.tv e)) (bN (b.map ti))=none
 |[],e,h=>by cases e;cases h
 |z::b,.nd w j,h=>by
  obtain⟨a,d,e,i,f⟩:=yR w j;rw[e];show(if 0<=z then ((jA (Th.at (.str a)::(d++_)))[z.toNat]?).bind fun k=>(ej k (bN (b.map ti))).map _ else none)=none;rw[iy] at h;by_cases c:0<=z;rw[Vm c] at h ⊢;rw[PJ f,Vl];cases g:j[z.toNat]? with|none=>rfl|some k=>rw[g] at h;show((ej (aT (E.tv k)) (bN (b.map ti))).map _)=none;rw[DD b k h];rfl
  rw[Vi c]
theorem DC {c:Bool}{m:List Th}:∀(l:List Th)(t:Th),ej t (l++.at (.bl c)::m)=none
 |[],t=>rfl
 |u::l,t=>by
  cases u with
  | «at» v =>
   cases v with
   |int z=>
    cases t with
    |tup xs=>
     show(if 0<=z then ((jA xs)[z.toNat]?).bind fun k=>(ej k (l++.at (.bl c)::m)).map _ else none)=none;split;cases (jA xs)[z.toNat]? with|none=>rfl|some k=>show(ej k (l++.at (.bl c)::m)).map _=none;rw[DC l k];rfl
     rfl
    |_=>rfl
   |_=>rfl
  |_=>rfl
theorem D2:∀(l:List Tv),(∀x∈l,(∃i,x=ti i)∨∃c,x=.at (.bl c))->(∃a:List Int,l=a.map ti)∨∃l1 c b,l=l1++Tv.at (.bl c)::b
 |[],_=>.inl ⟨[],rfl⟩
 |x::l,h=>by rcases h x Vc with ⟨i,rfl⟩|⟨c,rfl⟩;rcases D2 l fun y d=>h y (Vb _ d) with ⟨a,rfl⟩|⟨l1,c,b,rfl⟩;exact .inl ⟨i::a,rfl⟩;exact .inr ⟨ti i::l1,c,b,rfl⟩;exact .inr ⟨[],c,l,rfl⟩
theorem OU {b:E}(h:∀x∈l,(∃i,x=ti i)∨∃c,x=.at (.bl c))(d:∀a:List Int,l=a.map ti->iy b a=false):ej (aT (E.tv b)) (bN l)=none:=by rcases D2 l h with ⟨a,rfl⟩|⟨l1,c,e,rfl⟩;exact DD a b (d a rfl);rw[qY,VQ,VB];exact DC _ _
theorem Nm.le (h:Nm x):lg (.str x)=true:=Vj (by have:=h.2.1;lia)
theorem Q3 (b:∀x,R.X x->Nm x){w:Wd}{m:Nat}(h:Ar R w m):∀v∈w.hd,lg v=true:=fun v a=>by cases w with|name x=>(simp only [Wd.hd,Vg,Vp,VN] at a;rcases a with rfl|rfl;decide+kernel;exact(b x h.2).le)|lt x=>(simp only [Wd.hd,Vg,Vp,VN] at a;rcases a with rfl|rfl;decide+kernel;exact(b x h.2).le)|st x=>(simp only [Wd.hd,Vg,Vp,VN] at a;rcases a with rfl|rfl;decide+kernel;exact(b x h.2).le)|call f=>(simp only [Wd.hd,Vg,Vp,VN] at a;rcases a with rfl|rfl;decide+kernel;exact h.2.1.le)|op s=>(simp only [Wd.hd,Vg,Vp,VN] at a;rcases a with rfl|rfl;decide+kernel;exact(show ∀s∈fJ,lg (.str s)=true by decide+kernel) s h.2)|num i=>(simp only [Wd.hd,Vg,Vp,VN] at a;rcases a with rfl|rfl;decide+kernel;rfl)|again i=>(simp only [Wd.hd,Vg,Vp,VN] at a;rcases a with rfl|rfl;decide+kernel;rfl)|_=>rw[VS.mp a];decide+kernel
theorem DZ:∀l:List Tv,(∀t∈l,TvTh t (aT t))->TvThs l (bN l)
 |[],_=>.nil
 |t::l,h=>.cons (h t Vc) (DZ l fun u a=>h u (Vb _ a))
theorem Ex.th {e:E}(c:∀x,R.X x->Nm x)(h:Ex R N e):TvTh (E.tv e) (aT (E.tv e)):=by induction h with| @mk n w j d b f=>show TvTh (Tv.tup (w.hd.map Tv.at++E.tvL j)) (aT (Tv.tup (w.hd.map Tv.at++E.tvL j)));rw[aT];refine .tup (DZ _ fun t a=>?_);rcases Vo.mp a with a|a;obtain⟨v,g,rfl⟩:=VG.mp a;exact .at (Q3 c d v g);rw[E.tvL,ef] at a;obtain⟨k,b,rfl⟩:=VG.mp a;exact f k b
theorem DW (a:gwT t=true)(d:dj t<=100)(hd:d9 t<=5):(aC (aT t)).showable=true/\(aC (aT t)).depth<=100/\(aC (aT t)).shown.length<=1000000:=by obtain⟨b,c,e,f⟩:=gwT.ok a;have g:=PyData.shown_le_bulk 13 (by decide) _ c;exact⟨b,by lia,by lia⟩
theorem PH (a:gwT t=true)(b:dj t<=100)(hd:d9 t<=5)(nb:∀c,t ≠ .at (.bl c)):ShwT (aT t):=by obtain⟨d,e,f⟩:=DW a b hd;refine⟨d,e,f,?_⟩;cases t with| «at» v =>(cases v with|int i=>have g:i.natAbs<10 ^ 12:=VA a;show i.natAbs.log2<1920;by_cases h0:i.natAbs=0;rw[h0];decide;exact(Nat.log2_lt h0).mpr (Ve g (by decide+kernel))|str x=>have h:(decide (x.length<=16)&&v7 x)=true:=a;rw[U1,VM] at h;show x.length<=1000000;lia|bl c=>exact absurd rfl (nb c)|non=>trivial|_=>cases a)|tup _=>trivial|lst _=>trivial|_=>cases a
abbrev zX:Stmt:=top 22
inductive iU (K:W.Frag)(C:Addr)(vs:List V)(H:Hp)(Ut:VK)(Jk:XK):Prop
 |mk (pv xv:V) (fs:List Fd) (main:E) (t:Tv) (_:vs=[pv,xv]) (_:IsT K H pv (cu fs main)) (_:IsT K H xv t) (_:ig fs main t) (_:∀d H',Same H H'->H d=none->H' d=some (.xd [("place",xv)])->Jk (.ref C) (some d) H'):iU K C vs H Ut Jk
section
theorem scPlaceWay:aB ["program","place","number","path","trees"] ["program","place"] (aR zX):=⟨rfl,rfl,rfl,by decide+kernel,rfl,by decide+kernel,by decide+kernel⟩
theorem RD {k:Nat}{f fW fY:Addr}{dW dY dI:FuncData}(F:Fun K "place_way" "place_way" zX f I)(T:ic mg)(KI:jo K)(hB:Fk P w K mg base k ("bodies",cU))
  (FW:Fun K "is_whole" "is_whole" tZ fW dW) (bW:Binds K dW ["thing"] []) (mW:mg "is_whole"=some (.ref fW)) (FY:Fun K "way" "way" yK fY dY) (bY:Binds K dY ["e","path"] []) (mY:mg "way"=some (.ref fY))
  (GY:∀N,FnOk P w K mg base (iB true P w C) 4 fY dY ["e","path"] (spWayR C N)) (Z:uT K mg C y dI) (GI:FnH P w K mg base 2 y dI ["self","place"] (oB C)) (hk:4<=k):
  FnOk P w K mg base (iB false P w C) (k+1) f I ["program","place"] (iU K C):=by
 have GW:FnOk P w K mg base bX 1 fW dW ["thing"] (zc qU):=EI FW T KI;have GN:FnOk P w K mg base bX 2 y dI ["self","place"] (oB C):=GI.fn fun _ _ _ _ h=>h;obtain⟨j,fB,dB,pB,GB,hj,mB,kB,bB⟩:=hB;refine F.d.okX scPlaceWay (fun Y H Q E0 h=>?_) (fun aG A outer s H Y Q E0 hr h=>?_)
 .obtain⟨pv,xv,fs,main,t,rfl,_⟩:=h;rfl
 .obtain⟨gv,xv,fs,main,t,rfl,hp,hx,B,q⟩:=h
  obtain⟨R,N,hX,hb⟩:=B.ex;have hsz:=Vr;have su:Room 1 _:=hr.mono (by lia);have wY:Room 3 _:=hr.mono (by lia);have Km:Room 4 _:=hr.mono (by lia);have Kl:Room j _:=hr.mono hj;refine'⟨?tt,?body,?aJ⟩
  case body=>
   refine' fG ?s1 ?r1
   case s1=>
    refine' nW ?c1 (fV ?ra) pss_nil
    case c1=>exact(mx (j3 (ly (fe oh (by rfl) T.isi (by decide+kernel) (aX (pv 1) (aX (my (v:=.ty "tuple") (by rfl) T.tup (by decide+kernel) rfl) pa_nil))))) (qr (Fi Ci (fe tX (by rfl) T.len PySem.boot_len (aX (pv 1) pa_nil)) oE (Qj _)))).pt
    case ra=>exact Ad Z.c GN wY (by rfl) Z.m Z.b (aX (pv 1) pa_nil) rfl rfl rfl rfl rfl
   case r1=>
    refine' fG ?s2 ?r2
    case s2=>exact yD (pv 1) (Dw rfl (zY (qZ (i:=2) scPlaceWay.nd rfl (Or.inl rfl)) (zY (qZ (i:=3) scPlaceWay.nd rfl (Or.inl rfl)) pgs_nil)))
    case r2=>
     refine' fG ?s3 ?r3
     case s3=>exact lD (i:=4) scPlaceWay.nd rfl (Or.inl rfl) (oF GB Kl (by rfl) mB kB bB .nil qS (aX (pv 0) pa_nil))
     case r3=>
      refine' fG ?s4 (fV ?s5)
      case s4=>
       refine' nW ?c4 (fV ?rb) pss_nil
       case c4=>exact(mx (j3 (ly (oF GW su (by rfl) mW FW.kp bW .nil qS (aX (pv 2) pa_nil)))) (mx (j3 (yJ yd ye oE (pv 2) (fe tX (by rfl) T.len PySem.boot_len (aX (pv 4) pa_nil)))) (qr (j3 (ly (fe oh (by rfl) T.isi (by decide+kernel) (aX (pv 3) (aX (my (v:=.ty "tuple") (by rfl) T.tup (by decide+kernel) rfl) pa_nil)))))))).pt
       case rb=>exact Ad Z.c GN wY (by rfl) Z.m Z.b (aX (pv 1) pa_nil) rfl rfl rfl rfl rfl
      case s5=>exact RG (C:=C) (i:=1) (GY N) Km (by rfl) mY FY.kp bY (fj (qE ix_tup (pv 4) (pv 2) (fun _ _=>rfl)) (aX (pv 3) pa_nil)) Z.c GI wY (by rfl) Z.m Z.b rfl rfl rfl rfl rfl (Or.inl rfl)
  case aJ=>
   have ht:IsTh H xv (aT t):=(gwT.th B.gw).is hx;have hsh:=PH B.gw B.sz B.dp B.nb
   have O:∀D,Same H D->∀a,D a=none->oB C [.ref a,xv] (ax D a (gJ C a)) (fun v H2=>v=.non/\∃d,H2 a=some (mD C a d)/\E0 (.ref C) (some d) (fF a H2)) Lake.E0:=by
    intro D s1 a p;have sa:=jn (o:=gJ C a) p;refine⟨a,xv,_,rfl,aY,IsTh.kp (Kp.of (s1.trans sa)) ht,hsh,fun d hd a5=>⟨rfl,d,aY,q d _ (fun b o e=>?_) ?_ ?_⟩⟩;have e1:=s1 _ _ e;have hba:=cm e1 p;have hbd:=cm (sa _ _ e1) hd;unfold fF;rw[Vi hba,aD hba,aD hbd];exact sa _ _ e1;cases z:H d with|none=>rfl|some o=>rw[sa _ _ (s1 _ _ z)] at hd;cases hd
    unfold fF;rw[Vi a5,aD a5,aY]
   refine⟨_,rfl,_,_,_,_,rfl,qF ht,KI.tup ht,_,rfl,?_⟩
   by_cases nu:∃l,t=.tup l
   .obtain⟨l,rfl⟩:=nu
    refine oM ?_
    cases hx with
    | @tup a Y _ p hvs=>
    have hvl:=IsTs.len hvs;refine⟨_,rfl,a,Y,rfl,.inr (SqT.of p),rfl,_,rfl,aE (fun _=>⟨_,rfl,by show 1<=10;decide,fun a p=>O H (fun _ _ e=>e) a p⟩) (fun g=>?_)⟩
    have h2:Y.length=2:=by
     have g1:(!decide (V.int (Y.length:Nat)=V.int 2))=false:=by simpa using g
     have g2:V.int (Y.length:Nat)=V.int 2:=by rw[Bool.not_eq_false'] at g1;exact VA g1
     have:=V.int.inj g2;lia
    have hl2:l.length=2:=by lia
    obtain⟨G,S,rfl⟩:∃G S,l=[G,S]:=by match l,hl2 with|[G,S],_=>exact⟨G,S,rfl⟩
    cases hvs with
    | @cons v1 vr _ _ c1 c2=>
    cases c2 with
    | @cons v2 vr2 _ _ c3 c4=>
    cases c4;have J:=B.gw;rw[gwT,gwTs,gwTs,gwTs,WH,U1] at J;have gZ:IsTh H v1 (aT G):=(gwT.th J.1).is c1;have Bm:IsTh H v2 (aT S):=(gwT.th J.2).is c3;refine⟨_,rfl,a,[v1,v2],rfl,SqT.of p,rfl,_,_,rfl,_,_,rfl,rfl,?_⟩;refine⟨_,rfl,H,[.fz (cu fs main)],[],fun r ss=>r=.fz (.tup (E.tvL (aW fs main))),(fun _ _ e=>e),.fz hp .nil,.nil,⟨fs,main,rfl,B.fl,rfl⟩,fun r ss v' G' D Kn post aps Jt=>?_⟩;subst Kn;have s1:Same H D:=fun a o e=>post.k a o e (by simp);have hT:IsT K G' v' (.tup (E.tvL (aW fs main))):=Jt
    cases hT with
    | @tup bp ws _ xD hws=>
    have hb1:=post.s _ _ xD;have hwl:=IsTs.len hws;rw[cj] at hwl;have t11:=IsTh.kp (Kp.of s1) gZ;have L:=IsTh.kp (Kp.of s1) Bm;refine⟨_,rfl,v1,aT G,rfl,t11,_,rfl,?_⟩
    by_cases M:qU (aT G)=true
    .obtain⟨n,rfl⟩:∃n,G=ti n:=by
      cases G with
      | «at» v => cases v <;> first | exact ⟨_, rfl⟩ | cases M
      |_=>cases M
     obtain⟨rfl,_⟩:=yl gZ;refine oM ?_;refine⟨_,rfl,_,_,rfl,rfl,_,rfl,aE (fun g=>?_) (fun g=>?_)⟩
     .have kM:0<=n:=by simpa using g
      refine⟨_,rfl,bp,ws,rfl,.inr (SqT.of hb1),_,_,rfl,rfl,_,rfl,aE (fun g2=>?_) (fun g2=>?_)⟩
      .exact⟨_,rfl,by show 1<=10;decide,fun a p=>O D s1 a p⟩
      .have bT:n<(ws.length:Int):=by simpa using g2
       refine⟨_,rfl,_,_,_,_,rfl,qF L,KI.tup L,_,rfl,aE (fun g3=>?_) (fun g3=>?_)⟩
       .exact⟨_,rfl,by show 1<=10;decide,fun a p=>O D s1 a p⟩
       .obtain⟨l2,rfl⟩:∃l2,S=.tup l2:=by
         cases S with
         |tup l2=>exact⟨l2,rfl⟩
         |_=>exact absurd rfl g3
        obtain⟨i,rfl⟩:=Wh kM;have sE:i<(aW fs main).length:=by lia
        obtain⟨b,U⟩:∃b,(aW fs main)[i]?=some b:=⟨_,U4 sE⟩;have hbm:=hb b (VF U);obtain⟨vb,hvb,hvt⟩:=IsTs.get (i:=i) hws (t:=E.tv b) (qt U);obtain⟨ap,pvs,rfl,hap,hpv⟩:=ym Bm;have W:=B.el _ _ rfl;have X:=DW (t:=.tup l2) J.2 (by have:=B.sz;rw[dj,cE,cE,cE] at this;lia) (by have:=B.dp;rw[d9,cA,cA,cA] at this;lia);have hnw:=OU (b:=b) W.2 fun zs e=>B.no _ _ b (by rw[<- e]) kM (by rw[VX];exact U);refine⟨_,rfl,_,rfl,bp,ws,(i:Nat),vb,rfl,rfl,SqT.of hb1,Dp hvb,_,rfl,?_⟩;refine⟨vb,ap,aT (E.tv b),bN l2,rfl,(hbm.th hX).is (hvt.mono post.s),hbm.okw,by rw[aT] at L;exact L,by rw[qY,U6];exact W.1,fun u hu=>?_,⟨X.1,X.2.1,X.2.2⟩,fun ns e=>?_,fun _ d H' s2 _ _=>⟨_,rfl,fun a p=>O H' (s1.trans s2) a p⟩⟩
        .rw[qY] at hu
         obtain⟨x,hxm,rfl⟩:=VG.mp hu;rcases W.2 x hxm with ⟨z,rfl⟩|⟨c,rfl⟩
         .exact .inl ⟨z,rfl⟩
         .exact .inr ⟨c,rfl⟩
        .rw[hnw] at e;cases e
     .refine⟨_,rfl,aE (fun _=>⟨_,rfl,by show 1<=10;decide,fun a p=>O D s1 a p⟩) (fun g3=>?_)⟩;exact absurd (show ¬ 0<=n by simpa using g) (by simpa using g3)
    .rw[Bool.not_eq_true] at M;rw[M];refine AI ?_;exact⟨_,rfl,by show 1<=10;decide,fun a p=>O D s1 a p⟩
   .have cX:gL (aT t)=false:=by
     cases t with
     |tup l=>exact absurd ⟨l,rfl⟩ nu
     |_=>rfl
    rw[cX];refine AI ?_;exact⟨_,rfl,by show 1<=10;decide,fun a p=>O H (fun _ _ e=>e) a p⟩
end
abbrev Ak:Stmt:=top 23
abbrev EH:Stmt:=top 51
theorem ad {st:List Stmt}:PSs X st fun _ _ _=>False:=fun _ _ _ _ _ _ h=>h.elim
structure CL (K:W.Frag)(mg:Str->Option Value)(C B:Addr)(o1 o2 o3 o4 o5 o6 o7 o8 o9 da:Addr):Prop where
 lkC:∃nm q N bs bm sn sub ab col dd k0 k1 k2 k3 k5,K.lookup C=some (excClassObj nm q C N bs (.ref B::bm) true sn sub ab col dd k0 k1 k2 k3 k5 "ValueError.__new__")
 lkB:∃nm q N bs bm hd sn sub ab col dd k0 k1 k2 k3 k5 pj,K.lookup B=some (excClassObj nm q B N bs bm hd sn sub ab col dd k0 k1 k2 k3 k5 pj)/\bm.contains (.type "BaseException")=true
 mB:mg "LikeError"=some (.ref B)
 m1:mg "NoBare"=some (.ref o1)
 m2:mg "NoExchange"=some (.ref o2)
 m3:mg "NoFill"=some (.ref o3)
 m4:mg "NoFunction"=some (.ref o4)
 m5:mg "NoLine"=some (.ref o5)
 m6:mg "NoPlaces"=some (.ref o6)
 m7:mg "NoPut"=some (.ref o7)
 m8:mg "NoRow"=some (.ref o8)
 m9:mg "NoTable"=some (.ref o9)
 m10:mg "NoText"=some (.ref da)
 ve:mg "ValueError"=none
 i:AR K C
 k1:PySem.W.kitOne K (.ref C) (.ref C)=some true
 k2:PySem.W.kitOne K (.ref C) (.type "ValueError")=some true
 k3:PySem.W.kitAny K (.ref C) ([o1,o2,o3,o4,o5,o6,o7,o8,o9,da].map Value.ref)=some false
section
theorem scLocalNames:aB ["program","place","body","functions","number","path","params"] ["program","place"] (aR Ak):=⟨rfl,rfl,rfl,by decide+kernel,rfl,by decide+kernel,by decide+kernel⟩
theorem RC {k:Nat}{f a:Addr}{b:FuncData}(F:Fun K "local_names" "local_names" Ak f I)(e:Fun K "place_way" "place_way" zX a b)(g:Binds K b ["program","place"] [])(j:mg "place_way"=some (.ref a))
  (l:FnOk P w K mg base (iB false P w C) k a b ["program","place"] (iU K C)):FnOk P w K mg base (iB false P w C) (k+1) f I ["program","place"] (iU K C):=by
 refine F.d.okX scLocalNames (fun m H Q E0 h=>?_) (fun u A outer s H m Q E0 n h=>?_)
 .obtain⟨pv,c,fs,main,t,rfl,_⟩:=h;rfl
 .obtain⟨gv,c,fs,main,t,rfl,o,p,r,q⟩:=h
  refine'⟨?tt,?body,?aJ⟩
  case body=>
   refine' fG ?s1 ad
   case s1=>exact lD (i:=2) scLocalNames.nd rfl (Or.inl rfl) (qE ix_list (oF l n (by rfl) j e.kp g .nil (Q9 (E:=E0) (E':=E0) rfl rfl rfl rfl fun _ _ _ h=>h) (aX (pv 0) (aX (pv 1) pa_nil))) oE (fun _ _=>rfl))
  case aJ=>exact⟨_,rfl,_,rfl,gv,c,fs,main,t,rfl,o,p,r,q⟩
theorem scRefused:aB ["_law_program_here","_law_thing","_law_caught","error"] ["_law_program_here","_law_thing"] (aR EH):=⟨rfl,rfl,rfl,by decide+kernel,rfl,by decide+kernel,by decide+kernel⟩
theorem Sr {k:Nat}{f U g n p x z D E J M N:Addr}{dI V:FuncData}(F:Fun K "_law_refused" "_law_refused" EH f I)(T:ic mg)(Z:uT K mg C y dI)(hn:PySem.W.findIn K (.ref C) "place"=some none)(L:CL K mg C B g n p x z D E J M N)
  (FL:Fun K "local_names" "local_names" Ak U V) (bL:Binds K V ["program","place"] []) (mL:mg "local_names"=some (.ref U)) (GL:FnOk P w K mg base (iB false P w C) k U V ["program","place"] (iU K C)):
  FnOk P w K mg base bX (k+1) f I ["_law_program_here","_law_thing"] (f6 K iS):=by
 obtain⟨nm,q,Nn,bs,bm,sn,sub,ab,col,dd,k0,k1,k2,k3,k5,l8⟩:=L.lkC;obtain⟨nc,q',Nn',nH,jx,sL,mT,gT,nM,ia,fw,nq,nk,nj,ni,nh,nid',xh,X⟩:=L.lkB;have ml:(Value.ref B::bm).contains (.ref B)=true:=by rw[Wu,W6,Bool.true_or]
 refine F.ok scRefused (fun vs H Q E0 h=>?_) (fun aG A outer s H vs Q E0 hr h=>?_)
 .obtain⟨G,args,as,K0,_,b,_,⟨fs,main,t,rfl,_⟩,_⟩:=h
  cases b with
  |fz _ r=>
  cases r with
  |fz _ r=>cases r;rfl
 .obtain⟨G,args,as,K0,O,b,df,⟨fs,main,t,rfl,hf,Y⟩,hq⟩:=h
  cases b with
  | @fz _ _ gv _ _ hp r=>
  cases r with
  | @fz _ _ xv _ _ hx r=>
  cases r;refine'⟨?tt,?body,?aJ⟩
  case body=>
   refine' fG ?s1 ?r1
   case s1=>exact lD (i:=2) scRefused.nd rfl (Or.inl rfl) tD
   case r1=>
    refine' fG ?s2 ?r2
    case s2=>exact PK (C:=C) (B:=B) (i:=2) (j:=3) GL hr (by rfl) mL FL.kp bL (aX (pv 0) (aX (pv 1) pa_nil)) rfl rfl scRefused.nd rfl (Or.inl rfl) rfl (by decide) rfl (by rfl) L.mB l8 ml xh X
    case r2=>
     refine' fG ?s3 ?r3
     case s3=>
      refine' nW ?c (fV (mG tD)) pss_nil
      case c=>
       refine'(mx ?c2 (qr ?c3)).pt
       case c2=>exact j3 (ly (fe (id:="isinstance") (F6 Z.c L.i) (by rfl) T.isi (by decide+kernel) (aX (pv 2) (aX (jj (v:=.ref C) (by rfl) Z.m rfl) pa_nil))))
       case c3=>exact j3 (ly (fe (id:="isinstance") (F6 Z.c L.i) (by rfl) T.isi (by decide+kernel) (aX (pv 2) (aX (my (v:=.ty "ValueError") (by rfl) L.ve (by decide+kernel) rfl) pa_nil))))
     case r3=>
      refine' fG ?s4 (fV ?s5)
      case s4=>
       refine' nW ?d (fV (mG tD)) pss_nil
       case d=>
        refine' ly (fe (id:="isinstance") (S7 Z.c L.i) (by rfl) T.isi (by decide+kernel) (aX (pv 2) (T6 (D8 ?q1) pa_nil)))
        case q1=>
         refine' aX (jj (v:=.ref g) (by rfl) L.m1 rfl) ?q2
         case q2=>
          refine' aX (jj (v:=.ref n) (by rfl) L.m2 rfl) ?q3
          case q3=>
           refine' aX (jj (v:=.ref p) (by rfl) L.m3 rfl) ?q4
           case q4=>
            refine' aX (jj (v:=.ref x) (by rfl) L.m4 rfl) ?q5
            case q5=>
             refine' aX (jj (v:=.ref z) (by rfl) L.m5 rfl) ?q6
             case q6=>
              refine' aX (jj (v:=.ref D) (by rfl) L.m6 rfl) ?q7
              case q7=>
               refine' aX (jj (v:=.ref E) (by rfl) L.m7 rfl) ?q8
               case q8=>
                refine' aX (jj (v:=.ref J) (by rfl) L.m8 rfl) ?q9
                case q9=>
                 refine' aX (jj (v:=.ref M) (by rfl) L.m9 rfl) ?A8
                 case A8=>exact aX (jj (v:=.ref N) (by rfl) L.m10 rfl) pa_nil
      case s5=>exact mG (zM (fj (QC Z.c hn (pv 2) rfl) pa_nil))
  case aJ=>
   refine⟨_,rfl,_,rfl,gv,xv,fs,main,t,rfl,hp.mono O,hx.mono O,hf,fun d H1 s1 hd R a d' e b=>?_⟩;cases e;have s2:=jn (o:=j6 C a d) b;have S:ax H1 a (j6 C a d) a=some (j6 C a d):=aY;refine⟨_,rfl,a,d,_,.ref C,.ref C,true,rfl,S,s2 _ _ R,(fun u h=>h),L.k1,_,rfl,oM ?_⟩;refine⟨_,rfl,a,d,_,.ty "ValueError",.type "ValueError",true,rfl,S,s2 _ _ R,(fun u h=>h),L.k2,_,rfl,oM ?_⟩;refine⟨_,rfl,(by show 10<=sizeLine;decide),fun tp nu=>?_⟩;have s3:=jn (o:=.tup [.ref g,.ref n,.ref p,.ref x,.ref z,.ref D,.ref E,.ref J,.ref M,.ref N]) nu;refine⟨a,d,tp,_,[g,n,p,x,z,D,E,J,M,N],false,rfl,s3 _ _ S,s3 _ _ (s2 _ _ R),aY,L.k3,_,rfl,oM ?_⟩;refine⟨_,rfl,a,d,_,_,rfl,s3 _ _ S,s3 _ _ (s2 _ _ R),rfl,(by show 1<=sizeLine;decide),fun l hl=>?_⟩;have s4:=jn (o:=.lst [xv]) hl;have sa:=((s1.trans s2).trans s3).trans s4;have Bw:H l=none:=Ey ((s1.trans s2).trans s3) hl;have Ky:G l=none:=Ey O Bw;exact hq _ _ (.ref l) G _ Y ⟨fun _ _ e=>e,O.trans sa,fun a o e _=>sa _ _ e,fun a o e=>.inl e,fun a o e=>⟨o,sa _ _ e⟩⟩ (.fz (.fz .nil)) ⟨l,rfl,Bw,⟨[xv],aY,.cons hx .nil⟩,Ky⟩
end
end
section
variable {x:Str}{H:Hp}{P:Program}{w:World}{K:W.Frag}{st:Stmt}{R:Rl}{j:Nat}{mg:Str->Option Value}{base:Heap}
theorem nE {e:E}:¬Ex R 0 e:=fun h=>by cases h
theorem ln {a b:List Sl}(e:a=b):a.length=b.length:=V8 _ e
abbrev Dx (K:W.Frag)(mg:Str->Option Value)(x:Str)(i:Nat):Prop:=AS K mg x (top i) (jy (top i))
section
theorem DQ (T:Tx K mg)(a:Dx K mg "_law_nodes" 33)(b:Fk P w K mg base 1 ("_law_parts",aj)):∀N R,Fs P w K mg base (N+1) "_law_nodes" (top 33) (aK R N)
 | 0,R=>lT a fun _ _ h=>by rcases h with ⟨_,_,h,_⟩;exact nE h
 |N+1,R=>bE T a SG (Pf R N) ⟨b.up (by lia),(DQ T a b N R).up (U5 _),trivial⟩
theorem DB (T:Tx K mg)(a:Dx K mg "_law_work" 34)(b:Fk P w K mg base 1 ("_law_parts",aj)):∀N R,Fs P w K mg base (N+1) "_law_work" (top 34) (ba R N)
 | 0,R=>lT a fun _ _ h=>by rcases h with ⟨_,_,_,_,_,h,_⟩;exact nE h
 |N+1,R=>bE T a RN (MI R N) ⟨b.up (by lia),(DB T a b N R).up (U5 _),trivial⟩
theorem DP (T:Tx K mg)(a:Dx K mg "_law_right" 35)(b:Fk P w K mg base 1 ("_law_parts",aj)):∀N R,Fs P w K mg base (N+1) "_law_right" (top 35) (aU R N)
 | 0,R=>lT a fun _ _ h=>by rcases h with ⟨_,_,_,_,_,_,h,_⟩;exact nE h
 |N+1,R=>bE T a SF (N5 R N) ⟨(DP T a b N R).up (U5 _),b.up (by lia),trivial⟩
theorem EG (T:Tx K mg)(a:Dx K mg "_law_turned" 37)(b:Fk P w K mg base 1 ("_law_with",bD))(c:Fk P w K mg base 1 ("_law_parts",aj)):∀N R,Fs P w K mg base (N+1) "_law_turned" (top 37) (bQ R N)
 | 0,R=>lT a fun _ _ h=>by rcases h with ⟨_,_,_,_,_,_,_,h,_⟩;exact nE h
 |N+1,R=>bE T a Tu (Pb R N) ⟨b.up (by lia),c.up (by lia),(EG T a b c N R).up (U5 _),trivial⟩
theorem Hg (T:Tx K mg)(a:Dx K mg "_law_all_paths" 47)(b:Fk P w K mg base 1 ("_law_parts",aj)):∀N R,Fs P w K mg base (N+1) "_law_all_paths" (top 47) (cG R N)
 | 0,R=>lT a fun _ _ h=>by rcases h with ⟨_,_,h,_⟩;exact nE h
 |N+1,R=>bE T a TQ (N1 R N) ⟨b.up (by lia),(Hg T a b N R).up (U5 _),trivial⟩
theorem EF (T:Tx K mg)(a:Dx K mg "_law_spoilt" 38)(b:Fk P w K mg base 1 ("_law_parts",aj))(c:∀N R,Fs P w K mg base (N+1) "_law_nodes" (top 33) (aK R N))(d:Fk P w K mg base 1 ("_law_with",bD)):∀N R m,Fs P w K mg base (N+1) "_law_spoilt" (top 38) (bR R m N)
 | 0,R,m=>lT a fun _ _ h=>by rcases h with ⟨_,_,_,_,h,_⟩;exact nE h
 |N+1,R,m=>bE T a Tt (Pc R m N) ⟨b.up (by lia),(c _ R).up (by lia),(EF T a b c d N R m).up (U5 _),d.up (by lia),trivial⟩
theorem DA (T:Tx K mg)(a:Dx K mg "_law_expr" 42)(ab:Dx K mg "_law_bound" 40)(e:Dx K mg "_law_called" 41)(hd:Fk P w K mg base 1 ("_law_draw",aN))(c:∀R,Fk P w K mg base 3 ("_law_leaf",cc R))(f:∀R,Fk P w K mg base 7 ("_law_copied",bS R))(R:Rl):∀b,Fs P w K mg base (2*b+7) "_law_expr" (top 42) (br R b)
 | 0=>lT a fun _ _ h=>by rcases h with ⟨_,_,_,_,_,_,_,_,_,_,_,_,h,_⟩;exact absurd h (by decide)
 |b+1=>by have d:=DA T a ab e hd c f R b;have hb:=bE (k:=2*b+7) T ab SE (N6 R b) ⟨hd.up (by lia),d.up (U5 _),trivial⟩;have g:=bE (k:=2*b+7) T e Tr (Pd R b) ⟨(c R).up (by lia),hd.up (by lia),d.up (U5 _),trivial⟩;exact bE (k:=2*b+8) T a RL (ME R b) ⟨hd.up (by lia),(c R).up (by lia),(f R).up (by lia),g.up (U5 _),hb.up (U5 _),d.up (by lia),trivial⟩
theorem HL {k M:Nat}{sp:Rl->Nat->aP}(h:∀N,N<=M->∀R,Fs P w K mg base j x st (sp R N))(e:j<=k):Fk P w K mg base k (x,fun a q=>∃R N,N<=M/\sp R N a q):=Fs.any (ι := Rl×{N // N<=M}) (sp:=fun i=>sp i.1 i.2.1) (⟨fun _=>False,fun _ _=>False⟩,⟨0,VW _⟩) (fun i=>h i.2.1 i.2.2 i.1) (fun _ _ y=>by obtain⟨R,N,b,z⟩:=y;exact ⟨(R,⟨N,b⟩),z⟩) e
end
noncomputable def ky:List (String×Bool×Bool×Bool):=[("NoneType",false,false,false),("bool",true,true,false),("int",true,false,false),("str",false,false,false),("tuple",false,false,true),("list",false,false,false)]
theorem oA {v:V}{t:Th}(h:IsTh H v t):(qw t,uf t,y4 t,gL t)∈ky:=by cases h with| «at» f =>(cases v with|non=>exact(by decide:("NoneType",false,false,false)∈ky)|bl b=>exact(by decide:("bool",true,true,false)∈ky)|int i=>exact(by decide:("int",true,false,false)∈ky)|str x=>exact(by decide:("str",false,false,false)∈ky)|_=>exact absurd (show false=true from f) U3)|tup=>exact(by decide:("tuple",false,false,true)∈ky)|lst=>exact(by decide:("list",false,false,false)∈ky)
theorem PF (T:Tx K mg):jo K:=by
 have e:∀q∈ky,q.1 ∈ ["NoneType","bool","int","str","tuple","list","dict"]/\jv q.1 "int"=q.2.1/\jv q.1 "bool"=q.2.2.1/\jv q.1 "tuple"=q.2.2.2:=by decide
 exact⟨fun h=>(T.kt "int" (by decide) _ (e _ (oA h)).1).trans (V8 some (e _ (oA h)).2.1),fun h=>(T.kt "bool" (by decide) _ (e _ (oA h)).1).trans (V8 some (e _ (oA h)).2.2.1),fun h=>(T.kt "tuple" (by decide) _ (e _ (oA h)).1).trans (V8 some (e _ (oA h)).2.2.2)⟩
structure Jj (K:W.Frag)(mg:Str->Option Value):Prop where
 ex:∃(C B fI fL:Addr)(dI dL:FuncData)(dV:Value)(o1 o2 o3 o4 o5 o6 o7 o8 o9 da:Addr),uT K mg C fI dI/\FunD K "__init__" "NoPlace.__init__" sInitN .none fI dI/\FunD K "__init__" "LikeError.__init__" sInitL dV fL dL/\Binds K dL ["self","words"] []/\PySem.W.findIn K (.ref C) "place"=some none ∧PySem.W.findCls K (.type "ValueError") (.type "type") "__init__"=some (.val (.builtin "ValueError.__init__"))/\PySem.W.specialIn K (.ref B) "__getattribute__"=some (some (.builtin "type.__getattribute__"))/\PySem.W.readsIn K B (.type "type")=true/\PySem.W.findCls K (.ref B) (.type "type") "__init__"=some (.val (.ref fL))/\CL K mg C B o1 o2 o3 o4 o5 o6 o7 o8 o9 da
structure rG (K:W.Frag)(mg:Str->Option Value):Prop where
 T:Tx K mg
 X:Jj K mg
 a_is_whole:Dx K mg "is_whole" 14
 a_parts:Dx K mg "parts" 15
 a_way:Dx K mg "way" 16
 a_bound_at:Dx K mg "bound_at" 18
 a_bodies:Dx K mg "bodies" 20
 a_place_way:Dx K mg "place_way" 22
 a_local_names:Dx K mg "local_names" 23
 a_l_feed:Dx K mg "_law_feed" 25
 a_l_draw:Dx K mg "_law_draw" 26
 a_l_value:Dx K mg "_law_value" 27
 a_l_spelled:Dx K mg "_law_spelled" 28
 a_l_name:Dx K mg "_law_name" 29
 a_l_names:Dx K mg "_law_names" 30
 a_l_parts:Dx K mg "_law_parts" 31
 a_l_with:Dx K mg "_law_with" 32
 a_l_nodes:Dx K mg "_law_nodes" 33
 a_l_work:Dx K mg "_law_work" 34
 a_l_right:Dx K mg "_law_right" 35
 a_l_leaf:Dx K mg "_law_leaf" 36
 a_l_turned:Dx K mg "_law_turned" 37
 a_l_spoilt:Dx K mg "_law_spoilt" 38
 a_l_copied:Dx K mg "_law_copied" 39
 a_l_bound:Dx K mg "_law_bound" 40
 a_l_called:Dx K mg "_law_called" 41
 a_l_expr:Dx K mg "_law_expr" 42
 a_l_world:Dx K mg "_law_world" 43
 a_l_seeds:Dx K mg "_law_seeds" 44
 a_l_program:Dx K mg "_law_program" 45
 a_l_one:Dx K mg "_law_one" 46
 a_l_all_paths:Dx K mg "_law_all_paths" 47
 a_l_bodies:Dx K mg "_law_bodies" 48
 a_l_pieces:Dx K mg "_law_pieces" 49
 a_l_locals:Dx K mg "_law_locals" 50
 a_l_refused:Dx K mg "_law_refused" 51
 a_law:Dx K mg "law" 52
theorem OT (D:rG K mg):Fs P w K mg base 23 "law" (top 52) eI:=by
 have T:=D.T;have draw:Fs P w K mg base 1 _ _ _:=bE T D.a_l_draw RQ MM trivial;have O:Fs P w K mg base 1 _ _ _:=bE T D.a_l_spelled TF Qv trivial;have o:Fs P w K mg base 2 _ _ _:=bE T D.a_l_value SM Of ⟨draw.up,trivial⟩;have name:Fs P w K mg base 2 _ _ _:=bE T D.a_l_name RP ML ⟨draw.up,O.up,trivial⟩;have names:Fs P w K mg base 3 _ _ _:=bE T D.a_l_names SJ Oe ⟨name.up,trivial⟩;have l:Fs P w K mg base 1 _ _ _:=bE T D.a_l_parts SH Pg trivial;have v:Fs P w K mg base 1 _ _ _:=bE T D.a_l_with RO Oc trivial;have Q:Fs P w K mg base 1 _ _ _:=bE T D.a_l_world SD N4 trivial;have S:Fs P w K mg base 1 _ _ _:=bE T D.a_parts Rh OZ trivial;have x:Fs P w K mg base 1 _ _ _:=bE T D.a_is_whole Tz OQ trivial;have y:Fs P w K mg base 2 _ _ _:=bE T D.a_way Pu Pm ⟨S.up,x.up,trivial⟩;have bound:Fs P w K mg base 3 _ _ _:=bE T D.a_bound_at Tw RJ ⟨y.up,trivial⟩;have A:Fs P w K mg base 1 _ _ _:=bE T D.a_bodies RS OR trivial;have U:Fs P w K mg base 3 _ _ _:=bE T D.a_place_way TH Tn ⟨A.up,x.up,y.up,trivial⟩;have V:Fs P w K mg base 4 _ _ _:=bE T D.a_local_names TR Rb ⟨U.up,bound.up,trivial⟩;have W:Fk P w K mg base 7 ("_law_refused",iS):=by obtain⟨C,B,fI,fL,dI,dL,dV,o1,o2,o3,o4,o5,o6,o7,o8,o9,da,Z,Y,FL,bL,E,xr,pU,ny,jX,L⟩:=D.X.ex;have TT:ic mg:=⟨T.bl "isinstance" (by decide+kernel),T.bl "int" (by decide+kernel),T.bl "bool" (by decide+kernel),T.bl "tuple" (by decide+kernel),T.bl "len" (by decide+kernel)⟩;have G:=PF T;obtain⟨fW,dW,p⟩:=D.a_is_whole;obtain⟨fP,dP,u⟩:=D.a_parts;obtain⟨fY,dY,q⟩:=D.a_way;obtain⟨fQ,dQ,r⟩:=D.a_place_way;obtain⟨fN,dN,s⟩:=D.a_local_names;obtain⟨fR,dR,t⟩:=D.a_l_refused;have H:=Q5 (P:=P) (w:=w) (base:=base) Y Z.c E FL bL L.ve xr L.mB pU ny jX;have GY:=fun N=>OW (P:=P) (w:=w) (base:=base) q.F TT G u.F u.b u.m p.F p.b p.m Z (H.fn fun _ _ _ _ h=>h) N;have GQ:=RD r.F TT G (A.up (k:=4)) p.F p.b p.m q.F q.b q.m GY Z H (by decide);have GL:=RC s.F r.F r.b r.m GQ;exact⟨7,fR,dR,_,Sr t.F TT Z E L s.F s.b s.m GL,U5 _,t.m,t.F.kp,t.b⟩
 have I:∀R,Fs P w K mg base 3 "_law_leaf" (top 36) (cc R):=fun R=>bE T D.a_l_leaf RM (MJ R) ⟨draw.up,o.up,trivial⟩;have a:=DQ T D.a_l_nodes l.up;have d:=DB T D.a_l_work l.up;have i:=DP T D.a_l_right l.up;have f:=EG T D.a_l_turned v.up l.up;have j:=Hg T D.a_l_all_paths l.up;have g:=EF T D.a_l_spoilt l.up a v.up;have mq:∀R,Fs P w K mg base 7 "_law_copied" (top 39) (bS R):=fun R=>bE (k:=6) T D.a_l_copied Ts (Pa R) ⟨(I R).up,draw.up,(f 4 R).up,(g 4 R 1).up,(a 5 R).up,(d 5 R).up,(i 5 R).up,trivial⟩;have n:=fun R=>DA T D.a_l_expr D.a_l_bound D.a_l_called draw.up (fun R=>(I R).up) (fun R=>(mq R).up) R;have qf:Fk P w K mg base 21 ("_law_expr",Dc):=HL (M:=7) (fun N hN R=>(n R N).lift (by lia)) (U5 _);have lO:Fk P w K mg base 16 ("_law_seeds",DU):=Fs.any ⟨fun _=>False,fun _ _=>False⟩ (fun R=>bE (k:=15) T D.a_l_seeds Sz (N3 R) ⟨(n R 4).up,trivial⟩) (fun _ _ z=>z);have oP:Fk P w K mg base 5 ("_law_work",C9):=Fs.any ⟨fun _=>False,fun _ _=>False⟩ (fun R=>d 4 R) (fun _ _ z=>z);have jJ:Fs P w K mg base 22 _ _ _:=bE T D.a_l_program TC Qu ⟨names.up,draw.up,name.up,Q.up,qf.up,oP.up,lO.up,trivial⟩;have J:Fs P w K mg base 1 _ _ _:=bE T D.a_l_bodies Tq Qt trivial;have jL:Fk P w K mg base 10 ("_law_pieces",FT):=HL (M:=8) (fun N hN R=>bE (k:=9) T D.a_l_pieces Tp (O5 R N) ⟨J.up,(a N R).up (by lia),(j N R).up (by lia),trivial⟩) (U5 _);have locals:Fs P w K mg base 2 _ _ _:=bE T D.a_l_locals To Sx ⟨J.up,l.up,trivial⟩;have one:Fs P w K mg base 2 _ _ _:=bE T D.a_l_one Rg O3 ⟨draw.up,trivial⟩;have xT:Fs P w K mg base 1 _ _ _:=bE T D.a_l_feed RR Qn trivial;exact bE T D.a_law Pp OX ⟨xT.up,jJ.up,jL.up,V.up,locals.up,one.up,l.up,draw.up,W.up,trivial⟩ trivial (fun _ _ h=>by rcases h with ⟨_,e,_⟩;exact ln e)
end
section
variable {x j q:Str}{w:World}{G:Hp}{i:Nat}{K:W.Frag}{st:Stmt}{C B r:Addr}{mg:Str->Option Value}{y:FuncData}{ps sn:List Str}{u H ct I:Value}{J od dd:Option Addr}{T:String}{sub:List Value}{ab:Bool}{col:Option Bool}{k0 k1 k2 k3 k5:Option Value}
theorem MD {P:List Value->Prop}(h:P []):∀b:List Value,b.length=0->P b:=fun b e=>by cases b with|nil=>exact h|cons a r=>cases e
theorem us_len1 {P:List Value->Prop}(h:∀a,P [a]):∀b:List Value,b.length=1->P b:=fun b e=>by cases b with|nil=>(cases e)|cons a r=>exact MD (P:=fun r=>P (a::r)) (h a) r (Nat.succ.inj e)
theorem us_len2 {P:List Value->Prop}(h:∀a b,P [a,b]):∀c:List Value,c.length=2->P c:=fun c e=>by cases c with|nil=>(cases e)|cons a r=>exact us_len1 (P:=fun r=>P (a::r)) (h a) r (Nat.succ.inj e)
theorem us_len3 {P:List Value->Prop}(h:∀a b c,P [a,b,c]):∀d:List Value,d.length=3->P d:=fun d e=>by cases d with|nil=>(cases e)|cons a r=>exact us_len2 (P:=fun r=>P (a::r)) (h a) r (Nat.succ.inj e)
theorem MC {P:List Value->Prop}(h:∀a b c d,P [a,b,c,d]):∀f:List Value,f.length=4->P f:=fun f e=>by cases f with|nil=>(cases e)|cons a r=>exact us_len3 (P:=fun r=>P (a::r)) (h a) r (Nat.succ.inj e)
theorem us_len5 {P:List Value->Prop}(h:∀a b c d e,P [a,b,c,d,e]):∀f:List Value,f.length=5->P f:=fun f e=>by cases f with|nil=>(cases e)|cons a r=>exact MC (P:=fun r=>P (a::r)) (h a) r (Nat.succ.inj e)
theorem us_len6 {P:List Value->Prop}(h:∀a b c d e f,P [a,b,c,d,e,f]):∀g:List Value,g.length=6->P g:=fun g e=>by cases g with|nil=>(cases e)|cons a r=>exact us_len5 (P:=fun r=>P (a::r)) (h a) r (Nat.succ.inj e)
abbrev hB (n:Str)(S:Stmt)(ps:List Str):Prop:=∀(kV b H:Value)(J:Option Addr)(cd ct:Value)(a:List Value),a.length=ps.length->bindArgs (PySem.W.fnOf n n (fg S) (di S) (aR S) .none kV b H J cd ct) ⟨a,[]⟩=pure (ps.zip a)
abbrev nQ (K:W.Frag)(x:Str):Prop:=PySem.W.nsIn K mainGlobals x=some none
abbrev kQ (K:W.Frag)(T x:String):Prop:=PySem.W.kitOne K (.type x) (.type T)=some (jv x T)
section
variable {h:Heap}
theorem at_mk {f:Addr}{kV b cd:Value}{d:Array (Option Value)}(X:K.In h)(G:h.Ns mainGlobals mg)(hb:hB x (top i) (jy (top i)))(a:PySem.W.nsIn K mainGlobals x=some (some (.ref f)))(l:K.lookup f=some ⟨I,od,.func (PySem.W.fnOf x x (fg (top i)) (di (top i)) (aR (top i)) .none kV b H J cd ct),d⟩)(c:PySem.W.codeIn K cd x=true)(k:PySem.W.keepIn K (.ref f)=true):Dx K mg x i:=have F:=Mn (st:=top i) l c k
 ⟨f,_,F,F.binds hb,V2 X G a⟩
theorem OS {N:Addr}{nm:Str}{bs:List Value}
  (lk:K.lookup C=some (excClassObj nm q C N bs [.ref B,.type "ValueError",.type "Exception",.type "BaseException",.type "object"] true sn sub ab col dd k0 k1 k2 k3 k5 "ValueError.__new__"))
  (ini:PySem.W.findIn K (.ref C) "__init__"=some (some (.ref r))) (fn:PySem.W.typeIn K (.ref r)=some (.type "function")) (sa:PySem.W.findIn K (.ref C) "__setattr__"=some (some (.builtin "object.__setattr__")))
  (ga:PySem.W.findIn K (.ref C) "__getattribute__"=some (some (.builtin "BaseException.__getattribute__"))) (gn:PySem.W.findIn K (.ref C) "__getattr__"=some none) (hd:PySem.W.hasDictIn K C=true) (kp:PySem.W.keepIn K (.ref C)=true):iK K C r:=by
 refine⟨⟨nm,q,N,bs,_,sn,sub,ab,col,dd,k0,k1,k2,k3,k5,lk,rfl,rfl,rfl,rfl,fun self=>?_,rfl⟩,ini,fn,sa,ga,gn,hd,kp⟩;rw[refuseLoop_ref,refuseLoop_ref];exact F.store_ValueError.passes self
theorem DO {f:Addr}{d:Array (Option Value)}{kV b a:Value}(l:K.lookup f=some ⟨I,od,.func (PySem.W.fnOf x j (fg st) (di st) (aR st) u kV b H J a ct),d⟩)
  (c:PySem.W.codeIn K a j=true) (k:PySem.W.keepIn K (.ref f)=true):FunD K x j st u f (PySem.W.fnOf x j (fg st) (di st) (aR st) u kV b H J a ct):=⟨⟨I,od,kV,b,H,J,a,ct,d,rfl,l,c⟩,k⟩
theorem _root_.Lake.FunD.binds {f:Addr}(F:FunD K x j st u f y)
  (h:∀(kV a H:Value)(J:Option Addr)(b ct:Value)(c:List Value),c.length=ps.length->bindArgs (PySem.W.fnOf x j (fg st) (di st) (aR st) u kV a H J b ct) ⟨c,[]⟩=pure (ps.zip c)):Binds K y ps []:=by
 obtain⟨I,od,kV,a,H,J,b,ct,d,rfl,lk,e⟩:=F.ex;exact .all (h kV a H J b ct)
theorem _root_.Lake.FunD.bindsD {T:Addr}{f:Addr}{a:Array Value}{n:Nat}{g:Array (Option Value)}(F:FunD K x j st (.ref T) f y)(i:K.lookup T=some ⟨I,od,.seq a n,g⟩)
  (h:∀(kV c H:Value)(J:Option Addr)(d ct:Value)(b:List Value),b.length=ps.length->∃k:Option (Array Value)->Sem (List (Str×Value)),bindArgs (PySem.W.fnOf x j (fg st) (di st) (aR st) (.ref T) kV c H J d ct) ⟨b,[]⟩=(seqItems? (.ref T) >>= k)/\k (some a)=pure (ps.zip b)):Binds K y ps []:=by
 obtain⟨l,m,kV,c,H,J,d,ct,q,rfl,lk,r⟩:=F.ex;intro s b o e;rw[Vk] at e ⊢;obtain⟨k,h1,p⟩:=h kV c H J d ct b e;exact BindsTo.of_defaults rfl (o _ _ i) rfl h1 p
theorem exc_mk {a b cB cL n c d e f g i j k l m:Addr}{t u v w o x:Value}{y z:Option Addr}{A:Array (Option Value)}{B C D E p F:Value}{H I:Option Addr}{J:Array (Option Value)}{L M:Value}{N:Option Addr}{O:Nat}{jt:Array (Option Value)}{P Q:Str}{R:Addr}{S:List Value}{T:List Str}{U:List Value}{V:Bool}{Y:Option Bool}{Z:Option Addr}{J9 J1 JZ JX JV:Option Value}{JO qB:Str}{NB:Addr}{Lw:List Value}{Jq:List Str}{subB:List Value}{LD:Bool}{xY:Option Bool}{Lo:Option Addr}{Ka J8 J0 JY JW:Option Value}{KL:Bool}{wH:String}(X:K.In h)(G:h.Ns mainGlobals mg)(vn:PySem.W.nsIn K mainGlobals "NoPlace"=some (some (.ref a)))(vE:PySem.W.findIn K (.ref a) "__init__"=some (some (.ref b)))(vo:PySem.W.nsIn K mainGlobals "LikeError"=some (some (.ref cB)))(vM:PySem.W.findCls K (.ref cB) (.type "type") "__init__"=some (.val (.ref cL)))(vt:K.lookup b=some ⟨t,y,.func (PySem.W.fnOf "__init__" "NoPlace.__init__" (fg sInitN) (di sInitN) (aR sInitN) .none u v w z o x),A⟩)(vP:PySem.W.codeIn K o "NoPlace.__init__"=true)(vy:PySem.W.keepIn K (.ref b)=true)(vq:K.lookup cL=some ⟨B,H,.func (PySem.W.fnOf "__init__" "LikeError.__init__" (fg sInitL) (di sInitL) (aR sInitL) (.ref n) C D E I p F),J⟩)(vO:PySem.W.codeIn K p "LikeError.__init__"=true)(vw:PySem.W.keepIn K (.ref cL)=true)(vp:K.lookup n=some ⟨L,N,.seq #[M] O,jt⟩)(vK:PySem.W.findCls K (.type "ValueError") (.type "type") "__init__"=some (.val (.builtin "ValueError.__init__")))(vJ:PySem.W.specialIn K (.ref cB) "__getattribute__"=some (some (.builtin "type.__getattribute__")))(u4:PySem.W.readsIn K cB (.type "type")=true)(vj:PySem.W.findIn K (.ref a) "place"=some none)(q:K.lookup a=some (excClassObj P Q a R S [.ref cB,.type "ValueError",.type "Exception",.type "BaseException",.type "object"] true T U V Y Z J9 J1 JZ JX JV "ValueError.__new__"))(vv:K.lookup cB=some (excClassObj JO qB cB NB Lw [.type "ValueError",.type "Exception",.type "BaseException",.type "object"] KL Jq subB LD xY Lo Ka J8 J0 JY JW wH))(vi:PySem.W.nsIn K mainGlobals "NoBare"=some (some (.ref c)))(vh:PySem.W.nsIn K mainGlobals "NoExchange"=some (some (.ref d)))(vg:PySem.W.nsIn K mainGlobals "NoFill"=some (some (.ref e)))(vf:PySem.W.nsIn K mainGlobals "NoFunction"=some (some (.ref f)))(vd:PySem.W.nsIn K mainGlobals "NoLine"=some (some (.ref g)))(u9:PySem.W.nsIn K mainGlobals "NoPlaces"=some (some (.ref i)))(u7:PySem.W.nsIn K mainGlobals "NoPut"=some (some (.ref j)))(u6:PySem.W.nsIn K mainGlobals "NoRow"=some (some (.ref k)))(u5:PySem.W.nsIn K mainGlobals "NoTable"=some (some (.ref l)))(lK:PySem.W.nsIn K mainGlobals "NoText"=some (some (.ref m)))(vN:PySem.W.findIn K (.ref a) "__class__"=some (some (.builtin "object.__class__")))(uY:PySem.W.specialIn K (.builtin "object.__class__") "__get__"=some (some (.builtin "getset_descriptor.__get__")))(uX:PySem.W.takesIn K (.builtin "object.__class__")=some true)(vm:PySem.W.mroIn K a (.type "object")=some true)(vD:PySem.W.kitOne K (.ref a) (.ref a)=some true)(vC:PySem.W.kitOne K (.ref a) (.type "ValueError")=some true)(vA:PySem.W.kitAny K (.ref a) ([c,d,e,f,g,i,j,k,l,m].map Value.ref)=some false)(vL:PySem.W.typeIn K (.ref b)=some (.type "function"))(uZ:PySem.W.findIn K (.ref a) "__setattr__"=some (some (.builtin "object.__setattr__")))(vH:PySem.W.findIn K (.ref a) "__getattribute__"=some (some (.builtin "BaseException.__getattribute__")))(vG:PySem.W.findIn K (.ref a) "__getattr__"=some none)(vF:PySem.W.hasDictIn K a=true)(vz:PySem.W.keepIn K (.ref a)=true)(uW:nQ K "ValueError"):Jj K mg:=by have xC:iK K a b:=OS q vE vL uZ vH vG vF vz;have r:=DO (st:=sInitN) vt vP vy;have s:=DO (st:=sInitL) vq vO vw;have bI:=r.binds (ps:=["self","place"]) fun _ _ _ _ _ _=>us_len2 fun _ _=>rfl;have bL:=s.bindsD (ps:=["self","words"]) vp (fun _ _ _ _ _ _=>us_len2 fun _ _=>⟨_,rfl,rfl⟩);exact⟨a,cB,b,cL,_,_,_,c,d,e,f,g,i,j,k,l,m,⟨xC,V2 X G vn,bI⟩,r,s,bL,vj,vK,vJ,u4,vM,⟨⟨_,_,_,_,_,_,_,_,_,_,_,_,_,_,_,q⟩,⟨_,_,_,_,_,_,_,_,_,_,_,_,_,_,_,_,_,vv,rfl⟩,V2 X G vo,V2 X G vi,V2 X G vh,V2 X G vg,V2 X G vf,V2 X G vd,V2 X G u9,V2 X G u7,V2 X G u6,V2 X G u5,V2 X G lK,PySem.W.mg_none_of X G uW,⟨vN,uY,uX,vm⟩,vD,vC,vA⟩⟩
theorem kt_mk (k0:kQ K T "NoneType")(k1:kQ K T "bool")(k2:kQ K T "int")(k3:kQ K T "str")(b:kQ K T "tuple")(k5:kQ K T "list")(c:kQ K T "dict"):nN K T:=by intro n a;simp only [Vg,Vp,VN] at a;rcases a with rfl|rfl|rfl|rfl|rfl|rfl|rfl <;> assumption
theorem tx_mk (X:K.In h)(G:h.Ns mainGlobals mg)(c:nQ K "range")(d:nQ K "list")(e:nQ K "repr")(f:nQ K "isinstance")(g:nQ K "bool")(i:nQ K "len")(j:nQ K "tuple")(k:nQ K "int")(l:nQ K "sum")(m:nQ K "dict")(n:nQ K "zip")(o:nQ K "reversed")(p:nQ K "all")(q:nQ K "any")(r:nQ K "enumerate")(s:nQ K "str")(t:nQ K "set")(u:nQ K "sorted")(t0:nN K "tuple")(v:nN K "bool")(w:nN K "int")(y:nN K "str"):Tx K mg:=by
 refine⟨fun x a=>?_,fun T b=>?_⟩;unfold yc at a;simp only [Vg,Vp,VN] at a;rcases a with rfl|rfl|rfl|rfl|rfl|rfl|rfl|rfl|rfl|rfl|rfl|rfl|rfl|rfl|rfl|rfl|rfl|rfl <;> (refine PySem.W.mg_none_of X G ?_;assumption)
 unfold wK at b;simp only [Vg,Vp,VN] at b;rcases b with rfl|rfl|rfl|rfl <;> assumption
theorem CV:∀ns:List Int,IsTs K G (ns.map V.int) (ns.map ti)
 |[]=>.nil
 |n::ns=>.cons (.at rfl) (CV ns)
theorem all_mk {l:PySem.W.OpenLaw}{a:Addr}(b:mg "law"=some (.ref a))(D:rG K mg):∃y:FuncData,(∀(s:Shared)(v:Value),BindsTo s y ⟨[v],[]⟩ [("_law_script",v)])/\∀base:Heap,K.In base->base.Ns mainGlobals mg->FnOk l.prog w K mg base bX 23 a y ["_law_script"] (f6 K eI):=by
 obtain⟨f,d,F⟩:=D.a_law;have e:=b.symm.trans F.m;cases e;refine⟨d,?_,fun base _ _=>?_⟩;obtain⟨_,_,_,_,_,_,_,_,_,rfl,_⟩:=F.F.ex;exact fun s v=>.of_eq rfl;obtain⟨g,d',c,h⟩:=OT (P:=l.prog) (w:=w) (base:=base) D;obtain⟨rfl,rfl⟩:=F.same c;have e:jy (top 52)=(["_law_script"]:List Str):=by decide+kernel
 rw[e] at h;exact h
end
theorem walk {l:PySem.W.OpenLaw}{q:Program}{loose:List Str}{XP:(Str->Option Value)->Heap->Prop}{YP:World->Heap->Prop}{d:DefRec}{K:Params->W.Frag}(c:l.most=some 63)(g:d.params.defaults=[])
  (i:∀(w:World)(h:Heap),YP w h->(K w.params).In h)
  (F:∀(w:World)(mg:Str->Option Value)(b:Addr)(h:Heap),(K w.params).In h->h.Ns mainGlobals mg->mg d.name=some (.ref b) →∃y:FuncData,(∀(s:Shared)(u:Value),BindsTo s y ⟨[u],[]⟩ [("_law_script",u)])/\∀base:Heap,(K w.params).In base->base.Ns mainGlobals mg->FnOk l.prog w (K w.params) mg base bX 23 b y ["_law_script"] (f6 (K w.params) eI)):
  PySem.W.WalkO q loose XP YP l.row.toRowW d [] (fun f j=>PySem.call f j):=
 walk_of (n:=63) (k:=23) (x:="_law_script") (CX:=fun _=>bX) (sp:=fun w=>f6 (K w.params) eI) c (by decide) g ⟨rfl,rfl,by decide,by decide⟩ i F (fun _ H a ns m _ o=>⟨H,[.fz (.scr (ns.map ti))],[],fun r _=>r=fb true,fun _ _ z=>z,.fz (.scr o (CV ns)) .nil,.nil,⟨ns,rfl,VL m (by decide),rfl⟩,fun r A v p H' e _ _ t=>by
  subst e;cases (show IsT _ p v (.at (.bl true)) from t)
  rfl⟩) fun _ _ _ _ _ z=>z
end
end Lake
open Lake PySem PySem.W PyProof.Rows
set_option maxRecDepth 100000 in
set_option maxHeartbeats 0 in
theorem PySem.Challenge.cw_likepieces_k30_local_names_holds : PySem.Challenge.rw_likepieces_k30_local_names.Holds := by
 w_on
 refine holds_law hdS fun sd=>?_
 refine holds_open (q:=hdQ) (loose:=hdL) (Yf:=hdH.obs) (Ya:=hdH.val)
  (XP:=XL hdQ []) (YP:=InK hdK) (N:=hdN) hdT hdH.of
  hdH.keeps (fun s e=>xl_of s (Bool.and_eq_true_iff.mp e).1) XL.keeps (by rfl) (by rfl)
  (by rfl) (fun s e=>recFacts_of (Bool.and_eq_true_iff.mp e).2) (by rfl) sd (by decide+kernel)
  ⟨rfl,rfl,rfl,rfl,rfl,by decide+kernel⟩ ?hw ?hc
 (case hw=>w_witness2)
 k_fill
 refine walk (l:=PySem.Challenge.rw_likepieces_k30_local_names) rfl rfl (K:=hdK) (fun w h Y=>Y) ?F
 case F=>
  intro w mg fa h KX G hmg;refine all_mk hmg ?_;constructor
  (case T=>refine' tx_mk KX G _ _ _ _ _ _ _ _ _ _ _ _ _ _ _ _ _ _ (kt_mk _ _ _ _ _ _ _) (kt_mk _ _ _ _ _ _ _) (kt_mk _ _ _ _ _ _ _) (kt_mk _ _ _ _ _ _ _);(all_goals first|k_is|rfl|decide))
  (case X=>refine' exc_mk KX G ?vn ?vE ?vo ?vM ?vt ?vP ?vy ?vq ?vO ?vw ?vp ?vK ?vJ ?u4 ?vj ?rM ?vv ?vi ?vh ?vg ?vf ?vd ?u9 ?u7 ?u6 ?u5 ?lK ?vN ?uY ?uX ?vm ?vD ?vC ?vA ?vL ?uZ ?vH ?vG ?vF ?vz ?uW;(case vn=>k_is);(case vE=>k_is);(case vo=>k_is);(case vM=>k_is);(case vt=>k_is);(case vP=>k_is);(case vy=>k_is);(case vq=>k_is);(case vO=>k_is);(case vw=>k_is);(case vp=>first|rfl|k_is);(case vK=>k_is);(case vJ=>k_is);(case u4=>k_is);(case vj=>k_is);(case rM=>first|rfl|k_is);(case vv=>first|rfl|k_is);(case vi=>k_is);(case vh=>k_is);(case vg=>k_is);(case vf=>k_is);(case vd=>k_is);(case u9=>k_is);(case u7=>k_is);(case u6=>k_is);(case u5=>k_is);(case lK=>k_is);(case vN=>k_is);(case uY=>k_is);(case uX=>k_is);(case vm=>k_is);(case vD=>first|k_is|rfl|decide+kernel);(case vC=>first|k_is|rfl|decide+kernel);(case vA=>first|k_is|rfl|decide+kernel);(case vL=>k_is);(case uZ=>k_is);(case vH=>k_is);(case vG=>k_is);(case vF=>k_is);(case vz=>k_is);(case uW=>first|k_is|rfl|decide))
  all_goals (refine' at_mk KX G ?b ?a ?l ?c ?k;(case b=>first|exact fun _ _ _ _ _ _=>us_len1 fun _=>rfl|exact fun _ _ _ _ _ _=>us_len2 fun _ _=>rfl|exact fun _ _ _ _ _ _=>us_len3 fun _ _ _=>rfl|exact fun _ _ _ _ _ _=>us_len5 fun _ _ _ _ _=>rfl|exact fun _ _ _ _ _ _=>us_len6 fun _ _ _ _ _ _=>rfl);case a|l|c|k=>k_is)
