import PyProof.Rows.All
import KE.KEqDict
import KE.KDictList
import KE.KIsAll
import KE.KDictOf
import KE.KItem
import Lean
import PySem.Challenge.RW_oncedone_k53_puts_outs_stays
open Array renaming getElem?_toList->a0j,length_toList->a3L,getElem?_eq_getElem->a7u,toList->d2U
open Bool renaming false_ne_true->z7,eq_iff_iff->a2p,and_eq_true->a3w,true_and->a5H,false_eq_true->b3e,false_or->c0j,and_eq_true_iff->c4m,false_and->d1M,and_true->d2T,true_or->d3e
open Int renaming toNat_natCast->A3,zero_add->a0a,emod_lt_of_pos->a2n,emod_nonneg->a2E,eq_ofNat_of_zero_le->a4F,toNat->c2A
open List renaming getElem?_map->b6,length_map->b9,getElem?_eq_getElem->c7,mem_singleton->l6,getElem?_append_left->o0,length_append->o5,length_filter_le->o6,size_toArray->p9,getElem?_eq_some_iff->t6,range->t8,mem_append->u4,mem_cons->u5,mem_append_right->w6,mem_append_left->y0,mem_iff_getElem?->C0,length_cons->D5,length_take->D8,map_append->E1,replicate->E5,mem_map->E7,take_length->G0,mem_cons_of_mem->I0,map_cons->J0,take_add_one->K5,getElem?_append_right->K7,length_replicate->L1,mem_filter->L9,lookup_cons->M0,getElem_mem->M3,append_nil->M4,filter_append->N4,getD->Q1,not_mem_nil->Q7,length_range->R1,getElem?_set_self->U7,map_map->X0,mem_cons_self->X2,getElem?_set_ne->X3,getElem?_replicate->X4,all_eq_true->X5,all_cons->Z7,mem_range->Z8,range_succ->a0d,length_singleton->a0l,find?_cons->a0T,take_of_length_le->a1e,nodup_cons->a1A,foldl_cons->a1B,mem_of_getElem?->a1G,nodup_append->a2U,lookup->a3h,filter_cons->a3v,getElem?_eq_none_iff->a3K,map_congr_left->a3V,any_cons->a3X,length_set->a4w,filter_nil->a4x,length_eq_zero_iff->a4D,filter_congr->a4Z,append_assoc->a5a,length_nil->a6k,map_inj_right->a7e,length_pos_of_mem->a9m,replicate_succ'->b0w,length_pos_iff->b1C,getElem?_range->b1D,filterMap_cons->b1E,ext_getElem?->b3N,nodup_range->b5C,length_drop->b5D,length->b6m,of_mem_zip->b6R,length_erase_of_mem->c0g,idxOf_lt_length_iff->c0h,getElem?_take_of_lt->c0i,getElem?_cons_zero->c1O,map_nil->c2z,mem_of_mem_take->c4l,mem_filterMap->c6O,mem_flatMap->c9p,any_eq_true->c9q,idxOf_cons->d1D,forIn_cons->d1E,drop_zero->d1K,any_map->d3b,all_nil->d3c,all_map->d3d
open List.Pairwise renaming map->a1V
open Nat renaming le_refl->j6,ne_of_lt->z9,le_trans->D4,lt_of_lt_of_le->D7,lt_irrefl->Q8,zero_le->Z0,le_add_right->a8Z,min_self->b5y,sub_self->c4b,ne_of_gt->c4c,le_of_lt->c4d,le_succ->c6J,lt_succ_self->d1C,strongRecOn->d1J
open Option renaming map_eq_some_iff->z8,isSome_iff_exists->a1F,isSome_map->a2D,getD_some->a5m,map_some->a8Y,toList_some->c4k,getD_none->c6N
open PyProof.Rows renaming boot_list->v5,boot_isinstance->A1,callWith_type1->a1X,slot_tuple_getitem->a3W,boot_tuple->a6J,boot_dict->a7d,boot_all->a7w,envOfC->b2L,boot_bool->b5B,boot_int->b6l,AllBare->b6U,IntsAre->c9w,subscriptTail_builtinR->d1H
open PySem renaming wpAny_bind->i8,starEach->j9,Shared->k8,boot_len->l7,wpAny_pure->u7,sizeLine->u9,mainGlobals->A2,compareOp->C3,Program->D0,mem_of_lookup->E6,foldedSetIterable->T1,behindInMarks->U3,Around->U8,wpAny_truthy_bool->V8,wpAny_newObj_type->a0J,FuncData->a1g,backTo->a1y,sysModules->a1U,binaryOp->a2o,wpAny_holding->a3a,attributeBase->a3b,wpAny_typeNameOfWhole_keyiter->a3i,DictEntry->a3j,wpAny_mono->a3p,wpAny_passesOwn->a3Y,swapsWith->a3Z,keywordEach->a4a,bootBuiltins->a4b,assignEach->a4B,lookup_relabel_local->a4G,holding->a4H,tupleKind->a5c,wpAny_comprehension_free->a5y,tupleKind_room_in1->a5J,importedModules->a5K,wpAny_pyIter_list->a6K,strIterType->a6L,sizeLine_eq->a7v,codeAny->a7x,sliceBounds->a8q,letOwnedTupleGo->a8r,wpAny_Call_Name_kw->a9z,backToKw->a9A,assign->a9B,NameKind->a9C,wpAny_assign_Name->b0x,getMethod->b0y,wpAny_callSpecial?_slot->b1F,relabel->b1G,wpAny_call_entry->b2K,wpAny_pyNext_list_item->b3f,wpAny_typeOf->b3O,wpAny_pyNext_list_end->b3P,wpAny_notOrdered_dict->b3Q,wpAny_execs_nil->b3R,standAt->b3S,codeAny_builtin->b3T,Operator->b5A,Keyword->b6T,call->b8r,wpAny_standAt->b8A,pyNext->b8B,plainId_quiet->b8C,wpAny_dictEntries->c0k,codeAny_mono->c1Q,compEnvC->c4g,callWith->c4h,wpAny_dictEpoch->c4n,callerA->c4o,BindsTo->c4p,stored->c8O,entryOfKey->c8P,call_meets->c8Q,Result->c8R,PlainAttrs->c8S,IsPart->c8T,valueAt->c9t,setItem->c9u,getItem->c9v,codeAny_compStart_list->d1I,wpAny_isTrue_Compare1->d1N,wpAny_isOneOf_keyiter->d1O,seqIndex_neg->d1P,lastMarks->d1Q,exec_Assign_Name_used->d1R,builtinLookup_eq_fast->d1S,PassesOwn->d1T,wpAny_newFunctionEnv->d2Z,wpAny_loadName_local->d3a,wpAny_loadName_cell->d3f,wpAny_field->d3g,seqIndex_of->d3h,Builtin->d3i
open PySem.F renaming plainAttrs_list->v8,type_list_append->A7,slot_list_append->A8,type_list_extend->b8t,slot_list_extend->b8u,slot_list_index->b8z
open PySem.Heap renaming get?_push_of_some->j4,lt_size->l9,get?_push_size->A5,get?_update_other->c2B,get?_update_self->c4e,size_push->d1L
open PySem.Heap.DictOf renaming new->c2C
open PySem.Heap.SameBut renaming update->b8v
open PySem.W renaming findIn->u6,nsIn->C9,mg_none_of->E4,kia_one->T4,mg_of->V4,keepIn->V5,fnOf->Z3,emptyDict->Z4,instObj->a1r,makesIn->a3U,codeIn->a4C,plainGet->a5l,specialIn->a7b,hasDictIn->a7c,isFn->a8p,lookIn->a9x,kitOne->a9y,plainGet_of->b0v,callWith_K->b1B,plainOver->b2I,methodObj->b2J,takesIn->b5w,takerIn->b5x,mroIn->b8s,cellsFrom_some->c0e,methodCall_KW->c0f,kitx_tuple->c4a,kitx_list->c4i,kitx_dict->c4j,kdl_call->c6H,handedIn->c6I
set_option Elab.async false
set_option linter.all false
set_option maxRecDepth 100000
set_option maxHeartbeats 0
abbrev Fg:=PySem.W.Frag
abbrev Nt:=List (List Nat)
theorem gI{α:Type}{l:List α}{i:Nat}{a:α}(h:l[i]?=some a):i<l.length:=(t6.mp h).1
theorem mI{α:Type}{l:List α}{i:Nat}{a:α}(h:l[i]?=some a):a∈l:=a1G h
theorem d5k{p:Prop}[Decidable p](h:¬p):decide p=false:=decide_eq_false h
theorem d5l{p:Prop}[Decidable p](h:p):decide p=true:=decide_eq_true h
namespace L2
open PySem
def v6(s:Stmt)(j:Nat):Stmt:=match s with
 | .ClassDef _ _ _ body _ _ _ _ _ _ _=>body.getD j (.Pass ⟨0,0,0,0⟩)
 | _=>.Pass ⟨0,0,0,0⟩
def a2k(s:Stmt):Arguments:=match s with
 | .FunctionDef _ a _ _ _ _ _ _ _ _=>a
 | _=>{ posonlyargs:=[],args:=[],vararg:=none,kwonlyargs:=[],kw_defaults:=[],kwarg:=none,defaults:=[] }
def a0y(s:Stmt):List Stmt:=match s with
 | .FunctionDef _ _ b _ _ _ _ _ _ _=>b
 | _=>[]
def f6(s:Stmt):Scope:=match s with
 | .FunctionDef _ _ _ _ _ _ sc _ _ _=>sc
 | _=>{ kind:=.function,names:=[],isGenerator:=false,isCoroutine:=false }
end L2
namespace HD
open PySem PySem.W L2
abbrev P : Program := PySem.Challenge.pw_oncedone_k53_puts_outs_stays
def top (i : Nat) : Stmt := P.main.body.getD i (.Pass ⟨0, 0, 0, 0⟩)
def kE (Q : Params) (n : Str) (t : Nat) (v : Value) : DictEntry := ⟨PyData.keyHash Q n, .str n t, v⟩
def kD (es : List DictEntry) (n : Nat) : Obj := ⟨.type "dict", none, .dict es.toArray n, #[]⟩
def kF (x qual : Str) (st : Stmt) (pm cd : Value) : Obj := ⟨.type "function", none, .func (fnOf x qual (a2k st) (a0y st) (f6 st) .none .none .none pm none cd .none), #[]⟩
def kC (n q : Str) (a b c : Nat) (i3 i4 i5 i6 i7 : Int) (r8 : Nat) (i10 : Int) (r11 r13 r14 r15 : Nat) (i16 i17 : Int) (d : Nat) : Obj := ⟨.type "code", none, .fields ([.str n a, .str q b, .str "/claim/cut.py" c, .int i3 0, .int i4 0, .int i5 0, .int i6 0, .int i7 0, .ref r8, .bool true, .int i10 0, .ref r11, .none, .ref r13, .ref r14, .ref r15, .int i16 0, .int i17 0, .str "/claim/cut.py" d] : List Value).toArray, ([] : List (Option Value)).toArray⟩
def kN (n q : Str) (a b c : Nat) (i3 i4 i5 i6 i7 : Int) (r8 : Nat) (i10 : Int) (r11 r15 : Nat) (i16 i17 : Int) (d : Nat) : Obj := ⟨.type "code", none, .fields ([.str n a, .str q b, .str "/claim/cut.py" c, .int i3 0, .int i4 0, .int i5 0, .int i6 0, .int i7 0, .ref r8, .bool true, .int i10 0, .ref r11, .none, .none, .none, .ref r15, .int i16 0, .int i17 0, .str "/claim/cut.py" d] : List Value).toArray, ([] : List (Option Value)).toArray⟩
abbrev kc' (n q : Str) (a l m r i j : Nat) : Obj := kC n q a (a + 1) (a + 2) l m 0 0 3 r i (r + 1) (r + 2) (r + 3) (r + 4) j l (j + 1)
abbrev kc (n : Str) (a l m r i j : Nat) : Obj := kc' n n a l m r i j
abbrev kn' (n q : Str) (a l m r i j : Nat) : Obj := kN n q a (a + 1) (a + 2) l m 0 0 3 r i (r + 1) (r + 2) j l (j + 1)
abbrev kn (n : Str) (a l m r i j : Nat) : Obj := kn' n n a l m r i j
abbrev kg (n : Str) (i : Nat) (m : Value) (c : Nat) : Obj := kF n n (top i) m (.ref c)
def kG (x qual : Str) (st : Stmt) (dv pm cd : Value) : Obj := ⟨.type "function", none, .func (fnOf x qual (a2k st) (a0y st) (f6 st) dv .none .none pm none cd .none), #[]⟩
abbrev m0 : Value := (.str "__main__" 164)
abbrev m1 : Value := (.str "oncedone.words" 194)
abbrev m2 : Value := (.str "oncedone.deeds" 253)
abbrev m3 : Value := (.str "oncedone.errors" 285)
abbrev m4 : Value := (.str "oncedone.checks" 405)
abbrev m5 : Value := (.str "oncedone.plans" 435)
abbrev m6 : Value := (.str "oncedone.ready" 565)
abbrev m7 : Value := (.str "oncedone.wanted" 662)
abbrev m8 : Value := (.str "oncedone.brinks" 742)
abbrev m9 : Value := (.str "oncedone.choices" 814)
abbrev m10 : Value := (.str "law_oncedone_k53_puts_outs_stays" 962)
abbrev kM (Q : Params) (a : Nat) (m : Value) (l : Int) (r : List DictEntry) : List DictEntry := kE Q "__module__" a m :: kE Q "__firstlineno__" (a + 4) (.int l (a + 3)) :: r
abbrev kQ (Q : Params) (a : Nat) (m : Value) (n : Str) (l : Int) (r : List DictEntry) : List DictEntry := kE Q "__module__" a m :: kE Q "__qualname__" (a + 2) (.str n (a + 1)) :: kE Q "__firstlineno__" (a + 4) (.int l (a + 3)) :: r
abbrev kW (Q : Params) (s r : Nat) : List DictEntry := [kE Q "__static_attributes__" s (.ref r), kE Q "__dict__" (s + 2) (.ref (r + 3)), kE Q "__weakref__" (s + 4) (.ref (r + 4)), kE Q "__doc__" (s + 5) .none]
abbrev kU (n : Str) (s x : Nat) : Obj := ⟨.type "type", none, .cls { name := n, bases := [.type "object"], mro := [.ref (s + 1), .type "object"], ns := s, qualname := n, hasDict := true, subclasses := [] }, ([none, none, some (.str n x), some (.str n (x + 8)), some (.builtin "object.__new__"), some (.bool true)] : List (Option Value)).toArray⟩
abbrev kV (n : Str) (s p x : Nat) : Obj := ⟨.type "type", none, .cls { name := n, bases := [.ref 100], mro := [.ref (s + 1), .ref 100, .type "ValueError", .type "Exception", .type "BaseException", .type "object"], ns := s, qualname := n, hasDict := true, subclasses := [] }, ([some (.ref p), none, some (.str n x), some (.str n (x + 8)), some (.builtin "ValueError.__new__"), some (.bool true)] : List (Option Value)).toArray⟩
def K1 (Q : Params) : Frag := [
  (3, kD [kE Q "__name__" 165 m10, kE Q "__doc__" 166 .none, kE Q "__package__" 167 .none, kE Q "__loader__" 168 (.builtin "__main__.__loader__#opaque"), kE Q "__spec__" 169 .none, kE Q "__annotations__" 170 (.ref 6), kE Q "__builtins__" 171 (.ref 4), kE Q "__file__" 173 (.str "/claim/cut.py" 172), kE Q "__cached__" 174 .none, kE Q "_wall" 193 (.ref 21), kE Q "BOUND" 197 (.int (1000000000000) 196), kE Q "LETTERS" 199 (.str "abcdefghijklmnopqrstuvwxyz" 198), kE Q "FIGURES" 201 (.str "0123456789" 200), kE Q "LONGEST_NAME" 203 (.int (8) 202), kE Q "DEED_KINDS" 209 (.ref 22), kE Q "is_whole" 216 (.ref 29), kE Q "is_value" 223 (.ref 36), kE Q "is_name" 229 (.ref 41), kE Q "is_operand" 236 (.ref 48), kE Q "is_deed" 243 (.ref 55), kE Q "is_row" 252 (.ref 62), kE Q "deed_of" 261 (.ref 69), kE Q "set_by" 268 (.ref 76), kE Q "does" 276 (.ref 83), kE Q "spoils" 284 (.ref 90), kE Q "OnceError" 304 (.ref 100), kE Q "Wrong" 329 (.ref 120), kE Q "NoThing" 354 (.ref 139), kE Q "TooMany" 379 (.ref 158), kE Q "NoWay" 404 (.ref 177), kE Q "MOST" 408 (.int (400) 407), kE Q "is_below" 416 (.ref 186), kE Q "check_length" 425 (.ref 193), kE Q "check_each" 434 (.ref 200), kE Q "FIRST_STEP" 440 (.ref 201), kE Q "are_nexts" 446 (.ref 206), kE Q "check_nexts" 452 (.ref 211), kE Q "stops_of" 458 (.ref 216), kE Q "turned" 464 (.ref 221), kE Q "reached" 475 (.ref 228), kE Q "check_ways" 485 (.ref 235), kE Q "steps_of" 491 (.ref 240), kE Q "Plan" 564 (.ref 297), kE Q "pass_on" 578 (.ref 308), kE Q "unready_steps" 591 (.ref 315), kE Q "Ready" 661 (.ref 365), kE Q "unwanted_ends" 674 (.ref 376), kE Q "unwanted_steps" 680 (.ref 381), kE Q "Wanted" 741 (.ref 424), kE Q "Brinks" 813 (.ref 478), kE Q "marked" 821 (.ref 487), kE Q "check_held" 827 (.ref 492), kE Q "unwaiting_places" 844 (.ref 499), kE Q "places_alive_behind" 860 (.ref 506), kE Q "Choice" 961 (.ref 583), kE Q "_law_bag" 969 (.ref 592), kE Q "_law_take" 982 (.ref 599), kE Q "_law_net" 995 (.ref 606), kE Q "_law_mended" 1001 (.ref 611), kE Q "_law_name" 1007 (.ref 616), kE Q "_law_names" 1016 (.ref 623), kE Q "_law_operand" 1025 (.ref 630), kE Q "_law_deed" 1034 (.ref 637), kE Q "_law_row" 1045 (.ref 644), kE Q "_law_plan" 1060 (.ref 651), kE Q "_law_does" 1068 (.ref 658), kE Q "_law_spoils" 1076 (.ref 665), kE Q "_law_steps" 1086 (.ref 672), kE Q "_law_to" 1094 (.ref 679), kE Q "_law_ready" 1107 (.ref 686), kE Q "_law_wanted" 1113 (.ref 691), kE Q "_law_brinks" 1119 (.ref 696), kE Q "_law_walk" 1132 (.ref 703), kE Q "_law_far" 1138 (.ref 708), kE Q "_law_home" 1144 (.ref 713), kE Q "_law_places" 1150 (.ref 718), kE Q "_law_all_way" 1160 (.ref 725), kE Q "_law_int" 1167 (.ref 732), kE Q "_law_step_list" 1175 (.ref 739), kE Q "_law_int_list" 1185 (.ref 746), kE Q "_law_held" 1191 (.ref 751), kE Q "_law_lists" 1202 (.ref 758), kE Q "_law_told" 1208 (.ref 763), kE Q "_law_first" 1221 (.ref 770), kE Q "law" 1227 (.ref 775)] 85),
  (20, kc "_wall" 187 1 1 15 181 191),
  (21, kg "_wall" 0 m0 20),
  (22, ⟨(.type "tuple"), none, .seq ([(.str "plus" 204), (.str "minus" 205), (.str "times" 206), (.str "less" 207), (.str "same" 208)] : List Value).toArray 0, ([] : List (Option Value)).toArray⟩),
  (28, kc "is_whole" 210 10 1 23 181 214),
  (29, kg "is_whole" 7 m1 28),
  (35, kc "is_value" 217 12 1 30 181 221),
  (36, kg "is_value" 8 m1 35),
  (40, kn "is_name" 224 14 1 37 181 227),
  (41, kg "is_name" 9 m1 40),
  (47, kc "is_operand" 230 18 1 42 181 234),
  (48, kg "is_operand" 10 m1 47),
  (54, kc "is_deed" 237 20 1 49 181 241),
  (55, kg "is_deed" 11 m1 54),
  (61, kc "is_row" 244 24 1 56 181 250),
  (62, kg "is_row" 12 m1 61),
  (68, kc "deed_of" 255 39 1 63 181 259),
  (69, kg "deed_of" 14 m2 68),
  (75, kc "set_by" 262 41 1 70 181 266),
  (76, kg "set_by" 15 m2 75),
  (82, kc "does" 269 43 2 77 181 274),
  (83, kg "does" 16 m2 82),
  (89, kc "spoils" 277 45 2 84 181 282),
  (90, kg "spoils" 17 m2 89),
  (99, kD (kM Q 294 m3 48 [kE Q "__static_attributes__" 299 (.ref 98), kE Q "__weakref__" 301 (.ref 101), kE Q "__doc__" 302 .none]) 3),
  (100, ⟨(.type "type"), none, .cls { name := "OnceError", bases := [(.type "ValueError")], mro := [(.ref 100), (.type "ValueError"), (.type "Exception"), (.type "BaseException"), (.type "object")], ns := 99, qualname := "OnceError", hasDict := true, subclasses := [(.ref 120), (.ref 139), (.ref 158), (.ref 177)] }, ([some (.ref 91), none, some (.str "OnceError" 287), some (.str "OnceError" 295), some (.builtin "ValueError.__new__"), some (.bool true)] : List (Option Value)).toArray⟩),
  (116, kc' "__init__" "Wrong.__init__" 317 52 2 111 181 322),
  (117, kF "__init__" "Wrong.__init__" (v6 (top 20) 0) m3 (.ref 116)),
  (119, kD (kM Q 312 m3 50 [kE Q "__init__" 324 (.ref 117), kE Q "__static_attributes__" 326 (.ref 118), kE Q "__doc__" 327 .none]) 2),
  (120, kV "Wrong" 119 104 305),
  (135, kc' "__init__" "NoThing.__init__" 342 56 2 130 181 347),
  (136, kF "__init__" "NoThing.__init__" (v6 (top 21) 0) m3 (.ref 135)),
  (138, kD (kM Q 337 m3 54 [kE Q "__init__" 349 (.ref 136), kE Q "__static_attributes__" 351 (.ref 137), kE Q "__doc__" 352 .none]) 2),
  (139, kV "NoThing" 138 123 330),
  (154, kc' "__init__" "TooMany.__init__" 367 60 2 149 181 372),
  (155, kF "__init__" "TooMany.__init__" (v6 (top 22) 0) m3 (.ref 154)),
  (157, kD (kM Q 362 m3 58 [kE Q "__init__" 374 (.ref 155), kE Q "__static_attributes__" 376 (.ref 156), kE Q "__doc__" 377 .none]) 2),
  (158, kV "TooMany" 157 142 355),
  (173, kc' "__init__" "NoWay.__init__" 392 64 2 168 181 397),
  (174, kF "__init__" "NoWay.__init__" (v6 (top 23) 0) m3 (.ref 173)),
  (176, kD (kM Q 387 m3 62 [kE Q "__init__" 399 (.ref 174), kE Q "__static_attributes__" 401 (.ref 175), kE Q "__doc__" 402 .none]) 2),
  (177, kV "NoWay" 176 161 380),
  (185, kc "is_below" 409 68 2 180 181 414),
  (186, kg "is_below" 26 m4 185),
  (192, kc "check_length" 417 70 3 187 181 423),
  (193, kg "check_length" 27 m4 192),
  (199, kc "check_each" 426 75 1 194 181 432),
  (200, kg "check_each" 28 m4 199),
  (201, ⟨(.type "tuple"), none, .seq ([(.int (-1) 438), (.int (0) 439)] : List Value).toArray 0, ([] : List (Option Value)).toArray⟩),
  (205, kn "are_nexts" 441 81 3 202 181 444),
  (206, kg "are_nexts" 31 m5 205),
  (210, kn "check_nexts" 447 86 2 207 181 450),
  (211, kg "check_nexts" 32 m5 210),
  (215, kn "stops_of" 453 90 1 212 181 456),
  (216, kg "stops_of" 33 m5 215)]
def adr1 : List Addr := [3, 20, 21, 22, 28, 29, 35, 36, 40, 41, 47, 48, 54, 55, 61, 62, 68, 69, 75, 76, 82, 83, 89, 90, 99, 100, 116, 117, 119, 120, 135, 136, 138, 139, 154, 155, 157, 158, 173, 174, 176, 177, 185, 186, 192, 193, 199, 200, 201, 205, 206, 210, 211, 215, 216]
def K2 (Q : Params) : Frag := [
  (220, kn "turned" 459 92 1 217 181 462),
  (221, kg "turned" 34 m5 220),
  (227, kc "reached" 465 98 2 222 181 473),
  (228, kg "reached" 35 m5 227),
  (234, kc "check_ways" 476 107 1 229 181 483),
  (235, kg "check_ways" 36 m5 234),
  (239, kn "steps_of" 486 113 1 236 181 489),
  (240, kg "steps_of" 37 m5 239),
  (251, kn' "__init__" "Plan.__init__" 504 120 3 248 181 507),
  (252, kF "__init__" "Plan.__init__" (v6 (top 38) 0) m5 (.ref 251)),
  (258, kc' "steps" "Plan.steps" 510 131 1 253 181 514),
  (259, kF "steps" "Plan.steps" (v6 (top 38) 1) m5 (.ref 258)),
  (265, kc' "leads_to" "Plan.leads_to" 517 134 2 260 181 522),
  (266, kF "leads_to" "Plan.leads_to" (v6 (top 38) 2) m5 (.ref 265)),
  (272, kc' "steps_into" "Plan.steps_into" 525 139 2 267 181 530),
  (273, kF "steps_into" "Plan.steps_into" (v6 (top 38) 3) m5 (.ref 272)),
  (279, kc' "stops" "Plan.stops" 533 142 1 274 181 537),
  (280, kF "stops" "Plan.stops" (v6 (top 38) 4) m5 (.ref 279)),
  (286, kc' "deeds" "Plan.deeds" 540 145 1 281 181 544),
  (287, kF "deeds" "Plan.deeds" (v6 (top 38) 5) m5 (.ref 286)),
  (293, kc' "names" "Plan.names" 547 148 1 288 181 551),
  (294, kF "names" "Plan.names" (v6 (top 38) 6) m5 (.ref 293)),
  (296, kD (kM Q 499 m5 118 ([kE Q "__init__" 509 (.ref 252), kE Q "steps" 516 (.ref 259), kE Q "leads_to" 524 (.ref 266), kE Q "steps_into" 532 (.ref 273), kE Q "stops" 539 (.ref 280), kE Q "deeds" 546 (.ref 287), kE Q "names" 553 (.ref 294)] ++ kW Q 557 295)) 4),
  (297, kU "Plan" 296 492),
  (307, kc "pass_on" 567 151 4 302 181 576),
  (308, kg "pass_on" 40 m6 307),
  (314, kc "unready_steps" 579 156 3 309 181 589),
  (315, kg "unready_steps" 41 m6 314),
  (326, kn' "__init__" "Ready.__init__" 604 171 3 323 181 607),
  (327, kF "__init__" "Ready.__init__" (v6 (top 42) 0) m6 (.ref 326)),
  (333, kc' "ready_at" "Ready.ready_at" 610 177 2 328 181 615),
  (334, kF "ready_at" "Ready.ready_at" (v6 (top 42) 1) m6 (.ref 333)),
  (340, kc' "ready_behind" "Ready.ready_behind" 618 180 2 335 181 624),
  (341, kF "ready_behind" "Ready.ready_behind" (v6 (top 42) 2) m6 (.ref 340)),
  (347, kc' "ready_on" "Ready.ready_on" 627 186 2 342 181 632),
  (348, kF "ready_on" "Ready.ready_on" (v6 (top 42) 3) m6 (.ref 347)),
  (354, kc' "begins_unready" "Ready.begins_unready" 635 189 2 349 181 640),
  (355, kF "begins_unready" "Ready.begins_unready" (v6 (top 42) 4) m6 (.ref 354)),
  (361, kc' "way_unready" "Ready.way_unready" 643 192 2 356 181 648),
  (362, kF "way_unready" "Ready.way_unready" (v6 (top 42) 5) m6 (.ref 361)),
  (364, kD (kM Q 599 m6 169 ([kE Q "__init__" 609 (.ref 327), kE Q "ready_at" 617 (.ref 334), kE Q "ready_behind" 626 (.ref 341), kE Q "ready_on" 634 (.ref 348), kE Q "begins_unready" 642 (.ref 355), kE Q "way_unready" 650 (.ref 362)] ++ kW Q 654 363)) 4),
  (365, kU "Ready" 364 592),
  (375, kc "unwanted_ends" 664 195 2 370 181 672),
  (376, kg "unwanted_ends" 44 m7 375),
  (380, kn "unwanted_steps" 675 201 2 377 181 678),
  (381, kg "unwanted_steps" 45 m7 380),
  (394, kc' "__init__" "Wanted.__init__" 693 215 3 389 181 699),
  (395, kF "__init__" "Wanted.__init__" (v6 (top 46) 0) m7 (.ref 394)),
  (401, kc' "wanted_at" "Wanted.wanted_at" 702 219 2 396 181 707),
  (402, kF "wanted_at" "Wanted.wanted_at" (v6 (top 46) 1) m7 (.ref 401)),
  (406, kn' "wanted_behind" "Wanted.wanted_behind" 710 222 2 403 181 713),
  (407, kF "wanted_behind" "Wanted.wanted_behind" (v6 (top 46) 2) m7 (.ref 406)),
  (413, kc' "wanted_on" "Wanted.wanted_on" 716 226 2 408 181 721),
  (414, kF "wanted_on" "Wanted.wanted_on" (v6 (top 46) 3) m7 (.ref 413)),
  (420, kc' "way_unwanted" "Wanted.way_unwanted" 724 229 2 415 181 729)]
def adr2 : List Addr := [220, 221, 227, 228, 234, 235, 239, 240, 251, 252, 258, 259, 265, 266, 272, 273, 279, 280, 286, 287, 293, 294, 296, 297, 307, 308, 314, 315, 326, 327, 333, 334, 340, 341, 347, 348, 354, 355, 361, 362, 364, 365, 375, 376, 380, 381, 394, 395, 401, 402, 406, 407, 413, 414, 420]
def K3 (Q : Params) : Frag := [
  (421, kF "way_unwanted" "Wanted.way_unwanted" (v6 (top 46) 4) m7 (.ref 420)),
  (423, kD (kM Q 688 m7 213 ([kE Q "__init__" 701 (.ref 395), kE Q "wanted_at" 709 (.ref 402), kE Q "wanted_behind" 715 (.ref 407), kE Q "wanted_on" 723 (.ref 414), kE Q "way_unwanted" 731 (.ref 421)] ++ kW Q 734 422)) 4),
  (424, kU "Wanted" 423 681),
  (439, kn' "__init__" "Brinks.__init__" 756 234 3 436 181 759),
  (440, kF "__init__" "Brinks.__init__" (v6 (top 48) 0) m8 (.ref 439)),
  (446, kc' "is_brink" "Brinks.is_brink" 762 241 2 441 181 767),
  (447, kF "is_brink" "Brinks.is_brink" (v6 (top 48) 1) m8 (.ref 446)),
  (453, kc' "is_spoilt_ahead" "Brinks.is_spoilt_ahead" 770 246 2 448 181 775),
  (454, kF "is_spoilt_ahead" "Brinks.is_spoilt_ahead" (v6 (top 48) 2) m8 (.ref 453)),
  (460, kc' "steps" "Brinks.steps" 778 249 1 455 181 782),
  (461, kF "steps" "Brinks.steps" (v6 (top 48) 3) m8 (.ref 460)),
  (467, kc' "why_brink" "Brinks.why_brink" 785 252 2 462 181 790),
  (468, kF "why_brink" "Brinks.why_brink" (v6 (top 48) 4) m8 (.ref 467)),
  (474, kc' "way_unwanted_behind" "Brinks.way_unwanted_behind" 793 255 2 469 181 798),
  (475, kF "way_unwanted_behind" "Brinks.way_unwanted_behind" (v6 (top 48) 5) m8 (.ref 474)),
  (477, kD (kM Q 751 m8 232 ([kE Q "__init__" 761 (.ref 440), kE Q "is_brink" 769 (.ref 447), kE Q "is_spoilt_ahead" 777 (.ref 454), kE Q "steps" 784 (.ref 461), kE Q "why_brink" 792 (.ref 468), kE Q "way_unwanted_behind" 800 (.ref 475)] ++ kW Q 806 476)) 4),
  (478, kU "Brinks" 477 744),
  (486, kn "marked" 816 258 1 483 181 819),
  (487, kg "marked" 50 m9 486),
  (491, kn "check_held" 822 260 3 488 181 825),
  (492, kg "check_held" 51 m9 491),
  (498, kc "unwaiting_places" 828 264 4 493 181 842),
  (499, kg "unwaiting_places" 52 m9 498),
  (505, kc "places_alive_behind" 845 279 4 500 181 858),
  (506, kg "places_alive_behind" 53 m9 505),
  (514, ⟨(.type "tuple"), none, .seq ([.none] : List Value).toArray 0, ([] : List (Option Value)).toArray⟩),
  (518, kn' "__init__" "Choice.__init__" 873 295 4 515 181 876),
  (519, kG "__init__" "Choice.__init__" (v6 (top 54) 0) (.ref 514) m9 (.ref 518)),
  (525, kc' "waits_at" "Choice.waits_at" 879 311 2 520 181 884),
  (526, kF "waits_at" "Choice.waits_at" (v6 (top 54) 1) m9 (.ref 525)),
  (532, kc' "waits_on" "Choice.waits_on" 887 314 2 527 181 892),
  (533, kF "waits_on" "Choice.waits_on" (v6 (top 54) 2) m9 (.ref 532)),
  (539, kc' "is_put" "Choice.is_put" 895 319 2 534 181 900),
  (540, kF "is_put" "Choice.is_put" (v6 (top 54) 3) m9 (.ref 539)),
  (546, kc' "alive_at" "Choice.alive_at" 903 322 2 541 181 908),
  (547, kF "alive_at" "Choice.alive_at" (v6 (top 54) 4) m9 (.ref 546)),
  (553, kc' "alive_behind" "Choice.alive_behind" 911 325 2 548 181 916),
  (554, kF "alive_behind" "Choice.alive_behind" (v6 (top 54) 5) m9 (.ref 553)),
  (560, kc' "puts" "Choice.puts" 919 328 1 555 181 923),
  (561, kF "puts" "Choice.puts" (v6 (top 54) 6) m9 (.ref 560)),
  (567, kc' "outs" "Choice.outs" 926 331 1 562 181 930),
  (568, kF "outs" "Choice.outs" (v6 (top 54) 7) m9 (.ref 567)),
  (574, kc' "stays" "Choice.stays" 933 334 1 569 181 937),
  (575, kF "stays" "Choice.stays" (v6 (top 54) 8) m9 (.ref 574)),
  (579, kn' "stores" "Choice.stores" 940 337 1 576 181 943),
  (580, kF "stores" "Choice.stores" (v6 (top 54) 9) m9 (.ref 579)),
  (582, kD (kM Q 868 m9 293 ([kE Q "__init__" 878 (.ref 519), kE Q "waits_at" 886 (.ref 526), kE Q "waits_on" 894 (.ref 533), kE Q "is_put" 902 (.ref 540), kE Q "alive_at" 910 (.ref 547), kE Q "alive_behind" 918 (.ref 554), kE Q "puts" 925 (.ref 561), kE Q "outs" 932 (.ref 568), kE Q "stays" 939 (.ref 575), kE Q "stores" 945 (.ref 580)] ++ kW Q 954 581)) 4),
  (583, kU "Choice" 582 861),
  (591, kn "_law_bag" 964 340 1 588 181 967),
  (592, kg "_law_bag" 56 m10 591),
  (598, kc "_law_take" 970 342 2 593 181 980),
  (599, kg "_law_take" 57 m10 598),
  (605, kc "_law_net" 983 361 2 600 181 993),
  (606, kg "_law_net" 58 m10 605),
  (610, kn "_law_mended" 996 379 1 607 181 999)]
def adr3 : List Addr := [421, 423, 424, 439, 440, 446, 447, 453, 454, 460, 461, 467, 468, 474, 475, 477, 478, 486, 487, 491, 492, 498, 499, 505, 506, 514, 518, 519, 525, 526, 532, 533, 539, 540, 546, 547, 553, 554, 560, 561, 567, 568, 574, 575, 579, 580, 582, 583, 591, 592, 598, 599, 605, 606, 610]
def K4 (Q : Params) : Frag := [
  (611, kg "_law_mended" 59 m10 610),
  (615, kn "_law_name" 1002 394 2 612 181 1005),
  (616, kg "_law_name" 60 m10 615),
  (622, kc "_law_names" 1008 400 1 617 181 1014),
  (623, kg "_law_names" 61 m10 622),
  (629, kc "_law_operand" 1017 405 2 624 181 1023),
  (630, kg "_law_operand" 62 m10 629),
  (636, kc "_law_deed" 1026 414 2 631 181 1032),
  (637, kg "_law_deed" 63 m10 636),
  (643, kc "_law_row" 1035 417 3 638 181 1043),
  (644, kg "_law_row" 64 m10 643),
  (650, kc "_law_plan" 1046 427 1 645 181 1058),
  (651, kg "_law_plan" 65 m10 650),
  (657, kc "_law_does" 1061 444 2 652 181 1066),
  (658, kg "_law_does" 66 m10 657),
  (664, kc "_law_spoils" 1069 446 2 659 181 1074),
  (665, kg "_law_spoils" 67 m10 664),
  (671, kc "_law_steps" 1077 448 1 666 181 1084),
  (672, kg "_law_steps" 68 m10 671),
  (678, kc "_law_to" 1087 454 2 673 181 1092),
  (679, kg "_law_to" 69 m10 678),
  (685, kc "_law_ready" 1095 458 3 680 181 1105),
  (686, kg "_law_ready" 70 m10 685),
  (690, kn "_law_wanted" 1108 466 3 687 181 1111),
  (691, kg "_law_wanted" 71 m10 690),
  (695, kn "_law_brinks" 1114 473 3 692 181 1117),
  (696, kg "_law_brinks" 72 m10 695),
  (702, kc "_law_walk" 1120 485 3 697 181 1130),
  (703, kg "_law_walk" 73 m10 702),
  (707, kn "_law_far" 1133 494 1 704 181 1136),
  (708, kg "_law_far" 74 m10 707),
  (712, kn "_law_home" 1139 501 2 709 181 1142),
  (713, kg "_law_home" 75 m10 712),
  (717, kn "_law_places" 1145 511 2 714 181 1148),
  (718, kg "_law_places" 76 m10 717),
  (724, kc "_law_all_way" 1151 513 3 719 181 1158),
  (725, kg "_law_all_way" 77 m10 724),
  (731, kc "_law_int" 1161 516 1 726 181 1165),
  (732, kg "_law_int" 78 m10 731),
  (738, kc "_law_step_list" 1168 518 1 733 181 1173),
  (739, kg "_law_step_list" 79 m10 738),
  (745, kc "_law_int_list" 1176 525 2 740 181 1183),
  (746, kg "_law_int_list" 80 m10 745),
  (750, kn "_law_held" 1186 532 2 747 181 1189),
  (751, kg "_law_held" 81 m10 750),
  (757, kc "_law_lists" 1192 536 2 752 181 1200),
  (758, kg "_law_lists" 82 m10 757),
  (762, kn "_law_told" 1203 546 5 759 181 1206),
  (763, kg "_law_told" 83 m10 762),
  (769, kc "_law_first" 1209 565 5 764 181 1219),
  (770, kg "_law_first" 84 m10 769),
  (774, kn "law" 1222 575 1 771 181 1225),
  (775, kg "law" 85 m10 774)]
def adr4 : List Addr := [611, 615, 616, 622, 623, 629, 630, 636, 637, 643, 644, 650, 651, 657, 658, 664, 665, 671, 672, 678, 679, 685, 686, 690, 691, 695, 696, 702, 703, 707, 708, 712, 713, 717, 718, 724, 725, 731, 732, 738, 739, 745, 746, 750, 751, 757, 758, 762, 763, 769, 770, 774, 775]
def K (Q : Params) : Frag := K1 Q ++ (K2 Q ++ (K3 Q ++ K4 Q))
def adr : List Addr := adr1 ++ (adr2 ++ (adr3 ++ adr4))
def q : Program := view P [85]
def loose : List Str := (["_wall", "BOUND", "LETTERS", "FIGURES", "LONGEST_NAME", "DEED_KINDS", "is_whole", "is_value", "is_name", "is_operand", "is_deed", "is_row", "deed_of", "set_by", "does", "spoils", "OnceError", "Wrong", "NoThing", "TooMany", "NoWay", "MOST", "is_below", "check_length", "check_each", "FIRST_STEP", "are_nexts", "check_nexts", "stops_of", "turned", "reached", "check_ways", "steps_of", "Plan", "pass_on", "unready_steps", "Ready", "unwanted_ends", "unwanted_steps", "Wanted", "Brinks", "marked", "check_held", "unwaiting_places", "places_alive_behind", "Choice", "_law_bag", "_law_take", "_law_net", "_law_mended", "_law_name", "_law_names", "_law_operand", "_law_deed", "_law_row", "_law_plan", "_law_does", "_law_spoils", "_law_steps", "_law_to", "_law_ready", "_law_wanted", "_law_brinks", "_law_walk", "_law_far", "_law_home", "_law_places", "_law_all_way", "_law_int", "_law_step_list", "_law_int_list", "_law_held", "_law_lists", "_law_told", "_law_first"] : List String).map Str.ofString
theorem left_one {p q : Program} {loose : List Str} {Xt : Shared → Bool} {α : Type} {Yf : Shared → α} {Ya : World → α} {N m₀ : Nat} {ann : Option Value} (e : opening p = plainProg p.main.scope.names) (hN : Nat.ble 600 N = true) (f : ∀ s, fenceModules? p s = some s)
    (size : ∀ w : World, ((boot_heap w.params).isNs mainGlobals, (boot_heap w.params).objs.size, (boot_heap w.params).nsMap mainGlobals "__annotations__") = (true, m₀, ann))
    {r : World → OsState → Option Shared} (hr : ∀ w os x, r w os = some x → topRun treeTable p w m₀ ann N ⟨boot_heap w.params, Array.mk [], boot_drawn, boot_toks, os⟩ (topStub p) = some x)
    (ra : ∀ w os, (r w os).map (fun s₁ => staticsOk (importedModules p.main.body) (boot_heap w.params) s₁.heap && namesBound p s₁.heap && gensDone s₁ && laidKept (boot_heap w.params) s₁.heap) = some true)
    (rb : ∀ w os, (r w os).map (openSeen q loose (importedModules p.main.body) Xt true) = some (openGood q loose))
    (rc : ∀ w os, (r w os).map Yf = some (Ya w)) :
    LeftO p q loose Xt Yf Ya N := fun w => by
  obtain ⟨⟨h, gs, d, k, os⟩, e1, e2⟩ := Option.map_eq_some_iff.mp (boot_open e hN f w)
  obtain ⟨rfl, rfl, rfl, rfl⟩ : h = boot_heap w.params ∧ gs = Array.mk [] ∧ d = boot_drawn ∧ k = boot_toks := by simpa using e2
  obtain ⟨z1, z2, z3⟩ : _ ∧ _ ∧ _ := by simpa only [Prod.mk.injEq] using size w
  obtain ⟨s₁, r1, r3⟩ := Option.map_eq_some_iff.mp (ra w os)
  have rb := rb w os
  have rc := rc w os
  rw [r1] at rb rc
  have r1 := hr w os _ r1
  have r4 : (openSeen q loose (importedModules p.main.body) Xt true s₁, Yf s₁) = (openGood q loose, Ya w) := Prod.ext (Option.some.inj rb) (Option.some.inj rc)
  have t : topFrom treeTable p w N ⟨boot_heap w.params, Array.mk [], boot_drawn, boot_toks, os⟩ = some s₁ := by
    unfold topFrom
    dsimp only
    rw [z1, z2, z3, r1]
    show (match staticsOk (importedModules p.main.body) (boot_heap w.params) s₁.heap && namesBound p s₁.heap && gensDone s₁ && laidKept (boot_heap w.params) s₁.heap with | true => some s₁ | false => none) = _
    rw [r3]
  unfold openEnds
  rw [e1]
  show (topFrom treeTable p w N _).map _ = _
  rw [t]
  exact congrArg some r4
abbrev hook : Hook := kHook K adr (fun _ => by kernel_rfl)
abbrev row : OpenLaw := PySem.Challenge.rw_oncedone_k53_puts_outs_stays
def kZ (x q : Str) (st : Stmt) : Obj := ⟨.none, none, .func { fnOf x q (a2k st) (a0y st) (f6 st) .none .none .none .none none .none .none with globals := 0 }, #[]⟩
def kS (xs : List Value) (n : Nat) : Obj := ⟨.type "tuple", none, .seq xs.toArray n, ([] : List (Option Value)).toArray⟩
noncomputable section
def kk (a : Addr) (Q : Params) : Obj := ((K Q).lookup a).getD (boot_o_4 Q)
abbrev kY (n : Str) (i : Nat) : Obj := kZ n n (top i)
abbrev k0 : Obj := ⟨.none, none, .fields ([] : List Value).toArray, ([] : List (Option Value)).toArray⟩
abbrev kf (xs : List Value) (z : Obj) (a : Nat) (Q : Params) (r : List Obj) : List Obj := kS [] 0 :: k0 :: kS xs 0 :: kS [] 0 :: z :: kk a Q :: kk (a + 1) Q :: r
abbrev ke (z : Obj) (a : Nat) (Q : Params) (r : List Obj) : List Obj := kS [] 0 :: k0 :: z :: kk a Q :: kk (a + 1) Q :: r
abbrev kw (c : String) (xs : List Value) : Obj := ⟨.type c, none, .fields xs.toArray, ([] : List (Option Value)).toArray⟩
abbrev kl (n : Str) (a l r : Nat) : Obj := kw "code" [.str n a, .str n (a + 1), .str "/claim/cut.py" (a + 2), .int l 0, .int 0 0, .int 0 0, .int 0 0, .int 0 0, .ref r, .bool false, .int 181 0, .ref (r + 1), .none, .none, .none, .none, .int (a + 3 : Nat) 0, .int l 0, .str "/claim/cut.py" (a + 4)]
abbrev kb (b : String) (v : Value) : Obj := kw "builtin_function_or_method" [.builtin b, v]
abbrev ku (r : Nat) : Obj := kw "super" [.ref r, .ref r, .ref r]
abbrev kr (c l : Nat) (m : Value) : Obj := ⟨.type "frame", none, .plain, ([some (.ref c), some (.ref 3), some (.ref l), none, some m, none, some (.ref 0)] : List (Option Value)).toArray⟩
abbrev kt (xs : List (Nat × Nat × Nat)) : Obj := ⟨.none, none, .fields (xs.flatMap fun x => ([.int x.1 0, .int x.2.1 0, .ref x.2.2] : List Value)).toArray, ([] : List (Option Value)).toArray⟩
abbrev kx (o : Obj) (r : List Obj) : List Obj := o :: r
def h1 (Q : Params) : List Obj :=
kx (boot_o_0 Q) <|
kx (boot_o_1 Q) <|
kx (boot_o_2 Q) <|
kx (kD [kE Q "__name__" 165 m7, kE Q "__doc__" 166 .none, kE Q "__package__" 167 .none, kE Q "__loader__" 168 (.builtin "__main__.__loader__#opaque"), kE Q "__spec__" 169 .none, kE Q "__annotations__" 170 (.ref 6), kE Q "__builtins__" 171 (.ref 4), kE Q "__file__" 173 (.str "/claim/cut.py" 172), kE Q "__cached__" 174 .none, kE Q "_wall" 193 (.ref 21), kE Q "BOUND" 197 (.int (1000000000000) 196), kE Q "LETTERS" 199 (.str "abcdefghijklmnopqrstuvwxyz" 198), kE Q "FIGURES" 201 (.str "0123456789" 200), kE Q "LONGEST_NAME" 203 (.int (8) 202), kE Q "DEED_KINDS" 209 (.ref 22), kE Q "is_whole" 216 (.ref 29), kE Q "is_value" 223 (.ref 36), kE Q "is_name" 229 (.ref 41), kE Q "is_operand" 236 (.ref 48), kE Q "is_deed" 243 (.ref 55), kE Q "is_row" 252 (.ref 62), kE Q "deed_of" 261 (.ref 69), kE Q "set_by" 268 (.ref 76), kE Q "does" 276 (.ref 83), kE Q "spoils" 284 (.ref 90), kE Q "OnceError" 304 (.ref 100), kE Q "Wrong" 329 (.ref 120), kE Q "NoThing" 354 (.ref 139), kE Q "TooMany" 379 (.ref 158), kE Q "NoWay" 404 (.ref 177), kE Q "MOST" 408 (.int (400) 407), kE Q "is_below" 416 (.ref 186), kE Q "check_length" 425 (.ref 193), kE Q "check_each" 434 (.ref 200), kE Q "FIRST_STEP" 440 (.ref 201), kE Q "are_nexts" 446 (.ref 206), kE Q "check_nexts" 452 (.ref 211), kE Q "stops_of" 458 (.ref 216), kE Q "turned" 464 (.ref 221), kE Q "reached" 475 (.ref 228), kE Q "check_ways" 485 (.ref 235), kE Q "steps_of" 491 (.ref 240), kE Q "Plan" 564 (.ref 297), kE Q "pass_on" 578 (.ref 308), kE Q "unready_steps" 591 (.ref 315), kE Q "Ready" 661 (.ref 365), kE Q "unwanted_ends" 674 (.ref 376), kE Q "unwanted_steps" 680 (.ref 381)] 48) <|
kx (boot_o_4 Q) <|
kx (boot_o_5 Q) <|
kx (boot_o_6 Q) <|
kx (boot_o_7 Q) <|
kx (boot_o_8 Q) <|
kx (boot_o_9 Q) <|
kx (boot_o_10 Q) <|
kx (kS [] 0) <|
kx (kt [(1, 0, 20), (10, 0, 28), (12, 0, 35), (14, 0, 40), (18, 0, 47), (20, 0, 54), (24, 0, 61), (39, 0, 68), (41, 0, 75), (43, 0, 82), (45, 0, 89), (48, 0, 96), (50, 0, 109), (54, 0, 128), (58, 0, 147), (62, 0, 166), (68, 0, 185), (70, 0, 192), (75, 0, 199), (81, 0, 205), (86, 0, 210), (90, 0, 215), (92, 0, 220), (98, 0, 227), (107, 0, 234), (113, 0, 239), (118, 0, 246), (151, 0, 307), (156, 0, 314), (169, 0, 321), (195, 0, 375), (201, 0, 380)]) <|
kx (kl "<module>" 182 1 11) <|
kx (kr 13 3 m0) <|
kf [(.str "k" 190)] (kY "_wall" 0) 20 Q <|
kx (kk 22 Q) <|
kf [(.str "thing" 213)] (kY "is_whole" 7) 28 Q <|
kf [(.str "thing" 220)] (kY "is_value" 8) 35 Q <|
ke (kY "is_name" 9) 40 Q <|
kf [(.str "thing" 233)] (kY "is_operand" 10) 47 Q <|
kf [(.str "thing" 240)] (kY "is_deed" 11) 54 Q <|
kf [(.str "thing" 247), (.str "kind" 248), (.str "rest" 249)] (kY "is_row" 12) 61 Q <|
kf [(.str "row" 258)] (kY "deed_of" 14) 68 Q <|
kf [(.str "row" 265)] (kY "set_by" 15) 75 Q <|
kf [(.str "row" 272), (.str "deed" 273)] (kY "does" 16) 82 Q <|
kf [(.str "row" 280), (.str "deed" 281)] (kY "spoils" 17) 89 Q <|
kx (kS [(.type "ValueError")] 0) <|
kx (kb "type.__prepare__" (.type "type")) <|
kx (kD (kQ Q 294 m3 "OnceError" 48 [kE Q "__static_attributes__" 299 (.ref 98)]) 4) <|
kx (kS [] 0) <|
kx k0 <|
kx (kl "OnceError" 289 48 94) <|
kx (kr 96 93 m3) <|
kx (kS [] 0) <|
kx (kk 99 Q) <|
kx (kk 100 Q) <|
kx ⟨(.type "getset_descriptor"), none, .fields ([(.str "__weakref__" 300), (.ref 100), (.builtin "ExceptionGroup.__weakref__"), .none] : List Value).toArray, ([] : List (Option Value)).toArray⟩ <|
kx (ku 100) <|
kx (kb "object.__init_subclass__" (.ref 100)) <|
kx (kS [(.ref 100)] 0) <|
kx (kb "type.__prepare__" (.type "type")) <|
kx (kD (kQ Q 312 m3 "Wrong" 50 [kE Q "__init__" 324 (.ref 117), kE Q "__static_attributes__" 326 (.ref 118)]) 5) <|
kx (kS [] 0) <|
kx (kt [(52, 4, 116)]) <|
kx (kl "Wrong" 307 50 107) <|
kx (kr 109 106 m3) <|
kf [(.str "self" 320), (.str "at" 321)] (kZ "__init__" "Wrong.__init__" (v6 (top 20) 0)) 116 Q <|
kx (kS [(.str "at" 325)] 0) <|
kx (kk 119 Q) <|
kx (kk 120 Q) <|
kx (ku 120) <|
kx (kb "object.__init_subclass__" (.ref 120)) <|
kx (kS [(.ref 100)] 0) <|
kx (kb "type.__prepare__" (.type "type")) <|
kx (kD (kQ Q 337 m3 "NoThing" 54 [kE Q "__init__" 349 (.ref 136), kE Q "__static_attributes__" 351 (.ref 137)]) 5) <|
kx (kS [] 0) <|
kx (kt [(56, 4, 135)]) <|
kx (kl "NoThing" 332 54 126) <|
kx (kr 128 125 m3) <|
kf [(.str "self" 345), (.str "at" 346)] (kZ "__init__" "NoThing.__init__" (v6 (top 21) 0)) 135 Q <|
kx (kS [(.str "at" 350)] 0) <|
kx (kk 138 Q) <|
kx (kk 139 Q) <|
kx (ku 139) <|
kx (kb "object.__init_subclass__" (.ref 139)) <|
kx (kS [(.ref 100)] 0) <|
kx (kb "type.__prepare__" (.type "type")) <|
kx (kD (kQ Q 362 m3 "TooMany" 58 [kE Q "__init__" 374 (.ref 155), kE Q "__static_attributes__" 376 (.ref 156)]) 5) <|
kx (kS [] 0) <|
kx (kt [(60, 4, 154)]) <|
kx (kl "TooMany" 357 58 145) <|
kx (kr 147 144 m3) <|
kf [(.str "self" 370), (.str "most" 371)] (kZ "__init__" "TooMany.__init__" (v6 (top 22) 0)) 154 Q <|
kx (kS [(.str "most" 375)] 0) <|
kx (kk 157 Q) <|
kx (kk 158 Q) <|
kx (ku 158) <|
kx (kb "object.__init_subclass__" (.ref 158)) <|
kx (kS [(.ref 100)] 0) <|
kx (kb "type.__prepare__" (.type "type")) <|
kx (kD (kQ Q 387 m3 "NoWay" 62 [kE Q "__init__" 399 (.ref 174), kE Q "__static_attributes__" 401 (.ref 175)]) 5) <|
kx (kS [] 0) <|
kx (kt [(64, 4, 173)]) <|
kx (kl "NoWay" 382 62 164) <|
kx (kr 166 163 m3) <|
kf [(.str "self" 395), (.str "at" 396)] (kZ "__init__" "NoWay.__init__" (v6 (top 23) 0)) 173 Q <|
kx (kS [(.str "at" 400)] 0) <|
kx (kk 176 Q) <|
kx (kk 177 Q) <|
kx (ku 177) <|
kx (kb "object.__init_subclass__" (.ref 177)) <|
kf [(.str "thing" 412), (.str "many" 413)] (kY "is_below" 26) 185 Q <|
kf [(.str "things" 420), (.str "at" 421), (.str "least" 422)] (kY "check_length" 27) 192 Q <|
kf [(.str "rights" 429), (.str "k" 430), (.str "right" 431)] (kY "check_each" 28) 199 Q <|
kx (kk 201 Q) <|
ke (kY "are_nexts" 31) 205 Q <|
ke (kY "check_nexts" 32) 210 Q <|
ke (kY "stops_of" 33) 215 Q <|
ke (kY "turned" 34) 220 Q <|
kf [(.str "begins" 468), (.str "leads" 469), (.str "seen" 470), (.str "waiting" 471), (.str "place" 472)] (kY "reached" 35) 227 Q <|
kf [(.str "nexts" 479), (.str "begun" 480), (.str "ending" 481), (.str "place" 482)] (kY "check_ways" 36) 234 Q <|
ke (kY "steps_of" 37) 239 Q <|
kx (kS [] 0) <|
kx (kb "type.__prepare__" (.type "type")) <|
kx (kD (kQ Q 499 m5 "Plan" 118 [kE Q "__init__" 509 (.ref 252), kE Q "steps" 516 (.ref 259), kE Q "leads_to" 524 (.ref 266), kE Q "steps_into" 532 (.ref 273), kE Q "stops" 539 (.ref 280), kE Q "deeds" 546 (.ref 287), kE Q "names" 553 (.ref 294), kE Q "__static_attributes__" 557 (.ref 295)]) 11) <|
kx (kS [] 0) <|
kx (kt [(120, 4, 251), (131, 4, 258), (134, 4, 265), (139, 4, 272), (142, 4, 279), (145, 4, 286), (148, 4, 293)]) <|
kx (kl "Plan" 494 118 244) <|
kx (kr 246 243 m5) <|
ke (kZ "__init__" "Plan.__init__" (v6 (top 38) 0)) 251 Q <|
kf [(.str "self" 513)] (kZ "steps" "Plan.steps" (v6 (top 38) 1)) 258 Q <|
kf [(.str "self" 520), (.str "step" 521)] (kZ "leads_to" "Plan.leads_to" (v6 (top 38) 2)) 265 Q <|
kf [(.str "self" 528), (.str "place" 529)] (kZ "steps_into" "Plan.steps_into" (v6 (top 38) 3)) 272 Q <|
kf [(.str "self" 536)] (kZ "stops" "Plan.stops" (v6 (top 38) 4)) 279 Q <|
kf [(.str "self" 543)] (kZ "deeds" "Plan.deeds" (v6 (top 38) 5)) 286 Q <|
kf [(.str "self" 550)] (kZ "names" "Plan.names" (v6 (top 38) 6)) 293 Q <|
kx (kS [(.str "entries" 554), (.str "nexts" 555), (.str "rows" 556)] 0) <|
kx (kk 296 Q) <|
kx (kk 297 Q) <|
kx ⟨(.type "getset_descriptor"), none, .fields ([(.str "__dict__" 558), (.ref 297), (.builtin "function.__dict__"), (.builtin "function.__dict__#set")] : List Value).toArray, ([] : List (Option Value)).toArray⟩ <|
kx ⟨(.type "getset_descriptor"), none, .fields ([(.str "__weakref__" 560), (.ref 297), (.builtin "ExceptionGroup.__weakref__"), .none] : List Value).toArray, ([] : List (Option Value)).toArray⟩ <|
kx (ku 297) <|
kx (kb "object.__init_subclass__" (.ref 297)) <|
kf [(.str "plan" 570), (.str "place" 571), (.str "come_by" 572), (.str "order" 573), (.str "at" 574), (.str "target" 575)] (kY "pass_on" 40) 307 Q <|
kf [(.str "plan" 582), (.str "made" 583), (.str "broken" 584), (.str "come_by" 585), (.str "order" 586), (.str "place" 587), (.str "done" 588)] (kY "unready_steps" 41) 314 Q <|
kx (kS [] 0) <|
kx (kb "type.__prepare__" (.type "type")) <|
kx (kD (kQ Q 599 m6 "Ready" 169 [kE Q "__init__" 609 (.ref 327), kE Q "ready_at" 617 (.ref 334), kE Q "ready_behind" 626 (.ref 341), kE Q "ready_on" 634 (.ref 348), kE Q "begins_unready" 642 (.ref 355), kE Q "way_unready" 650 (.ref 362), kE Q "__static_attributes__" 654 (.ref 363)]) 10) <|
kx (kS [] 0) <|
kx (kt [(171, 4, 326), (177, 4, 333), (180, 4, 340), (186, 4, 347), (189, 4, 354), (192, 4, 361)]) <|
kx (kl "Ready" 594 169 319) <|
kx (kr 321 318 m6) <|
ke (kZ "__init__" "Ready.__init__" (v6 (top 42) 0)) 326 Q <|
kf [(.str "self" 613), (.str "place" 614)] (kZ "ready_at" "Ready.ready_at" (v6 (top 42) 1)) 333 Q <|
kf [(.str "self" 621), (.str "place" 622), (.str "row" 623)] (kZ "ready_behind" "Ready.ready_behind" (v6 (top 42) 2)) 340 Q <|
kf [(.str "self" 630), (.str "step" 631)] (kZ "ready_on" "Ready.ready_on" (v6 (top 42) 3)) 347 Q <|
kf [(.str "self" 638), (.str "step" 639)] (kZ "begins_unready" "Ready.begins_unready" (v6 (top 42) 4)) 354 Q <|
kf [(.str "self" 646), (.str "place" 647)] (kZ "way_unready" "Ready.way_unready" (v6 (top 42) 5)) 361 Q <|
kx (kS [(.str "come_by" 651), (.str "deed" 652), (.str "plan" 653)] 0) <|
kx (kk 364 Q) <|
kx (kk 365 Q) <|
kx ⟨(.type "getset_descriptor"), none, .fields ([(.str "__dict__" 655), (.ref 365), (.builtin "function.__dict__"), (.builtin "function.__dict__#set")] : List Value).toArray, ([] : List (Option Value)).toArray⟩ <|
kx ⟨(.type "getset_descriptor"), none, .fields ([(.str "__weakref__" 657), (.ref 365), (.builtin "ExceptionGroup.__weakref__"), .none] : List Value).toArray, ([] : List (Option Value)).toArray⟩ <|
kx (ku 365) <|
kx (kb "object.__init_subclass__" (.ref 365)) <|
kf [(.str "plan" 667), (.str "deed" 668), (.str "ends" 669), (.str "place" 670), (.str "row" 671)] (kY "unwanted_ends" 44) 375 Q <|
ke (kY "unwanted_steps" 45) 380 Q <| []
abbrev bd : List Stmt := behindTheImports P
abbrev en : Env := { scope := P.main.scope, locals := mainNs, globals := mainNs, cells := [], code := (.ref 13), frame := some 14 }
abbrev cE : Code := .body bd en
abbrev fB : List Frame := [topFrame ⟨0, 0, 0, 0⟩]
abbrev s0 (w : World) (os : OsState) : Shared := ⟨boot_heap w.params, Array.mk [], boot_drawn, boot_toks, os⟩
def sa (w : World) (os : OsState) : Shared := ((topGo treeTable P w 11 (some (.ref 6)) 12 (s0 w os) (topStub P)).map (·.1)).getD (s0 w os)
abbrev s1 (w : World) (os : OsState) : Shared := ⟨⟨Array.mk (h1 w.params), (boot_heap w.params).life⟩, Array.mk [], boot_drawn, 681, os⟩
abbrev rn (w : World) (os : OsState) : Option Shared := PySem.W.Fast.tw14082659384304107361 PySem.W.Fast.tw14364793385576792824 P w 11 (some (.ref 6)) 8130 (s1 w os) (restOf (bd.drop 46) en cE ⟨201, 0, 212, 18⟩ fB)
end
theorem go_a (w : World) (os : OsState) : topGo treeTable P w 11 (some (.ref 6)) 12 (s0 w os) (topStub P) = some (sa w os, ⟨denote treeTable cE, cE, ⟨0, 0, 0, 0⟩, fB⟩) := by kernel_rfl
theorem go_b (w : World) (os : OsState) : segRun treeTable P w 11 (some (.ref 6)) 1 1 (sa w os) (blockOf bd en cE ⟨0, 0, 0, 0⟩ fB) = some (.next, sa w os, cE, ⟨0, 0, 0, 0⟩) := by kernel_rfl
theorem go_c (w : World) (os : OsState) : segRun treeTable P w 11 (some (.ref 6)) 1 2831 (sa w os) (piecesOf (bd.take 46) en cE ⟨0, 0, 0, 0⟩ fB) = some (.next, s1 w os, cE, ⟨201, 0, 212, 18⟩) := by kernel_rfl
theorem go_d (w : World) (os : OsState) (x : Shared) (h : rn w os = some x) : topRun treeTable P w 11 (some (.ref 6)) 10974 (s0 w os) (topStub P) = some x := by
  have h : topRun treeTable P w 11 (some (.ref 6)) 8130 (s1 w os) (restOf (bd.drop 46) en cE ⟨201, 0, 212, 18⟩ fB) = some x := by rw [PySem.W.Fast.te14082659384304107361, PySem.W.Fast.te14364793385576792824]; exact h
  have h := piece_app (go_c w os) h
  rw [List.take_append_drop] at h
  exact go_top (go_a w os) (piece_block (go_b w os) h)
theorem left_a (w : World) (os : OsState) : (rn w os).map (fun s₁ => staticsOk (importedModules P.main.body) (boot_heap w.params) s₁.heap && namesBound P s₁.heap && gensDone s₁ && laidKept (boot_heap w.params) s₁.heap) = some true := by kernel_rfl
theorem left_b (w : World) (os : OsState) : (rn w os).map (PySem.W.Fast.tw4187177175401517315 q loose (importedModules P.main.body) (fun s => xlAt q [] s && recOk (RowW.records row.row.toRowW) s) true) = some (openGood q loose) := by kernel_rfl
theorem left_c1 (w : World) (os : OsState) : (rn w os).map (fun s => adr1.map s.heap.get?) = some ((K1 w.params).map fun p => some p.2) := by kernel_rfl
theorem left_c2 (w : World) (os : OsState) : (rn w os).map (fun s => adr2.map s.heap.get?) = some ((K2 w.params).map fun p => some p.2) := by kernel_rfl
theorem left_c3 (w : World) (os : OsState) : (rn w os).map (fun s => adr3.map s.heap.get?) = some ((K3 w.params).map fun p => some p.2) := by kernel_rfl
theorem left_c4 (w : World) (os : OsState) : (rn w os).map (fun s => adr4.map s.heap.get?) = some ((K4 w.params).map fun p => some p.2) := by kernel_rfl
theorem left_e (w : World) (os : OsState) : (rn w os).map (Hook.obs hook) = some (Hook.val hook w) := by
  obtain ⟨s, h1, h2⟩ := Option.map_eq_some_iff.mp (left_c1 w os)
  have h3 := left_c2 w os
  have h4 := left_c3 w os
  have h5 := left_c4 w os
  rw [h1] at h3 h4 h5 ⊢
  have h3 : adr2.map s.heap.get? = _ := Option.some.inj h3
  have h4 : adr3.map s.heap.get? = _ := Option.some.inj h4
  have h5 : adr4.map s.heap.get? = _ := Option.some.inj h5
  show some ((adr1 ++ (adr2 ++ (adr3 ++ adr4))).map s.heap.get?) = some ((K1 w.params ++ (K2 w.params ++ (K3 w.params ++ K4 w.params))).map fun p => some p.2)
  rw [List.map_append, List.map_append, List.map_append, List.map_append, List.map_append, List.map_append, h2, h3, h4, h5]
theorem left : LeftO P q loose (fun s => xlAt q [] s && recOk (RowW.records row.row.toRowW) s) (Hook.obs hook) (Hook.val hook) 10974 :=
  left_one (m₀ := 11) (ann := (some (.ref 6))) (r := rn) (by kernel_rfl) (by kernel_rfl) (fun s => by kernel_rfl) (fun w => by kernel_rfl) go_d left_a (by rw [PySem.W.Fast.te4187177175401517315]; exact left_b) left_e
theorem said0 : row.wellSaid = true := by
  rw [PySem.W.Fast.te9446332074065402090]
  kernel_rfl
theorem fin (hc : ∀ d : DefRec, d.name = "law" → d.params.defaults = [] → WalkO q loose (XL q []) (Hook.says hook) row.row.toRowW d [] (fun f vs => PySem.call f vs)) : row.Holds := by
  refine holds_law (l := row) said0 fun said => ?_
  refine holds_open (q := q) (loose := loose) (Xt := fun s => xlAt q [] s && recOk (RowW.records row.row.toRowW) s) (XP := XL q []) (Yf := Hook.obs hook) (Ya := Hook.val hook) (YP := Hook.says hook) (N := 10974) left (Hook.of hook) (Hook.keeps hook) (fun s e => xl_of s (Bool.and_eq_true_iff.mp e).1) XL.keeps (by rfl) (by rfl) (by rfl) (fun s e => recFacts_of (Bool.and_eq_true_iff.mp e).2) (by rfl) said (by decide +kernel) ⟨rfl, rfl, rfl, rfl, rfl, by decide +kernel⟩ ?hw (hc _ rfl rfl)
  case hw => w_witness2
end HD
set_option Elab.async false
set_option linter.all false
set_option maxRecDepth 100000
namespace L2
open PySem PySem.Spec PyProof.Rows
variable{us:List Value}{i t':Nat}{u:Value}{C a b dx f:Addr}{w:World}{h h':Heap}{pins:List (Addr×Obj)}{s:k8}{c e tg:Expr}{p pos pos':Pos}{Q:Value->k8->Prop}{es:List Expr}{ps:List Str}{m:Str->Option Value}
abbrev Key:=Sum Int Str
def b5b:Key->Value->Bool
 | .inl k,v=>Value.isInt k v
 | .inr x,v=>Value.isStrOf x v
def d3x(w:World):Key->Int
 | .inl k=>hashInt k
 | .inr x=>hashStr w x
theorem a0R:∀ {k:Key} {v:Value},b5b k v=true->(∃i t,k=Sum.inl i/\v=Value.int i t)\/(∃x t,k=Sum.inr x/\v=Value.str x t)
 | .inl i,v,h=>by
  obtain⟨t,e⟩:=Value.isInt_shape (k:=i) (v:=v) h
  exact .inl ⟨i,t,rfl,e⟩
 | .inr x,v,h=>by
  obtain⟨t,e⟩:=Value.isStrOf_shape (x:=x) (v:=v) h
  exact .inr ⟨x,t,rfl,e⟩
theorem c3v(i:Int)(t:Tok):b5b (.inl i) (.int i t)=true:=by simp[b5b,Value.isInt]
theorem c3u(x:Str)(t:Tok):b5b (.inr x) (.str x t)=true:=by simp[b5b,Value.isStrOf]
theorem d1f(a b:Int):decide ((Sum.inl a:Key)=Sum.inl b)=(a == b):=by
 by_cases e:a=b
 ·subst e;simp
 ·have h:¬(Sum.inl a:Key)=Sum.inl b:=fun q=>e (Sum.inl.inj q)
  rw[d5k h]
  exact(beq_eq_false_iff_ne.mpr e).symm
theorem d1c(a b:Str):decide ((Sum.inr a:Key)=Sum.inr b)=decide (a=b):=by
 by_cases e:a=b
 ·subst e;simp
 ·have h:¬(Sum.inr a:Key)=Sum.inr b:=fun q=>e (Sum.inr.inj q)
  rw[d5k h,d5k e]
theorem d1e(a:Int)(b:Str):decide ((Sum.inl a:Key)=Sum.inr b)=false:=d5k (fun q=>nomatch q)
theorem d1d(a:Str)(b:Int):decide ((Sum.inr a:Key)=Sum.inl b)=false:=d5k (fun q=>nomatch q)
def O2(prog:D0)(w:World):PySem.KeyKind prog w Key where
 is:=b5b
 hash:=d3x w
 inj:=fun v a b ha hb=>by
  rcases a0R ha with ⟨i,t,rfl,rfl⟩ | ⟨x,t,rfl,rfl⟩
  ·rcases a0R hb with ⟨j,u,rfl,e⟩ | ⟨y,u,rfl,e⟩
   ·injection e with e1 _;rw[e1]
   ·exact nomatch e
  ·rcases a0R hb with ⟨j,u,rfl,e⟩ | ⟨y,u,rfl,e⟩
   ·exact nomatch e
   ·injection e with e1 _;rw[e1]
 byValue:=fun k v h=>by
  rcases a0R h with ⟨i,t,rfl,rfl⟩ | ⟨x,t,rfl,rfl⟩ <;> rfl
 pyHash:=fun hv h=>by
  rcases a0R hv with ⟨i,t,rfl,rfl⟩ | ⟨x,t,rfl,rfl⟩
  ·exact wpAny_pyHash_int h
  ·exact wpAny_pyHash_str h
 eqBool:=fun hu hv h=>by
  rcases a0R hu with ⟨i,t,rfl,rfl⟩ | ⟨x,t,rfl,rfl⟩
  ·rcases a0R hv with ⟨j,u,rfl,rfl⟩ | ⟨y,u,rfl,rfl⟩
   ·rw[d1f]at h;exact wpAny_eqBool_int h
   ·rw[d1e]at h;exact SeqAt.EqAt.int_str i t y u _ _ _ _ h
  ·rcases a0R hv with ⟨j,u,rfl,rfl⟩ | ⟨y,u,rfl,rfl⟩
   ·rw[d1d]at h;exact SeqAt.EqAt.str_int x t j u _ _ _ _ h
   ·rw[d1c]at h;exact wpAny_eqBool_str h
 «strs» := fun k x t v h=>by
  rcases a0R h with ⟨i,u,rfl,e⟩ | ⟨y,u,rfl,e⟩
  ·exact nomatch e
  ·injection e with e1 _
   subst e1
   cases v <;> rfl
theorem b9y(prog:D0)(w:World)(i:Int)(t:Tok):(O2 prog w).is (.inl i) (.int i t)=true:=c3v i t
theorem b9x(prog:D0)(w:World)(x:Str)(t:Tok):(O2 prog w).is (.inr x) (.str x t)=true:=c3u x t
inductive V where
 | non | bl (b:Bool) | int (i:Int) | str (x:Str) | byt (b:Array UInt8) | flt (b:UInt64) | ref (a:Addr) | ty (n:String)
 deriving DecidableEq
variable{v y:V}{xs:List V}{kvs:List (Key×V)}
def L5:V->Value->Prop
 | .non,u=>u=Value.none
 | .bl b,u=>u=Value.bool b
 | .int i,u=>∃t,u=Value.int i t
 | .str x,u=>∃t,u=Value.str x t
 | .byt b,u=>∃t,u=Value.bytes b t
 | .flt b,u=>∃t,u=Value.float b t
 | .ref a,u=>u=Value.ref a
 | .ty n,u=>u=Value.type n
abbrev O6:List V->List Value->Prop:=Paired L5
theorem O6.length(r:O6 xs us):xs.length=us.length:=Paired.length r
theorem O6.get:∀ {xs:List V} {us:List Value} {i:Nat} {x:V},O6 xs us->xs[i]? = some x->∃u,us[i]? = some u/\L5 x u
 | _,_,_,_,.nil,e=>by simp at e
 | _,_,0,_,.cons r _,e=>by simp at e;subst e;exact⟨_,rfl,r⟩
 | _,_,i+1,x,.cons _ t,e=>by
  obtain⟨u,h1,h2⟩:=O6.get (i:=i) (x:=x) t (by simpa using e)
  exact⟨u,by simpa using h1,h2⟩
theorem O6.set{x:V}(r:L5 x u):∀ {xs:List V} {us:List Value} (i:Nat),O6 xs us->O6 (xs.set i x) (us.set i u)
 | _,_,_,.nil=>.nil
 | _,_,0,.cons _ t=>.cons r t
 | _,_,i+1,.cons q t=>.cons q (O6.set r i t)
theorem O6.append:∀ {xs ys:List V} {us ws:List Value},O6 xs us->O6 ys ws->O6 (xs++ys) (us++ws)
 | _,_,_,_,.nil,s=>s
 | _,_,_,_,.cons r t,s=>.cons r (O6.append t s)
theorem O6.take:∀ {xs:List V} {us:List Value} (n:Nat),O6 xs us->O6 (xs.take n) (us.take n)
 | _,_,0,_=>.nil
 | _,_,_+1,.nil=>.nil
 | _,_,n+1,.cons r t=>.cons r (O6.take n t)
theorem O6.drop:∀ {xs:List V} {us:List Value} (n:Nat),O6 xs us->O6 (xs.drop n) (us.drop n)
 | _,_,0,r=>r
 | _,_,_+1,.nil=>.nil
 | _,_,n+1,.cons _ t=>O6.drop n t
def a9v:Option V->Option Value->Prop
 | some v,some u=>L5 v u
 | none,none=>True
 | _,_=>False
def KV{κ:Type}:List (κ×V)->List (κ×Value)->Prop:=Paired fun(p:κ×V) (q:κ×Value)=>p.1=q.1/\L5 p.2 q.2
def kV:Key->V
 | .inl i=>.int i
 | .inr x=>.str x
inductive HO where
 /-- a list -/
 | lst (xs:List V)
 /-- a tuple (never changes) -/
 | tup (xs:List V)
 /-- a dict whose keys are ints and texts;one whose keys are tuples of ints and texts (the empty one is both) -/
 | dK (kvs:List (Key×V)) | dT (kvs:List (List Key×V))
 /-- a set of ints: its members,its size -/
 | set (S:Int->Bool) (n:Nat)
 /-- an instance of the class at C,its dict at dx,its attributes -/
 | ins (C dx:Addr) (fs:List (Str×V))
 /-- the dict of the instance at x -/
 | own (x:Addr)
 /-- the dict of an exception -/
 | xd (fs:List (Str×V))
 /-- a bound method,f of x -/
 | met (f x:Addr)
 /-- a range object lo,lo+1,.. below hi -/
 | rng (lo hi:Int)
 /-- a thing that is known to the object (the script;a dict while a loop walks it): read,never written while it is so -/
 | frz (o:Obj) (u:HO)
 /-- a code object's table -/
 | tbl (ps:Array Value)
 /-- any other thing,by what is true of its one object (a def of one's own: SetO a S n:=HO.ext fun h=>..) -/
 | ext (φ:Heap->Prop)
variable{o:HO}
abbrev Hp:=Addr->Option HO
variable{H H':Hp}
def upd(H:Hp)(a:Addr)(o:HO):Hp:=fun b=>if b=a then some o else H b
theorem c9:upd H a o a=some o:=by unfold upd;rw[if_pos rfl]
theorem i9(h:b≠a):upd H a o b=H b:=by unfold upd;rw[if_neg h]
theorem b3y{u:HO}:upd (upd H a o) a u=upd H a u:=by
 funext b;unfold upd;split <;> rfl
theorem K0{u:HO}(h:H a=some o)(h':H b=some u)(d:o≠u):a≠b:=by
 intro e;subst e;rw[h]at h';exact d (Option.some.inj h')
theorem c8(h:H a=some o)(h':H b=none):a≠b:=by
 intro e;subst e;rw[h]at h';cases h'
section
variable (P:D0)(w:World)
def a0u(H:Hp)(h:Heap)(a:Addr):HO->Prop
 | .lst xs=>xs.length<=u9/\∃(its:List Value) (n:Nat),O6 xs its/\h.get? a=some { cls:=.type "list",data:=.seq its.toArray n }
 | .tup xs=>xs.length<=u9/\∃its:List Value,O6 xs its/\IsTup h a its.toArray
 | .dK kvs=>kvs.length<=u9/\(a == a1U)=false/\∃vs,KV kvs vs/\h.DictOf (O2 P w) a vs
 | .dT kvs=>kvs.length<=u9/\(a == a1U)=false/\∃xs:List (List Key×Addr×Value),
   Paired (fun(p:List Key×V) (q:List Key×Addr×Value)=>p.1=q.1/\H q.2.1=some (.tup (p.1.map kV))/\L5 p.2 q.2.2) kvs xs /\
   ∃o es ep,h.get? a=some o/\o.ExactDict/\o.data=.dict es ep/\es.toList=xs.map (c8P (a5c (O2 P w)))/\(xs.map (·.1)).Nodup
 | .set S n=>h.SetOf (intKind P w) a S n
 | .ins C dx fs=>H dx=some (.own a)/\fs.length<=1000/\dx≠a/\h.get? a=some (a1r C dx) /\
   ∃mA,h.Ns1 dx mA/\(∀f,a9v (fs.lookup f) (mA f))/\PySem.Within mA (fs.map (·.1))
 | .own _=>∃o,h.get? a=some o
 | .xd fs=>∃mA,h.Ns1 a mA/\∀f,a9v (fs.lookup f) (mA f)
 | .rng lo hi=>∃t u v,h.get? a=some { cls:=.type "range",data:=.fields #[.int lo t,.int hi u,.int 1 v] }
 | .frz o u=>h.get? a=some o/\a0u H h a u
 | .tbl ps=>h.get? a=some { cls:=.none,data:=.fields ps }
 | .met f x=>h.get? a=some (b2J (.ref f) (.ref x))
 | .ext φ=>φ h/\(∃o,h.get? a=some o)/\∀h1 h2:Heap,φ h1->(∀o,h1.get? a=some o->h2.get? a=some o)->φ h2
def HOk(H:Hp)(h:Heap):Prop:=∀a o,H a=some o->a0u P w H h a o
end
section
variable {P:D0}
theorem a0u.lt(x:a0u P w H h a o):a<h.objs.size:=by
 cases o with
 | lst xs=>obtain⟨_,_,_,_,e⟩:=x;exact l9 e
 | tup xs=>obtain⟨_,_,_,p⟩:=x;exact p.lt
 | dK kvs=>obtain⟨_,_,_,_,o,_,_,e,_⟩:=x;exact l9 e
 | dT kvs=>obtain⟨_,_,_,_,o,_,_,e,_⟩:=x;exact l9 e
 | set S n=>obtain⟨o,_,_,_,e,_⟩:=x;exact l9 e
 | ins C dx fs=>obtain⟨_,_,_,e,_⟩:=x;exact l9 e
 | own y=>obtain⟨_,e⟩:=x;exact l9 e
 | xd fs=>obtain⟨_,⟨_,_,_,e,_⟩,_⟩:=x;exact l9 e
 | rng lo hi=>obtain⟨_,_,_,e⟩:=x;exact l9 e
 | frz ob u=>obtain⟨e,_⟩:=x;exact l9 e
 | tbl ps=>exact l9 (show h.get? a=some _ from x)
 | met f y=>exact l9 (show h.get? a=some _ from x)
 | ext φ=>obtain⟨_,⟨_,e⟩,_⟩:=x;exact l9 e
theorem Paired.mapP{α β:Type}{F G:α->β->Prop}:∀ {l₁:List α} {l₂:List β},Paired F l₁ l₂->(∀a b,F a b->G a b)->Paired G l₁ l₂
 | _,_,.nil,_=>.nil
 | _,_,.cons r t,f=>.cons (f _ _ r) (Paired.mapP t f)
theorem a0u.stay(x:a0u P w H h a o)(k:∀b u,(b=a\/H b=some (.own a))->h.get? b=some u->h'.get? b=some u)
  (ho:∀b,H b=some (.own a)->H' b=some (.own a)) (ht:∀b xs,H b=some (.tup xs)->H' b=some (.tup xs)):a0u P w H' h' a o:=by
 induction o with
 | lst xs=>obtain⟨z,its,n,r,e⟩:=x;exact⟨z,its,n,r,k _ _ (.inl rfl) e⟩
 | tup xs=>obtain⟨z,its,r,ob,e,c⟩:=x;exact⟨z,its,r,ob,k _ _ (.inl rfl) e,c⟩
 | dK kvs=>obtain⟨z,y,vs,r,ob,es,ep,e,c⟩:=x;exact⟨z,y,vs,r,ob,es,ep,k _ _ (.inl rfl) e,c⟩
 | dT kvs=>
  obtain⟨z,y,xs,r,ob,es,ep,e,c⟩:=x
  exact⟨z,y,xs,Paired.mapP r fun p q z=>⟨z.1,ht _ _ z.2.1,z.2.2⟩,ob,es,ep,k _ _ (.inl rfl) e,c⟩
 | set S n=>obtain⟨ob,es,ep,t,e,c⟩:=x;exact⟨ob,es,ep,t,k _ _ (.inl rfl) e,c⟩
 | ins C dx fs=>
  obtain⟨d,z,ne,e,mA,⟨od,es,ep,e2,c⟩,r⟩:=x
  exact⟨ho _ d,z,ne,k _ _ (.inl rfl) e,mA,⟨od,es,ep,k _ _ (.inr d) e2,c⟩,r⟩
 | own y=>obtain⟨ob,e⟩:=x;exact⟨ob,k _ _ (.inl rfl) e⟩
 | xd fs=>obtain⟨mA,⟨od,es,ep,e,c⟩,r⟩:=x;exact⟨mA,⟨od,es,ep,k _ _ (.inl rfl) e,c⟩,r⟩
 | rng lo hi=>obtain⟨t,u,v,e⟩:=x;exact⟨t,u,v,k _ _ (.inl rfl) e⟩
 | frz ob u ih=>obtain⟨e,q⟩:=x;exact⟨k _ _ (.inl rfl) e,ih q⟩
 | tbl ps=>
  have e:h.get? a=some { cls:=.none,data:=.fields ps }:=x
  show h'.get? a=some { cls:=.none,data:=.fields ps }
  exact k a _ (.inl rfl) e
 | met f y=>
  have e:h.get? a=some (b2J (.ref f) (.ref y)):=x
  show h'.get? a=some (b2J (.ref f) (.ref y))
  exact k a _ (.inl rfl) e
 | ext φ=>obtain⟨p,⟨o,e⟩,st⟩:=x;exact⟨st _ _ p fun o q=>k _ _ (.inl rfl) q,⟨o,k _ _ (.inl rfl) e⟩,st⟩
theorem HOk.lt(x:HOk P w H h)(e:H a=some o):a<h.objs.size:=(x a o e).lt
theorem HOk.fresh(x:HOk P w H h)(e:h.objs.size<=a):H a=none:=by
 cases q:H a with
 | none=>rfl
 | some u=>exact absurd (D7 (x.lt q) e) (Q8 _)
theorem HOk.kept(x:HOk P w H h)(k:∀b u,h.get? b=some u->h'.get? b=some u):HOk P w H h':=fun a o e=>
 (x a o e).stay (fun b u _ q=>k b u q) (fun _ q=>q) fun _ _ q=>q
theorem HOk.laid(x:HOk P w H h)(k:∀b u,h.get? b=some u->h'.get? b=some u)(hp:h.objs.size<=a)(new:a0u P w (upd H a o) h' a o):HOk P w (upd H a o) h':=fun b u e=>by
 have hn:=x.fresh hp
 by_cases hb:b=a
 ·subst hb;rw[c9]at e;cases e;exact new
 ·rw[i9 hb]at e
  exact(x b u e).stay (fun c v _ q=>k c v q) (fun c q=>by rw[i9 (c8 q hn)];exact q) fun c xs q=>by rw[i9 (c8 q hn)];exact q
end
def Rd(H:Hp)(a:Addr)(u:HO):Prop:=H a=some u\/∃o,H a=some (.frz o u)
theorem Rd.ok{P:D0}{u:HO}(r:Rd H a u)(x:HOk P w H h):a0u P w H h a u:=by
 rcases r with r | ⟨o,r⟩
 ·exact x a u r
 ·obtain⟨_,q⟩:=x a _ r
  exact q
def Mut:Option HO->Prop
 | some (.lst _)=>True
 | some (.dK _)=>True
 | some (.dT _)=>True
 | some (.set _ _)=>True
 | some (.ins _ _ _)=>True
 | some (.ext _)=>True
 | _=>False
section
variable {P:D0}{x e:Addr}{o':HO}
theorem HOk.write(ok:HOk P w H h)(mu:Mut (H x))(he:e=x\/H e=some (.own x))(k:∀b u,b≠e->h.get? b=some u->h'.get? b=some u)(heo:∃u,h'.get? e=some u)
  (new:a0u P w (upd H x o') h' x o'):HOk P w (upd H x o') h':=fun b u q=>by
 have nown:∀c y,H c=some (.own y)->c≠x:=fun c y r z=>by subst z;rw[r]at mu;exact mu
 have ntup:∀c xs,H c=some (.tup xs)->c≠x:=fun c xs r z=>by subst z;rw[r]at mu;exact mu
 by_cases hb:b=x
 ·subst hb;rw[c9]at q;cases q;exact new
 ·rw[i9 hb]at q
  by_cases hbe:b=e
  ·have q':H b=some (.own x):=by
    rcases he with z | z
    ·exact absurd (hbe.trans z) hb
    ·rw[hbe];exact z
   rw[q]at q';cases q'
   obtain⟨v,hv⟩:=heo
   exact⟨v,by rw[hbe];exact hv⟩
  ·refine(ok b u q).stay (fun c v hc r=>k c v ?_ r) (fun c r=>by rw[i9 (nown c b r)];exact r) fun c xs r=>by rw[i9 (ntup c xs r)];exact r
   rcases hc with rfl | hc
   ·exact hbe
   ·rintro rfl
    rcases he with z | z
    ·exact nown c b hc z
    ·rw[hc]at z;cases z;exact hb rfl
end
structure Un(fs ex:List Addr)(H H':Hp)(h h':Heap):Prop where
 keep:∀b o,h.get? b=some o->H b=none->b∉fs->b∉ex->h'.get? b=some o
 slot:∀b o,h.get? b=some o->H b=none->b∈fs->b∉ex->∃sl,h'.get? b=some { o with slots:=sl }
 free:∀b o,h.get? b=some o->H b=none->b∉ex->H' b=none
 there:∀b o,h.get? b=some o->b∉ex->∃o',h'.get? b=some o'
 tups:∀b xs,H b=some (.tup xs)->H' b=some (.tup xs)
 frzs:∀b o u,H b=some (.frz o u)->H' b=some (.frz o u)
 tbls:∀b ps,H b=some (.tbl ps)->∃more,H' b=some (.tbl (ps++more))
section
variable {fs fs' ex ex':List Addr}{H1 H2:Hp}{h1 h2:Heap}{x e:Addr}
theorem Un.any(u:Un fs ex H H1 h h1){ob:Obj}(q:h.get? b=some ob)(n:H b=none)(hx:b∉ex):∃sl,h1.get? b=some { ob with slots:=sl }:=by
 by_cases hb:b∈fs
 ·exact u.slot b ob q n hb hx
 ·exact⟨ob.slots,u.keep b ob q n hb hx⟩
theorem Un.kept(k:∀b u,h.get? b=some u->h'.get? b=some u):Un fs ex H H h h':=
 ⟨fun b ob q _ _ _=>k b ob q,fun b ob q _ _ _=>⟨ob.slots,k b ob q⟩,fun _ _ _ n _=>n,fun b ob q _=>⟨ob,k b ob q⟩,fun _ _ q=>q,fun _ _ _ q=>q,fun _ ps q=>⟨#[],by rw[q];simp⟩⟩
theorem Un.refl:Un fs ex H H h h:=Un.kept fun _ _ q=>q
theorem Un.laid(k:∀b u,h.get? b=some u->h'.get? b=some u)(hp:h.objs.size<=a)(hn:H a=none):Un fs ex H (upd H a o) h h' where
 keep:=fun b u q _ _ _=>k b u q
 slot:=fun b u q _ _ _=>⟨u.slots,k b u q⟩
 free:=fun b u q n _=>by rw[i9 (z9 (D7 (l9 q) hp))];exact n
 there:=fun b u q _=>⟨u,k b u q⟩
 tups:=fun b xs q=>by rw[i9 (c8 q hn)];exact q
 frzs:=fun b u xs q=>by rw[i9 (c8 q hn)];exact q
 tbls:=fun b ps q=>⟨#[],by rw[i9 (c8 q hn),q];simp⟩
theorem Un.write(mu:Mut (H x))(he:e=x\/H e=some (.own x))(k:∀b u,b≠e->h.get? b=some u->h'.get? b=some u)(heo:∃u,h'.get? e=some u):Un fs ex H (upd H x o) h h':=by
 have hx:∀b,H b=none->b≠x:=fun b n z=>by subst z;rw[n]at mu;exact mu
 have hb:∀b,H b=none->b≠e:=fun b n z=>by
  subst z
  rcases he with r | r
  ·exact hx b n r
  ·rw[n]at r;cases r
 have hm:∀b u,H b=some u->¬Mut (some u)->b≠x:=fun b u q nm z=>by subst z;rw[q]at mu;exact nm mu
 refine⟨fun b u q n _ _=>k b u (hb b n) q,fun b u q n _ _=>⟨u.slots,k b u (hb b n) q⟩,fun b u q n _=>by rw[i9 (hx b n)];exact n,fun b u q _=>?_,
  fun b xs q=>by rw[i9 (hm b _ q fun z=>z)];exact q,fun b u xs q=>by rw[i9 (hm b _ q fun z=>z)];exact q,fun b ps q=>⟨#[],by rw[i9 (hm b _ q fun z=>z),q];simp⟩⟩
 by_cases hbe:b=e
 ·subst hbe;exact heo
 ·exact⟨u,k b u hbe q⟩
end
def trk(h:Heap)(H:Hp):List Addr:=(t8 h.objs.size).filter fun a=>(H a).isSome
def b7V(h:Heap)(H:Hp):Heap:=PySem.W.hideAll h (trk h H)
theorem c3z(h:Heap)(H:Hp):(b7V h H).objs.size=h.objs.size:=PySem.W.hideAll_size _ _
theorem c6j{o:Obj}(e:h.get? b=some o)(n:H b=none):(b7V h H).get? b=some o:=
 PySem.W.hideAll_get _ e fun hm=>by
  have q:(H b).isSome=true:=(L9.mp hm).2
  rw[n]at q;simp at q
theorem c8f{o:Obj}(e:(b7V h H).get? b=some o):h.get? b=some o/\H b=none:=by
 have e':h.get? b=some o:=PySem.W.of_hideAll (trk h H) e
 refine⟨e',?_⟩
 cases q:H b with
 | none=>rfl
 | some x=>
  have hm:b∈trk h H:=L9.mpr ⟨Z8.mpr (l9 e'),by simp[q]⟩
  have z:(b7V h H).get? b=none:=PySem.W.hideAll_none (trk h H) hm
  rw[z]at e;cases e
def c8E(g h:Heap)(L:Addr):List (Addr×Obj):=(t8 h.objs.size).filterMap fun a=>if a=L\/(g.get? a).isSome=true then none else (h.get? a).map fun o=>(a,o)
def a9q(g h:Heap)(L d:Addr):List (Addr×Obj):=(c8E g h L).filter fun p=>decide (p.1≠d)
structure Mod(K:Fg)(mg:Str->Option Value)(base:Heap):Prop where
 kin:K.In base
 glob:base.Ns A2 mg
 blt:∃mb,base.Ns builtinsNs mb/\∀x:Str,x ≠ "__name__" -> mb x=a4b x
 nolimit:base.NoLimit
structure Cx where
 prog:D0
 w:World
 K:Fg
 mg:Str->Option Value
 base:Heap
 A:U8
 N:List Str
 s₀:k8
 H₀:Hp
 env:Env
 outer:List Env
 stack:List Env
 ex:List Addr
 fn:Str->Bool
 calm:Bool
 pn:List (Addr×Obj)
 xe:Value->k8->Prop
variable{X:Cx}
def frs(l:List Env):List Addr:=l.filterMap (·.frame)
abbrev Cx.fs(X:Cx):List Addr:=frs X.outer
def Vis(sc:Scope)(x:Str):Prop:=sc.names.lookup x=some .local\/sc.names.lookup x=some .cell\/sc.names.lookup x=some .free
def Loc(sc:Scope)(x:Str):Prop:=sc.names.lookup x=some .local\/sc.names.lookup x=some .cell
def d3G(env:Env)(h:Heap)(m:Str->Option Value)(x:Str)(u:Value):Prop:=
 (env.kindOf x=some .local/\m x=some u)\/((env.kindOf x=some .cell\/env.kindOf x=some .free)/\∃c,env.cells.lookup x=some c/\h.IsCell c (some u))
structure Cx.Ok(X:Cx):Prop where
 mod:Mod X.K X.mg X.base
 kind:X.env.scope.kind=.function
 glob:X.env.globals=A2
 blt:X.env.builtins=builtinsNs
 above:X.s₀.heap.objs.size<=X.env.locals
 inj:∀x y c,X.env.cells.lookup x=some c->X.env.cells.lookup y=some c->x=y
 has:∀x,(X.env.kindOf x=some .cell\/X.env.kindOf x=some .free)->∃c,X.env.cells.lookup x=some c
 cab:∀x c,X.fn x=true->X.env.cells.lookup x=some c->X.s₀.heap.objs.size<=c
 hd:X.calm=true->X.A.handled=none
 frames:X.A.frames=some X.stack
 stk:X.stack=X.outer\/(X.stack=X.env::X.outer/\X.env.frame=some X.env.locals)
 exf:∀b∈X.ex,b≠X.env.locals/\∀x c,X.env.cells.lookup x=some c->c≠b
 bs:∀b o,X.base.get? b=some o->X.s₀.heap.get? b=some o/\X.H₀ b=none
 bsz:X.base.objs.size<=X.s₀.heap.objs.size
 noex:∀b o,X.base.get? b=some o->b∉X.ex
 exfs:∀b∈X.ex,b∉X.fs
 funs:X.s₀.heap.FunFrames X.base X.outer
 frf:∀b∈X.fs,X.H₀ b=none
structure Inv(X:Cx)(pins:List (Addr×Obj))(σ:List (Option V))(H:Hp)(s:k8):Prop where
 ok:X.Ok
 os:s.os=X.s₀.os
 bare:b6U s.gens
 base:Un X.fs X.ex X.H₀ H X.s₀.heap s.heap
 loc:∃m,s.heap.Ns X.env.locals m/\∀(i:Nat) (x:Str) (v:V),X.N[i]? = some x->σ[i]? = some (some v)->Vis X.env.scope x->∃u,L5 v u/\d3G X.env s.heap m x u
 cell:∀x c,X.env.cells.lookup x=some c->∃v,s.heap.IsCell c v
 free:H X.env.locals=none
 freeC:∀x c,X.env.cells.lookup x=some c->H c=none
 pin:∀p∈X.pn++pins,s.heap.get? p.1=some p.2/\H p.1=none/\p.1≠X.env.locals/\p.1∉X.fs/\∀v,p.2.data≠.cell v
 hok:HOk X.prog X.w H s.heap
 len:σ.length=X.N.length
section
variable {σ:List (Option V)}
theorem Cx.Ok.nofr(ok:X.Ok){o:Obj}(e:X.base.get? b=some o):b∉X.fs:=fun hb=>by
 have:=(ok.funs.mem hb).1
 rw[e]at this;cases this
theorem Inv.bs(I:Inv X pins σ H s):∀b o,X.base.get? b=some o->s.heap.get? b=some o/\H b=none:=fun b o e=>
 ⟨I.base.keep b o (I.ok.bs b o e).1 (I.ok.bs b o e).2 (I.ok.nofr e) (I.ok.noex b o e),I.base.free b o (I.ok.bs b o e).1 (I.ok.bs b o e).2 (I.ok.noex b o e)⟩
theorem Inv.bk(I:Inv X pins σ H s):∀b o,X.base.get? b=some o->s.heap.get? b=some o:=fun b o e=>(I.bs b o e).1
theorem Inv.mod(I:Inv X pins σ H s):Mod X.K X.mg X.base:=I.ok.mod
theorem Inv.kIn(I:Inv X pins σ H s):X.K.In s.heap:=I.ok.mod.kin.keeps I.bk
theorem Inv.lt(I:Inv X pins σ H s):X.env.locals<s.heap.objs.size:=let⟨_,hn,_⟩:=I.loc;hn.lt
theorem Inv.sz(I:Inv X pins σ H s):X.s₀.heap.objs.size<=s.heap.objs.size:=D4 I.ok.above (c4d I.lt)
theorem Inv.nofs(I:Inv X pins σ H s)(h:s.heap.objs.size<=a):a∉X.fs:=fun hb=>by
 obtain⟨_,o,ho,_⟩:=I.ok.funs.mem hb
 exact absurd (D7 (l9 ho) (D4 I.sz h)) (Q8 _)
theorem Inv.cne(I:Inv X pins σ H s):∀x c,X.env.cells.lookup x=some c->c≠X.env.locals:=fun x c e z=>by
 obtain⟨v,o,ho,hd⟩:=I.cell x c e
 obtain⟨m,⟨o',es,ep,ho',hd',_⟩,_⟩:=I.loc
 rw[z,ho']at ho;cases ho;rw[hd']at hd;cases hd
theorem Inv.funs(I:Inv X pins σ H s):s.heap.FunFrames X.base X.outer:=by
 have all:∀(l:List Env),(∀b∈frs l,b∈X.fs)->X.s₀.heap.FunFrames X.base l->s.heap.FunFrames X.base l:=by
  intro l
  induction l with
  | nil=>intro _ _;trivial
  | cons env r ih=>
   intro hs hl
   obtain⟨hk,⟨L,o,hf,hn,ho,hd⟩,hr⟩:=hl
   have hL:L∈X.fs:=hs L (by unfold frs;rw[b1E,hf];exact X2)
   obtain⟨sl,e⟩:=I.base.slot L o ho (I.ok.frf L hL) hL fun z=>I.ok.exfs L z hL
   exact⟨hk,⟨L,_,hf,hn,e,hd⟩,ih (fun b hb=>hs b (by unfold frs;rw[b1E,hf];exact I0 _ hb)) hr⟩
 exact all X.outer (fun _ hb=>hb) I.ok.funs
theorem Inv.stack(I:Inv X pins σ H s):s.heap.FunFrames X.base X.stack:=by
 rcases I.ok.stk with e | ⟨e,hf⟩
 ·rw[e];exact I.funs
 ·rw[e]
  obtain⟨m,hn,_⟩:=I.loc
  refine .cons (by rw[I.ok.kind];decide) hf hn ?_ I.funs
  exact Heap.get?_none_of_le (D4 I.ok.bsz I.ok.above)
theorem Inv.stkSub(I:Inv X pins σ H s):∀b∈frs X.stack,b∈X.env.locals::X.fs:=fun b hb=>by
 rcases I.ok.stk with e | ⟨e,hf⟩
 ·rw[e]at hb;exact I0 _ hb
 ·rw[e]at hb
  unfold frs at hb
  rw[b1E,hf]at hb
  exact hb
theorem Inv.stkFree(I:Inv X pins σ H s):∀b∈frs X.stack,H b=none:=fun b hb=>by
 rcases u5.mp (I.stkSub b hb)with e | hb
 ·rw[e];exact I.free
 ·obtain⟨_,o,ho,_⟩:=I.ok.funs.mem hb
  exact I.base.free b o ho (I.ok.frf b hb) fun z=>I.ok.exfs b z hb
theorem Inv.step{g':Array GenState}{t':Nat}{d':Drawn}{ch:List Addr}(I:Inv X pins σ H s)
  (hch:∀b∈ch,(b∈X.ex\/X.s₀.heap.objs.size<=b)/\b≠X.env.locals/\(∀x c,X.env.cells.lookup x=some c->c≠b)/\∀p∈X.pn++pins,p.1≠b)
  (keep:∀b o,b≠X.env.locals->b∉X.fs->b∉ch->s.heap.get? b=some o->H b=none->h'.get? b=some o)
  (slot:∀b o,b≠X.env.locals->b∈X.fs->b∉ch->s.heap.get? b=some o->H b=none->∃sl,h'.get? b=some { o with slots:=sl }) (free:∀b o,b∉ch->s.heap.get? b=some o->H b=none->H' b=none)
  (there:∀b o,b∉ch->s.heap.get? b=some o->∃o',h'.get? b=some o')
  (tups:∀b xs,H b=some (.tup xs)->H' b=some (.tup xs)) (frzs:∀b o u,H b=some (.frz o u)->H' b=some (.frz o u)) (tbls:∀b ps,H b=some (.tbl ps)->∃more,H' b=some (.tbl (ps++more)))
  (ns:∀m,s.heap.Ns X.env.locals m->h'.Ns X.env.locals m) (hok:HOk X.prog X.w H' h') (hg:b6U g') :
  Inv X pins σ H' { s with heap:=h',gens:=g',drawn:=d',toks:=t' }:=by
 have neL:∀b o,X.s₀.heap.get? b=some o->b≠X.env.locals:=fun b o e=>z9 (D7 (l9 e) I.ok.above)
 have neC:∀b o,X.s₀.heap.get? b=some o->b∉X.ex->b∉ch:=fun b o e hx hb=>by
  rcases(hch b hb).1 with z | z
  ·exact hx z
  ·exact absurd (D7 (l9 e) z) (Q8 _)
 have cellK:∀x c,X.env.cells.lookup x=some c->∀v,s.heap.IsCell c v->h'.IsCell c v:=fun x c e v ⟨o,ho,hd⟩=>by
  have nch:c∉ch:=fun z=>(hch c z).2.2.1 x c e rfl
  by_cases hc:c∈X.fs
  ·obtain⟨sl,q⟩:=slot c o (I.cne x c e) hc nch ho (I.freeC x c e)
   exact⟨_,q,hd⟩
  ·exact⟨o,keep c o (I.cne x c e) hc nch ho (I.freeC x c e),hd⟩
 refine⟨I.ok,I.os,hg,⟨fun b o e n hb hx=>?_,fun b o e n hb hx=>?_,fun b o e n hx=>?_,fun b o e hx=>?_,fun b xs e=>tups b xs (I.base.tups b xs e),fun b o xs e=>frzs b o xs (I.base.frzs b o xs e),fun b ps e=>?_⟩,?_,fun x c e=>?_,?_,fun x c e=>?_,fun p hp=>?_,hok,I.len⟩
 ·exact keep b o (neL b o e) hb (neC b o e hx) (I.base.keep b o e n hb hx) (I.base.free b o e n hx)
 ·obtain⟨sl,e1⟩:=I.base.slot b o e n hb hx
  obtain⟨sl',e2⟩:=slot b _ (neL b o e) hb (neC b o e hx) e1 (I.base.free b o e n hx)
  exact⟨sl',e2⟩
 ·obtain⟨o',e1⟩:=I.base.there b o e hx
  exact free b o' (neC b o e hx) e1 (I.base.free b o e n hx)
 ·obtain⟨o',e1⟩:=I.base.there b o e hx
  exact there b o' (neC b o e hx) e1
 ·obtain⟨m1,e1⟩:=I.base.tbls b ps e
  obtain⟨m2,e2⟩:=tbls b _ e1
  exact⟨m1++m2,by rw[e2,Array.append_assoc]⟩
 ·obtain⟨m,hn,hl⟩:=I.loc
  refine⟨m,ns m hn,fun i x v e1 e2 e3=>?_⟩
  obtain⟨u,r,l⟩:=hl i x v e1 e2 e3
  refine⟨u,r,?_⟩
  rcases l with l | ⟨k,c,e,z⟩
  ·exact .inl l
  ·exact .inr ⟨k,c,e,cellK x c e _ z⟩
 ·obtain⟨v,z⟩:=I.cell x c e
  exact⟨v,cellK x c e v z⟩
 ·obtain⟨m,⟨o,_,_,ho,_⟩,_⟩:=I.loc
  exact free _ o (fun z=>(hch _ z).2.1 rfl) ho I.free
 ·obtain⟨v,o,ho,hd⟩:=I.cell x c e
  exact free c o (fun z=>(hch c z).2.2.1 x c e rfl) ho (I.freeC x c e)
 ·obtain⟨e,n,ne,nf,d⟩:=I.pin p hp
  have nch:p.1∉ch:=fun z=>(hch p.1 z).2.2.2 p hp rfl
  exact⟨keep p.1 p.2 ne nf nch e n,free p.1 p.2 nch e n,ne,nf,d⟩
theorem Inv.un(I:Inv X pins σ H s)(u:Un X.fs [] H H' s.heap h')(hok:HOk X.prog X.w H' h'):Inv X pins σ H' { s with heap:=h',toks:=t' }:=by
 obtain⟨m,⟨o,es,ep,ho,r⟩,_⟩:=id I.loc
 obtain⟨sl,hL⟩:=u.any ho I.free (by simp)
 exact I.step (g':=s.gens) (d':=s.drawn) (ch:=[]) (fun _ z=>nomatch z) (fun b o _ hb _ e n=>u.keep b o e n hb (by simp)) (fun b o _ hb _ e n=>u.slot b o e n hb (by simp)) (fun b o _ e n=>u.free b o e n (by simp)) (fun b o _ e=>u.there b o e (by simp)) u.tups u.frzs u.tbls (fun m' hm=>by
  obtain⟨o',es',ep',ho',r'⟩:=hm
  rw[ho]at ho';cases ho'
  exact⟨_,es',ep',hL,r'⟩) hok I.bare
theorem Inv.call{g':Array GenState}{d':Drawn}{ch:List Addr}(I:Inv X pins σ H s)(u:Un (frs X.stack) ch H H' s.heap h')(hok:HOk X.prog X.w H' h')(hg:b6U g')
  (hch:∀b∈ch,(b∈X.ex\/X.s₀.heap.objs.size<=b)/\b≠X.env.locals/\(∀x c,X.env.cells.lookup x=some c->c≠b)/\∀p∈X.pn++pins,p.1≠b) :
  Inv X pins σ H' { s with heap:=h',gens:=g',drawn:=d',toks:=t' }:=by
 obtain⟨m,⟨o,es,ep,ho,r⟩,_⟩:=id I.loc
 obtain⟨sl,hL⟩:=u.any ho I.free fun z=>(hch _ z).2.1 rfl
 exact I.step (ch:=ch) hch (fun b o hL hb hc e n=>u.keep b o e n (fun z=>(u5.mp (I.stkSub b z)).elim hL hb) hc) (fun b o _ _ hc e n=>u.any e n hc) (fun b o hc e n=>u.free b o e n hc) (fun b o hc e=>u.there b o e hc) u.tups u.frzs u.tbls (fun m' hm=>by
  obtain⟨o',es',ep',ho',r'⟩:=hm
  rw[ho]at ho';cases ho'
  exact⟨_,es',ep',hL,r'⟩) hok hg
theorem Inv.turned{it:Addr}(I:Inv X pins σ H s)(k:∀b o,b≠it->s.heap.get? b=some o->h'.get? b=some o)(hn:H it=none)(hL:it≠X.env.locals)
  (h1:it∈X.ex\/X.s₀.heap.objs.size<=it) (h2:∀x c,X.env.cells.lookup x=some c->c≠it) (h3:∀p∈X.pn++pins,p.1≠it):Inv X pins σ H { s with heap:=h',toks:=t' }:=by
 have nit:∀b u,H b=some u->b≠it:=fun b u e z=>by rw[z,hn]at e;cases e
 refine I.step (g':=s.gens) (d':=s.drawn) (ch:=[it]) (fun b hb=>?_) (fun b o _ _ hc e _=>k b o (fun z=>hc (by simp[z])) e) (fun b o _ _ hc e _=>⟨o.slots,k b o (fun z=>hc (by simp[z])) e⟩) (fun _ _ _ _ n=>n)
  (fun b o hc e=>⟨o,k b o (fun z=>hc (by simp[z])) e⟩) (fun _ _ e=>e) (fun _ _ _ e=>e) (fun b ps e=>⟨#[],by rw[e];simp⟩) (fun m hm=>?_) (fun b u e=>?_) I.bare
 ·have e:b=it:=by simpa using hb
  subst e
  exact⟨h1,hL,h2,h3⟩
 ·obtain⟨o,es,ep,ho,r⟩:=hm
  exact⟨o,es,ep,k _ o (Ne.symm hL) ho,r⟩
 ·refine(I.hok b u e).stay (fun c v hc q=>k c v ?_ q) (fun _ q=>q) fun _ _ q=>q
  rcases hc with z | z
  ·rw[z];exact nit b u e
  ·exact nit c _ z
theorem Inv.tok(I:Inv X pins σ H s)(t:Nat):Inv X pins σ H { s with toks:=t }:=I.un (h':=s.heap) (t':=t) Un.refl I.hok
theorem Inv.kept(I:Inv X pins σ H s)(k:∀b u,s.heap.get? b=some u->h'.get? b=some u):Inv X pins σ H { s with heap:=h',toks:=t' }:=I.un (Un.kept k) (I.hok.kept k)
theorem Inv.laid(I:Inv X pins σ H s)(k:∀b u,s.heap.get? b=some u->h'.get? b=some u)(hp:s.heap.objs.size<=a)(new:a0u X.prog X.w (upd H a o) h' a o) :
  Inv X pins σ (upd H a o) { s with heap:=h',toks:=t' }:=I.un (Un.laid k hp (I.hok.fresh hp)) (I.hok.laid k hp new)
theorem Inv.write{x e:Addr}(I:Inv X pins σ H s)(mu:Mut (H x))(he:e=x\/H e=some (.own x))(k:∀b u,b≠e->s.heap.get? b=some u->h'.get? b=some u)(heo:∃u,h'.get? e=some u)
  (new:a0u X.prog X.w (upd H x o) h' x o):Inv X pins σ (upd H x o) { s with heap:=h',toks:=t' }:=I.un (Un.write mu he k heo) (I.hok.write mu he k heo new)
theorem Inv.weak{σ':List (Option V)}(I:Inv X pins σ H s)(hl:σ'.length=σ.length)(w:∀(i:Nat) v,σ'[i]? = some (some v)->σ[i]? = some (some v)):Inv X pins σ' H s:=
 ⟨I.ok,I.os,I.bare,I.base,let⟨m,hn,hl'⟩:=I.loc; ⟨m,hn,fun i x v e1 e2 e3=>hl' i x v e1 (w i v e2) e3⟩,I.cell,I.free,I.freeC,I.pin,I.hok,hl.trans I.len⟩
theorem Inv.pins_of{pins':List (Addr×Obj)}(I:Inv X pins σ H s)(h:∀p∈pins',s.heap.get? p.1=some p.2/\H p.1=none/\p.1≠X.env.locals/\p.1∉X.fs/\∀v,p.2.data≠.cell v):Inv X pins' σ H s:=
 ⟨I.ok,I.os,I.bare,I.base,I.loc,I.cell,I.free,I.freeC,fun p hp=>(u4.mp hp).elim (fun z=>I.pin p (y0 _ z)) (h p),I.hok,I.len⟩
theorem b9u{N:List Str}(hN:N.Nodup){j:Nat}{x:Str}(a:N[i]? = some x)(b:N[j]? = some x):i=j:=by
 obtain⟨h1,e1⟩:=t6.mp a
 obtain⟨h2,e2⟩:=t6.mp b
 exact(List.getElem_inj hN).mp (e1.trans e2.symm)
theorem b1R{M:Model}{A:U8}{E:Value->k8->Prop}{x:Str}{Q:Unit->k8->Prop}(I:Inv X pins σ H s)(hN:X.N.Nodup)(hi:X.N[i]? = some x)(hx:Loc X.env.scope x)(r:L5 v u)
  (h:∀s',Inv X pins (σ.set i (some v)) H s'->(∃a,Heap.SameBut a s.heap s'.heap/\(a=X.env.locals\/X.env.cells.lookup x=some a))->Q () s') (hf:X.fn x=true\/X.env.scope.names.lookup x=some .local:=by first | exact .inl rfl | exact .inr rfl | assumption):wpAny M A (storeName X.env x u) Q E s:=by
 obtain⟨m,hn,hl⟩:=id I.loc
 have hcls:(X.env.scope.kind == .class||(X.env.scope.kind == .module&&X.env.locals != X.env.globals))=false:=by rw[I.ok.kind];rfl
 have hiσ:i<σ.length:=by rw[I.len];exact(t6.mp hi).1
 have cne:=I.cne
 have tracked:∀ {a:Addr} {h':Heap},(∃o,s.heap.get? a=some o/\H a=none)->Heap.SameBut a s.heap h'->HOk X.prog X.w H h':=fun {a h'} ha hs b ob e=>by
  obtain⟨_,_,hfree⟩:=ha
  refine(I.hok b ob e).stay (fun c w' hc q=>(hs.2 c ?_).trans q) (fun _ q=>q) fun _ _ q=>q
  rintro rfl
  rcases hc with rfl | hc
  ·rw[hfree]at e;cases e
  ·rw[hfree]at hc;cases hc
 rcases hx with hk | hk
 ·refine wpAny_storeName_local hk hn (fun h' hn' hs=>?_) hcls
  obtain⟨oL,_,_,hoL,_⟩:=id hn
  refine h _ ⟨I.ok,I.os,I.bare,⟨fun b o e n hb hx=>?_,fun b o e n hb hx=>?_,I.base.free,fun b o e hx=>?_,I.base.tups,I.base.frzs,I.base.tbls⟩,⟨_,hn',fun j y v' e1 e2 e3=>?_⟩,fun y c e=>?_,I.free,I.freeC,fun p hp=>?_,tracked ⟨oL,hoL,I.free⟩ hs,by simpa using I.len⟩ ⟨_,hs,.inl rfl⟩
  ·exact(hs.2 b (z9 (D7 (l9 e) I.ok.above))).trans (I.base.keep b o e n hb hx)
  ·obtain⟨sl,e1⟩:=I.base.slot b o e n hb hx
   exact⟨sl,(hs.2 b (z9 (D7 (l9 e) I.ok.above))).trans e1⟩
  ·obtain⟨o',e1⟩:=I.base.there b o e hx
   exact⟨o',(hs.2 b (z9 (D7 (l9 e) I.ok.above))).trans e1⟩
  ·by_cases hj:j=i
   ·subst hj
    rw[hi]at e1;cases e1
    rw[U7 hiσ]at e2
    cases e2
    exact⟨u,r,.inl ⟨hk,by simp⟩⟩
   ·rw[X3 (Ne.symm hj)]at e2
    obtain⟨u',r',q⟩:=hl j y v' e1 e2 e3
    refine⟨u',r',?_⟩
    rcases q with ⟨k,e⟩ | ⟨k,c,e,z⟩
    ·refine .inl ⟨k,?_⟩
     have:y≠x:=fun e=>hj (b9u hN e1 (e ▸ hi))
     simp[this,e]
    ·exact .inr ⟨k,c,e,z.sameBut hs (cne y c e)⟩
  ·obtain⟨w',z⟩:=I.cell y c e
   exact⟨w',z.sameBut hs (cne y c e)⟩
  ·obtain⟨e,n,ne,nf,d⟩:=I.pin p hp
   exact⟨(hs.2 p.1 ne).trans e,n,ne,nf,d⟩
 ·have hfn:X.fn x=true:=by
   rcases hf with z | z
   ·exact z
   ·rw[z]at hk;cases hk
  obtain⟨c,hc⟩:=I.ok.has x (.inl hk)
  obtain⟨w',z⟩:=I.cell x c hc
  refine wpAny_storeName_cell I.ok.kind hk hc z (fun h' hc' hs=>?_)
  obtain⟨oc,hoc,hocd⟩:=id z
  refine h { s with heap:=h' } ⟨I.ok,I.os,I.bare,⟨fun b o e n hb hx=>?_,fun b o e n hb hx=>?_,I.base.free,fun b o e hx=>?_,I.base.tups,I.base.frzs,I.base.tbls⟩,⟨m,hn.sameBut hs (Ne.symm (cne x c hc)),fun j y v' e1 e2 e3=>?_⟩,fun y c' e=>?_,I.free,I.freeC,fun p hp=>?_,tracked ⟨oc,hoc,I.freeC x c hc⟩ hs,by simpa using I.len⟩ ⟨c,hs,.inr hc⟩
  ·exact(hs.2 b (z9 (D7 (l9 e) (I.ok.cab x c hfn hc)))).trans (I.base.keep b o e n hb hx)
  ·obtain⟨sl,e1⟩:=I.base.slot b o e n hb hx
   exact⟨sl,(hs.2 b (z9 (D7 (l9 e) (I.ok.cab x c hfn hc)))).trans e1⟩
  ·obtain⟨o',e1⟩:=I.base.there b o e hx
   exact⟨o',(hs.2 b (z9 (D7 (l9 e) (I.ok.cab x c hfn hc)))).trans e1⟩
  ·by_cases hj:j=i
   ·subst hj
    rw[hi]at e1;cases e1
    rw[U7 hiσ]at e2
    cases e2
    exact⟨u,r,.inr ⟨.inl hk,c,hc,hc'⟩⟩
   ·rw[X3 (Ne.symm hj)]at e2
    obtain⟨u',r',q⟩:=hl j y v' e1 e2 e3
    refine⟨u',r',?_⟩
    rcases q with q | ⟨k,c',e,z'⟩
    ·exact .inl q
    ·refine .inr ⟨k,c',e,z'.sameBut hs ?_⟩
     rintro rfl
     exact hj (b9u hN e1 (I.ok.inj _ _ _ e hc ▸ hi))
  ·by_cases hcc:c'=c
   ·subst hcc;exact⟨_,hc'⟩
   ·obtain⟨w2,z2⟩:=I.cell y c' e
    exact⟨w2,z2.sameBut hs hcc⟩
  ·obtain⟨e,n,ne,nf,d⟩:=I.pin p hp
   refine⟨(hs.2 p.1 ?_).trans e,n,ne,nf,d⟩
   intro q
   rw[q,hoc]at e
   have q':oc=p.2:=Option.some.inj e
   exact d w' (by rw[<-q'];exact hocd)
theorem b0O{M:Model}{A:U8}{E:Value->k8->Prop}{x:Str}{Q:Unit->k8->Prop}(I:Inv X pins σ H s)(hN:X.N.Nodup)(hi:X.N[i]? = some x)(hx:Loc X.env.scope x)(r:L5 v u)
  (h:∀s',Inv X pins (σ.set i (some v)) H s'->Q () s') (hf:X.fn x=true\/X.env.scope.names.lookup x=some .local:=by first | exact .inl rfl | exact .inr rfl | assumption):wpAny M A (storeName X.env x u) Q E s:=
 b1R I hN hi hx r (fun s' I' _=>h s' I') hf
theorem Inv.call'{s':k8}{ch:List Addr}(I:Inv X pins σ H s)(ho:s'.os=s.os)(u:Un (frs X.stack) ch H H' s.heap s'.heap)(hok:HOk X.prog X.w H' s'.heap)(hg:b6U s'.gens)
  (hch:∀b∈ch,(b∈X.ex\/X.s₀.heap.objs.size<=b)/\b≠X.env.locals/\(∀x c,X.env.cells.lookup x=some c->c≠b)/\∀p∈X.pn++pins,p.1≠b):Inv X pins σ H' s':=by
 obtain⟨h',g',d',t',o'⟩:=s'
 have e:o'=s.os:=ho
 subst e
 exact I.call (g':=g') (t':=t') (d':=d') u hok hg hch
end
abbrev XK:=Value->Option Addr->Hp->Prop
abbrev St:=List (Option V)
variable{σ:St}
abbrev VK:=V->Hp->Prop
abbrev TE:=St->Hp->VK->Prop
variable{t ta te:TE}
abbrev TT:=St->Hp->(Bool->Hp->Prop)->Prop
abbrev TA:=St->Hp->(List V->Hp->Prop)->Prop
structure b1z where
 nx:St->Hp->Prop
 rt:VK
 bk:St->Hp->Prop:=fun _ _=>False
 ct:St->Hp->Prop:=fun _ _=>False
abbrev TS:=b1z->St->Hp->Prop
variable{tb:TS}
def EP(X:Cx)(pins:List (Addr×Obj))(σ:St)(Q:VK)(u:Value)(s':k8):Prop:=∃v H',Inv X pins σ H' s'/\L5 v u/\Q v H'
def TP(X:Cx)(pins:List (Addr×Obj))(σ:St)(Q:Bool->Hp->Prop)(b:Bool)(s':k8):Prop:=∃H',Inv X pins σ H' s'/\Q b H'
def AP(X:Cx)(pins:List (Addr×Obj))(σ:St)(Q:List V->Hp->Prop)(us:List Value)(s':k8):Prop:=∃vs H',Inv X pins σ H' s'/\O6 vs us/\Q vs H'
def SP(X:Cx)(pins:List (Addr×Obj))(D:b1z)(f:Flow)(s':k8):Prop:=
 match f with
 | .next=>∃σ' H',Inv X pins σ' H' s'/\D.nx σ' H'
 | .brk=>∃σ' H',Inv X pins σ' H' s'/\D.bk σ' H'
 | .cont=>∃σ' H',Inv X pins σ' H' s'/\D.ct σ' H'
 | .ret u=>∃v σ' H',Inv X pins σ' H' s'/\L5 v u/\D.rt v H'
def PE(X:Cx)(e:Expr)(t:TE):Prop:=
 ∀(pins:List (Addr×Obj)) (s:k8) (σ:St) (H:Hp) (Q:VK),Inv X pins σ H s->t σ H Q->wpAny (model X.prog X.w) X.A (eval e X.env) (EP X pins σ Q) X.xe s
def PT(X:Cx)(e:Expr)(t:TT):Prop:=
 ∀(pins:List (Addr×Obj)) (s:k8) (σ:St) (H:Hp) (Q:Bool->Hp->Prop),Inv X pins σ H s->t σ H Q->wpAny (model X.prog X.w) X.A (isTrue e X.env (eval e X.env)) (TP X pins σ Q) X.xe s
def PW(X:Cx)(e:Expr)(t:TT):Prop:=
 ∀(whole:Sem Value) (pins:List (Addr×Obj)) (s:k8) (σ:St) (H:Hp) (Q:Bool->Hp->Prop),Inv X pins σ H s->t σ H Q->wpAny (model X.prog X.w) X.A (isTrue e X.env whole) (TP X pins σ Q) X.xe s
theorem PW.pt{t:TT}(h:PW X e t):PT X e t:=h _
def PA(X:Cx)(es:List Expr)(t:TA):Prop:=
 ∀(pos:Pos) (pins:List (Addr×Obj)) (s:k8) (σ:St) (H:Hp) (Q:List V->Hp->Prop),Inv X pins σ H s->t σ H Q->wpAny (model X.prog X.w) X.A (spliced (a1y pos (j9 es X.env))) (AP X pins σ Q) X.xe s
def PS(X:Cx)(st:Stmt)(t:TS):Prop:=
 ∀(pins:List (Addr×Obj)) (s:k8) (σ:St) (H:Hp) (D:b1z),Inv X pins σ H s->t D σ H->wpAny (model X.prog X.w) X.A (exec st X.env) (SP X pins D) X.xe s
def PSs(X:Cx)(st:List Stmt)(t:TS):Prop:=
 ∀(pins:List (Addr×Obj)) (s:k8) (σ:St) (H:Hp) (D:b1z),Inv X pins σ H s->t D σ H->wpAny (model X.prog X.w) X.A (execs st X.env) (SP X pins D) X.xe s
theorem thn{α:Type}{t:Sem α}{Q Q':α->k8->Prop}{M:Model}{A:U8}{E:Value->k8->Prop}(h:wpAny M A t Q E s)(hQ:∀a s,Q a s->Q' a s):wpAny M A t Q' E s:=a3p h hQ fun _ _ x=>x
section
def b4(i:Nat):TE:=fun σ H Q=>∃v,σ[i]? = some (some v)/\Q v H
def tC(v:V):TE:=fun _ H Q=>Q v H
theorem d0j{x:Str}(hN:X.N[i]? = some x)(hv:Vis X.env.scope x)(hd:(x == ("__debug__" : Str))=false:=by decide)(hcd:(x == ("__classdict__" : Str))=false:=by decide):PE X (.Name x pos) (b4 i):=by
 intro pins s σ H Q I h
 obtain⟨v,e,h⟩:=h
 obtain⟨m,hn,hl⟩:=I.loc
 obtain⟨u,r,l⟩:=hl i x v hN e hv
 have fin:EP X pins σ Q u s:=⟨v,H,I,r,h⟩
 rcases l with ⟨hk,hm⟩ | ⟨hk,c,hc,hcell⟩
 ·exact wpAny_Name (d3a I.ok.kind hk hn hm fin) hd
 ·rcases hk with hk | hk
  ·exact wpAny_Name (d3f I.ok.kind hk hc hcell fin) hd
  ·exact wpAny_Name (wpAny_loadName_free I.ok.kind hk hc hcell fin hcd) hd
theorem d0t{i j pos}:PE X (.Constant (.int i) j pos) (tC (.int i)):=fun _ _ _ H _ I h=>wpAny_Constant_int ⟨.int i,H,I.tok _,⟨_,rfl⟩,h⟩
theorem d2B{b j pos}:PE X (.Constant (.bool b) j pos) (tC (.bl b)):=fun _ _ _ H _ I h=>Constant_bool ⟨.bl b,H,I,rfl,h⟩
theorem d0p{j pos}:PE X (.Constant .none j pos) (tC .non):=fun _ _ _ H _ I h=>Constant_none ⟨.non,H,I,rfl,h⟩
theorem d0l{x j pos}:PE X (.Constant (.str x) j pos) (tC (.str x)):=fun _ _ _ H _ I h=>Calls.Constant_str ⟨.str x,H,I.tok _,⟨_,rfl⟩,h⟩
def Gl(X:Cx)(x:Str):Prop:=X.env.kindOf x=some .globalImplicit
theorem b7S{E:Value->k8->Prop}{x:Str}(I:Inv X pins σ H s)(hg:Gl X x)(hm:X.mg x=some u)(h:Q u s)
  (hd:(x == ("__debug__" : Str))=false:=by decide):wpAny (model X.prog X.w) X.A (eval (.Name x pos) X.env) Q E s:=
 Calls.Name_function_global I.ok.kind hg (Calls.loadGlobal_global (by rw[I.ok.glob];exact I.mod.glob.keeps I.bk) hm h) hd
theorem b2t{E:Value->k8->Prop}{x:Str}(I:Inv X pins σ H s)(hg:Gl X x)(hm:X.mg x=none)(hv:a4b x=some u)(h:Q u s)
  (hn:x ≠ "__name__" := by decide) (hd:(x == ("__debug__" : Str))=false:=by decide):wpAny (model X.prog X.w) X.A (eval (.Name x pos) X.env) Q E s:=by
 obtain⟨mb,h1,h2⟩:=I.mod.blt
 exact Calls.Name_function_global I.ok.kind hg (Calls.loadGlobal_builtin (by rw[I.ok.glob];exact I.mod.glob.keeps I.bk) hm (by rw[I.ok.blt];exact h1.keeps I.bk) ((h2 x hn).trans hv) h) hd
theorem c7G{x:Str}(hg:Gl X x)(hm:X.mg x=some u)(r:L5 v u)(hd:(x == ("__debug__" : Str))=false:=by decide):PE X (.Name x pos) (tC v):=
 fun _ _ _ H _ I h=>b7S I hg hm ⟨v,H,I,r,h⟩ hd
theorem c7K{x:Str}(hg:Gl X x)(hm:X.mg x=none)(hv:a4b x=some u)(r:L5 v u)(hn:x ≠ "__name__" := by decide)(hd:(x == ("__debug__" : Str))=false:=by decide):PE X (.Name x pos) (tC v):=
 fun _ _ _ H _ I h=>b2t I hg hm hv ⟨v,H,I,r,h⟩ hn hd
variable {a b:Expr}{tb:TE}
def PC(X:Cx)(op:CmpOp)(a b:Expr)(t:TE):Prop:=
 ∀(pins:List (Addr×Obj)) (s:k8) (σ:St) (H:Hp) (Q:VK),Inv X pins σ H s->t σ H Q ->
  wpAny (model X.prog X.w) X.A (eval a X.env) (fun v s₁=>wpAny (model X.prog X.w) X.A (eval b X.env) (fun u s₂=>wpAny (model X.prog X.w) X.A (C3 op v u) (EP X pins σ Q) X.xe s₂) X.xe s₁) X.xe s
def tB(t:TE):TT:=fun σ H Q=>t σ H fun x H1=>∃c,x=.bl c/\Q c H1
theorem c5E{op:CmpOp}(h:PC X op a b t)(h1:U3 op b=false:=by first | exact nobehind _ (by decide) (by decide) | rfl):PE X (.Compare a [op] [b] pos) t:=fun pins s σ H Q I hw=>wpAny_Compare1 (h pins s σ H Q I hw) h1
theorem b7D{op:CmpOp}(h:PC X op a b t)(h1:U3 op b=false:=by first | exact nobehind _ (by decide) (by decide) | rfl):PT X (.Compare a [op] [b] pos) (tB t):=by
 intro pins s σ H Q I hw
 refine d1N (thn (h pins s σ H _ I hw) fun v s1 h1=>thn h1 fun u s2 h2=>thn h2 fun c s3 ⟨x,H1,I1,r1,q1⟩=>?_) h1
 obtain⟨d,rfl,q⟩:=q1
 cases r1
 exact V8 ⟨H1,I1,q⟩
theorem c9X(h:PE X e t)(he:∀whole,isTrue e X.env whole=(do let v <-whole;b3S e.pos;a4H [v] (truthy v)):=by intro _;rfl):PT X e (tB t):=by
 intro pins s σ H Q I hw
 refine isTrue_plain (thn (h pins s σ H _ I hw) fun v s1 ⟨x,H1,I1,r1,q1⟩=>?_) (he _)
 obtain⟨d,rfl,q⟩:=q1
 cases r1
 exact V8 ⟨H1,I1,q⟩
variable {tA tB':TT}{a9q:List Expr}
def b0N(t u:TT):TT:=fun σ H Q=>t σ H fun c H1=>if c=true then u σ H1 Q else Q false H1
def tOr(t u:TT):TT:=fun σ H Q=>t σ H fun c H1=>if c=true then Q true H1 else u σ H1 Q
def a3d(t:TT):TT:=fun σ H Q=>t σ H fun c H1=>Q (!c) H1
theorem c7o(ha:PT X a tA):PW X (.BoolOp .And [a] pos) tA:=by
 intro wh pins s σ H Q I h
 refine isTrue_and (thn (ha pins s σ H Q I h) fun c s1 e=>?_)
 cases c with
 | true=>exact isTrue_and_nil e
 | false=>exact e
theorem c9V(ha:PT X a tA):PW X (.BoolOp .Or [a] pos) tA:=by
 intro wh pins s σ H Q I h
 refine isTrue_or (thn (ha pins s σ H Q I h) fun c s1 e=>?_)
 cases c with
 | false=>exact isTrue_or_nil e
 | true=>exact e
theorem c9W(ha:PT X a tA)(hb:PW X (.BoolOp .And (b::a9q) pos) tB'):PW X (.BoolOp .And (a::b::a9q) pos) (b0N tA tB'):=by
 intro wh pins s σ H Q I h
 refine isTrue_and (thn (ha pins s σ H _ I h) fun c s1 ⟨H1,I1,q1⟩=>?_)
 cases c with
 | true=>exact hb wh pins s1 σ H1 Q I1 q1
 | false=>exact⟨H1,I1,q1⟩
theorem d2t(ha:PT X a tA)(hb:PW X (.BoolOp .Or (b::a9q) pos) tB'):PW X (.BoolOp .Or (a::b::a9q) pos) (tOr tA tB'):=by
 intro wh pins s σ H Q I h
 refine isTrue_or (thn (ha pins s σ H _ I h) fun c s1 ⟨H1,I1,q1⟩=>?_)
 cases c with
 | true=>exact⟨H1,I1,q1⟩
 | false=>exact hb wh pins s1 σ H1 Q I1 q1
theorem c9Y(ha:PT X a tA):PT X (.UnaryOp .Not a pos) (a3d tA):=by
 intro pins s σ H Q I h
 exact isTrue_not (ha pins s σ H (fun c H1=>Q (!c) H1) I h)
def a1n(ta tb:TE):TE:=fun σ H Q=>ta σ H fun x H1=>∃c,x=.bl c/\if c=true then tb σ H1 Q else Q (.bl false) H1
def b7d(ta tb:TE):TE:=fun σ H Q=>ta σ H fun x H1=>∃c,x=.bl c/\if c=true then Q (.bl true) H1 else tb σ H1 Q
def a9L(ta:TE):TE:=fun σ H Q=>ta σ H fun x H1=>∃c,x=.bl c/\Q (.bl (!c)) H1
theorem d0n{op}(h:PE X a t):PE X (.BoolOp op [a] pos) t:=fun pins s σ H Q I hw=>BoolOp_one (h pins s σ H Q I hw)
theorem d0w(ha:PE X a ta)(hb:PE X (.BoolOp .And (b::a9q) pos) tb):PE X (.BoolOp .And (a::b::a9q) pos) (a1n ta tb):=by
 intro pins s σ H Q I h
 refine BoolOp_and (thn (ha pins s σ H _ I h) fun v s1 ⟨x,H1,I1,r1,q1⟩=>?_)
 obtain⟨c,rfl,q1⟩:=q1
 cases r1
 refine V8 ?_
 cases c with
 | true=>exact hb pins s1 σ H1 Q I1 q1
 | false=>exact⟨.bl false,H1,I1,rfl,q1⟩
theorem d2w(ha:PE X a ta)(hb:PE X (.BoolOp .Or (b::a9q) pos) tb):PE X (.BoolOp .Or (a::b::a9q) pos) (b7d ta tb):=by
 intro pins s σ H Q I h
 refine BoolOp_or (thn (ha pins s σ H _ I h) fun v s1 ⟨x,H1,I1,r1,q1⟩=>?_)
 obtain⟨c,rfl,q1⟩:=q1
 cases r1
 refine V8 ?_
 cases c with
 | false=>exact hb pins s1 σ H1 Q I1 q1
 | true=>exact⟨.bl true,H1,I1,rfl,q1⟩
theorem d0o(ha:PE X a ta):PE X (.UnaryOp .Not a pos) (a9L ta):=by
 intro pins s σ H Q I h
 refine UnaryOp_ (thn (ha pins s σ H _ I h) fun v s1 ⟨x,H1,I1,r1,q1⟩=>?_)
 obtain⟨c,rfl,q1⟩:=q1
 cases r1
 exact not_of (V8 ⟨.bl (!c),H1,I1,rfl,q1⟩)
def tIf(t:TT)(ta tb:TE):TE:=fun σ H Q=>t σ H fun c H1=>if c=true then ta σ H1 Q else tb σ H1 Q
theorem c5A(hc:PT X c tA)(ha:PE X a ta)(hb:PE X b tb):PE X (.IfExp c a b pos) (tIf tA ta tb):=by
 intro pins s σ H Q I h
 refine wpAny_IfExp (thn (hc pins s σ H _ I h) fun d s1 ⟨H1,I1,q1⟩=>?_)
 cases d with
 | true=>exact ha pins s1 σ H1 Q I1 q1
 | false=>exact hb pins s1 σ H1 Q I1 q1
end
def SqL(K:Fg)(H:Hp)(a:Addr)(xs:List V):Prop:=
 Rd H a (.lst xs) \/
  ∃(o:Obj) (its:Array Value) (n:Nat),K.lookup a=some o/\o.cls=.type "list" /\ o.dict=none/\o.data=.seq its n/\its.size<=u9/\O6 xs its.toList
def SqT(K:Fg)(H:Hp)(a:Addr)(xs:List V):Prop:=
 Rd H a (.tup xs) \/
  ∃(o:Obj) (its:Array Value) (n:Nat),K.lookup a=some o/\o.cls=.type "tuple" /\ o.data=.seq its n/\its.size<=u9/\O6 xs its.toList
def d3F:Value->Option V
 | .none=>some .non
 | .bool b=>some (.bl b)
 | .int i _=>some (.int i)
 | .str x _=>some (.str x)
 | .bytes b _=>some (.byt b)
 | .float b _=>some (.flt b)
 | .ref a=>some (.ref a)
 | .type n=>some (.ty n)
 | _=>none
theorem L5.abs{x:V}(r:L5 x u):d3F u=some x:=by
 cases x with
 | non=>cases r;rfl
 | bl _=>cases r;rfl
 | int _=>obtain⟨t,rfl⟩:=r;rfl
 | str _=>obtain⟨t,rfl⟩:=r;rfl
 | byt _=>obtain⟨t,rfl⟩:=r;rfl
 | flt _=>obtain⟨t,rfl⟩:=r;rfl
 | ref _=>cases r;rfl
 | ty _=>cases r;rfl
theorem L5.inj{x:V}(r:L5 x u)(q:L5 y u):x=y:=Option.some.inj (r.abs.symm.trans q.abs)
theorem O6.inj:∀ {xs ys:List V} {us:List Value},O6 xs us->O6 ys us->xs=ys
 | _,_,_,.nil,.nil=>rfl
 | _,_,_,.cons r t,.cons r' t'=>by rw[r.inj r',O6.inj t t']
section
variable {ys:List V}
theorem SqL.of{K:Fg}(h:H a=some (.lst xs)):SqL K H a xs:=.inl (.inl h)
theorem SqT.of{K:Fg}(h:H a=some (.tup xs)):SqT K H a xs:=.inl (.inl h)
theorem Inv.list(I:Inv X pins σ H s)(h:SqL X.K H a xs):∃its:List Value,O6 xs its/\PlainL s.heap a its.toArray/\xs.length<=u9:=by
 rcases h with h | ⟨o,its,n,hk,hc,hd,hs,hz,r⟩
 ·obtain⟨z,its,n,r,e⟩:=h.ok I.hok
  exact⟨its,r,⟨_,n,e,rfl,rfl,rfl⟩,z⟩
 ·refine⟨its.toList,r,⟨o,n,I.kIn a o hk,hc,hd,by simpa using hs⟩,?_⟩
  have e:=r.length
  simp only[a3L]at e
  omega
theorem Inv.tuple(I:Inv X pins σ H s)(h:SqT X.K H a xs):∃its:List Value,O6 xs its/\IsTup s.heap a its.toArray/\xs.length<=u9:=by
 rcases h with h | ⟨o,its,n,hk,hc,hs,hz,r⟩
 ·obtain⟨z,its,r,p⟩:=h.ok I.hok
  exact⟨its,r,p,z⟩
 ·refine⟨its.toList,r,⟨o,I.kIn a o hk,hc,n,by simpa using hs⟩,?_⟩
  have e:=r.length
  simp only[a3L]at e
  omega
theorem Inv.list_inj(I:Inv X pins σ H s)(h:SqL X.K H a xs)(h':SqL X.K H a ys):xs=ys:=by
 obtain⟨its,r,⟨o,n,e,_,_,d⟩,_⟩:=I.list h
 obtain⟨its',r',⟨o',n',e',_,_,d'⟩,_⟩:=I.list h'
 rw[e]at e';cases e'
 rw[d]at d'
 injection d' with d1 _
 have:its=its':=by simpa using congrArg d2U d1
 subst this
 exact r.inj r'
theorem Inv.tuple_inj(I:Inv X pins σ H s)(h:SqT X.K H a xs)(h':SqT X.K H a ys):xs=ys:=by
 obtain⟨its,r,⟨o,e,_,n,d⟩,_⟩:=I.tuple h
 obtain⟨its',r',⟨o',e',_,n',d'⟩,_⟩:=I.tuple h'
 rw[e]at e';cases e'
 rw[d]at d'
 injection d' with d1 _
 have:its=its':=by simpa using congrArg d2U d1
 subst this
 exact r.inj r'
end
abbrev Cx.wish(X:Cx)(E:Value->k8->Prop):Cx:={ X with xe:=E }
abbrev Cx.nox(X:Cx):Cx:=X.wish fun _ _=>False
theorem Cx.Ok.wish(ok:X.Ok)(E:Value->k8->Prop):(X.wish E).Ok:=
 ⟨ok.mod,ok.kind,ok.glob,ok.blt,ok.above,ok.inj,ok.has,ok.cab,ok.hd,ok.frames,ok.stk,ok.exf,ok.bs,ok.bsz,ok.noex,ok.exfs,ok.funs,ok.frf⟩
theorem Cx.Ok.unwish{E:Value->k8->Prop}(ok:(X.wish E).Ok):X.Ok:=
 ⟨ok.mod,ok.kind,ok.glob,ok.blt,ok.above,ok.inj,ok.has,ok.cab,ok.hd,ok.frames,ok.stk,ok.exf,ok.bs,ok.bsz,ok.noex,ok.exfs,ok.funs,ok.frf⟩
section
variable {E:Value->k8->Prop}
theorem Inv.wish(I:Inv X pins σ H s)(E:Value->k8->Prop):Inv (X.wish E) pins σ H s:=⟨I.ok.wish E,I.os,I.bare,I.base,I.loc,I.cell,I.free,I.freeC,I.pin,I.hok,I.len⟩
theorem Inv.unwish(I:Inv (X.wish E) pins σ H s):Inv X pins σ H s:=⟨I.ok.unwish,I.os,I.bare,I.base,I.loc,I.cell,I.free,I.freeC,I.pin,I.hok,I.len⟩
theorem SP.unwish{D:b1z}{f:Flow}{s':k8}(h:SP (X.wish E) pins D f s'):SP X pins D f s':=by
 cases f with
 | next=>obtain⟨σ',H',I,q⟩:=h;exact⟨σ',H',I.unwish,q⟩
 | brk=>obtain⟨σ',H',I,q⟩:=h;exact⟨σ',H',I.unwish,q⟩
 | cont=>obtain⟨σ',H',I,q⟩:=h;exact⟨σ',H',I.unwish,q⟩
 | ret u=>obtain⟨v,σ',H',I,r,q⟩:=h;exact⟨v,σ',H',I.unwish,r,q⟩
theorem PSs.nox{st:List Stmt}{t:TS}(h:PSs X.nox st t):PSs X st t:=fun pins s σ H D I hw=>
 a3p (h pins s σ H D (I.wish _) hw) (fun _ _ q=>q.unwish) fun _ _ z=>False.elim z
end
section
variable {st:Stmt}{a9q:List Stmt}{t u:TS}
def E9:TS:=fun D σ H=>D.nx σ H
def w4(t u:TS):TS:=fun D σ H=>t { D with nx:=u D } σ H
theorem c7u:PSs X [] E9:=fun _ _ σ H _ I h=>b3R ⟨σ,H,I,h⟩
theorem c5r(h1:PS X st t)(h2:PSs X a9q u):PSs X (st::a9q) (w4 t u):=by
 intro pins s σ H D I h
 refine wpAny_execs_cons (thn (h1 pins s σ H { D with nx:=u D } I h) fun f s1 q=>?_)
 cases f with
 | next=>
  obtain⟨σ',H',I',q⟩:=q
  exact h2 pins s1 σ' H' D I' q
 | ret v=>exact q
 | brk=>exact q
 | cont=>exact q
theorem c7t(h1:PS X st t):PSs X [st] t:=by
 intro pins s σ H D I h
 refine wpAny_execs_cons (thn (h1 pins s σ H D I h) fun f s1 q=>?_)
 cases f with
 | next=>exact b3R q
 | ret v=>exact q
 | brk=>exact q
 | cont=>exact q
theorem Inv.quiet(I:Inv X pins σ H s):interactive X.env=false:=by simp[interactive,I.ok.kind]
def a0o(te:TE):TS:=fun D σ H=>te σ H fun _ H1=>D.nx σ H1
theorem c7v(he:PE X e te)(hs:a3Z e none pos.line X.env=pure false:=by rfl):PS X (.Expr e pos) (a0o te):=by
 intro pins s σ H D I h
 exact wpAny_Expr_any (thn (he pins s σ H _ I h) fun v s1 ⟨x,H1,I1,r1,q1⟩=>⟨σ,H1,I1,q1⟩) I.quiet hs
def G6(te:TE):TS:=fun D σ H=>te σ H D.rt
theorem d0a(he:PE X e te):PS X (.Return (some e) pos) (G6 te):=by
 intro pins s σ H D I h
 exact wpAny_Return_some (thn (he pins s σ H _ I h) fun v s1 ⟨x,H1,I1,r1,q1⟩=>⟨x,σ,H1,I1,r1,q1⟩)
def Q9(c:TT)(t u:TS):TS:=fun D σ H=>c σ H fun b H1=>if b=true then t D σ H1 else u D σ H1
theorem d2u{a b:List Stmt}{tc:TT}(hc:PT X c tc)(ha:PSs X a t)(hb:PSs X b u):PS X (.If c a b pos) (Q9 tc t u):=by
 intro pins s σ H D I h
 refine wpAny_If (thn (hc pins s σ H _ I h) fun d s1 ⟨H1,I1,q1⟩=>?_)
 cases d with
 | true=>exact ha pins s1 σ H1 D I1 q1
 | false=>exact hb pins s1 σ H1 D I1 q1
end
abbrev TG:=V->St->Hp->(St->Hp->Prop)->Prop
variable{g:TG}
abbrev TGs:=List V->St->Hp->(St->Hp->Prop)->Prop
def PG(X:Cx)(target:Expr)(t:TG):Prop:=
 ∀(pins:List (Addr×Obj)) (s:k8) (σ:St) (H:Hp) (v:V) (u:Value) (Q:St->Hp->Prop),Inv X pins σ H s->L5 v u->t v σ H Q ->
  wpAny (model X.prog X.w) X.A (a9B target X.env u) (fun _ s'=>∃σ' H',Inv X pins σ' H' s'/\Q σ' H') X.xe s
def PGs(X:Cx)(ts:List Expr)(t:TGs):Prop:=
 ∀(pins:List (Addr×Obj)) (s:k8) (σ:St) (H:Hp) (vs:List V) (us:List Value) (Q:St->Hp->Prop),Inv X pins σ H s->O6 vs us->t vs σ H Q ->
  wpAny (model X.prog X.w) X.A (assignInOrder ((a4B ts X.env).map (·.2)) us) (fun _ s'=>∃σ' H',Inv X pins σ' H' s'/\Q σ' H') X.xe s
abbrev b6i:=V->V->V->Hp->(Hp->Prop)->Prop
def c6D(X:Cx)(t:b6i):Prop:=
 ∀(pins:List (Addr×Obj)) (s:k8) (σ:St) (H:Hp) (o i v:V) (ov iv u:Value) (Q:Hp->Prop),Inv X pins σ H s->L5 o ov->L5 i iv->L5 v u->t o i v H Q ->
  wpAny (model X.prog X.w) X.A (c9u ov iv u) (fun _ s'=>∃H',Inv X pins σ H' s'/\Q H') X.xe s
abbrev TIp:=V->V->Hp->VK->Prop
def PIp(X:Cx)(op:b5A)(t:TIp):Prop:=
 ∀(pins:List (Addr×Obj)) (s:k8) (σ:St) (H:Hp) (x y:V) (v u:Value) (Q:VK),Inv X pins σ H s->L5 x v->L5 y u->t x y H Q ->
  wpAny (model X.prog X.w) X.A (inplaceOp op v u) (EP X pins σ Q) X.xe s
section
def v7(i:Nat):TG:=fun v σ H Q=>Q (σ.set i (some v)) H
theorem b7F{x:Str}(hN:X.N.Nodup)(hi:X.N[i]? = some x)(hx:Loc X.env.scope x)(hf:X.fn x=true\/X.env.scope.names.lookup x=some .local:=by first | exact .inl rfl | exact .inr rfl | assumption):PG X (.Name x pos) (v7 i):=by
 intro pins s σ H v u Q I r h
 exact b0x (b0O I hN hi hx r (fun s' I'=>⟨_,H,I',h⟩) hf)
def b3r:TGs:=fun vs σ H Q=>vs=[]/\Q σ H
def a2A(t:TG)(u:TGs):TGs:=fun vs σ H Q=>∃v r,vs=v::r/\t v σ H fun σ' H'=>u r σ' H' Q
theorem c2g:PGs X [] b3r:=by
 intro pins s σ H vs us Q I r h
 obtain⟨e,h⟩:=h
 subst e
 cases r
 exact assignInOrder_nil ⟨σ,H,I,h⟩
theorem b4J{t:TG}{u:TGs}(h1:PG X e t)(h2:PGs X es u)
  (hs:(a4B (e::es) X.env).map (·.2)=a9B e X.env::(a4B es X.env).map (·.2):=by rfl):PGs X (e::es) (a2A t u):=by
 intro pins s σ H vs us Q I r h
 obtain⟨v,vr,e1,h⟩:=h
 subst e1
 cases r with
 | cons r rr=>
  rw[hs]
  refine assignInOrder_cons (thn (h1 pins s σ H _ _ _ I r h) fun _ s1 ⟨σ1,H1,I1,q1⟩=>?_)
  exact h2 pins s1 σ1 H1 _ _ Q I1 rr q1
def b3q(K:Fg)(n:Nat)(t:TGs):TG:=fun v σ H Q=>∃a xs,v=.ref a/\SqT K H a xs/\xs.length=n/\t xs σ H Q
theorem c5x{k:Nat}{t:TGs}{n:Nat}(hc:X.calm=true)(h:PGs X es t)
  (hn:(a4B es X.env).length=n:=by rfl) (hst:(a4B es X.env).findIdx? (·.1)=none:=by rfl):PG X (.Tuple es k pos) (b3q X.K n t):=by
 intro pins s σ H v u Q I r hw
 obtain⟨a,xs,e1,hq,hl,hw⟩:=hw
 subst e1
 cases r
 obtain⟨its,rv,ht,hz⟩:=I.tuple hq
 refine assign_Tuple_tuple (I.ok.hd hc) ht (by simp[hn,<-hl,rv.length]) hst fun h' hx=>?_
 have I1:Inv X pins σ H { s with heap:=h' }:=I.kept (t':=s.toks) fun b o e=>hx b o (z9 (l9 e)) e
 exact h pins _ σ H xs _ Q I1 (by simpa using rv) hw
def c3B(to ti:TE)(t:b6i):TG:=fun v σ H Q=>to σ H fun o H1=>ti σ H1 fun i H2=>t o i v H2 fun H3=>Q σ H3
theorem d0i{o i:Expr}{to ti:TE}{t:b6i}(ho:PE X o to)(hi:PE X i ti)(hs:c6D X t)
  (ha:∀v,a9B (.Subscript o i pos) X.env v=(do
   let ov <-a4H [v] (eval o X.env)
   let iv <-a4H [v,ov] (eval i X.env)
   b3S pos
   a4H [v,ov,iv] (c9u ov iv v)
   release [v,ov,iv] []):=by intro _;rfl):PG X (.Subscript o i pos) (c3B to ti t):=by
 intro pins s σ H v u Q I r h
 rw[ha]
 refine i8 (a3a (thn (ho pins s σ H _ I h) fun ov s1 ⟨x,H1,I1,r1,q1⟩=>?_))
 refine i8 (a3a (thn (hi pins s1 σ H1 _ I1 q1) fun iv s2 ⟨y,H2,I2,r2,q2⟩=>?_))
 refine i8 (b8A (i8 (a3a (thn (hs pins s2 σ H2 x y v ov iv u _ I2 r1 r2 r q2) fun _ s3 ⟨H3,I3,q3⟩=>?_))))
 exact wpAny_release ⟨σ,H3,I3,q3⟩
def L3(te:TE)(g:TG):TS:=fun D σ H=>te σ H fun x H1=>g x σ H1 D.nx
theorem d0e(he:PE X e te)(hg:PG X tg g)(hs:swapsWithSole [tg] e pos.line X.env=pure false:=by rfl)(hw:swappedStores [tg] e X.env=pure none:=by rfl)
  (h1:(a4B [tg] X.env).map (·.2)=[a9B tg X.env]:=by rfl):PS X (.Assign [tg] e pos) (L3 te g):=by
 intro pins s σ H D I h
 refine wpAny_Assign_stores (thn (he pins s σ H _ I h) fun v s1 ⟨x,H1,I1,r1,q1⟩=>?_) hs hw
 rw[h1]
 exact thn (hg pins s1 σ H1 x v _ I1 r1 q1) fun _ s2 q=>q
theorem c9Z{x:Str}(hN:X.N.Nodup)(hi:X.N[i]? = some x)(hx:Loc X.env.scope x)(he:PE X e te)(hs:a3Z e (some (.Name x pos')) pos.line X.env=pure false:=by rfl)(hf:X.fn x=true\/X.env.scope.names.lookup x=some .local:=by first | exact .inl rfl | exact .inr rfl | assumption) :
  PS X (.Assign [.Name x pos'] e pos) (L3 te (v7 i)):=by
 intro pins s σ H D I h
 refine wpAny_Assign_Name (thn (he pins s σ H _ I h) fun v s1 ⟨y,H1,I1,r1,q1⟩=>?_) hs
 exact b0O I1 hN hi hx r1 (fun s2 I2=>⟨_,H1,I2,q1⟩) hf
def c0z(i:Nat)(te:TE)(ti:TIp):TS:=fun D σ H=>∃x,σ[i]? = some (some x)/\te σ H fun y H1=>ti x y H1 fun z H2=>D.nx (σ.set i (some z)) H2
theorem d0d{x:Str}{op:b5A}{ti:TIp}(hN:X.N.Nodup)(hi:X.N[i]? = some x)(hx:Loc X.env.scope x)(he:PE X e te)(ho:PIp X op ti)(hf:X.fn x=true\/X.env.scope.names.lookup x=some .local:=by first | exact .inl rfl | exact .inr rfl | assumption) :
  PS X (.AugAssign (.Name x pos') op e pos) (c0z i te ti):=by
 intro pins s σ H D I h
 obtain⟨v,e1,h⟩:=h
 obtain⟨m,hn,hl⟩:=I.loc
 have vis:Vis X.env.scope x:=by rcases hx with k | k;exact .inl k;exact .inr (.inl k)
 obtain⟨u,r,l⟩:=hl i x v hi e1 vis
 refine wpAny_AugAssign_Name ?_
 have go:wpAny (model X.prog X.w) X.A (eval e X.env) (fun w s₂=>wpAny (model X.prog X.w) X.A (inplaceOp op u w) (fun r s₃=>wpAny (model X.prog X.w) X.A (storeName X.env x r) (fun _=>SP X pins D .next) X.xe s₃) X.xe s₂) X.xe s:=by
  refine thn (he pins s σ H _ I h) fun w s1 ⟨y,H1,I1,r1,q1⟩=>?_
  refine thn (ho pins s1 σ H1 v y u w _ I1 r r1 q1) fun z s2 ⟨zv,H2,I2,r2,q2⟩=>?_
  exact b0O I2 hN hi hx r2 (fun s3 I3=>⟨_,H2,I3,q2⟩) hf
 rcases l with ⟨hk,hm⟩ | ⟨hk,c,hc,hcell⟩
 ·exact d3a I.ok.kind hk hn hm go
 ·rcases hk with hk | hk
  ·exact d3f I.ok.kind hk hc hcell go
  ·rcases hx with k | k
   ·have:X.env.scope.names.lookup x=some .free:=hk
    rw[k]at this;cases this
   ·have:X.env.scope.names.lookup x=some .free:=hk
    rw[k]at this;cases this
def c1Y(to ti te:TE)(tget:V->V->Hp->VK->Prop)(tip:TIp)(tset:b6i):TS:=fun D σ H=>to σ H fun o H1=>ti σ H1 fun i H2=>tget o i H2 fun x H3=>te σ H3 fun y H4=>tip x y H4 fun z H5=>tset o i z H5 fun H6=>D.nx σ H6
def d1x(X:Cx)(t:V->V->Hp->VK->Prop):Prop:=
 ∀(pins:List (Addr×Obj)) (s:k8) (σ:St) (H:Hp) (o i:V) (ov iv:Value) (Q:VK),Inv X pins σ H s->L5 o ov->L5 i iv->t o i H Q ->
  wpAny (model X.prog X.w) X.A (c9v ov iv) (EP X pins σ Q) X.xe s
theorem c7x{o i:Expr}{to ti:TE}{tget:V->V->Hp->VK->Prop}{tip:TIp}{tset:b6i}{op:b5A}{tpos:Pos}(ho:PE X o to)(hi:PE X i ti)(hg:d1x X tget)(he:PE X e te)(hp:PIp X op tip)(hs:c6D X tset)
  (ha:∀ov iv new,augStore i ov iv new=(do a4H [new,ov,iv] (c9u ov iv new);release [new,ov,iv] [];pure .next):=by intros;rfl):PS X (.AugAssign (.Subscript o i tpos) op e pos) (c1Y to ti te tget tip tset):=by
 intro pins s σ H D I h
 refine wpAny_AugAssign_SubscriptAny (thn (ho pins s σ H _ I h) fun ov s1 ⟨x1,H1,I1,r1,q1⟩=>?_) ha
 refine thn (hi pins s1 σ H1 _ I1 q1) fun iv s2 ⟨x2,H2,I2,r2,q2⟩=>?_
 refine thn (hg pins s2 σ H2 x1 x2 ov iv _ I2 r1 r2 q2) fun old s3 ⟨x3,H3,I3,r3,q3⟩=>?_
 refine thn (he pins s3 σ H3 _ I3 q3) fun v s4 ⟨x4,H4,I4,r4,q4⟩=>?_
 refine thn (hp pins s4 σ H4 x3 x4 old v _ I4 r3 r4 q4) fun new s5 ⟨x5,H5,I5,r5,q5⟩=>?_
 exact thn (hs pins s5 σ H5 x1 x2 x5 ov iv new _ I5 r1 r2 r5 q5) fun _ s6 ⟨H6,I6,q6⟩=>⟨σ,H6,I6,q6⟩
def ipI(f:Int->Int->Int):TIp:=fun x y H Q=>∃i j,x=.int i/\y=.int j/\Q (.int (f i j)) H
theorem d1j:PIp X .Add (ipI fun i j=>i+j):=by
 intro pins s σ H x y v u Q I r1 r2 h
 obtain⟨i,j,e1,e2,q⟩:=h
 subst e1;subst e2
 obtain⟨t,rfl⟩:=r1
 obtain⟨t',rfl⟩:=r2
 exact iadd_int ⟨.int _,H,I.tok _,⟨_,rfl⟩,q⟩
end
section
def a8B(c:TT)(tb:TS):TS:=fun D σ H=>∃W:Nat->St->Hp->Prop,(∃m,W m σ H)/\∀m σ H,W m σ H ->
 c σ H fun b H1=>if b=true then ∃N:St->Hp->Prop,(∀σ' H',N σ' H'->∃m',m'<m/\W m' σ' H')/\tb { D with nx:=N,ct:=N,bk:=D.nx } σ H1 else D.nx σ H1
theorem c5s{body:List Stmt}{tc:TT}(hp:d1T (model X.prog X.w) X.A X.env X.xe)(hc:PT X c tc)(hb:PSs X body tb):PS X (.While c body [] pos) (a8B tc tb):=by
 intro pins s σ H D I h
 obtain⟨W,⟨m0,w0⟩,turn⟩:=h
 refine wpAny_While (codeAny_whileLoop (fun n s'=>∃σ' H',Inv X pins σ' H' s'/\W n σ' H') ?_ m0 ⟨σ,H,I,w0⟩)
 rintro n s1 ⟨σ1,H1,I1,w1⟩
 refine a3Y hp (thn (hc pins s1 σ1 H1 _ I1 (turn n σ1 H1 w1)) fun b s2 ⟨H2,I2,q2⟩=>?_)
 cases b with
 | true=>
  obtain⟨N,hN,q2⟩:=q2
  rw[if_pos rfl]
  refine a3Y hp (thn (hb pins s2 σ1 H2 _ I2 q2) fun f s3 q3=>?_)
  cases f with
  | next=>
   obtain⟨σ3,H3,I3,n3⟩:=q3
   obtain⟨m',hm,w3⟩:=hN σ3 H3 n3
   exact⟨m',hm,σ3,H3,I3,w3⟩
  | cont=>
   obtain⟨σ3,H3,I3,n3⟩:=q3
   obtain⟨m',hm,w3⟩:=hN σ3 H3 n3
   exact⟨m',hm,σ3,H3,I3,w3⟩
  | brk=>exact q3
  | ret v=>exact q3
 | false=>
  rw[if_neg z7]
  exact b3R ⟨σ1,H2,I2,q2⟩
end
structure It where
 go:Nat->Hp->Prop
 yld:Nat->Hp->V->Hp->Prop
 stop:Nat->Hp->Prop
def a9w(X:Cx)(pins:List (Addr×Obj))(H:Hp)(b:Addr):Prop:=
 H b=none/\b≠X.env.locals/\b∉X.fs/\(b∈X.ex\/X.s₀.heap.objs.size<=b)/\(∀x c,X.env.cells.lookup x=some c->c≠b)/\∀p∈X.pn++pins,p.1≠b
theorem Inv.fpOk(I:Inv X pins σ H s)(hb:s.heap.objs.size<=b)(hn:H' b=none):a9w X pins H' b:=by
 refine⟨hn,c4c (D7 I.lt hb),I.nofs hb,.inr (D4 I.sz hb),fun x c e z=>?_,fun p hp z=>?_⟩
 ·obtain⟨v,q⟩:=I.cell x c e
  exact absurd (D7 q.lt (by rw[z];exact hb)) (Q8 _)
 ·exact absurd (D7 (l9 (I.pin p hp).1) (by rw[z];exact hb)) (Q8 _)
structure b6h(P:D0)(w:World)(K:Fg)(tg:Expr)(J:It)(fp:List Addr)(it:Addr)(tn:Nat->Heap->Prop):Prop where
 mem:it∈fp
 obj:∀i h,tn i h->∀b∈fp,∃o,h.get? b=some o/\∀v,o.data≠.cell v
 keep:∀i h h',tn i h->(∀b∈fp,∀o,h.get? b=some o->h'.get? b=some o)->tn i h'
 item:∀(X:Cx),X.prog=P->X.w=w->X.K=K->X.calm=true->∀(i:Nat) (pins:List (Addr×Obj)) (s:k8) (σ:St) (H:Hp) (E:Value->k8->Prop),Inv X pins σ H s->(∀b∈fp,a9w X pins H b)->tn i s.heap->J.go i H ->
  wpAny (model P w) X.A (b8B (.ref it)) (fun r s1=>∃u,r=some u /\
   wpAny (model P w) X.A (a8r tg (.ref it) u) (fun _ s2=>∃x H',Inv X pins σ H' s2/\L5 x u/\J.yld i H x H'/\tn (i+1) s2.heap/\∀b∈fp,H' b=none) E s1) E s
 done:∀(X:Cx),X.prog=P->X.w=w->X.K=K->X.calm=true->∀(i:Nat) (pins:List (Addr×Obj)) (s:k8) (σ:St) (H:Hp) (E:Value->k8->Prop),Inv X pins σ H s->(∀b∈fp,a9w X pins H b)->tn i s.heap->J.stop i H ->
  wpAny (model P w) X.A (b8B (.ref it)) (fun r s1=>r=none/\Inv X pins σ H s1) E s
 self:∀(A:U8) (i:Nat) (s:k8) (Q:Value->k8->Prop) (E:Value->k8->Prop),tn i s.heap->Q (.ref it) s->wpAny (model P w) A (pyIter (.ref it)) Q E s
abbrev TI:=St->Hp->(It->Hp->Prop)->Prop
def PIE(X:Cx)(pins:List (Addr×Obj))(σ:St)(tg:Expr)(R:It->Hp->Prop)(itv:Value)(s2:k8):Prop:=
 ∃(it:Addr) (fp:List Addr) (tn:Nat->Heap->Prop) (J:It) (H':Hp),itv=.ref it/\Inv X pins σ H' s2/\b6h X.prog X.w X.K tg J fp it tn/\tn 0 s2.heap/\(∀b∈fp,a9w X pins H' b)/\R J H'
def PI(X:Cx)(tg iter:Expr)(wi:TI):Prop:=
 ∀(pins:List (Addr×Obj)) (s:k8) (σ:St) (H:Hp) (R:It->Hp->Prop),Inv X pins σ H s->wi σ H R ->
  wpAny (model X.prog X.w) X.A (eval iter X.env) (fun v s1=>wpAny (model X.prog X.w) X.A (pyIter v) (PIE X pins σ tg R) X.xe s1) X.xe s
theorem b9H{M:Model}{A:U8}{E:Value->k8->Prop}{it:Addr}{o:Obj}{n:String}{vs:Array Value}{Q:Unit->k8->Prop}(ho:s.heap.get? it=some o)(hc:o.cls=.type n)(hd:o.data=.fields vs)
  (hn:["enumerate","zip","dict_itemiterator","dict_reverseitemiterator","odict_iterator","itertools.zip_longest","itertools.pairwise"].contains n=false) (hQ:Q () s):wpAny M A (a8r tg (.ref it) u) Q E s:=by
 unfold a8r
 cases tg <;> first
  | exact u7 hQ
  | (cases u <;> first
    | exact u7 hQ
    | (refine i8 (wpAny_load ho ?_)
       rw[hc,hd]
       show wpAny M A (if(["enumerate","zip","dict_itemiterator","dict_reverseitemiterator","odict_iterator","itertools.zip_longest","itertools.pairwise"].contains n&&vs[0]? == some (rawInt _))=true then _ else _) Q E s
       rw[if_neg (by intro h;rw[hn,d1M]at h;cases h)]
       exact u7 hQ))
def Itl(K:Fg)(a:Addr):It:=
 ⟨fun i H=>∃xs x,SqL K H a xs/\xs[i]? = some x,fun i H x H'=>H'=H/\∀xs,SqL K H a xs->xs[i]? = some x,fun i H=>∃xs,SqL K H a xs/\xs.length<=i⟩
def Itt(K:Fg)(a:Addr):It:=
 ⟨fun i H=>∃xs x,SqT K H a xs/\xs[i]? = some x,fun i H x H'=>H'=H/\∀xs,SqT K H a xs->xs[i]? = some x,fun i H=>∃xs,SqT K H a xs/\xs.length<=i⟩
def Itr(lo:Int)(n:Nat):It:=⟨fun i _=>i<n,fun i H x H'=>H'=H/\x=.int (lo+i),fun i _=>n<=i⟩
theorem c2M{P:D0}{K:Fg}(a it:Addr):b6h P w K tg (Itl K a) [it] it (fun i h=>h.IsListIter it a i) where
 mem:=by simp
 obj:=fun i h st b hb=>by
  have e:b=it:=by simpa using hb
  subst e
  obtain⟨o,e,c,d⟩:=st
  exact⟨o,e,fun v z=>by rw[d]at z;cases z⟩
 keep:=fun i h h' st k=>st.at fun o e=>k it (by simp) o e
 item:=by
  intro X hP hw hK hc i pins s σ H E I hf st hg
  subst hP hw hK
  obtain⟨xs,x,hq,hx⟩:=hg
  obtain⟨its,rv,p,hz⟩:=I.list hq
  obtain⟨u,hu,ru⟩:=rv.get hx
  obtain⟨f0,f1,f2,f3,f4,f5⟩:=hf it (by simp)
  refine b3f st p.isList (x:=u) (by simpa using hu) fun h' st' sb=>?_
  have I1:Inv X pins σ H { s with heap:=h' }:=I.turned (t':=s.toks) (fun b o hb e=>(sb.2 b hb).trans e) f0 f1 f3 f4 f5
  obtain⟨o,e,c,d⟩:=id st'
  exact⟨u,rfl,b9H (s:={ s with heap:=h' }) e c d (by decide) ⟨x,H,I1,ru,⟨rfl,fun ys hy=>by rw[I.list_inj hy hq];exact hx⟩,st',fun b hb=>(hf b hb).1⟩⟩
 done:=by
  intro X hP hw hK hc i pins s σ H E I hf st hg
  subst hP hw hK
  obtain⟨xs,hq,hx⟩:=hg
  obtain⟨its,rv,p,hz⟩:=I.list hq
  obtain⟨f0,f1,f2,f3,f4,f5⟩:=hf it (by simp)
  have hl:=rv.length
  exact b3P (I.ok.hd hc) st p.isList (by simp;omega) fun h' eb=>⟨rfl,I.turned (t':=s.toks) (fun b o hb e=>eb b o hb e) f0 f1 f3 f4 f5⟩
 self:=fun _ _ _ _ _ st h=>wpAny_pyIter_listiter st h
theorem c0t{P:D0}{K:Fg}(a it:Addr):b6h P w K tg (Itt K a) [it] it (fun i h=>h.IsTupleIter it a i) where
 mem:=by simp
 obj:=fun i h st b hb=>by
  have e:b=it:=by simpa using hb
  subst e
  obtain⟨o,e,c,d⟩:=st
  exact⟨o,e,fun v z=>by rw[d]at z;cases z⟩
 keep:=fun i h h' st k=>st.at fun o e=>k it (by simp) o e
 item:=by
  intro X hP hw hK hc i pins s σ H E I hf st hg
  subst hP hw hK
  obtain⟨xs,x,hq,hx⟩:=hg
  obtain⟨its,rv,p,hz⟩:=I.tuple hq
  obtain⟨u,hu,ru⟩:=rv.get hx
  obtain⟨f0,f1,f2,f3,f4,f5⟩:=hf it (by simp)
  refine wpAny_pyNext_tuple_item st (show s.heap.IsTuple a its.toArray from p) (x:=u) (by simpa using hu) fun h' st' sb=>?_
  have I1:Inv X pins σ H { s with heap:=h' }:=I.turned (t':=s.toks) (fun b o hb e=>(sb.2 b hb).trans e) f0 f1 f3 f4 f5
  obtain⟨o,e,c,d⟩:=id st'
  exact⟨u,rfl,b9H (s:={ s with heap:=h' }) e c d (by decide) ⟨x,H,I1,ru,⟨rfl,fun ys hy=>by rw[I.tuple_inj hy hq];exact hx⟩,st',fun b hb=>(hf b hb).1⟩⟩
 done:=by
  intro X hP hw hK hc i pins s σ H E I hf st hg
  subst hP hw hK
  obtain⟨xs,hq,hx⟩:=hg
  obtain⟨its,rv,p,hz⟩:=I.tuple hq
  obtain⟨f0,f1,f2,f3,f4,f5⟩:=hf it (by simp)
  have hl:=rv.length
  exact wpAny_pyNext_tuple_end (I.ok.hd hc) st (show s.heap.IsTuple a its.toArray from p) (by simp;omega) fun h' eb=>⟨rfl,I.turned (t':=s.toks) (fun b o hb e=>eb b o hb e) f0 f1 f3 f4 f5⟩
 self:=fun _ _ _ _ _ st h=>wpAny_pyIter_tupleiter st h
theorem c0u{P:D0}{K:Fg}(it:Addr)(lo:Int)(n:Nat):b6h P w K tg (Itr lo n) [it] it (fun i h=>IsRangeIter h it (lo+(i:Nat) * 1) ((n:Int) - (i:Nat)) 1) where
 mem:=by simp
 obj:=fun i h st b hb=>by
  have e:b=it:=by simpa using hb
  subst e
  exact⟨_,st,fun v z=>by
   have z':Data.fields _=Data.cell v:=z
   cases z'⟩
 keep:=fun i h h' st k=>k it (by simp) _ st
 item:=by
  intro X hP hw hK hc i pins s σ H E I hf st hg
  subst hP hw hK
  obtain⟨f0,f1,f2,f3,f4,f5⟩:=hf it (by simp)
  have W:=Walks.range (prog:=X.prog) (w:=X.w) (I.ok.hd hc) it lo 1 n
  refine W.item i s _ _ hg st fun v h' tk hv st' kk=>?_
  obtain⟨t,rfl⟩:=hv
  have I1:Inv X pins σ H { s with heap:=h',toks:=tk }:=I.turned (fun b o hb e=>kk b o (by simpa using hb) e) f0 f1 f3 f4 f5
  refine⟨_,rfl,b9H (s:={ s with heap:=h',toks:=tk }) (n := "range_iterator") st' rfl rfl (by decide) ⟨.int (lo+i),H,I1,⟨t,?_⟩,⟨rfl,rfl⟩,st',fun b hb=>(hf b hb).1⟩⟩
  rw[Int.mul_one]
 done:=by
  intro X hP hw hK hc i pins s σ H E I hf st hg
  subst hP hw hK
  obtain⟨f0,f1,f2,f3,f4,f5⟩:=hf it (by simp)
  exact wpAny_pyNext_range_end (I.ok.hd hc) st (by have:n<=i:=hg;omega) fun h' eb=>⟨rfl,I.turned (t':=s.toks) (fun b o hb e=>eb b o hb e) f0 f1 f3 f4 f5⟩
 self:=fun _ _ _ _ _ st h=>wpAny_pyIter_rangeiter st h
section
def W8(K:Fg)(tl:TE):TI:=fun σ H R=>tl σ H fun x H1=>∃a,x=.ref a/\(∃xs,SqL K H1 a xs)/\R (Itl K a) H1
def c8t(K:Fg)(tl:TE):TI:=fun σ H R=>tl σ H fun x H1=>∃a,x=.ref a/\(∃xs,SqT K H1 a xs)/\R (Itt K a) H1
theorem c7C{l:Expr}{tl:TE}(hl:PE X l tl):PI X tg l (W8 X.K tl):=by
 intro pins s σ H R I h
 refine thn (hl pins s σ H _ I h) fun v s1 ⟨x,H1,I1,r1,q1⟩=>?_
 obtain⟨a,e,⟨xs,hq⟩,q⟩:=q1
 subst e
 cases r1
 obtain⟨its,rv,p,hz⟩:=I1.list hq
 refine a6K p.isList ?_
 refine⟨s1.heap.objs.size,[s1.heap.objs.size],_,_,H1,rfl,I1.kept (t':=s1.toks) fun b o e=>j4 _ e,c2M a _,⟨_,A5 _ rfl,rfl,rfl⟩,fun b hb=>?_,q⟩
 have e:b=s1.heap.objs.size:=by simpa using hb
 subst e
 exact I1.fpOk (j6 _) (I1.hok.fresh (j6 _))
theorem d0g{l:Expr}{tl:TE}(hl:PE X l tl):PI X tg l (c8t X.K tl):=by
 intro pins s σ H R I h
 refine thn (hl pins s σ H _ I h) fun v s1 ⟨x,H1,I1,r1,q1⟩=>?_
 obtain⟨a,e,⟨xs,hq⟩,q⟩:=q1
 subst e
 cases r1
 obtain⟨its,rv,p,hz⟩:=I1.tuple hq
 refine wpAny_pyIter_tuple (show s1.heap.IsTuple a its.toArray from p) ?_
 refine⟨s1.heap.objs.size,[s1.heap.objs.size],_,_,H1,rfl,I1.kept (t':=s1.toks) fun b o e=>j4 _ e,c0t a _,⟨_,A5 _ rfl,rfl,rfl⟩,fun b hb=>?_,q⟩
 have e:b=s1.heap.objs.size:=by simpa using hb
 subst e
 exact I1.fpOk (j6 _) (I1.hok.fresh (j6 _))
theorem c5g{R:It->Hp->Prop}{E:Value->k8->Prop}{lo hi:Int}{t u v:Tok}{tk:Nat}(I:Inv X pins σ H s)(h1 : -(2 ^ 62)<=lo)(h2:lo<2 ^ 62)(h3 : -(2 ^ 62)<=hi)(h4:hi<2 ^ 62)
  (q:R (Itr lo (hi - lo).toNat) H):wpAny (model X.prog X.w) X.A (pyIter (.ref s.heap.objs.size)) (PIE X pins σ tg R) E { s with heap:=s.heap.push { cls:=.type "range",data:=.fields #[.int lo t,.int hi u,.int 1 v] },toks:=tk }:=by
 refine wpAny_pyIter_range (IsRange.new ..) (small_one h1 h2 h3 h4) ?_
 have I1:Inv X pins σ H { s with heap:=s.heap.push { cls:=.type "range",data:=.fields #[.int lo t,.int hi u,.int 1 v] },toks:=tk }:=I.kept fun b o e=>j4 _ e
 refine⟨(s.heap.push { cls:=.type "range",data:=.fields #[.int lo t,.int hi u,.int 1 v] }).objs.size,[(s.heap.push { cls:=.type "range",data:=.fields #[.int lo t,.int hi u,.int 1 v] }).objs.size],_,_,H,rfl,
  I1.kept (t':=tk) fun b o e=>j4 _ e,c0u _ lo (hi - lo).toNat,?_,fun b hb=>?_,q⟩
 ·have e1:lo+((0:Nat):Int) * 1=lo:=by simp
  have e2:(((hi - lo).toNat:Nat):Int) - ((0:Nat):Int)=Builtin.Range.rangeSize lo hi 1:=by rw[rangeSize_one];split <;> omega
  show IsRangeIter _ _ (lo+((0:Nat):Int) * 1) ((((hi - lo).toNat:Nat):Int) - ((0:Nat):Int)) 1
  rw[e1,e2]
  exact A5 _ rfl
 ·have e:b=(s.heap.push { cls:=.type "range",data:=.fields #[.int lo t,.int hi u,.int 1 v] }).objs.size:=by simpa using hb
  subst e
  exact I1.fpOk (j6 _) (I1.hok.fresh (j6 _))
def a2Z(ta:TA):TI:=fun σ H R=>ta σ H fun vs H1=>∃j:Int,vs=[.int j] /\ -(2 ^ 62)<=j/\j<2 ^ 62/\R (Itr 0 j.toNat) H1
theorem c3b{a:Expr}{ta:TA}(hg:Gl X "range")(hm:X.mg "range" = none)(ha:PA X [a] ta)(hs:j9 [a] X.env=[(false,eval a X.env)]:=by rfl):PI X tg (.Call (.Name "range" p) [a] [] pos) (a2Z ta):=by
 intro pins s σ H R I h
 refine Call_ (b2t I hg hm boot_range (a1X (thn (ha pos pins s σ H _ I h) fun us s1 ⟨vs,H1,I1,r1,q1⟩=>?_) hs rfl))
 obtain⟨j,e,q1,q2,q⟩:=q1
 subst e
 cases r1 with
 | cons r rr=>
  cases rr
  obtain⟨t,rfl⟩:=r
  exact call_range_1 (c5g I1 (by omega) (by omega) q1 q2 (by simpa using q))
def a3e(wi:TI)(g:TG)(tb:TS):TS:=fun D σ H=>wi σ H fun J H1=>∃W:Nat->Nat->St->Hp->Prop,(∃m,W 0 m σ H1)/\∀i m σ H,W i m σ H ->
 (J.stop i H/\D.nx σ H)\/(J.go i H/\∃N:St->Hp->Prop,(∀σ' H',N σ' H'->∃m',m'<m/\W (i+1) m' σ' H')/\∀x H',J.yld i H x H'->g x σ H' fun σ2 H2=>tb { D with nx:=N,ct:=N,bk:=D.nx } σ2 H2)
def b0b(fp:List Addr)(h:Heap):List (Addr×Obj):=fp.filterMap fun b=>(h.get? b).map fun o=>(b,o)
theorem a4P{fp:List Addr}{o:Obj}(hb:b∈fp)(e:h.get? b=some o):(b,o)∈b0b fp h:=c6O.mpr ⟨b,hb,by rw[e];rfl⟩
theorem c3m{fp:List Addr}{p:Addr×Obj}(hp:p∈b0b fp h):p.1∈fp/\h.get? p.1=some p.2:=by
 obtain⟨b,hb,e⟩:=c6O.mp hp
 cases q:h.get? b with
 | none=>rw[q]at e;cases e
 | some o=>
  rw[q]at e
  have e':(b,o)=p:=Option.some.inj e
  subst e'
  exact⟨hb,q⟩
theorem Inv.pinned{fp:List Addr}(I:Inv X pins σ H s)(hf:∀b∈fp,a9w X pins H b)(ho:∀b∈fp,∃o,s.heap.get? b=some o/\∀v,o.data≠.cell v):Inv X (pins++b0b fp s.heap) σ H s:=
 I.pins_of fun p hp=>(u4.mp hp).elim (fun z=>I.pin p (w6 _ z)) fun z=>by
  obtain⟨hb,e⟩:=c3m z
  obtain⟨f0,f1,f2,_⟩:=hf p.1 hb
  obtain⟨o,e',d⟩:=ho p.1 hb
  rw[e]at e';cases e'
  exact⟨e,f0,f1,f2,d⟩
theorem Inv.unpinned{pl:List (Addr×Obj)}(I:Inv X (pins++pl) σ H s):Inv X pins σ H s:=I.pins_of fun p hp=>I.pin p (w6 _ (y0 _ hp))
theorem d0b{iter:Expr}{body:List Stmt}{wi:TI}(hp:d1T (model X.prog X.w) X.A X.env X.xe)(hc:X.calm=true)(hi:PI X tg iter wi)(hg:PG X tg g)(hb:PSs X body tb)
  (hs:∀x,T1 iter X.env x=pure x:=by intro _;rfl):PS X (.For tg iter body [] pos) (a3e wi g tb):=by
 intro pins s σ H D I h
 refine wpAny_For (thn (hi pins s σ H _ I h) fun v s1 h1=>thn h1 fun itv s2 h2=>?_) hs
 obtain⟨it,fp,tn,J,H2,e,I2,T,st2,f2,W,⟨m0,w0⟩,turn⟩:=h2
 subst e
 have stat:∀ {H':Hp},(∀b∈fp,H' b=none)->∀b∈fp,a9w X pins H' b:=fun hn b hb=>⟨hn b hb,(f2 b hb).2⟩
 refine codeAny_forLoop_any (fun n s'=>∃i σ' H',Inv X pins σ' H' s'/\tn i s'.heap/\(∀b∈fp,H' b=none)/\W i n σ' H') ?_ m0 ⟨0,σ,H2,I2,st2,fun b hb=>(f2 b hb).1,w0⟩
 rintro n s3 ⟨i,σ3,H3,I3,st3,fr3,w3⟩
 rcases turn i n σ3 H3 w3 with ⟨stop,qn⟩ | ⟨go,N,hN,step⟩
 ·refine a3Y hp (thn (T.done X rfl rfl rfl hc i pins s3 σ3 H3 X.xe I3 (stat fr3) st3 stop) fun r s4 ⟨hr,I4⟩=>?_)
  subst hr
  exact b3R ⟨σ3,H3,I4,qn⟩
 ·refine a3Y hp (thn (T.item X rfl rfl rfl hc i pins s3 σ3 H3 X.xe I3 (stat fr3) st3 go) fun r s4 ⟨u,hr,h4⟩=>?_)
  subst hr
  refine a3Y hp (thn h4 fun _ s5 ⟨x,H5,I5,r5,y5,st5,fr5⟩=>?_)
  have I5':=I5.pinned (stat fr5) (T.obj _ _ st5)
  refine a3Y hp (thn (hg _ s5 σ3 H5 x u _ I5' r5 (step x H5 y5)) fun _ s6 ⟨σ6,H6,I6,q6⟩=>?_)
  refine a3Y hp (thn (hb _ s6 σ6 H6 _ I6 q6) fun f s7 q7=>?_)
  have again:∀ {σ7:St} {H7:Hp},Inv X (pins++b0b fp s5.heap) σ7 H7 s7->N σ7 H7->∃m,m<n/\∃i σ' H',Inv X pins σ' H' s7/\tn i s7.heap/\(∀b∈fp,H' b=none)/\W i m σ' H':=fun {σ7 H7} I7 n7=>by
   obtain⟨m',hm,w7⟩:=hN σ7 H7 n7
   refine⟨m',hm,i+1,σ7,H7,I7.unpinned,T.keep _ _ _ st5 fun b hb o e=>(I7.pin (b,o) (w6 _ (w6 _ (a4P hb e)))).1,fun b hb=>?_,w7⟩
   obtain⟨o,e,d⟩:=T.obj _ _ st5 b hb
   exact(I7.pin (b,o) (w6 _ (w6 _ (a4P hb e)))).2.1
  cases f with
  | next=>obtain⟨σ7,H7,I7,n7⟩:=q7;exact again I7 n7
  | cont=>obtain⟨σ7,H7,I7,n7⟩:=q7;exact again I7 n7
  | brk=>obtain⟨σ7,H7,I7,q7⟩:=q7;exact⟨σ7,H7,I7.unpinned,q7⟩
  | ret v=>obtain⟨x7,σ7,H7,I7,r7,q7⟩:=q7;exact⟨x7,σ7,H7,I7.unpinned,r7,q7⟩
end
theorem a4u{K:Fg}{D:b1z}(Pv:Nat->St->Hp->Prop)(h0:Pv 0 σ H)(hl:∀i σ H,i<=xs.length->Pv i σ H->SqL K H a xs)
  (hs:∀i x σ H,xs[i]? = some x->Pv i σ H->g x σ H fun σ2 H2=>tb { D with nx:=Pv (i+1),ct:=Pv (i+1),bk:=D.nx } σ2 H2) (hd:∀σ H,Pv xs.length σ H->D.nx σ H) :
  ∃W:Nat->Nat->St->Hp->Prop,(∃m,W 0 m σ H)/\∀i m σ H,W i m σ H ->
   ((Itl K a).stop i H/\D.nx σ H)\/((Itl K a).go i H/\∃N:St->Hp->Prop,(∀σ' H',N σ' H'->∃m',m'<m/\W (i+1) m' σ' H')/\∀x H',(Itl K a).yld i H x H'->g x σ H' fun σ2 H2=>tb { D with nx:=N,ct:=N,bk:=D.nx } σ2 H2):=by
 refine⟨fun i m σ H=>m=xs.length - i/\i<=xs.length/\Pv i σ H,⟨xs.length,by simp,Z0 _,h0⟩,?_⟩
 rintro i m σ H ⟨rfl,hi,p⟩
 have q:=hl i σ H hi p
 by_cases hlt:i<xs.length
 ·refine .inr ⟨⟨xs,xs[i],q,by simp[hlt]⟩,Pv (i+1),fun σ' H' p'=>⟨xs.length - (i+1),by omega,rfl,hlt,p'⟩,fun x H' y=>?_⟩
  obtain⟨e,y⟩:=y
  subst e
  exact hs i x σ _ (y xs q) p
 ·have e:i=xs.length:=by omega
  subst e
  exact .inl ⟨⟨xs,q,j6 _⟩,hd σ H p⟩
theorem a1k{lo:Int}{n:Nat}{D:b1z}(Pv:Nat->St->Hp->Prop)(h0:Pv 0 σ H)
  (hs:∀i σ H,i<n->Pv i σ H->g (.int (lo+i)) σ H fun σ2 H2=>tb { D with nx:=Pv (i+1),ct:=Pv (i+1),bk:=D.nx } σ2 H2) (hd:∀σ H,Pv n σ H->D.nx σ H) :
  ∃W:Nat->Nat->St->Hp->Prop,(∃m,W 0 m σ H)/\∀i m σ H,W i m σ H ->
   ((Itr lo n).stop i H/\D.nx σ H)\/((Itr lo n).go i H/\∃N:St->Hp->Prop,(∀σ' H',N σ' H'->∃m',m'<m/\W (i+1) m' σ' H')/\∀x H',(Itr lo n).yld i H x H'->g x σ H' fun σ2 H2=>tb { D with nx:=N,ct:=N,bk:=D.nx } σ2 H2):=by
 refine⟨fun i m σ H=>m=n - i/\i<=n/\Pv i σ H,⟨n,by simp,Z0 _,h0⟩,?_⟩
 rintro i m σ H ⟨rfl,hi,p⟩
 by_cases hlt:i<n
 ·refine .inr ⟨hlt,Pv (i+1),fun σ' H' p'=>⟨n - (i+1),by omega,rfl,hlt,p'⟩,fun x H' y=>?_⟩
  obtain⟨e,y⟩:=y
  subst e y
  exact hs i σ _ hlt p
 ·have e:i=n:=by omega
  subst e
  exact .inl ⟨j6 _,hd σ H p⟩
abbrev R2:=V->V->Hp->VK->Prop
def OpR(X:Cx)(f:Value->Value->Sem Value)(r:R2):Prop:=
 ∀(pins:List (Addr×Obj)) (s:k8) (σ:St) (H:Hp) (x y:V) (v u:Value) (Q:VK),Inv X pins σ H s->L5 x v->L5 y u->r x y H Q ->
  wpAny (model X.prog X.w) X.A (f v u) (EP X pins σ Q) X.xe s
def UnR(X:Cx)(f:Value->Sem Value)(r:V->Hp->VK->Prop):Prop:=
 ∀(pins:List (Addr×Obj)) (s:k8) (σ:St) (H:Hp) (x:V) (v:Value) (Q:VK),Inv X pins σ H s->L5 x v->r x H Q ->
  wpAny (model X.prog X.w) X.A (f v) (EP X pins σ Q) X.xe s
def a0S(X:Cx)(f:Value)(r:List V->Hp->VK->Prop):Prop:=
 ∀(pins:List (Addr×Obj)) (s:k8) (σ:St) (H:Hp) (xs:List V) (us:List Value) (Q:VK),Inv X pins σ H s->O6 xs us->r xs H Q ->
  wpAny (model X.prog X.w) X.A (call f us) (EP X pins σ Q) X.xe s
def tOp(r:R2)(ta tb:TE):TE:=fun σ H Q=>ta σ H fun x H1=>tb σ H1 fun y H2=>r x y H2 Q
def tUn(r:V->Hp->VK->Prop)(ta:TE):TE:=fun σ H Q=>ta σ H fun x H1=>r x H1 Q
def rI(C:Int->Int->Prop)(g:Int->Int->V):R2:=fun x y H Q=>∃i j,x=.int i/\y=.int j/\C i j/\Q (g i j) H
def rI0(g:Int->Int->V):R2:=fun x y H Q=>∃i j,x=.int i/\y=.int j/\Q (g i j) H
def rU(g:Int->V):V->Hp->VK->Prop:=fun x H Q=>∃i,x=.int i/\Q (g i) H
section
variable {a b:Expr}{tb tc:TE}
theorem d1p(ha:PE X a ta)(hb:PE X b tb){R:V->V->Hp->Prop}(I:Inv X pins σ H s)
  (h:ta σ H fun x H1=>tb σ H1 fun y H2=>R x y H2) {Q:Value->k8->Prop} {f:Value->Value->Sem Value}
  (hf:∀v u s2 x y H2,Inv X pins σ H2 s2->L5 x v->L5 y u->R x y H2->wpAny (model X.prog X.w) X.A (f v u) Q X.xe s2) :
  wpAny (model X.prog X.w) X.A (eval a X.env) (fun v s₁=>wpAny (model X.prog X.w) X.A (eval b X.env) (fun u s₂=>wpAny (model X.prog X.w) X.A (f v u) Q X.xe s₂) X.xe s₁) X.xe s:=by
 refine thn (ha pins s σ H _ I h) fun v s1 ⟨x,H1,I1,r1,q1⟩=>?_
 refine thn (hb pins s1 σ H1 _ I1 q1) fun u s2 ⟨y,H2,I2,r2,q2⟩=>?_
 exact hf v u s2 x y H2 I2 r1 r2 q2
theorem d2x{op:b5A}{r:R2}(ho:OpR X (a2o op) r)(ha:PE X a ta)(hb:PE X b tb):PE X (.BinOp a op b pos) (tOp r ta tb):=by
 intro pins s σ H Q I h
 exact wpAny_BinOp (d1p ha hb I h fun v u s2 x y H2 I2 rx ry q=>ho pins s2 σ H2 x y v u Q I2 rx ry q)
theorem d2v{op:UnaryOp}{r:V->Hp->VK->Prop}(ho:UnR X (unaryOp op) r)(ha:PE X a ta):PE X (.UnaryOp op a pos) (tUn r ta):=by
 intro pins s σ H Q I h
 exact UnaryOp_ (thn (ha pins s σ H _ I h) fun v s1 ⟨x,H1,I1,r1,q1⟩=>ho pins s1 σ H1 x v Q I1 r1 q1)
theorem opI{f:Value->Value->Sem Value}{C:Int->Int->Prop}{g:Int->Int->Int}
  (rule:∀(i j:Int) (t u:Tok) (s:k8) (Q:Value->k8->Prop) (E:Value->k8->Prop),C i j->Q (.int (g i j) s.toks) { s with toks:=s.toks+1 }->wpAny (model X.prog X.w) X.A (f (.int i t) (.int j u)) Q E s) :
  OpR X f (rI C fun i j=>.int (g i j)):=by
 intro pins s σ H x y v u Q I rx ry h
 obtain⟨i,j,rfl,rfl,hc,q⟩:=h
 obtain⟨t,rfl⟩:=rx
 obtain⟨t',rfl⟩:=ry
 exact rule i j t t' s _ _ hc ⟨.int (g i j),H,I.tok _,⟨_,rfl⟩,q⟩
theorem d2I{f:Value->Value->Sem Value}{g:Int->Int->Int}
  (rule:∀(i j:Int) (t u:Tok) (s:k8) (Q:Value->k8->Prop) (E:Value->k8->Prop),Q (.int (g i j) s.toks) { s with toks:=s.toks+1 }->wpAny (model X.prog X.w) X.A (f (.int i t) (.int j u)) Q E s) :
  OpR X f (rI0 fun i j=>.int (g i j)):=by
 intro pins s σ H x y v u Q I rx ry h
 obtain⟨i,j,rfl,rfl,q⟩:=h
 obtain⟨t,rfl⟩:=rx
 obtain⟨t',rfl⟩:=ry
 exact rule i j t t' s _ _ ⟨.int (g i j),H,I.tok _,⟨_,rfl⟩,q⟩
theorem c7X{f:Value->Value->Sem Value}{g:Int->Int->Bool}
  (rule:∀(i j:Int) (t u:Tok) (s:k8) (Q:Value->k8->Prop) (E:Value->k8->Prop),Q (.bool (g i j)) s->wpAny (model X.prog X.w) X.A (f (.int i t) (.int j u)) Q E s) :
  OpR X f (rI0 fun i j=>.bl (g i j)):=by
 intro pins s σ H x y v u Q I rx ry h
 obtain⟨i,j,rfl,rfl,q⟩:=h
 obtain⟨t,rfl⟩:=rx
 obtain⟨t',rfl⟩:=ry
 exact rule i j t t' s _ _ ⟨.bl (g i j),H,I,rfl,q⟩
def c8L(i j:Int):Prop:=(-(2 ^ 64)<i/\i<2 ^ 64)\/(-(2 ^ 64)<j/\j<2 ^ 64)
theorem c8L.ok{i j:Int}(h:c8L i j):IntMulOk i j:=by
 rcases h with ⟨h1,h2⟩ | ⟨h1,h2⟩
 ·exact .of_left (intBits_le_64 h1 h2)
 ·exact .of_right (intBits_le_64 h1 h2)
theorem d0N:OpR X (a2o .Add) (rI0 fun i j=>.int (i+j)):=d2I fun _ _ _ _ _ _ _ q=>add_int q
theorem d0A:OpR X (a2o .Sub) (rI0 fun i j=>.int (i - j)):=d2I fun _ _ _ _ _ _ _ q=>sub_int q
theorem d0J:OpR X (a2o .Mult) (rI c8L fun i j=>.int (i * j)):=opI fun _ _ _ _ _ _ _ hc q=>mul_int q hc.ok
theorem d0K:OpR X (a2o .Mod) (rI (fun _ j=>0<j) fun i j=>.int (i % j)):=opI fun i j _ _ _ _ _ hc q=>by
 have h1:(0:Int)<j:=hc
 exact mod_int' (by omega) (by rw[Int.fmod_eq_emod_of_nonneg i (by omega)];exact q)
theorem unI{f:Value->Sem Value}{g:Int->Int}
  (rule:∀(i:Int) (t:Tok) (s:k8) (Q:Value->k8->Prop) (E:Value->k8->Prop),Q (.int (g i) s.toks) { s with toks:=s.toks+1 }->wpAny (model X.prog X.w) X.A (f (.int i t)) Q E s) :
  UnR X f (rU fun i=>.int (g i)):=by
 intro pins s σ H x v Q I rx h
 obtain⟨i,rfl,q⟩:=h
 obtain⟨t,rfl⟩:=rx
 exact rule i t s _ _ ⟨.int (g i),H,I.tok _,⟨_,rfl⟩,q⟩
theorem c9y:UnR X (unaryOp .USub) (rU fun i=>.int (-i)):=unI fun _ _ _ _ _ q=>neg_int q
end
def b8U:V->V->Bool
 | .non,.non=>true | .non,.int _=>true | .int _,.non=>true | .non,.bl _=>true | .bl _,.non=>true | .non,.str _=>true | .str _,.non=>true
 | .int _,.int _=>true | .bl _,.bl _=>true | .str _,.str _=>true | .byt _,.byt _=>true
 | .int _,.str _=>true | .str _,.int _=>true | .bl _,.str _=>true | .str _,.bl _=>true
 | _,_=>false
def rEq:R2:=fun x y H Q=>b8U x y=true/\Q (.bl (decide (x=y))) H
def rNe:R2:=fun x y H Q=>b8U x y=true/\Q (.bl (!decide (x=y))) H
theorem c2r{i j:Int}:decide (V.int i=V.int j)=(i == j):=by
 rw[a2p]
 simp
theorem c6u{i j:Bool}:decide (V.bl i=V.bl j)=(i == j):=by
 rw[a2p]
 simp
theorem c2q{i j:Str}:decide (V.str i=V.str j)=(i == j):=by
 rw[a2p]
 simp
theorem c2s{i j:Array UInt8}:decide (V.byt i=V.byt j)=(i.toList == j.toList):=by
 rw[a2p]
 cases i
 cases j
 simp
section
variable {a b:Expr}{tb tc:TE}
theorem U6{Q:VK}{k k':Bool}(I:Inv X pins σ H s)(q:Q (.bl k) H)(e:k=k'):EP X pins σ Q (.bool k') s:=by
 subst e
 exact⟨.bl k,H,I,rfl,q⟩
theorem d2H:OpR X (C3 .Eq) rEq:=by
 intro pins s σ H x y v u Q I rx ry h
 obtain⟨hs,q⟩:=h
 cases x with
 | non=>
  cases rx
  cases y with
  | non=>cases ry;exact PySem.EqNone.eq_none_none (U6 I q (by simp))
  | bl j=>cases ry;exact PySem.EqNone.eq_none_bool (U6 I q (by simp))
  | int j=>obtain⟨t',rfl⟩:=ry;exact PySem.EqNone.eq_none_int (U6 I q (by simp))
  | str j=>obtain⟨t',rfl⟩:=ry;exact PySem.EqNone.eq_none_str (U6 I q (by simp))
  | _=>exact absurd (show false=true from hs) z7
 | bl i=>
  cases rx
  cases y with
  | non=>cases ry;exact PySem.EqNone.eq_bool_none (U6 I q (by simp))
  | bl j=>cases ry;exact eq_bool (U6 I q c6u)
  | str j=>obtain⟨t',rfl⟩:=ry;exact PySem.EqMixed.eq_bool_str (U6 I q (by simp))
  | _=>exact absurd (show false=true from hs) z7
 | int i=>
  obtain⟨t,rfl⟩:=rx
  cases y with
  | non=>cases ry;exact PySem.EqNone.eq_int_none (U6 I q (by simp))
  | int j=>obtain⟨t',rfl⟩:=ry;exact eq_int (U6 I q c2r)
  | str j=>obtain⟨t',rfl⟩:=ry;exact PySem.EqMixed.eq_int_str (U6 I q (by simp))
  | _=>exact absurd (show false=true from hs) z7
 | str i=>
  obtain⟨t,rfl⟩:=rx
  cases y with
  | non=>cases ry;exact PySem.EqNone.eq_str_none (U6 I q (by simp))
  | bl j=>cases ry;exact PySem.EqMixed.eq_str_bool (U6 I q (by simp))
  | int j=>obtain⟨t',rfl⟩:=ry;exact PySem.EqMixed.eq_str_int (U6 I q (by simp))
  | str j=>obtain⟨t',rfl⟩:=ry;exact eq_str (U6 I q c2q)
  | _=>exact absurd (show false=true from hs) z7
 | byt i=>
  obtain⟨t,rfl⟩:=rx
  cases y with
  | byt j=>obtain⟨t',rfl⟩:=ry;exact PySem.W.eq_bytes (U6 I q c2s)
  | _=>exact absurd (show false=true from hs) z7
 | _=>cases y <;> exact absurd (show false=true from hs) z7
theorem d2C:OpR X (C3 .NotEq) rNe:=by
 intro pins s σ H x y v u Q I rx ry h
 obtain⟨hs,q⟩:=h
 cases x with
 | non=>
  cases rx
  cases y with
  | non=>cases ry;exact PySem.EqNone.ne_none_none (U6 I q (by simp))
  | bl j=>cases ry;exact PySem.EqNone.ne_none_bool (U6 I q (by simp))
  | int j=>obtain⟨t',rfl⟩:=ry;exact PySem.EqNone.ne_none_int (U6 I q (by simp))
  | str j=>obtain⟨t',rfl⟩:=ry;exact PySem.EqNone.ne_none_str (U6 I q (by simp))
  | _=>exact absurd (show false=true from hs) z7
 | bl i=>
  cases rx
  cases y with
  | non=>cases ry;exact PySem.EqNone.ne_bool_none (U6 I q (by simp))
  | bl j=>cases ry;exact ne_bool (U6 I q (congrArg not c6u))
  | str j=>obtain⟨t',rfl⟩:=ry;exact PySem.EqMixed.ne_bool_str (U6 I q (by simp))
  | _=>exact absurd (show false=true from hs) z7
 | int i=>
  obtain⟨t,rfl⟩:=rx
  cases y with
  | non=>cases ry;exact PySem.EqNone.ne_int_none (U6 I q (by simp))
  | int j=>obtain⟨t',rfl⟩:=ry;exact ne_int (U6 I q (congrArg not c2r))
  | str j=>obtain⟨t',rfl⟩:=ry;exact PySem.EqMixed.ne_int_str (U6 I q (by simp))
  | _=>exact absurd (show false=true from hs) z7
 | str i=>
  obtain⟨t,rfl⟩:=rx
  cases y with
  | non=>cases ry;exact PySem.EqNone.ne_str_none (U6 I q (by simp))
  | bl j=>cases ry;exact PySem.EqMixed.ne_str_bool (U6 I q (by simp))
  | int j=>obtain⟨t',rfl⟩:=ry;exact PySem.EqMixed.ne_str_int (U6 I q (by simp))
  | str j=>obtain⟨t',rfl⟩:=ry;exact ne_str (U6 I q (congrArg not c2q))
  | _=>exact absurd (show false=true from hs) z7
 | byt i=>
  obtain⟨t,rfl⟩:=rx
  cases y with
  | byt j=>obtain⟨t',rfl⟩:=ry;exact PySem.W.ne_bytes (U6 I q (congrArg not c2s))
  | _=>exact absurd (show false=true from hs) z7
 | _=>cases y <;> exact absurd (show false=true from hs) z7
theorem d2D:OpR X (C3 .Lt) (rI0 fun i j=>.bl (decide (i<j))):=c7X fun _ _ _ _ _ _ _ q=>lt_int q
theorem d2E:OpR X (C3 .LtE) (rI0 fun i j=>.bl (decide (i<=j))):=c7X fun _ _ _ _ _ _ _ q=>le_int q
theorem d2F:OpR X (C3 .Gt) (rI0 fun i j=>.bl (decide (j<i))):=c7X fun _ _ _ _ _ _ _ q=>gt_int q
theorem d2G:OpR X (C3 .GtE) (rI0 fun i j=>.bl (decide (j<=i))):=c7X fun _ _ _ _ _ _ _ q=>ge_int q
theorem c3f:OpR X (C3 .In) (fun x y H Q=>∃i j,x=.str i/\y=.str j/\Q (.bl (!(Builtin.Str.occurrences j i 0 j.length 1).isEmpty)) H):=by
 intro pins s σ H x y v u Q I rx ry h
 obtain⟨i,j,rfl,rfl,q⟩:=h
 obtain⟨t,rfl⟩:=rx
 obtain⟨t',rfl⟩:=ry
 exact in_str (U6 I q rfl)
theorem d0L:OpR X (C3 .Is) (fun x y H Q=>y=.non/\Q (.bl (decide (x=.non))) H):=by
 intro pins s σ H x y v u Q I rx ry h
 obtain⟨rfl,q⟩:=h
 cases ry
 refine is_none_gen (U6 I q ?_)
 cases x <;> first
  | (cases rx;rfl)
  | (obtain⟨t,rfl⟩:=rx;rfl)
theorem c7W:OpR X (C3 .IsNot) (fun x y H Q=>y=.non/\Q (.bl (!decide (x=.non))) H):=by
 intro pins s σ H x y v u Q I rx ry h
 obtain⟨rfl,q⟩:=h
 cases ry
 refine isnot_none_gen (U6 I q ?_)
 cases x <;> first
  | (cases rx;rfl)
  | (obtain⟨t,rfl⟩:=rx;rfl)
theorem OpR.or{f:Value->Value->Sem Value}{r r':R2}(h:OpR X f r)(h':OpR X f r'):OpR X f (fun x y H Q=>r x y H Q\/r' x y H Q):=by
 intro pins s σ H x y v u Q I rx ry q
 rcases q with q | q
 ·exact h pins s σ H x y v u Q I rx ry q
 ·exact h' pins s σ H x y v u Q I rx ry q
theorem a4O(b:Expr){op:CmpOp}(h:op≠.In:=by decide)(h2:op≠.NotIn:=by decide):U3 op b=false:=by
 have e1:(op == CmpOp.In)=false:=by cases op <;> first | rfl | exact absurd rfl h
 have e2:(op == CmpOp.NotIn)=false:=by cases op <;> first | rfl | exact absurd rfl h2
 cases b <;> simp[U3,e1,e2]
theorem c7I{op:CmpOp}{r:R2}(ho:OpR X (C3 op) r)(ha:PE X a ta)(hb:PE X b tb)(hm:U3 op b=false):PE X (.Compare a [op] [b] pos) (tOp r ta tb):=by
 intro pins s σ H Q I h
 exact wpAny_Compare1 (d1p ha hb I h fun v u s2 x y H2 I2 rx ry q=>ho pins s2 σ H2 x y v u Q I2 rx ry q) hm
def F9(t:TE):TT:=fun σ H Q=>t σ H fun x H'=>∃k,x=.bl k/\Q k H'
theorem c7s{op:CmpOp}{r:R2}(ho:OpR X (C3 op) r)(ha:PE X a ta)(hb:PE X b tb)(hm:U3 op b=false):PT X (.Compare a [op] [b] pos) (F9 (tOp r ta tb)):=by
 intro pins s σ H Q I h
 refine d1N (thn (ha pins s σ H _ I h) fun v s1 ⟨x,H1,I1,r1,q1⟩=>thn (hb pins s1 σ H1 _ I1 q1) fun u s2 ⟨y,H2,I2,r2,q2⟩=>
  thn (ho pins s2 σ H2 x y v u _ I2 r1 r2 q2) fun c s3 ⟨z,H3,I3,r3,k,e,q3⟩=>?_) hm
 subst e
 cases r3
 exact V8 ⟨H3,I3,q3⟩
def a8C(r r':R2)(ta tb tc:TE):TE:=fun σ H Q=>ta σ H fun x H1=>tb σ H1 fun y H2=>r x y H2 fun z H3=>∃k,z=.bl k /\
 (if k=true then tc σ H3 fun w' H4=>r' y w' H4 Q else Q (.bl false) H3)
theorem c5F{op op':CmpOp}{r r':R2}(ho:OpR X (C3 op) r)(ho':OpR X (C3 op') r')(ha:PE X a ta)(hb:PE X b tb)(hc:PE X c tc)
  (hm:d1Q [op,op'] [b,c]=false:=by with_unfolding_all rfl):PE X (.Compare a [op,op'] [b,c] pos) (a8C r r' ta tb tc):=by
 intro pins s σ H Q I h
 refine Compare_chain (thn (ha pins s σ H _ I h) fun v s1 ⟨x,H1,I1,r1,q1⟩=>chain_link (thn (hb pins s1 σ H1 _ I1 q1) fun u s2 ⟨y,H2,I2,r2,q2⟩=>
  thn (ho pins s2 σ H2 x y v u _ I2 r1 r2 q2) fun d s3 ⟨z,H3,I3,r3,k,e,q3⟩=>?_)) hm
 subst e
 cases r3
 refine V8 ?_
 cases k with
 | false=>exact ite_ff ⟨.bl false,H3,I3,rfl,q3⟩
 | true=>exact ite_tt (chain_last (thn (hc pins s3 σ H3 _ I3 q3) fun w' s4 ⟨z',H4,I4,r4,q4⟩=>ho' pins s4 σ H4 y z' u w' Q I4 r2 r4 q4))
theorem c5q{op op':CmpOp}{r r':R2}(ho:OpR X (C3 op) r)(ho':OpR X (C3 op') r')(ha:PE X a ta)(hb:PE X b tb)(hc:PE X c tc)
  (hm:d1Q [op,op'] [b,c]=false:=by with_unfolding_all rfl):PT X (.Compare a [op,op'] [b,c] pos) (F9 (a8C r r' ta tb tc)):=by
 intro pins s σ H Q I h
 refine isTrue_chain (thn (ha pins s σ H _ I h) fun v s1 ⟨x,H1,I1,r1,q1⟩=>test_link (thn (hb pins s1 σ H1 _ I1 q1) fun u s2 ⟨y,H2,I2,r2,q2⟩=>
  thn (ho pins s2 σ H2 x y v u _ I2 r1 r2 q2) fun d s3 ⟨z,H3,I3,r3,k,e,q3⟩=>?_)) hm
 subst e
 cases r3
 refine V8 ?_
 cases k with
 | false=>
  obtain⟨k',e',q'⟩:=q3
  cases e'
  exact ite_ff ⟨H3,I3,q'⟩
 | true=>
  refine ite_tt (test_last (thn (hc pins s3 σ H3 _ I3 q3) fun w' s4 ⟨z',H4,I4,r4,q4⟩=>thn (ho' pins s4 σ H4 y z' u w' _ I4 r2 r4 q4) fun d' s5 ⟨z2,H5,I5,r5,k2,e2,q5⟩=>?_))
  subst e2
  cases r5
  exact V8 ⟨H5,I5,q5⟩
theorem b0o:(u9:Nat)<2 ^ 63:=by rw[sizeLine_eq];decide
theorem c1g:OpR X (a2o .Add) (fun x y H Q=>∃i j,x=.str i/\y=.str j/\i.length+j.length<=u9/\Q (.str (i++j)) H):=by
 intro pins s σ H x y v u Q I rx ry h
 obtain⟨i,j,rfl,rfl,hz,q⟩:=h
 obtain⟨t,rfl⟩:=rx
 obtain⟨t',rfl⟩:=ry
 exact add_str (fun t' tk=>⟨.str (i++j),H,I.tok _,⟨_,rfl⟩,q⟩) hz
theorem a8d{x:V}(r:O6 [x] us):∃u,us=[u]/\L5 x u:=by
 cases r with
 | cons r1 r2=>cases r2;exact⟨_,rfl,r1⟩
theorem b6q{x:V}(r:O6 [x,y] us):∃u w',us=[u,w']/\L5 x u/\L5 y w':=by
 cases r with
 | cons r1 r2=>
  cases r2 with
  | cons r3 r4=>cases r4;exact⟨_,_,rfl,r1,r3⟩
theorem c6B:a0S X (.builtin "abs") (fun xs H Q=>∃i,xs=[.int i]/\Q (.int (if i<0 then -i else i)) H):=by
 intro pins s σ H xs us Q I r h
 obtain⟨i,rfl,q⟩:=h
 obtain⟨u,rfl,t,rfl⟩:=a8d r
 exact call_abs_int fun u tk=>⟨.int (if i<0 then -i else i),H,I.tok _,⟨_,rfl⟩,q⟩
theorem c3U(hc:X.calm=true):a0S X (.builtin "min") (fun xs H Q=>∃i j,xs=[.int i,.int j]/\Q (.int (if j<i then j else i)) H):=by
 intro pins s σ H xs us Q I r h
 obtain⟨i,j,rfl,q⟩:=h
 obtain⟨u,w',rfl,⟨t,rfl⟩,⟨t',rfl⟩⟩:=b6q r
 refine min_two_ints (I.ok.hd hc) fun h' tk k=>⟨_,H,I.kept k,?_,q⟩
 by_cases hj:j<i
 ·rw[if_pos hj,if_pos hj];exact⟨_,rfl⟩
 ·rw[if_neg hj,if_neg hj];exact⟨_,rfl⟩
end
structure c1J(h:Heap)(x dx C:Addr)(mA:Str->Option Value):Prop where
 obj:h.get? x=some (a1r C dx)
 ns:h.Ns1 dx mA
 ne:dx≠x
theorem c3s{mA:Str->Option Value}(n:h.Ns1 dx mA):∃od,h.get? dx=some od/\∀name,a9x name od=some (mA name):=by
 obtain⟨o,es,ep,ho,hd,hk,_,hm⟩:=n
 refine⟨o,ho,fun name=>?_⟩
 have e:=hm name
 unfold nsFind findBy at e
 rw[<-Array.find?_toList]at e
 unfold a9x
 rw[hd]
 dsimp only
 split
 ·rename_i y q
  rw[q]at e
  exact congrArg some e
 ·rename_i q
  rw[q]at e
  have a:es.toList.any (·.refKey)=false:=by
   rw[List.any_eq_false]
   intro y hy
   obtain⟨z,t,hkey⟩:=hk y (Array.mem_toList_iff.mp hy)
   simp[DictEntry.refKey,hkey]
  have a':¬es.toList.any (·.refKey)=true:=by rw[a];exact z7
  rw[if_neg a']
  exact congrArg some e
theorem c1J.look{x:Addr}{mA:Str->Option Value}(I:c1J h x dx C mA):∃od,PySem.W.InstAt h x (a1r C dx) C (some od)/\∀name,a9x name od=some (mA name):=
 let⟨od,ho,hl⟩:=c3s I.ns
 ⟨od,⟨I.obj,rfl,rfl,ho⟩,hl⟩
section
variable {prog:D0}{A:U8}{E:Value->k8->Prop}{K:Fg}{x:Addr}{mA:Str->Option Value}{name:Str}{v:Value}
theorem c8x{expr:Bool}(X:K.In s.heap)(I:c1J s.heap x dx C mA)(hg:a5l K C name=true)(hh:a7c K C=true)
  (ha:u6 K (.ref C) name=some none) (hv:mA name=some v) (hv':c6I v=true) (h:Q v { s with toks:=s.toks+1 }) :
  wpAny (model prog w) A (getAttr (.ref x) name expr) Q E s:=by
 obtain⟨od,J,hl⟩:=I.look
 exact PySem.W.get_value X J (b0v hg).1 (PySem.W.findObj_own hh ha rfl (by rw[hl,hv])) hv' h
theorem c6k{pl:Sem Bool}{Q:Value×List Value->k8->Prop}(X:K.In s.heap)(I:c1J s.heap x dx C mA)(hg:a5l K C name=true)
  (hf:u6 K (.ref C) name=some (some (.ref f))) (ht:a8p K (.ref f)=true) (hv:mA name=none) (h:Q (.ref f,[.ref x]) s) :
  wpAny (model prog w) A (b0y (.ref x) name pl) Q E s:=by
 obtain⟨od,J,hl⟩:=I.look
 exact PySem.W.method_fn X J (b0v hg).1 (b0v hg).2 hf (beq_iff_eq.mp ht) (by show(a9x name od).map (·.isSome)=some false;rw[hl,hv];rfl) h
theorem c6Z{ns:List Str}{Q:Unit->k8->Prop}(X:K.In s.heap)(I:c1J s.heap x dx C mA)
  (hs:u6 K (.ref C) "__setattr__" = some (some (.builtin "object.__setattr__"))) (hp:b2I K C=true) (ht:b5x K C name=some none) (hh:a7c K C=true)
  (hw:PySem.Within mA ns) (hsz:ns.length<=u9)
  (h:∀h',c1J h' x dx C (fun y=>if y=name then some v else mA y)->Heap.SameBut dx s.heap h'->Q () { s with heap:=h',toks:=s.toks+2 }) :
  wpAny (model prog w) A (setAttr (.ref x) name v) Q E s:=by
 obtain⟨od,J,hl⟩:=I.look
 refine PySem.W.set_plain X J hs (PySem.W.osa_open (s:={ s with toks:=s.toks+1 }) (r:=none) X J hp ht fun b=>?_)
 obtain⟨cd,hc,hd'⟩:=PySem.W.any_some hh
 have hx:s.heap.get? x=some ⟨.ref C,some dx,.plain,#[]⟩:=I.obj
 refine i8 (u7 (i8 (i8 (wpAny_loadPart hx (i8 (PySem.W.Looks.here (s:={ s with toks:=s.toks+1 }) (PySem.W.looks_clsIn X hc) ?_))))))
 rw[hd']
 refine u7 (a:=some dx) (i8 (u7 (i8 ?_)))
 refine wpAny_nsSet1 (s:={ s with toks:=s.toks+1 }) I.ns fun h' hn2 hs2=>?_
 obtain⟨oD,esD,epD,hoD,hdD,hcD⟩:=hn2.count (PySem.Within.cons name v hw)
 refine i8 (wpAny_lookBehind hoD (by rw[hdD];exact pastItsLine_dict (D4 hcD (by rw[D5];omega))) ?_)
 exact u7 (h _ ⟨(hs2.2 _ (Ne.symm I.ne)).trans I.obj,hn2,I.ne⟩ hs2)
theorem c5W{R:c8R->k8->Prop}{vs:List Value}{kw:List (Str×Value)}(X:K.In s.heap)(hm:a3U K C=true)
  (hi:u6 K (.ref C) "__init__" = some (some (.ref f))) (hf:PySem.W.typeIn K (.ref f)=some (.type "function"))
  (h:a7x (model prog w) (A.under (.builtin "type.__call__" ⟨.ref C::vs,kw⟩)) (.call (.ref f) ⟨.ref (s.heap.objs.size+1)::vs,kw⟩) (PySem.W.InitBack (s.heap.objs.size+1) R)
   { s with heap:=(s.heap.push Z4).push (a1r C s.heap.objs.size) }) :
  a7x (model prog w) A (.call (.ref C) ⟨vs,kw⟩) R s:=by
 obtain⟨hh,g,d,t,os⟩:=s
 exact PySem.W.make_core (PySem.W.makes_of X hm) (PySem.W.looks_findIn X hi) (fun self=>PySem.W.bind_fn X self hf) (.inl rfl) h
end
def Q0(f:Str)(v:V):List (Str×V)->List (Str×V)
 | []=>[(f,v)]
 | (g,x)::r=>if g=f then (g,v)::r else (g,x)::Q0 f v r
theorem b2T(f g:Str)(v:V):∀fs:List (Str×V),(Q0 f v fs).lookup g=if g=f then some v else fs.lookup g
 | []=>by
  show a3h g [(f,v)]=_
  by_cases h:g=f
  ·have hb:(g == f)=true:=beq_iff_eq.mpr h
   simp only[a3h,hb,if_pos h]
  ·have hb:(g == f)=false:=beq_eq_false_iff_ne.mpr h
   simp only[a3h,hb,if_neg h]
 | (k,x)::r=>by
  have ih:=b2T f g v r
  rw[show Q0 f v ((k,x)::r)=(if k=f then (k,v)::r else (k,x)::Q0 f v r)from rfl]
  by_cases hk:k=f
  ·rw[if_pos hk]
   by_cases h:g=k
   ·have hb:(g == k)=true:=beq_iff_eq.mpr h
    simp only[a3h,hb,if_pos (h.trans hk)]
   ·have hb:(g == k)=false:=beq_eq_false_iff_ne.mpr h
    simp only[a3h,hb,if_neg (fun e:g=f=>h (e.trans hk.symm))]
  ·rw[if_neg hk]
   by_cases h:g=k
   ·have hb:(g == k)=true:=beq_iff_eq.mpr h
    simp only[a3h,hb,if_neg (fun e:g=f=>hk (h.symm.trans e))]
   ·have hb:(g == k)=false:=beq_eq_false_iff_ne.mpr h
    simp only[a3h,hb]
    exact ih
theorem b2v(f:Str)(v:V):∀fs:List (Str×V),f∈(Q0 f v fs).map (·.1)/\∀g,g∈fs.map (·.1)->g∈(Q0 f v fs).map (·.1)
 | []=>⟨by simp[Q0],fun g h=>by simp at h⟩
 | (k,x)::r=>by
  obtain⟨i1,i2⟩:=b2v f v r
  rw[show Q0 f v ((k,x)::r)=(if k=f then (k,v)::r else (k,x)::Q0 f v r)from rfl]
  by_cases hk:k=f
  ·rw[if_pos hk]
   subst hk
   exact⟨by simp,fun g h=>by simpa using h⟩
  ·rw[if_neg hk]
   refine⟨?_,fun g h=>?_⟩
   ·rw[J0]
    exact I0 _ i1
   ·rw[J0]at h ⊢
    rcases u5.mp h with e | e
    ·exact u5.mpr (.inl e)
    ·exact I0 _ (i2 g e)
theorem b2V(f:Str)(v:V):∀fs:List (Str×V),(Q0 f v fs).length<=fs.length+1
 | []=>by simp[Q0]
 | (k,x)::r=>by
  have ih:=b2V f v r
  rw[show Q0 f v ((k,x)::r)=(if k=f then (k,v)::r else (k,x)::Q0 f v r)from rfl]
  by_cases hk:k=f
  ·rw[if_pos hk,D5,D5];omega
  ·rw[if_neg hk,D5,D5];omega
theorem a9v.some_of{o:Option Value}(r:a9v (some v) o):∃u,o=some u/\L5 v u:=by
 cases o with
 | none=>exact(show False from r).elim
 | some u=>exact⟨u,rfl,r⟩
theorem a9v.none_of{o:Option Value}(r:a9v none o):o=none:=by
 cases o with
 | none=>rfl
 | some u=>exact(show False from r).elim
theorem c3A(r:L5 v u):c6I u=true:=by
 cases v with
 | non=>cases (show u=Value.none from r);rfl
 | bl b=>cases (show u=Value.bool b from r);rfl
 | int i=>obtain⟨t,e⟩:=(show ∃t,u=Value.int i t from r);cases e;rfl
 | str x=>obtain⟨t,e⟩:=(show ∃t,u=Value.str x t from r);cases e;rfl
 | byt b=>obtain⟨t,e⟩:=(show ∃t,u=Value.bytes b t from r);cases e;rfl
 | flt b=>obtain⟨t,e⟩:=(show ∃t,u=Value.float b t from r);cases e;rfl
 | ref a=>cases (show u=Value.ref a from r);rfl
 | ty n=>cases (show u=Value.type n from r);rfl
section
variable {P:D0}{fs fs':List (Str×V)}
theorem b3I(hok:HOk P w H h)(e:H a=some (.ins C dx fs)):∃mA,c1J h a dx C mA/\(∀f,a9v (fs.lookup f) (mA f))/\PySem.Within mA (fs.map (·.1))/\fs.length<=1000/\H dx=some (.own a):=by
 obtain⟨d,z,ne,ob,mA,n,r,q⟩:=(show a0u P w H h a (.ins C dx fs)from hok a _ e)
 exact⟨mA,⟨ob,n,ne⟩,r,q,z,d⟩
end
structure Cls(K:Fg)(C:Addr):Prop where
 pg:a5l K C Str.empty=true
 hd:a7c K C=true
 po:b2I K C=true
 sa:u6 K (.ref C) "__setattr__" = some (some (.builtin "object.__setattr__"))
theorem Cls.get{K:Fg}(c:Cls K C)(f:Str):a5l K C f=true:=c.pg
def Y9(K:Fg)(C:Addr)(f:Str):Prop:=u6 K (.ref C) f=some none
theorem Y9.taker{K:Fg}{f:Str}(n:Y9 K C f):b5x K C f=some none:=by
 unfold b5x
 rw[show u6 K (.ref C) f=some none from n]
 rfl
structure Con(K:Fg)(C:Addr)(f:Str)(v:V)(u:Value):Prop where
 at_:u6 K (.ref C) f=some (some u)
 rel:L5 v u
 get:a7b K u "__get__" = some none
 cp:PySem.W.copiedNames.contains f=false
structure c8J(K:Fg)(C:Addr)(m:Str)(f:Addr):Prop where
 at_:u6 K (.ref C) m=some (some (.ref f))
 fn:a8p K (.ref f)=true
 kp:V5 K (.ref f)=true
section
variable {fs:List (Str×V)}{f:Str}{A:U8}{E:Value->k8->Prop}
theorem c1v{b:Bool}(I:Inv X pins σ H s)(e:H a=some (.ins C dx fs))(c:Cls X.K C)(n:Y9 X.K C f)(l:fs.lookup f=some v)
  (h:∀u s',Inv X pins σ H s'->L5 v u->Q u s'):wpAny (model X.prog X.w) A (getAttr (.ref a) f b) Q E s:=by
 obtain⟨mA,O,r,_,_,_⟩:=b3I I.hok e
 obtain⟨u,hu,ru⟩:=a9v.some_of (v:=v) (o:=mA f) (by rw[<-l];exact r f)
 exact c8x I.kIn O (c.get f) c.hd n hu (c3A ru) (h u _ (I.tok _) ru)
theorem b5f{m:Str}{g:Addr}{pl:Sem Bool}{Q:Value×List Value->k8->Prop}(I:Inv X pins σ H s)(e:H a=some (.ins C dx fs))(c:Cls X.K C)(k:c8J X.K C m g)(l:fs.lookup m=none)
  (h:Q (.ref g,[.ref a]) s):wpAny (model X.prog X.w) A (b0y (.ref a) m pl) Q E s:=by
 obtain⟨mA,O,r,_,_,_⟩:=b3I I.hok e
 have hn:mA m=none:=a9v.none_of (by rw[<-l];exact r m)
 exact c6k I.kIn O (c.get m) k.at_ k.fn hn h
theorem c0E{Q:Unit->k8->Prop}(I:Inv X pins σ H s)(e:H a=some (.ins C dx fs))(c:Cls X.K C)(n:Y9 X.K C f)(hl:fs.length<1000)(ry:L5 y u)
  (h:∀s',Inv X pins σ (upd H a (.ins C dx (Q0 f y fs))) s'->Q () s'):wpAny (model X.prog X.w) A (setAttr (.ref a) f u) Q E s:=by
 obtain⟨mA,O,r,wi,_,ho⟩:=b3I I.hok e
 have hz:(fs.map (·.1)).length<=u9:=by rw[b9,sizeLine_eq];omega
 refine c6Z I.kIn O c.sa c.po n.taker c.hd wi hz fun h' O' sb=>h _ ?_
 have hd:∃o,h'.get? dx=some o:=let⟨o,_,_,e',_⟩:=O'.ns; ⟨o,e'⟩
 refine I.write (x:=a) (e:=dx) (by rw[e];exact True.intro) (.inr ho) (fun b q hb z=>(sb.2 b hb).trans z) hd ?_
 refine⟨by rw[i9 O.ne];exact ho,?_,O.ne,O'.obj,_,O'.ns,fun g=>?_,fun g hg=>?_⟩
 ·have:=b2V f y fs;omega
 ·show a9v ((Q0 f y fs).lookup g) (if g=f then some u else mA g)
  rw[b2T]
  by_cases q:g=f
  ·rw[if_pos q,if_pos q];exact ry
  ·rw[if_neg q,if_neg q];exact r g
 ·by_cases q:g=f
  ·rw[q];exact(b2v f y fs).1
  ·refine(b2v f y fs).2 g (wi g fun z=>hg ?_)
   show(if g=f then some u else mA g)=none
   rw[if_neg q];exact z
theorem Inv.made(I:Inv X pins σ H s):Inv X pins σ (upd (upd H s.heap.objs.size (.own (s.heap.objs.size+1))) (s.heap.objs.size+1) (.ins C s.heap.objs.size []))
  { s with heap:=(s.heap.push Z4).push (a1r C s.heap.objs.size) }:=by
 have e1:(s.heap.push Z4).get? s.heap.objs.size=some Z4:=A5 s.heap rfl
 have e2:((s.heap.push Z4).push (a1r C s.heap.objs.size)).get? (s.heap.objs.size+1)=some (a1r C s.heap.objs.size):=by
  have:=A5 (s.heap.push Z4) (o:=a1r C s.heap.objs.size) rfl
  rwa [d1L]at this
 have e3:(s.heap.push Z4).Ns s.heap.objs.size (fun _=>none):=⟨Z4,#[],_,e1,rfl,(fun e he=>absurd he (by simp)),fun _=>rfl⟩
 have I1:=I.laid (a:=s.heap.objs.size) (o:=.own (s.heap.objs.size+1)) (h':=s.heap.push Z4) (t':=s.toks) (fun b u q=>j4 _ q) (j6 _) ⟨_,e1⟩
 refine I1.laid (a:=s.heap.objs.size+1) (o:=.ins C s.heap.objs.size []) (t':=s.toks) (fun b u q=>j4 _ q) (Nat.le_of_eq (d1L _ _)) ?_
 have ne:s.heap.objs.size≠s.heap.objs.size+1:=z9 (d1C _)
 refine⟨by rw[i9 ne,c9],Z0 _,ne,e2,fun _=>none,(Heap.Ns1.of_empty e3).at fun o q=>j4 _ q,fun _=>True.intro,fun y hy=>absurd rfl hy⟩
theorem c8D{prog:D0}{env:Env}(hb:a3b e f env (eval e env)=eval e env)
  (h:wpAny (model prog w) A (eval e env) (fun o s₁=>wpAny (model prog w) A (getAttr o f true) Q E s₁) E s):wpAny (model prog w) A (eval (.Attribute e f pos) env) Q E s:=
 Attribute_any_ h (by rw[arm_eval_Attribute,hb])
end
def a0n(K:Fg)(ta:TE)(f:Str):TE:=fun σ H Q=>ta σ H fun x H1=>∃a C dx fs v,x=.ref a/\H1 a=some (.ins C dx fs)/\Cls K C/\Y9 K C f/\fs.lookup f=some v/\Q v H1
def a5E(K:Fg)(ta tv:TE)(f:Str):TS:=fun D σ H=>tv σ H fun y H1=>ta σ H1 fun x H2=>∃a C dx fs,x=.ref a/\H2 a=some (.ins C dx fs)/\Cls K C/\Y9 K C f/\fs.length<1000 /\
 D.nx σ (upd H2 a (.ins C dx (Q0 f y fs)))
section
variable {o value:Expr}{f:Str}{tpos:Pos}{tv:TE}
theorem d0u(he:PE X e ta)(hb:a3b e f X.env (eval e X.env)=eval e X.env):PE X (.Attribute e f pos) (a0n X.K ta f):=by
 intro pins s σ H Q I h
 refine c8D hb (thn (he pins s σ H _ I h) fun u s1 ⟨x,H1,I1,rx,a,C,dx,fs,v,ex,ea,c,n,l,q⟩=>?_)
 subst ex
 obtain rfl:u=Value.ref a:=rx
 exact c1v I1 ea c n l fun u' s2 I2 ru=>⟨v,H1,I2,ru,q⟩
theorem d0c(ha:PE X o ta)(hv:PE X value tv)(hs:a3Z value (some (.Attribute o f pos')) pos.line X.env=pure false):PS X (.Assign [.Attribute o f pos'] value pos) (a5E X.K ta tv f):=by
 intro pins s σ H D I h
 refine plainObj_wpAny_Assign_Attribute (thn (hv pins s σ H _ I h) fun u s1 ⟨y,H1,I1,ry,q⟩=>thn (ha pins s1 σ H1 _ I1 q) fun ov s2 ⟨x,H2,I2,rx,a,C,dx,fs,ex,ea,c,n,l,q2⟩=>?_) hs
 subst ex
 obtain rfl:ov=Value.ref a:=rx
 exact c0E I2 ea c n l ry fun s3 I3=>⟨σ,_,I3,q2⟩
end
section
variable {A:U8}{E:Value->k8->Prop}{c:Value}{b:Bool}
inductive b2H(K:Fg)(H:Hp):V->Value->Prop where
 | non:b2H K H .non (.type "NoneType")
 | bl (x:Bool):b2H K H (.bl x) (.type "bool")
 | int (i:Int):b2H K H (.int i) (.type "int")
 | str (x:Str):b2H K H (.str x) (.type "str")
 | flt (x:UInt64):b2H K H (.flt x) (.type "float")
 | lst {a:Addr} {xs:List V} (e:H a=some (.lst xs)):b2H K H (.ref a) (.type "list")
 | frz {a:Addr} {o:Obj} {xs:List V} (e:H a=some (.frz o (.lst xs))):b2H K H (.ref a) (.type "list")
 | tup {a:Addr} {xs:List V} (e:H a=some (.tup xs)):b2H K H (.ref a) (.type "tuple")
 | dK {a:Addr} {kvs:List (Key×V)} (e:H a=some (.dK kvs)):b2H K H (.ref a) (.type "dict")
 | dT {a:Addr} {kvs:List (List Key×V)} (e:H a=some (.dT kvs)):b2H K H (.ref a) (.type "dict")
 | ins {a C dx:Addr} {fs:List (Str×V)} (e:H a=some (.ins C dx fs)) (cl:Cls K C) (ha:u6 K (.ref C) "__class__" = some (some (.builtin "object.__class__")))
   (hn:a7b K (.builtin "object.__class__") "__get__" = some (some (.builtin "getset_descriptor.__get__"))) (htk:b5w K (.builtin "object.__class__")=some true)
   (hm:b8s K C (.type "object")=some true):b2H K H (.ref a) (.ref C)
theorem b6I{x:V}{t:Value}(I:Inv X pins σ H s)(rx:L5 x u)(ty:b2H X.K H x t)(e:a9y X.K t c=some b)(h:∀tk,Q (.bool b) { s with toks:=tk }) :
  wpAny (model X.prog X.w) A (call (.builtin "isinstance") [u,c]) Q E s:=by
 cases ty with
 | non=>cases (show u=Value.none from rx);exact T4 PySem.W.kitx_none I.kIn True.intro e (fun z=>nomatch z) h
 | bl y=>cases (show u=Value.bool y from rx);exact T4 PySem.W.kitx_bool I.kIn True.intro e (fun z=>nomatch z) h
 | int i=>obtain⟨t,q⟩:=(show ∃t,u=Value.int i t from rx);cases q;exact T4 PySem.W.kitx_int I.kIn True.intro e (fun z=>nomatch z) h
 | str y=>obtain⟨t,q⟩:=(show ∃t,u=Value.str y t from rx);cases q;exact T4 PySem.W.kitx_str I.kIn True.intro e (fun z=>nomatch z) h
 | flt y=>obtain⟨t,q⟩:=(show ∃t,u=Value.float y t from rx);cases q;exact T4 PySem.W.kitx_float I.kIn True.intro e (fun z=>nomatch z) h
 | @lst a xs ea=>
  cases (show u=Value.ref a from rx)
  obtain⟨_,_,n,_,h1⟩:=(show a0u X.prog X.w H s.heap a (.lst xs)from I.hok a _ ea)
  exact T4 c4i I.kIn ⟨_,h1,rfl⟩ e (fun z=>nomatch z) h
 | @frz a ob xs ea=>
  cases (show u=Value.ref a from rx)
  obtain⟨_,_,_,n,_,h1⟩:=(show a0u X.prog X.w H s.heap a (.frz ob (.lst xs))from I.hok a _ ea)
  exact T4 c4i I.kIn ⟨_,h1,rfl⟩ e (fun z=>nomatch z) h
 | @tup a xs ea=>
  cases (show u=Value.ref a from rx)
  obtain⟨_,_,_,p⟩:=(show a0u X.prog X.w H s.heap a (.tup xs)from I.hok a _ ea)
  obtain⟨o,h1,h2,_⟩:=p
  exact T4 c4a I.kIn ⟨o,h1,h2⟩ e (fun z=>nomatch z) h
 | @dK a kvs ea=>
  cases (show u=Value.ref a from rx)
  obtain⟨_,_,vs,_,p⟩:=(show a0u X.prog X.w H s.heap a (.dK kvs)from I.hok a _ ea)
  obtain⟨o,es,ep,h1,h2,_⟩:=p
  exact T4 c4j I.kIn ⟨o,h1,h2.1⟩ e (fun z=>nomatch z) h
 | @dT a kvs ea=>
  cases (show u=Value.ref a from rx)
  obtain⟨_,_,xs,_,o,es,ep,h1,h2,_⟩:=(show a0u X.prog X.w H s.heap a (.dT kvs)from I.hok a _ ea)
  exact T4 c4j I.kIn ⟨o,h1,h2.1⟩ e (fun z=>nomatch z) h
 | @ins a C dx fs ea cl ha hn htk hm=>
  cases (show u=Value.ref a from rx)
  obtain⟨mA,O,_⟩:=b3I I.hok ea
  obtain⟨od,J,_⟩:=O.look
  exact T4 (PySem.W.kitx_own (cl.get _) cl.hd ha hn htk hm) I.kIn J e (fun z=>nomatch z) h
end
structure W0(k:Nat)(A:U8):Prop where
 hd:A.handled=none
 dp:A.depth+3 * k+5<recursionLimit
 un:A.units+16 * k+200<cLine
theorem W0.mono{j k:Nat}{A:U8}(r:W0 k A)(h:j<=k):W0 j A:=⟨r.hd,by have:=r.dp;omega,by have:=r.un;omega⟩
theorem W0.deeper{k:Nat}{A:U8}(r:W0 (k+1) A)(env:Env):W0 k (A.deeper env):=
 ⟨r.hd,by have:=r.dp;show A.depth+1+3 * k+5<_;omega,by have:=r.un;show A.units+3+16 * k+200<_;omega⟩
theorem c1s{A:U8}{kw:List (Str×Value)}:(A.under (.builtin "type.__call__" ⟨.ref C::us,kw⟩)).depth=A.depth+1:=by
 first | rfl | simp[Around.under,Code.weight,Code.isCreation,Code.isGuard,Code.isCaller,Code.frames,Code.isFrame,guardIds]
theorem c1q{A:U8}{kw:List (Str×Value)}:(A.under (.builtin "type.__call__" ⟨.ref C::us,kw⟩)).units=A.units+1:=by
 first | rfl | simp[Around.under,Code.cUnits,Code.frames,Code.isFrame]
theorem W0.make{k:Nat}{A:U8}(r:W0 (k+1) A)(C:Addr)(us:List Value)(kw:List (Str×Value)):W0 k (A.under (.builtin "type.__call__" ⟨.ref C::us,kw⟩)):=
 ⟨r.hd,by have:=r.dp;rw[c1s];omega,by have:=r.un;rw[c1q];omega⟩
theorem W0.depth{k:Nat}{A:U8}(r:W0 k A):A.depth<recursionLimit:=by have:=r.dp;omega
theorem W0.units{k:Nat}{A:U8}(r:W0 k A):A.units+64<cLine:=by have:=r.un;omega
theorem W0.units0{k:Nat}{A:U8}(r:W0 k A):A.units<cLine:=by have:=r.un;omega
def g0:TA:=fun _ H Q=>Q [] H
def a9(ta:TE)(tr:TA):TA:=fun σ H Q=>ta σ H fun x H1=>tr σ H1 fun xs H2=>Q (x::xs) H2
section
variable {t:TA}
theorem d0y:PA X [] g0:=fun _ _ _ _ H Q I h=>Calls.spliced_nil ⟨[],H,I,.nil,h⟩
theorem c7L(ha:PE X e te)(hr:PA X es t)(hs:j9 (e::es) X.env=(false,eval e X.env)::j9 es X.env:=by rfl):PA X (e::es) (a9 te t):=by
 intro pos pins s σ H Q I h
 rw[hs]
 show wpAny _ _ (spliced ((false,eval e X.env)::a1y pos (j9 es X.env))) _ _ s
 refine Calls.spliced_cons (thn (ha pins s σ H _ I h) fun u s1 ⟨x,H1,I1,r1,q1⟩=>?_)
 exact thn (hr pos pins s1 σ H1 _ I1 q1) fun us s2 ⟨xs,H2,I2,r2,q2⟩=>⟨x::xs,H2,I2,.cons r1 r2,q2⟩
def a3c(t:TA):TE:=fun σ H Q=>t σ H fun xs H1=>xs.length<=u9/\∀p,H1 p=none->Q (.ref p) (upd H1 p (.tup xs))
def a2t(t:TA):TE:=fun σ H Q=>t σ H fun xs H1=>xs.length<=u9/\∀p,H1 p=none->Q (.ref p) (upd H1 p (.lst xs))
theorem d0k{x1}(h:PA X es t):PE X (.Tuple es x1 pos) (a3c t):=by
 intro pins s σ H Q I hq
 refine wpAny_Tuple_spliced (thn (h pos pins s σ H _ I hq) fun us s1 ⟨xs,H1,I1,r,z,q⟩=>⟨by rw[<-r.length];exact z,?_⟩)
 have hf:H1 s1.heap.objs.size=none:=I1.hok.fresh (j6 _)
 refine⟨.ref s1.heap.objs.size,upd H1 s1.heap.objs.size (.tup xs),I1.laid (t':=s1.toks) (fun b u e=>j4 _ e) (j6 _) ?_,rfl,q _ hf⟩
 exact⟨z,us,r,⟨_,A5 _ rfl,rfl,_,rfl⟩⟩
theorem d0s(h:PA X es t):PE X (.List es pos) (a2t t):=by
 intro pins s σ H Q I hq
 refine wpAny_List_spliced (thn (h pos pins s σ H _ I hq) fun us s1 ⟨xs,H1,I1,r,z,q⟩=>⟨by rw[<-r.length];exact z,?_⟩)
 have hf:H1 s1.heap.objs.size=none:=I1.hok.fresh (j6 _)
 refine⟨.ref s1.heap.objs.size,upd H1 s1.heap.objs.size (.lst xs),I1.laid (t':=s1.toks) (fun b u e=>j4 _ e) (j6 _) ?_,rfl,q _ hf⟩
 exact⟨z,us,0,r,A5 _ rfl⟩
end
abbrev Sp:=List V->Hp->VK->XK->Prop
abbrev CXT:=List Env->Hp->k8->XK->Value->k8->Prop
variable{CX:CXT}
structure c1L(P:D0)(w:World)(K:Fg)(mg:Str->Option Value)(base:Heap)(A:U8)(outer:List Env)(s:k8)(H:Hp):Prop where
 frames:A.frames=some outer
 mod:Mod K mg base
 bs:∀b o,base.get? b=some o->s.heap.get? b=some o/\H b=none
 bsz:base.objs.size<=s.heap.objs.size
 funs:s.heap.FunFrames base outer
 frf:∀b∈frs outer,H b=none
 hok:HOk P w H s.heap
 bare:b6U s.gens
def CE(outer:List Env)(P:D0)(w:World)(H:Hp)(s:k8)(Q:VK)(u:Value)(s':k8):Prop:=
 ∃v H',s'.os=s.os/\b6U s'.gens/\Un (frs outer) [] H H' s.heap s'.heap/\HOk P w H' s'.heap/\L5 v u/\Q v H'
def CR(CX:CXT)(outer:List Env)(P:D0)(w:World)(H:Hp)(s:k8)(Q:VK)(E:XK)(r:c8R)(s':k8):Prop:=
 match r with
 | .ok (.ret u)=>CE outer P w H s Q u s'
 | .ok _=>False
 | .error e=>CX outer H s E e s'
structure G8(P:D0)(w:World)(K:Fg)(mg:Str->Option Value)(base:Heap)(CX:CXT)(k:Nat)(f:Addr)(fd:a1g)(ps:List Str)(sp:Sp):Prop where
 len:∀vs H Q E,sp vs H Q E->vs.length=ps.length
 run:∀(A:U8) (outer:List Env) (s:k8) (H:Hp) (args:Args) (us:List Value) (vs:List V) (Q:VK) (E:XK),W0 k A->c1L P w K mg base A outer s H->c4p s fd args (ps.zip us)->O6 vs us->sp vs H Q E ->
  a7x (model P w) A (.call (.ref f) args) (CR CX outer P w H s Q E) s
theorem c1L.make{P:D0}{K:Fg}{mg:Str->Option Value}{base:Heap}{A:U8}{outer:List Env}(e:c1L P w K mg base A outer s H)(C:Addr)(us:List Value)(kw:List (Str×Value)) :
  c1L P w K mg base (A.under (.builtin "type.__call__" ⟨.ref C::us,kw⟩)) outer s H:=⟨by first | exact e.frames | (simpa[Around.under,Code.envs,Code.isFrame,pushEnvs]using e.frames),e.mod,e.bs,e.bsz,e.funs,e.frf,e.hok,e.bare⟩
section
variable {s':k8}
theorem Inv.env0(I:Inv X pins σ H s):c1L X.prog X.w X.K X.mg X.base X.A X.stack s H:=
 ⟨I.ok.frames,I.ok.mod,I.bs,D4 I.ok.bsz I.sz,I.stack,I.stkFree,I.hok,I.bare⟩
theorem Inv.after{Q:VK}(I:Inv X pins σ H s)(h:CE X.stack X.prog X.w H s Q u s'):EP X pins σ Q u s':=by
 obtain⟨v,H',os,bare,un,hok,r,q⟩:=h
 obtain⟨hh,g,d,t,os'⟩:=s'
 obtain rfl:os'=s.os:=os
 exact⟨v,H',I.call (h':=hh) (g':=g) (d':=d) (t':=t) (ch:=[]) un hok bare (fun b z=>absurd z (by simp)),r,q⟩
end
def z4(sp:Sp)(dvs:List V)(E:XK)(t:TA):TE:=fun σ H Q=>t σ H fun vs H1=>sp (vs++dvs) H1 Q E
def F7(C:Addr)(m:Str)(sp:Sp)(dvs:List V)(E:XK)(ta:TE)(t:TA):TE:=fun σ H Q=>ta σ H fun x H1=>∃a dx fs,x=.ref a/\H1 a=some (.ins C dx fs)/\fs.lookup m=none /\
 t σ H1 fun vs H2=>sp (x::(vs++dvs)) H2 Q E
def a3Q(C:Addr)(sp:Sp)(dvs:List V)(E:XK)(t:TA):TE:=fun σ H Q=>t σ H fun vs H1=>∀x dx,H1 x=none->H1 dx=none->dx≠x ->
 sp (.ref x::(vs++dvs)) (upd (upd H1 dx (.own x)) x (.ins C dx [])) (fun v H2=>v=.non/\Q (.ref x) H2) E
def a6j(K:Fg)(fd:a1g)(ps:List Str)(ds:List Value):Prop:=
 ∀(s:k8) (us:List Value),K.In s.heap->(us++ds).length=ps.length->c4p s fd ⟨us,[]⟩ (ps.zip (us++ds))
theorem a6j.all{K:Fg}{fd:a1g}(h:∀us:List Value,us.length=ps.length->bindArgs fd ⟨us,[]⟩=pure (ps.zip us)):a6j K fd ps []:=fun s us _ hl=>by
 rw[M4]at hl ⊢
 exact .of_eq (h us hl)
def b0t(CX:CXT)(X:Cx)(E:XK):Prop:=∀(pins:List (Addr×Obj)) (σ:St) (H:Hp) (s:k8) (e:Value) (s':k8),Inv X pins σ H s->CX X.stack H s E e s'->X.xe e s'
section
variable {k:Nat}{fd:a1g}{sp:Sp}{dvs:List V}{ds:List Value}{E:XK}{x m:Str}{apos:Pos}{o:Expr}{t:TA}
theorem c0R{Q:VK}{vs:List V}(F:G8 X.prog X.w X.K X.mg X.base CX k f fd ps sp)(hr:W0 k X.A)(hb:a6j X.K fd ps ds)(hd:O6 dvs ds)(hx:b0t CX X E)
  (I:Inv X pins σ H s) (r:O6 vs us) (h:sp (vs++dvs) H Q E):wpAny (model X.prog X.w) X.A (call (.ref f) us) (EP X pins σ Q) X.xe s:=by
 have r2:O6 (vs++dvs) (us++ds):=r.append hd
 have hl:(us++ds).length=ps.length:=by rw[<-r2.length];exact F.len _ _ _ _ h
 refine wpAny_call (c1Q (F.run X.A X.stack s H ⟨us,[]⟩ (us++ds) (vs++dvs) Q E hr I.env0 (hb s us I.kIn hl) r2 h) fun r s' hq=>?_)
 cases r with
 | error e=>exact hx pins σ H s e s' I hq
 | ok fl=>
  cases fl with
  | ret u=>exact I.after hq
  | next=>exact False.elim hq
  | brk=>exact False.elim hq
  | cont=>exact False.elim hq
theorem c7J(F:G8 X.prog X.w X.K X.mg X.base CX k f fd ps sp)(hr:W0 k X.A)(hg:Gl X x)(hm:X.mg x=some (.ref f))(hk:V5 X.K (.ref f)=true)(hb:a6j X.K fd ps ds)(hd:O6 dvs ds)(hx:b0t CX X E)
  (ha:PA X (e::es) t) (hdb:(x == ("__debug__" : Str))=false:=by decide) (he:j9 (e::es) X.env=(false,eval e X.env)::j9 es X.env:=by rfl) (hpl:(a1y pos (j9 es X.env)).any (·.1)=false:=by rfl) :
  PE X (.Call (.Name x p) (e::es) [] pos) (z4 sp dvs E t):=by
 intro pins s σ H Q I h
 refine a9z (b7S I hg hm ?_ hdb)
 refine b1B (h₀:=X.base) I.ok.mod.kin hk (thn (ha pos pins s σ H _ I h) fun us s1 ⟨vs,H1,I1,r,q⟩=>⟨I1.kIn,?_⟩) he hpl
 exact c0R F hr hb hd hx I1 r q
theorem c7F{pl:Sem Bool}(he:PE X o ta)(c:Cls X.K C)(hm:c8J X.K C m f)(F:G8 X.prog X.w X.K X.mg X.base CX k f fd ps sp)(hr:W0 k X.A)(hb:a6j X.K fd ps ds)(hd:O6 dvs ds)(hx:b0t CX X E)(ha:PA X (e::es) t)
  (hst:j9 (e::es) X.env=(false,eval e X.env)::j9 es X.env:=by rfl) (hpl:(a1y pos (j9 es X.env)).any (·.1)=false:=by rfl)
  (ht:eval (.Call (.Attribute o m apos) (e::es) [] pos) X.env=(do
   let ov <-eval o X.env
   b3S apos.atName
   let(f,first) <-a4H [ov] (b0y ov m pl)
   c4h pos f first (a1y pos (j9 (e::es) X.env)) (a9A pos (a4a [] X.env))):=by rfl) :
  PE X (.Call (.Attribute o m apos) (e::es) [] pos) (F7 C m sp dvs E ta t):=by
 intro pins s σ H Q I h
 refine c0f (pl:=pl) (thn (he pins s σ H _ I h) fun u s1 ⟨x,H1,I1,rx,a,dx,fs,ex,ea,l,q⟩=>?_) ht
 subst ex
 obtain rfl:u=Value.ref a:=rx
 refine b5f I1 ea c hm l ?_
 refine b1B (first:=[.ref a]) (h₀:=X.base) I.ok.mod.kin hm.kp (thn (ha pos pins s1 σ H1 _ I1 q) fun us s2 ⟨vs,H2,I2,r,q2⟩=>⟨I2.kIn,?_⟩) hst hpl
 exact c0R (us:=.ref a::us) (vs:=.ref a::vs) F hr hb hd hx I2 (.cons rfl r) q2
theorem c5z{pl:Sem Bool}(he:PE X o ta)(c:Cls X.K C)(hm:c8J X.K C m f)(F:G8 X.prog X.w X.K X.mg X.base CX k f fd ps sp)(hr:W0 k X.A)(hb:a6j X.K fd ps ds)(hd:O6 dvs ds)(hx:b0t CX X E)
  (ht:eval (.Call (.Attribute o m apos) [] [] pos) X.env=(do
   let ov <-eval o X.env
   b3S apos.atName
   let(f,first) <-a4H [ov] (b0y ov m pl)
   c4h pos f first (a1y pos (j9 [] X.env)) (a9A pos (a4a [] X.env))):=by rfl) :
  PE X (.Call (.Attribute o m apos) [] [] pos) (F7 C m sp dvs E ta g0):=by
 intro pins s σ H Q I h
 refine c0f (pl:=pl) (thn (he pins s σ H _ I h) fun u s1 ⟨x,H1,I1,rx,a,dx,fs,ex,ea,l,q⟩=>?_) ht
 subst ex
 obtain rfl:u=Value.ref a:=rx
 refine b5f I1 ea c hm l ?_
 exact PySem.W.callWith_K0 (first:=[.ref a]) I1.kIn hm.kp (c0R (us:=[.ref a]) (vs:=[.ref a]) F hr hb hd hx I1 (.cons rfl .nil) q)
structure Mk(K:Fg)(C f:Addr):Prop where
 makes:a3U K C=true
 init:u6 K (.ref C) "__init__" = some (some (.ref f))
 fn:a8p K (.ref f)=true
 kp:V5 K (.ref C)=true
theorem c5e{Q:VK}{vs:List V}(M:Mk X.K C f)(F:G8 X.prog X.w X.K X.mg X.base CX k f fd ps sp)(hr:W0 (k+1) X.A)(hb:a6j X.K fd ps ds)(hd:O6 dvs ds)
  (hx:b0t CX X E) (I:Inv X pins σ H s) (r:O6 vs us)
  (h:∀x dx,H x=none->H dx=none->dx≠x->sp (.ref x::(vs++dvs)) (upd (upd H dx (.own x)) x (.ins C dx [])) (fun v H2=>v=.non/\Q (.ref x) H2) E) :
  wpAny (model X.prog X.w) X.A (call (.ref C) us) (EP X pins σ Q) X.xe s:=by
 have hq:=h (s.heap.objs.size+1) s.heap.objs.size (I.hok.fresh (c6J _)) (I.hok.fresh (j6 _)) (z9 (d1C _))
 have I2:=Inv.made (C:=C) I
 have r2:O6 (V.ref (s.heap.objs.size+1)::(vs++dvs)) (Value.ref (s.heap.objs.size+1)::(us++ds)):=.cons rfl (r.append hd)
 have hl:(Value.ref (s.heap.objs.size+1)::us++ds).length=ps.length:=by
  have e:=r2.length
  rw[F.len _ _ _ _ hq]at e
  exact e.symm
 refine wpAny_call (c5W (f:=f) I.kIn M.makes M.init (beq_iff_eq.mp M.fn) (c1Q (F.run _ X.stack _ _ ⟨Value.ref (s.heap.objs.size+1)::us,[]⟩ (Value.ref (s.heap.objs.size+1)::(us++ds)) _ _ E (hr.make C us [])
  (I2.env0.make C us []) (hb _ (Value.ref (s.heap.objs.size+1)::us) I2.kIn hl) r2 hq) fun r s' hq'=>?_))
 cases r with
 | error e=>exact hx pins σ _ _ e s' I2 hq'
 | ok fl=>
  cases fl with
  | ret u=>
   obtain⟨v,H',I3,rv,ev,q3⟩:=I2.after hq'
   subst ev
   exact⟨rv,⟨V.ref (s.heap.objs.size+1),H',I3,rfl,q3⟩⟩
  | next=>exact False.elim hq'
  | brk=>exact False.elim hq'
  | cont=>exact False.elim hq'
theorem c2h(M:Mk X.K C f)(F:G8 X.prog X.w X.K X.mg X.base CX k f fd ps sp)(hr:W0 (k+1) X.A)(hg:Gl X x)(hm:X.mg x=some (.ref C))(hb:a6j X.K fd ps ds)(hd:O6 dvs ds)(hx:b0t CX X E)
  (ha:PA X (e::es) t) (hdb:(x == ("__debug__" : Str))=false:=by decide) (he:j9 (e::es) X.env=(false,eval e X.env)::j9 es X.env:=by rfl) (hpl:(a1y pos (j9 es X.env)).any (·.1)=false:=by rfl) :
  PE X (.Call (.Name x p) (e::es) [] pos) (a3Q C sp dvs E t):=by
 intro pins s σ H Q I h
 refine a9z (b7S I hg hm ?_ hdb)
 refine b1B (h₀:=X.base) I.ok.mod.kin M.kp (thn (ha pos pins s σ H _ I h) fun us s1 ⟨vs,H1,I1,r,q⟩=>⟨I1.kIn,?_⟩) he hpl
 exact c5e M F hr hb hd hx I1 r q
end
section
variable {k:Nat}{fd:a1g}{ks:List Str}{sp:Sp}{E:XK}{x m:Str}{apos kpos:Pos}{o:Expr}{kws:List b6T}{t tk:TA}{nm:Option Str}
structure d3H(K:Fg)(fd:a1g)(ps ks:List Str)(g:List Value->List Value->List Value)(gV:List V->List V->List V):Prop where
 to:∀(s:k8) (us ws:List Value),K.In s.heap->(g us ws).length=ps.length->c4p s fd ⟨us,ks.zip ws⟩ (ps.zip (g us ws))
 rel:∀ {vs:List V} {us:List Value} {zs:List V} {ws:List Value},O6 vs us->O6 zs ws->O6 (gV vs zs) (g us ws)
variable {g:List Value->List Value->List Value}{gV:List V->List V->List V}
end
structure v0(N P:List Str)(sc:Scope):Prop where
 kind:sc.kind=.function
 co:sc.isCoroutine=false
 gen:sc.isGenerator=false
 nd:N.Nodup
 pre:N.take P.length=P
 par:∀x∈P,sc.names.lookup x=some .local\/sc.names.lookup x=some .cell
 nofree:∀y∈sc.names,y.2≠.free
theorem b6L{kindOf:Str->Option a9C}{x:Str}:∀ {binds:List (Str×Value)} {m:Str->Option Value},(∀v,(x,v)∉binds)->bindL kindOf binds m x=m x
 | [],_,_=>rfl
 | (n,v)::r,m,h=>by
  unfold bindL
  rw[b6L fun w hw=>h w (I0 _ hw)]
  split
  ·have:x≠n:=by rintro rfl;exact h v X2
   simp[this]
  ·rfl
theorem b6N{kindOf:Str->Option a9C}{x:Str}:∀ {binds:List (Str×Value)} {m:Str->Option Value},(∀v,(x,v)∉binds)->bindC kindOf binds m x=m x
 | [],_,_=>rfl
 | (n,v)::r,m,h=>by
  unfold bindC
  rw[b6N fun w hw=>h w (I0 _ hw)]
  split
  ·rfl
  ·have:x≠n:=by rintro rfl;exact h v X2
   simp[this]
theorem b6M{kindOf:Str->Option a9C}{x:Str}{v:Value}:∀ {P:List Str} {vs:List Value} {i:Nat} {m:Str->Option Value},P.Nodup->P[i]? = some x->vs[i]? = some v->kindOf x=some .local ->
  bindL kindOf (P.zip vs) m x=some v
 | [],_,_,_,_,h,_,_=>by simp at h
 | _::_,[],_,_,_,_,h,_=>by simp at h
 | p::P,w::vs,0,m,nd,h1,h2,hk=>by
  simp at h1 h2;subst h1;subst h2
  show bindL kindOf ((p,w)::P.zip vs) m p=_
  unfold bindL
  rw[b6L fun v hv=>(a1A.mp nd).1 (b6R hv).1,if_pos hk]
  simp
 | p::P,w::vs,i+1,m,nd,h1,h2,hk=>by
  show bindL kindOf ((p,w)::P.zip vs) m x=_
  unfold bindL
  exact b6M (i:=i) (a1A.mp nd).2 (by simpa using h1) (by simpa using h2) hk
theorem b6O{kindOf:Str->Option a9C}{x:Str}{v:Value}:∀ {P:List Str} {vs:List Value} {i:Nat} {m:Str->Option Value},P.Nodup->P[i]? = some x->vs[i]? = some v->kindOf x≠some .local ->
  bindC kindOf (P.zip vs) m x=some v
 | [],_,_,_,_,h,_,_=>by simp at h
 | _::_,[],_,_,_,_,h,_=>by simp at h
 | p::P,w::vs,0,m,nd,h1,h2,hk=>by
  simp at h1 h2;subst h1;subst h2
  show bindC kindOf ((p,w)::P.zip vs) m p=_
  unfold bindC
  rw[b6N fun v hv=>(a1A.mp nd).1 (b6R hv).1,if_neg hk]
  simp
 | p::P,w::vs,i+1,m,nd,h1,h2,hk=>by
  show bindC kindOf ((p,w)::P.zip vs) m x=_
  unfold bindC
  exact b6O (i:=i) (a1A.mp nd).2 (by simpa using h1) (by simpa using h2) hk
def a8D(N:List Str)(vs:List V):St:=vs.map some++E5 (N.length - vs.length) none
def b5h(CX:CXT)(P:D0)(w:World)(K:Fg)(mg:Str->Option Value)(base:Heap)(N:List Str)(qual:Str)(scope:Scope)(f:Addr)(cd:Value)(A:U8)(outer:List Env)(s:k8)(H:Hp)(E:XK):Cx where
 prog:=P
 w:=w
 K:=K
 mg:=mg
 base:=base
 A:=A.deeper (b2L qual scope s.heap.objs.size f cd)
 N:=N
 s₀:=s
 H₀:=H
 env:=b2L qual scope s.heap.objs.size f cd
 outer:=outer
 stack:=b2L qual scope s.heap.objs.size f cd::outer
 ex:=[]
 calm:=true
 fn:=fun _=>true
 pn:=[]
 xe:=fun e s'=>wpAny (model P w) (A.deeper (b2L qual scope s.heap.objs.size f cd)) (leaving (b2L qual scope s.heap.objs.size f cd) e) (fun _ s''=>CX outer H s E e s'') (fun e' s''=>CX outer H s E e' s'') s'
theorem b9P{sc:Scope}{n:Nat}{x:Str}(h:sc.names.lookup x=some .cell):∃c,(cellsFrom n sc.names []).lookup x=some c:=by
 have q:=c0e sc.names n [] (.inl h)
 exact a1F.mp q
theorem c3y{P:D0}{K:Fg}{mg:Str->Option Value}{base:Heap}{N:List Str}{qual:Str}{scope:Scope}{cd:Value}{A:U8}{outer:List Env}{s1:k8}{E:XK}{vs:List V}
  (S:v0 N ps scope) (hd:A.handled=none) (e0:c1L P w K mg base A outer s H) (hl:vs.length=ps.length) (r:O6 vs us)
  (x:InCallC s s.heap.objs.size (bindL (b2L qual scope s.heap.objs.size f cd).kindOf (ps.zip us) fun _=>none) (cellsFrom (s.heap.objs.size+1) scope.names []) (bindC (b2L qual scope s.heap.objs.size f cd).kindOf (ps.zip us) fun _=>none) s1) :
  Inv (b5h CX P w K mg base N qual scope f cd A outer s H E) [] (a8D N vs) H s1:=by
 have hpl:ps.length<=N.length:=by have:=congrArg b6m S.pre;rw[D8]at this;omega
 obtain⟨h1,tk,rfl,hk⟩:=x.done
 have noA:∀b:Addr,b∉(b5h CX P w K mg base N qual scope f cd A outer s H E).ex:=fun b z=>absurd (show b∈([]:List Addr)from z) (by simp)
 refine⟨⟨e0.mod,S.kind,rfl,rfl,j6 _,fun y z c h1 h2=>?_,fun y hy=>?_,fun y c _ h=>?_,fun _=>hd,Around.frames_deeper e0.frames,.inr ⟨rfl,rfl⟩,fun b z=>absurd z (noA b),e0.bs,e0.bsz,fun b _ _=>noA b,fun b z=>absurd z (noA b),e0.funs,e0.frf⟩,
  rfl,e0.bare,Un.kept hk,⟨_,x.toInCall.ns,fun i y v h1 h2 h3=>?_⟩,fun y c h=>⟨_,x.cell y c h⟩,e0.hok.fresh (j6 _),fun y c h=>?_,fun p hp=>absurd (show p∈([]:List (Addr×Obj))from hp) (by simp),e0.hok.kept hk,?_⟩
 ·exact name_of_addr x.apart (E6 h1) (E6 h2)
 ·have hy:scope.names.lookup y=some .cell\/scope.names.lookup y=some .free:=hy
  rcases hy with hy | hy
  ·exact b9P hy
  ·exact absurd rfl (S.nofree _ (E6 hy))
 ·exact c4d (x.above y c (E6 h))
 ·have hi:i<vs.length:=by
   unfold a8D at h2
   by_cases hi:i<vs.length
   ·exact hi
   ·rw[K7 (by simpa using hi)]at h2
    rw[X4]at h2
    split at h2 <;> cases h2
  have ha:vs[i]? = some v:=by
   unfold a8D at h2
   rw[o0 (by simpa using hi),b6]at h2
   cases e:vs[i]? with
   | none=>rw[e]at h2;cases h2
   | some a=>rw[e]at h2;cases h2;rfl
  obtain⟨u,hu,rv⟩:=r.get ha
  have hp:ps[i]? = some y:=by
   rw[<-S.pre,c0i (by omega)];exact h1
  have ndP:ps.Nodup:=by rw[<-S.pre];exact S.nd.sublist (List.take_sublist _ _)
  refine⟨u,rv,?_⟩
  rcases S.par y (a1G hp)with k | k
  ·exact .inl ⟨k,b6M ndP hp hu k⟩
  ·obtain⟨c,e⟩:=b9P (n:=s.heap.objs.size+1) k
   refine .inr ⟨.inl k,c,e,?_⟩
   have q:=x.cell y c e
   rw[b6O ndP hp hu (by show scope.names.lookup y≠_;rw[k];decide)]at q
   exact q
 ·exact e0.hok.fresh (c4d (x.above y c (E6 h)))
 ·unfold a8D
  show _=N.length
  rw[o5,b9,L1]
  omega
theorem c9k{P:D0}{K:Fg}{mg:Str->Option Value}{base:Heap}{k:Nat}{name qual:Str}{params:Arguments}{body:List Stmt}{scope:Scope}{dV kV doc pm cdv ct oc:Value}{an od:Option Addr}
  {osl:Array (Option Value)} {N ps:List Str} {sp:Sp} (lk:K.lookup f=some ⟨oc,od,.func (Z3 name qual params body scope dV kV doc pm an cdv ct),osl⟩) (hcd:a4C K cdv qual=true) (S:v0 N ps scope)
  (len:∀vs H Q E,sp vs H Q E->vs.length=ps.length)
  (hbody:∀(A:U8) (outer:List Env) (s:k8) (H:Hp) (vs:List V) (Q:VK) (E:XK),W0 k (A.deeper (b2L qual scope s.heap.objs.size f cdv))->sp vs H Q E ->
   ∃t,PSs (b5h CX P w K mg base N qual scope f cdv A outer s H E) body t/\t { nx:=fun _ H'=>Q .non H',rt:=Q } (a8D N vs) H) :
  G8 P w K mg base CX (k+1) f (Z3 name qual params body scope dV kV doc pm an cdv ct) ps sp:=by
 refine⟨len,fun A outer s H args us vs Q E hr e0 hb r hsp=>?_⟩
 have hl:=len _ _ _ _ hsp
 have KX:K.In s.heap:=e0.mod.kin.keeps fun b o e=>(e0.bs b o e).1
 have lim:s.heap.NoLimit:=e0.mod.nolimit.keeps fun b o e=>(e0.bs b o e).1
 have hkind:∀y∈ps.zip us,scope.names.lookup y.1=some .local\/(scope.names.lookup y.1=some .cell/\((cellsFrom (s.heap.objs.size+1) scope.names []).lookup y.1).isSome=true):=fun⟨n,v⟩ hy=>by
  rcases S.par n (b6R hy).1 with q | q
  ·exact .inl q
  ·exact .inr ⟨q,c0e _ _ _ (.inl q)⟩
 refine codeAny_call_function hr.depth (KX _ _ lk) rfl S.co S.gen rfl (PySem.W.codeRec_of KX hcd) (hb _ _ _ _ ?_)
 refine wpAny_newFunctionEnv_cells S.kind hkind fun env he s1 x=>?_
 subst he
 refine⟨lim.keeps x.toInCall.keep,codeAny_func ?_⟩
 obtain⟨t,ht,hq⟩:=hbody A outer s H vs Q E (hr.deeper _) hsp
 have I:Inv (b5h CX P w K mg base N qual scope f cdv A outer s H E) [] (a8D N vs) H s1:=c3y S hr.hd e0 hl r x
 refine a3p (ht [] s1 (a8D N vs) H _ I hq) (fun fl s' hs=>?_) fun e s' hs=>hs
 have fin:∀ {σ':St} {H':Hp} {v:V} {u:Value},Inv (b5h CX P w K mg base N qual scope f cdv A outer s H E) [] σ' H' s'->L5 v u->Q v H'->CE outer P w H s Q u s':=
  fun {σ' H' v u} J rv q=>⟨v,H',J.os,J.bare,J.base,J.hok,rv,q⟩
 cases fl with
 | ret u=>
  obtain⟨v,σ',H',J,rv,q⟩:=hs
  exact fin J rv q
 | next=>
  obtain⟨σ',H',J,q⟩:=hs
  exact fin (v:=V.non) (u:=Value.none) J rfl q
 | brk=>
  obtain⟨_,_,_,q⟩:=hs
  exact False.elim q
 | cont=>
  obtain⟨_,_,_,q⟩:=hs
  exact False.elim q
section
variable {x:Str}{t:TA}{id T:String}{r:List V->Hp->VK->Prop}
def tCB(r:List V->Hp->VK->Prop)(t:TA):TE:=fun σ H Q=>t σ H fun vs H1=>r vs H1 Q
theorem c5G(hc:a0S X (.builtin id) r)(hg:Gl X x)(hm:X.mg x=none)(hv:a4b x=some (.builtin id))(ha:PA X (e::es) t)(hn:x ≠ "__name__" := by decide)(hdb:(x == ("__debug__" : Str))=false:=by decide)
  (he:j9 (e::es) X.env=(false,eval e X.env)::j9 es X.env:=by rfl) (hpl:(a1y pos (j9 es X.env)).any (·.1)=false:=by rfl):PE X (.Call (.Name x p) (e::es) [] pos) (tCB r t):=by
 intro pins s σ H Q I h
 refine a9z (b2t I hg hm hv ?_ hn hdb)
 exact PyProof.Rows.callWith_builtin1 (thn (ha pos pins s σ H _ I h) fun us s1 ⟨vs,H1,I1,r1,q1⟩=>hc pins s1 σ H1 vs us Q I1 r1 q1) he hpl
theorem c3c(hc:a0S X (.type T) r)(hg:Gl X x)(hm:X.mg x=none)(hv:a4b x=some (.type T))(ha:PA X (e::es) t)(hn:x ≠ "__name__" := by decide)(hdb:(x == ("__debug__" : Str))=false:=by decide)
  (he:j9 (e::es) X.env=(false,eval e X.env)::j9 es X.env:=by rfl) (hpl:(a1y pos (j9 es X.env)).any (·.1)=false:=by rfl):PE X (.Call (.Name x p) (e::es) [] pos) (tCB r t):=by
 intro pins s σ H Q I h
 refine a9z (b2t I hg hm hv ?_ hn hdb)
 exact a1X (thn (ha pos pins s σ H _ I h) fun us s1 ⟨vs,H1,I1,r1,q1⟩=>hc pins s1 σ H1 vs us Q I1 r1 q1) he hpl
end
section
variable {κ:Type}[DecidableEq κ]
def a7B(kvs:List (κ×V))(k:κ):Option V:=(kvs.find? fun kv=>decide (kv.1=k)).map (·.2)
def a2P(kvs:List (κ×V))(k:κ)(v:V):List (κ×V):=
 if(kvs.any fun kv=>decide (kv.1=k))=true then kvs.map (fun kv=>if kv.1=k then (kv.1,v)else kv)else kvs++[(k,v)]
theorem b0E{p:κ×V}{r:List (κ×V)}{k:κ}(e:p.1=k):a7B (p::r) k=some p.2:=by simp[a7B,a0T,e]
theorem b0F{p:κ×V}{r:List (κ×V)}{k:κ}(e:¬p.1=k):a7B (p::r) k=a7B r k:=by simp[a7B,a0T,e]
theorem a5O(k:κ):∀kvs:List (κ×V),(kvs.any fun kv=>decide (kv.1=k))=(a7B kvs k).isSome
 | []=>rfl
 | p::r=>by
  rw[a3X]
  by_cases e:p.1=k
  ·simp only[b0E e,d5l e,d3e,Option.isSome_some]
  ·rw[b0F e,d5k e,c0j];exact a5O k r
theorem a8Q(kvs:List (κ×V))(k:κ)(v:V):(a2P kvs k v).length<=kvs.length+1:=by
 unfold a2P
 split
 ·rw[b9];omega
 ·rw[o5,D5,a6k];omega
theorem a9v.isSome_eq{o:Option V}{u:Option Value}(r:a9v o u):o.isSome=u.isSome:=by
 cases o with
 | none=>cases u with
  | none=>rfl
  | some _=>exact(show False from r).elim
 | some _=>cases u with
  | none=>exact(show False from r).elim
  | some _=>rfl
theorem KV.val{kvs:List (κ×V)}{vs:List (κ×Value)}(r:KV kvs vs)(k:κ):a9v (a7B kvs k) (c9t vs k):=by
 unfold KV at r
 induction r with
 | nil=>exact True.intro
 | @cons p q ps qs h t ih=>
  obtain⟨h1,h2⟩:=h
  by_cases e:p.1=k
  ·have e':q.1=k:=h1.symm.trans e
   have b:c9t (q::qs) k=some q.2:=by simp[c9t,a0T,e']
   rw[b0E e,b];exact h2
  ·have e':¬q.1=k:=fun z=>e (h1.trans z)
   have b:c9t (q::qs) k=c9t qs k:=by simp[c9t,a0T,e']
   rw[b0F e,b];exact ih
theorem KV.any{kvs:List (κ×V)}{vs:List (κ×Value)}(r:KV kvs vs)(k:κ):(kvs.any fun kv=>decide (kv.1=k))=vs.any fun kv=>decide (kv.1=k):=by
 unfold KV at r
 induction r with
 | nil=>rfl
 | cons h t ih=>rw[a3X,a3X,ih,h.1]
theorem KV.repl{kvs:List (κ×V)}{vs:List (κ×Value)}(r:KV kvs vs)(k:κ)(ry:L5 y u) :
  KV (kvs.map fun kv=>if kv.1=k then (kv.1,y)else kv) (vs.map fun kv=>if kv.1=k then (kv.1,u)else kv):=by
 unfold KV at r ⊢
 induction r with
 | nil=>exact .nil
 | @cons p q ps qs h t ih=>
  rw[J0,J0]
  refine .cons ?_ ih
  obtain⟨h1,h2⟩:=h
  by_cases e:p.1=k
  ·rw[if_pos e,if_pos (h1.symm.trans e)];exact⟨h1,ry⟩
  ·rw[if_neg e,if_neg (fun z=>e (h1.trans z))];exact⟨h1,h2⟩
theorem KV.put{kvs:List (κ×V)}{vs:List (κ×Value)}(r:KV kvs vs)(k:κ)(ry:L5 y u):KV (a2P kvs k y) (c8O vs k u):=by
 unfold a2P c8O
 rw[r.any k]
 by_cases e:(vs.any fun kv=>decide (kv.1=k))=true
 ·rw[if_pos e,if_pos e];exact r.repl k ry
 ·rw[if_neg e,if_neg e];exact Paired.snoc r ⟨rfl,ry⟩
theorem KV.keys{kvs:List (κ×V)}{vs:List (κ×Value)}(r:KV kvs vs):kvs.map (·.1)=vs.map (·.1):=by
 unfold KV at r
 induction r with
 | nil=>rfl
 | cons h t ih=>rw[J0,J0,ih,h.1]
theorem KV.length{kvs:List (κ×V)}{vs:List (κ×Value)}(r:KV kvs vs):kvs.length=vs.length:=Paired.length r
end
theorem b6H{P:D0}{k:Key}(r:L5 (kV k) u):(O2 P w).is k u=true:=by
 cases k with
 | inl i=>obtain⟨t,e⟩:=(show ∃t,u=Value.int i t from r);subst e;exact b9y P w i t
 | inr x=>obtain⟨t,e⟩:=(show ∃t,u=Value.str x t from r);subst e;exact b9x P w x t
theorem b2w{P:D0}:∀ {ks:List Key} {us:List Value},O6 (ks.map kV) us->ItemsAre (O2 P w) ks us
 | [],_,r=>by rw[c2z]at r;cases r;exact .nil
 | k::ks,_,r=>by
  rw[J0]at r
  cases r with
  | cons h t=>exact .cons (b6H h) (b2w t)
abbrev KT(H:Hp):List (List Key×V)->List (List Key×Addr×Value)->Prop:=Paired fun p q=>p.1=q.1/\H q.2.1=some (.tup (p.1.map kV))/\L5 p.2 q.2.2
theorem KT.val{kvs:List (List Key×V)}{xs:List (List Key×Addr×Value)}(r:KT H kvs xs)(k:List Key):a9v (a7B kvs k) ((atKey xs k).map (·.2)):=by
 induction r with
 | nil=>exact True.intro
 | @cons p q ps qs h t ih=>
  obtain⟨h1,_,h2⟩:=h
  by_cases e:p.1=k
  ·have e':q.1=k:=h1.symm.trans e
   have b:atKey (q::qs) k=some q.2:=by simp[atKey,a0T,e']
   rw[b0E e,b];exact h2
  ·have e':¬q.1=k:=fun z=>e (h1.trans z)
   have b:atKey (q::qs) k=atKey qs k:=by simp[atKey,a0T,e']
   rw[b0F e,b];exact ih
theorem KT.repl{kvs:List (List Key×V)}{xs:List (List Key×Addr×Value)}(r:KT H kvs xs)(k:List Key)(ry:L5 y u) :
  KT H (kvs.map fun kv=>if kv.1=k then (kv.1,y)else kv) (xs.map (putAt k u)):=by
 induction r with
 | nil=>exact .nil
 | @cons p q ps qs h t ih=>
  rw[J0,J0]
  refine .cons ?_ ih
  obtain⟨h1,h2,h3⟩:=h
  unfold putAt
  by_cases e:p.1=k
  ·rw[if_pos e,if_pos (h1.symm.trans e)];exact⟨h1,h2,ry⟩
  ·rw[if_neg e,if_neg (fun z=>e (h1.trans z))];exact⟨h1,h2,h3⟩
theorem KT.put{kvs:List (List Key×V)}{xs:List (List Key×Addr×Value)}(r:KT H kvs xs)(k:List Key)(hb:H b=some (.tup (k.map kV)))(ry:L5 y u) :
  KT H (a2P kvs k y) (storedH xs k b u):=by
 have e:(kvs.any fun kv=>decide (kv.1=k))=(atKey xs k).isSome:=by
  rw[a5O,(r.val k).isSome_eq,a2D]
 unfold a2P storedH
 rw[e]
 by_cases q:(atKey xs k).isSome=true
 ·rw[if_pos q,if_pos q];exact r.repl k ry
 ·rw[if_neg q,if_neg q];exact Paired.snoc r ⟨rfl,hb,ry⟩
theorem KT.keeps{kvs:List (List Key×V)}{xs:List (List Key×Addr×Value)}(r:KT H kvs xs)(ht:∀b ys,H b=some (.tup ys)->H' b=some (.tup ys)):KT H' kvs xs:=
 Paired.mapP r fun _ _ z=>⟨z.1,ht _ _ z.2.1,z.2.2⟩
section
variable {P:D0}
theorem c9b{u:HO}(ok:HOk P w H h)(e:Rd H a u):a0u P w H h a u:=e.ok ok
theorem c6t(ok:HOk P w H h)(e:Rd H a (.dK kvs)):kvs.length<=u9/\(a == a1U)=false/\∃vs,KV kvs vs/\h.DictOf (O2 P w) a vs:=
 show a0u P w H h a (.dK kvs)from c9b ok e
theorem c2o(ok:HOk P w H h)(e:H a=some (.dK kvs)):kvs.length<=u9/\(a == a1U)=false/\∃vs,KV kvs vs/\h.DictOf (O2 P w) a vs:=c6t ok (.inl e)
theorem b7T{ks:List Key}(ok:HOk P w H h)(e:H a=some (.tup (ks.map kV))):(a5c (O2 P w)).is h ks a:=by
 obtain⟨_,its,r,o,h1,h2,n,h3⟩:=(show a0u P w H h a (.tup (ks.map kV))from ok a _ e)
 exact⟨o,its.toArray,n,h1,h2,h3,by simpa using b2w r⟩
theorem c6s{kvs:List (List Key×V)}(ok:HOk P w H h)(e:Rd H a (.dT kvs)):kvs.length<=u9/\(a == a1U)=false /\
  ∃xs,KT H kvs xs/\h.DictOfH (a5c (O2 P w)) a xs:=by
 obtain⟨z,y,xs,r,o,es,ep,h1,h2,h3,h4,h5⟩:=(show a0u P w H h a (.dT kvs)from c9b ok e)
 refine⟨z,y,xs,r,o,es,ep,h1,h2,h3,h4,fun x hx=>?_,h5⟩
 have all:∀ {l:List (List Key×V)} {m:List (List Key×Addr×Value)},KT H l m->∀x∈m,(a5c (O2 P w)).is h x.1 x.2.1:=by
  intro l m q
  induction q with
  | nil=>intro x hx;exact nomatch hx
  | @cons p q ps qs hq t ih=>
   intro x hx
   rcases u5.mp hx with e | hx
   ·subst e
    exact b7T ok (by rw[<-hq.1];exact hq.2.1)
   ·exact ih x hx
 exact all r x hx
theorem d2O{kvs:List (List Key×V)}(ok:HOk P w H h)(e:H a=some (.dT kvs)):kvs.length<=u9/\(a == a1U)=false /\
  ∃xs,KT H kvs xs/\h.DictOfH (a5c (O2 P w)) a xs:=c6s ok (.inl e)
end
def b1A(H:Hp)(a:Addr)(y:V)(r:Option V):Prop:=
 (∃kvs k,Rd H a (.dK kvs)/\y=kV k/\r=a7B kvs k)\/∃kvs k b,Rd H a (.dT kvs)/\y=.ref b/\H b=some (.tup (k.map kV))/\r=a7B kvs k
def b6k(H:Hp)(a:Addr)(y v:V)(H':Hp):Prop:=
 (∃kvs k,H a=some (.dK kvs)/\y=kV k/\kvs.length<u9/\H'=upd H a (.dK (a2P kvs k v))) \/
 ∃kvs k b,H a=some (.dT kvs)/\y=.ref b/\H b=some (.tup (k.map kV))/\kvs.length<u9/\H'=upd H a (.dT (a2P kvs k v))
theorem b1A.k{k:Key}(e:H a=some (.dK kvs)):b1A H a (kV k) (a7B kvs k):=.inl ⟨kvs,k,.inl e,rfl,rfl⟩
theorem b6k.k{k:Key}(e:H a=some (.dK kvs))(hl:kvs.length<u9):b6k H a (kV k) v (upd H a (.dK (a2P kvs k v))):=.inl ⟨kvs,k,e,rfl,hl,rfl⟩
section
variable {r:Value}{o:Option V}{A:U8}{E:Value->k8->Prop}
theorem Inv.big(I:Inv X pins σ H s):a1U<s.heap.objs.size:=by
 have h:A2<s.heap.objs.size:=(I.mod.glob.keeps I.bk).lt
 exact Nat.lt_trans (by decide) h
theorem d3E(hu:A.units+1<cLine)(I:Inv X pins σ H s)(g:b1A H a y o)(ry:L5 y u)(h:∀s',Inv X pins σ H s'->Q (.bool o.isSome) s') :
  wpAny (model X.prog X.w) A (C3 .In u (.ref a)) Q E s:=by
 rcases g with ⟨kvs,k,e,ey,l⟩ | ⟨kvs,k,b,e,ey,eb,l⟩
 ·subst ey
  obtain⟨z,hd,vs,rel,dd⟩:=c6t I.hok e
  refine wpAny_in_of (b6H ry) hd dd.mapOf ?_
  rw[<-(rel.val k).isSome_eq,<-l]
  exact h _ (I.tok _)
 ·subst ey
  cases (show u=Value.ref b from ry)
  obtain⟨z,hd,xs,rel,dd⟩:=c6s I.hok e
  refine wpAny_in_heap (a5J hu) (b7T I.hok eb) hd dd ?_
  have q:=(rel.val k).isSome_eq
  rw[a2D]at q
  rw[<-q,<-l]
  exact h _ (I.tok _)
theorem c8A(hu:A.units+1<cLine)(I:Inv X pins σ H s)(g:b1A H a y o)(ry:L5 y u)(h:∀s',Inv X pins σ H s'->Q (.bool (!o.isSome)) s') :
  wpAny (model X.prog X.w) A (C3 .NotIn u (.ref a)) Q E s:=by
 rcases g with ⟨kvs,k,e,ey,l⟩ | ⟨kvs,k,b,e,ey,eb,l⟩
 ·subst ey
  obtain⟨z,hd,vs,rel,dd⟩:=c6t I.hok e
  refine wpAny_notIn_of (b6H ry) hd dd.mapOf ?_
  rw[<-(rel.val k).isSome_eq,<-l]
  exact h _ (I.tok _)
 ·subst ey
  cases (show u=Value.ref b from ry)
  obtain⟨z,hd,xs,rel,dd⟩:=c6s I.hok e
  refine wpAny_notIn_heap (a5J hu) (b7T I.hok eb) hd dd ?_
  have q:=(rel.val k).isSome_eq
  rw[a2D]at q
  rw[<-q,<-l]
  exact h _ (I.tok _)
theorem b7Z{ob:HO}(I:Inv X pins σ H s)(mu:Mut (H a))(hs:Heap.SameBut a s.heap h')(he:∃q,h'.get? a=some q)(new:a0u X.prog X.w (upd H a ob) h' a ob) :
  Inv X pins σ (upd H a ob) { s with heap:=h',toks:=t' }:=
 I.write (x:=a) (e:=a) mu (.inl rfl) (fun b q hb z=>(hs.2 b hb).trans z) he new
theorem b7Y{P:D0}{vs:List (Key×Value)}(z:kvs.length<=u9)(hd:(a == a1U)=false)(rel:KV kvs vs)(dd:h'.DictOf (O2 P w) a vs) :
  a0u P w H' h' a (.dK kvs):=⟨z,hd,vs,rel,dd⟩
theorem c3E{Q:Unit->k8->Prop}(hu:A.units+1<cLine)(I:Inv X pins σ H s)(g:b6k H a y v H')(ry:L5 y u)(rv:L5 v r)(h:∀s',Inv X pins σ H' s'->Q () s') :
  wpAny (model X.prog X.w) A (c9u (.ref a) u r) Q E s:=by
 rcases g with ⟨kvs,k,e,ey,l,eH⟩ | ⟨kvs,k,b,e,ey,eb,l,eH⟩
 ·subst ey eH
  obtain⟨z,hd,vs,rel,dd⟩:=c2o I.hok e
  have hz:vs.length<=u9:=by rw[<-rel.length];exact z
  have hl:(a2P kvs k v).length<=u9:=by have:=a8Q kvs k v;omega
  refine wpAny_setItem_pairs (hsz:=hz) (b6H ry) dd fun h' dd' hs=>h _ ?_
  have he:∃q,h'.get? a=some q:=let⟨q,_,_,hq,_⟩:=dd'; ⟨q,hq⟩
  exact b7Z I (by rw[e];exact True.intro) hs he (b7Y hl hd (rel.put k rv) dd')
 ·subst ey eH
  cases (show u=Value.ref b from ry)
  obtain⟨z,hd,xs,rel,dd⟩:=d2O I.hok e
  have hz:xs.length<=u9:=by rw[<-Paired.length rel];exact z
  have hl:(a2P kvs k v).length<=u9:=by have:=a8Q kvs k v;omega
  refine wpAny_setItem_heap (hsz:=hz) (a5J hu) (b7T I.hok eb) dd fun h' dd' hs=>h _ ?_
  obtain⟨q,es,ep,hq,h2,h3,h4,_,h5⟩:=dd'
  refine b7Z I (by rw[e];exact True.intro) hs ⟨q,hq⟩ ⟨hl,hd,_,(rel.put k eb rv).keeps fun c ys ec=>?_,q,es,ep,hq,h2,h3,h4,h5⟩
  rw[i9 (K0 ec e (fun z=>nomatch z))]
  exact ec
end
section
variable {k:Key}{A:U8}{E:Value->k8->Prop}
end
def b5J(ty td:TE):TE:=fun σ H Q=>ty σ H fun y H1=>td σ H1 fun x H2=>∃a o,x=.ref a/\b1A H2 a y o/\Q (.bl o.isSome) H2
def a1C(ty td:TE):TE:=fun σ H Q=>ty σ H fun y H1=>td σ H1 fun x H2=>∃a o,x=.ref a/\b1A H2 a y o/\Q (.bl (!o.isSome)) H2
def a4m(td ty tv:TE):TS:=fun D σ H=>tv σ H fun v H1=>td σ H1 fun x H2=>ty σ H2 fun y H3=>∃a H4,x=.ref a/\b6k H3 a y v H4/\D.nx σ H4
section
variable {o i value:Expr}{tpos:Pos}{td ty tv:TE}
theorem c5H(hu:X.A.units+1<cLine)(hi:PE X i ty)(ho:PE X o td):PC X .In i o (b5J ty td):=by
 intro pins s σ H Q I h
 refine thn (hi pins s σ H _ I h) fun iv s1 ⟨y,H1,I1,ry,q1⟩=>thn (ho pins s1 σ H1 _ I1 q1) fun u s2 ⟨x,H2,I2,rx,a,ov,ex,g,q2⟩=>?_
 subst ex
 obtain rfl:u=Value.ref a:=rx
 exact d3E hu I2 g ry fun s3 I3=>⟨.bl ov.isSome,H2,I3,rfl,q2⟩
theorem b6A(hu:X.A.units+1<cLine)(hi:PE X i ty)(ho:PE X o td):PC X .NotIn i o (a1C ty td):=by
 intro pins s σ H Q I h
 refine thn (hi pins s σ H _ I h) fun iv s1 ⟨y,H1,I1,ry,q1⟩=>thn (ho pins s1 σ H1 _ I1 q1) fun u s2 ⟨x,H2,I2,rx,a,ov,ex,g,q2⟩=>?_
 subst ex
 obtain rfl:u=Value.ref a:=rx
 exact c8A hu I2 g ry fun s3 I3=>⟨.bl (!ov.isSome),H2,I3,rfl,q2⟩
theorem c7w(hu:X.A.units+1<cLine)(ho:PE X o td)(hi:PE X i ty)(hv:PE X value tv)(hs:a3Z value (some (.Subscript o i pos')) pos.line X.env=pure false) :
  PS X (.Assign [.Subscript o i pos'] value pos) (a4m td ty tv):=by
 intro pins s σ H D I h
 refine wpAny_Assign_Subscript (thn (hv pins s σ H _ I h) fun r s1 ⟨v,H1,I1,rv,q1⟩=>thn (ho pins s1 σ H1 _ I1 q1) fun u s2 ⟨x,H2,I2,rx,q2⟩=>thn (hi pins s2 σ H2 _ I2 q2) fun iv s3 ⟨y,H3,I3,ry,a,H4,ex,g,q3⟩=>?_) hs
 subst ex
 obtain rfl:u=Value.ref a:=rx
 exact c3E hu I3 g ry rv fun s4 I4=>⟨σ,H4,I4,q3⟩
end
theorem b9L{P:D0}(h:Heap)(hb:a1U<h.objs.size):a0u P w H (h.push { cls:=.type "dict",data:=.dict #[] }) h.objs.size (.dK []):=
 ⟨Z0 _,beq_eq_false_iff_ne.mpr (Ne.symm (z9 hb)),[],.nil,c2C h⟩
def a9O:TE:=fun _ H Q=>∀p,H p=none->Q (.ref p) (upd H p (.dK []))
section
theorem c5B:PE X (.Dict [] [] pos) a9O:=fun pins s σ H Q I h=>
 wpAny_Dict_empty ⟨.ref s.heap.objs.size,_,I.laid (a:=s.heap.objs.size) (o:=.dK []) (t':=s.toks) (fun _ _ q=>j4 _ q) (j6 _) (b9L s.heap I.big),rfl,h _ (I.hok.fresh (j6 _))⟩
end
def c0x:List (TE×TE)->St->Hp->(List (V×V)->Hp->Prop)->Prop
 | [],_,H,Q=>Q [] H
 | (tk,tv)::r,σ,H,Q=>tk σ H fun x H1=>tv σ H1 fun y H2=>c0x r σ H2 fun ps H3=>Q ((x,y)::ps) H3
abbrev VV:List (V×V)->List (Value×Value)->Prop:=Paired fun p q=>L5 p.1 q.1/\L5 p.2 q.2
def PPs(X:Cx)(pos:Pos)(keys:List (Option Expr))(values:List Expr)(trs:List (TE×TE)):Prop:=
 ∀(pins:List (Addr×Obj)) (s:k8) (σ:St) (H:Hp) (Q:List (V×V)->Hp->Prop),Inv X pins σ H s->c0x trs σ H Q ->
  wpAny (model X.prog X.w) X.A (evalPairs (pairTrees keys values X.env pos)) (fun vs s'=>∃ps H',Inv X pins σ H' s'/\VV ps vs/\Q ps H') X.xe s
theorem c7y:PPs X pos [] [] []:=fun pins s σ H Q I h=>pairTrees_nil_walk ⟨[],H,I,.nil,h⟩
theorem c5u{k v:Expr}{ks:List (Option Expr)}{vs:List Expr}{tk tv:TE}{trs:List (TE×TE)}(hk:PE X k tk)(hv:PE X v tv)(hr:PPs X pos ks vs trs) :
  PPs X pos (some k::ks) (v::vs) ((tk,tv)::trs):=fun pins s σ H Q I h=>
 pairTrees_cons_walk (thn (hk pins s σ H _ I h) fun u s1 ⟨x,H1,I1,rx,q1⟩=>thn (hv pins s1 σ H1 _ I1 q1) fun w2 s2 ⟨y,H2,I2,ry,q2⟩=>
  thn (hr pins s2 σ H2 _ I2 q2) fun ws s3 ⟨ps,H3,I3,rel,q3⟩=>⟨(x,y)::ps,H3,I3,.cons ⟨rx,ry⟩ rel,q3⟩)
def b0n(kvs more:List (Key×V)):List (Key×V):=more.foldl (fun acc kv=>a2P acc kv.1 kv.2) kvs
theorem KV.merge:∀ {more:List (Key×V)} {rs:List (Key×Value)} {kvs:List (Key×V)} {vs:List (Key×Value)},KV more rs->KV kvs vs->KV (b0n kvs more) (merged vs rs):=by
 intro more rs kvs vs r
 unfold KV at r
 induction r generalizing kvs vs with
 | nil=>intro q;exact q
 | @cons p q ps qs h t ih=>
  intro r0
  have e:KV (a2P kvs p.1 p.2) (c8O vs q.1 q.2):=by
   have:=r0.put p.1 h.2
   rw[<-h.1];exact this
  exact ih e
theorem a9M:∀(more kvs:List (Key×V)),(b0n kvs more).length<=kvs.length+more.length
 | [],kvs=>by show kvs.length<=kvs.length+0;omega
 | p::r,kvs=>by
  have h1:=a9M r (a2P kvs p.1 p.2)
  have h2:=a8Q kvs p.1 p.2
  show(b0n (a2P kvs p.1 p.2) r).length<=_
  rw[D5];omega
theorem b5r{P:D0}{w:World}:∀ {kvs:List (Key×V)} {ws:List (Value×Value)},VV (kvs.map fun kv=>(kV kv.1,kv.2)) ws->∃rs,Carries (O2 P w) ws rs/\KV kvs rs
 | [],_,r=>by rw[c2z]at r;cases r;exact⟨[],True.intro,.nil⟩
 | p::kvs,_,r=>by
  rw[J0]at r
  cases r with
  | @cons a b as bs h t=>
   obtain⟨rs,c,q⟩:=b5r (P:=P) (w:=w) t
   obtain⟨b1,b2⟩:=b
   exact⟨(p.1,b2)::rs,⟨b6H h.1,rfl,c⟩,.cons ⟨rfl,h.2⟩ q⟩
def b8Q(trs:List (TE×TE)):TE:=fun σ H Q=>∀p,H p=none->c0x trs σ (upd H p (.dK [])) fun ps H2=>H2 p=some (.dK [])/\∃kvs:List (Key×V),ps=kvs.map (fun kv=>(kV kv.1,kv.2))/\kvs.length<=15/\Q (.ref p) (upd H2 p (.dK (b0n [] kvs)))
theorem c7H{keys:List (Option Expr)}{values:List Expr}{trs:List (TE×TE)}(h:PPs X pos keys values trs)(hall:keys.all (·.isSome)=true)(hl:keys.length=values.length)(h0:keys≠[])
  (h15:keys.length<=15):PE X (.Dict keys values pos) (b8Q trs):=by
 intro pins s σ H Q I q
 have hn:=I.hok.fresh (j6 s.heap.objs.size)
 have I1:=I.laid (a:=s.heap.objs.size) (o:=.dK []) (h':=s.heap.push { cls:=.type "dict",data:=.dict #[] }) (t':=s.toks) (fun _ _ q=>j4 _ q) (j6 _) (b9L s.heap I.big)
 refine wpAny_Dict_walk (knd:=O2 X.prog X.w) hall hl h0 h15 (thn (h pins _ σ _ _ I1 (q _ hn)) fun ws s2 ⟨ps,H2,I2,rel,e,kvs,ep,lk,q2⟩=>?_)
 subst ep
 obtain⟨rs,c,rk⟩:=b5r (P:=X.prog) (w:=X.w) rel
 obtain⟨z,hd,vs0,r0,dd⟩:=c2o I2.hok e
 cases r0
 refine⟨rs,c,dd,fun h' dd' hs=>⟨.ref s.heap.objs.size,_,?_,rfl,q2⟩⟩
 have hz:(b0n [] kvs).length<=u9:=by
  have h1:=a9M kvs []
  rw[a6k]at h1
  rw[sizeLine_eq];omega
 have he:∃q,h'.get? s.heap.objs.size=some q:=let⟨q,_,_,hq,_⟩:=dd'; ⟨q,hq⟩
 exact b7Z I2 (by rw[e];exact True.intro) hs he (b7Y hz hd (rk.merge .nil) dd')
structure M1(X:Cx)(o:Expr)(m:Str)(apos:Pos)(e:Expr)(cpos:Pos):Prop where
 base:a3b o m X.env (eval o X.env)=eval o X.env
 few:((a1y cpos (j9 [e] X.env)).all (fun x => !x.1)&&(a9A cpos (a4a [] X.env)).all (fun x=>x.1.isSome)
  && decide (([e]:List Expr).length+([]:List b6T).length+(if([]:List b6T).isEmpty then 0 else 1)<30))=true
 line:(apos.endLine == cpos.line)=true
 trees:a1y cpos (j9 [e] X.env)=[(false,eval e X.env)]
structure M2(X:Cx)(o:Expr)(m:Str)(apos:Pos)(e f:Expr)(cpos:Pos):Prop where
 base:a3b o m X.env (eval o X.env)=eval o X.env
 few:((a1y cpos (j9 [e,f] X.env)).all (fun x => !x.1)&&(a9A cpos (a4a [] X.env)).all (fun x=>x.1.isSome)
  && decide (([e,f]:List Expr).length+([]:List b6T).length+(if([]:List b6T).isEmpty then 0 else 1)<30))=true
 line:(apos.endLine == cpos.line)=true
 trees:a1y cpos (j9 [e,f] X.env)=[(false,eval e X.env),(false,eval f X.env)]
section
variable {d:V}{r:Value}{o:Option V}{A:U8}{E:Value->k8->Prop}
end
section
variable {o f:Expr}{apos cpos:Pos}{td ty tx:TE}
end
section
variable {A:U8}{E:Value->k8->Prop}
end
section
variable {A:U8}{E:Value->k8->Prop}
end
end L2
namespace HT
open PySem PyProof.Rows
section
open PySem.SeqAt
open PySem.AutoSeq1 (wpAny_loadPart')
open PySem.MeetsSeq PySem.MeetsSeq2 PySem.MeetsSeq3
end
section
variable {prog:D0}{w:World}{A:U8}{E:Value->k8->Prop}{s:k8}
def sIx(n d:Nat):Option Int->Nat
 | none=>d
 | some v=>if v<0 then (v+(n:Int)).toNat else min v.toNat n
theorem b7y(n d k:Nat):sIx n d (some (k:Int))=min k n:=by
 show(if(k:Int)<0 then ((k:Int)+(n:Int)).toNat else min (k:Int).toNat n)=min k n
 rw[if_neg (by omega),A3]
theorem c9N(n d:Nat)(hd:d<=n)(o:Option Int):sIx n d o<=n:=by
 cases o with
 | none=>exact hd
 | some v=>
  show(if v<0 then (v+(n:Int)).toNat else min v.toNat n)<=n
  by_cases hv:v<0
  ·rw[if_pos hv];omega
  ·rw[if_neg hv];exact Nat.min_le_right _ _
theorem c2u(v:Int)(n d:Nat):(if v<0 then max (v+(n:Int)) 0 else min v (n:Int))=((sIx n d (some v):Nat):Int):=by
 show(if v<0 then max (v+(n:Int)) 0 else min v (n:Int))=(((if v<0 then (v+(n:Int)).toNat else min v.toNat n):Nat):Int)
 by_cases hv:v<0
 ·simp only[if_pos hv];omega
 ·simp only[if_neg hv];omega
theorem c1I(lo hi:Option Int)(n:Nat):Builtin.Slice.sliceAdjust lo hi 1 (n:Int)=(((sIx n 0 lo:Nat):Int),((sIx n n hi:Nat):Int)):=by
 have h1:¬((1:Int)<0):=by omega
 unfold Builtin.Slice.sliceAdjust
 simp only[h1,if_false]
 refine Prod.ext ?_ ?_
 ·cases lo with
  | none=>rfl
  | some v=>exact c2u v n 0
 ·cases hi with
  | none=>rfl
  | some v=>exact c2u v n n
theorem c0Y(i j:Nat):Builtin.Slice.slicePlaces (i:Int) (j:Int) 1=j - i:=by
 unfold Builtin.Slice.slicePlaces
 have h1:(1:Int) > 0:=by omega
 simp only[h1,if_true,Int.ediv_one]
 split <;> omega
theorem b4q{v:Value}{o:Option Int}{Q:Option Int->k8->Prop}(p:c8T v o)(h:Q o s):wpAny (model prog w) A (Builtin.Slice.slicePartIndex v) Q E s:=by
 cases p with
 | none=>exact slicePart_none h
 | int i t=>exact slicePart_int h
theorem b1U{sl:Addr}{vl vu:Value}{lo hi:Option Int}{n:Nat}{Q:Int×Int×Nat->k8->Prop}(hs:s.heap.IsSliceOf sl vl vu .none)(pl:c8T vl lo)(pu:c8T vu hi)
  (h:Q (((sIx n 0 lo:Nat):Int),1,sIx n n hi - sIx n 0 lo) s):wpAny (model prog w) A (Builtin.Slice.sliceApplied (.ref sl) (pure (n:Int))) Q E s:=by
 obtain⟨os,hos,hcs,hds⟩:=id hs
 unfold Builtin.Slice.sliceApplied Builtin.Slice.sliceFields
 refine i8 (i8 (d3g hos hds (x:=vl) rfl (i8 (d3g hos hds (x:=vu) rfl (i8 (d3g hos hds (x:=.none) rfl (u7 ?_)))))))
 refine i8 (slicePart_none ?_)
 show wpAny _ _ (if((1:Int) == 0)=true then _ else _) _ _ s
 rw[if_neg (by decide)]
 refine i8 (b4q pl (i8 (b4q pu (i8 (u7 ?_)))))
 show wpAny _ _ (match Builtin.Slice.sliceAdjust lo hi 1 (n:Int)with | (lo,hi)=>pure (lo,(1:Int),Builtin.Slice.slicePlaces lo hi 1)) _ _ s
 rw[c1I lo hi n]
 show wpAny _ _ (pure (((sIx n 0 lo:Nat):Int),(1:Int),Builtin.Slice.slicePlaces ((sIx n 0 lo:Nat):Int) ((sIx n n hi:Nat):Int) 1)) _ _ s
 rw[c0Y]
 exact u7 h
theorem c5v(xs:Array Value)(i k:Nat):((t8 k).filterMap fun(m:Nat)=>xs[((i:Int)+(m:Int) * 1).toNat]?).toArray=((xs.toList.drop i).take k).toArray:=by
 have e:(fun(m:Nat)=>xs[((i:Int)+(m:Int) * 1).toNat]?)=fun m=>xs[i+m]?:=by
  funext m
  have:((i:Int)+(m:Int) * 1).toNat=i+m:=by omega
  rw[this]
 rw[e]
 have:=pick_run xs i k
 rw[List.filterMap_map]at this
 have e2:((fun x=>xs[x]?) ∘ fun x=>i+x)=fun m=>xs[i+m]?:=rfl
 rw[e2]at this
 rw[this]
theorem b1n{t sl:Addr}{items:Array Value}{vl vu:Value}{lo hi:Option Int}{Q:Value->k8->Prop}(ht:IsTup s.heap t items)(hs:s.heap.IsSliceOf sl vl vu .none)(pl:c8T vl lo)(pu:c8T vu hi)
  (hw:¬(sIx items.size 0 lo=0/\sIx items.size items.size hi=items.size))
  (h:Q (.ref s.heap.objs.size) { s with heap:=s.heap.push { cls:=.type "tuple",data:=.seq ((items.toList.drop (sIx items.size 0 lo)).take (sIx items.size items.size hi - sIx items.size 0 lo)).toArray } })
  (hsz:items.size<=u9):wpAny (model prog w) A (c9v (.ref t) (.ref sl)) Q E s:=by
 have htake:sizeOk (.seq ((items.toList.drop (sIx items.size 0 lo)).take (sIx items.size items.size hi - sIx items.size 0 lo)).toArray):=by
  show((items.toList.drop (sIx items.size 0 lo)).take (sIx items.size items.size hi - sIx items.size 0 lo)).toArray.size<=u9
  rw[p9,D8,b5D,a3L]
  omega
 have hj:sIx items.size items.size hi<=items.size:=c9N _ _ (j6 _) hi
 obtain⟨os,hos,hcs,hds⟩:=id hs
 have hTs:s.TypeIs (.ref sl) "slice" := ⟨os,hos,hcs⟩
 unfold c9v
 try with_reducible refine a3a ?_
 first | refine i8 (u7 ?_) | skip
 refine i8 (wpAny_sequenceKey ht.typeIs (by decide) ?_)
 refine i8 (b1F (name:=Str.ofString "__getitem__") ht.typeIs a3W
  (b2K a3W ht.typeIs entry_tuple_getitem ?_ (args_tuple_getitem _ _)))
 show wpAny _ _ (Builtin.Tuple.tupleItemsOf (.ref t) >>= _) _ _ s
 refine i8 (tupleItemsOf_ ht ?_)
 refine i8 (b3O hTs ?_)
 rw[if_pos (by decide)]
 refine i8 (b1U hs pl pu ?_)
 have hno:¬((((sIx items.size 0 lo:Nat):Int) == 0&&(1:Int) == 1&&(sIx items.size items.size hi - sIx items.size 0 lo) == items.size)=true):=by
  intro q
  rw[a3w,a3w]at q
  have q1:((sIx items.size 0 lo:Nat):Int)=0:=eq_of_beq q.1.1
  have q2:sIx items.size items.size hi - sIx items.size 0 lo=items.size:=eq_of_beq q.2
  exact hw ⟨by omega,by omega⟩
 show wpAny _ _ (if(((sIx items.size 0 lo:Nat):Int) == 0&&(1:Int) == 1&&(sIx items.size items.size hi - sIx items.size 0 lo) == items.size)=true then _ else _) _ _ s
 rw[if_neg hno,c5v]
 first
  | exact i8 (m:=Builtin.Tuple.tupleExact _) (a0J (u7 ⟨_,rfl,u7 h⟩) htake)
  | exact i8 (m:=Builtin.Tuple.tupleExact _) (a0J (i8 (u7 (u7 ⟨_,rfl,u7 h⟩))) htake)
  | exact i8 (i8 (m:=Builtin.Tuple.tupleExact _) (a0J (u7 (u7 ⟨_,rfl,u7 h⟩)) htake))
  | exact i8 (i8 (m:=Builtin.Tuple.tupleExact _) (a0J (u7 ⟨_,rfl,u7 h⟩) htake))
end
end HT
namespace L2
open PySem PySem.Spec PyProof.Rows
variable{X:Cx}{n:Nat}{pins:List (Addr×Obj)}{σ:St}{H:Hp}{s:k8}{xs:List V}{us:List Value}
abbrev TO:=St->Hp->(Option Int->Hp->Prop)->Prop
def PO(X:Cx)(e:Option Expr)(t:TO):Prop:=
 ∀(pins:List (Addr×Obj)) (s:k8) (σ:St) (H:Hp) (Q:Option Int->Hp->Prop),Inv X pins σ H s->t σ H Q ->
  wpAny (model X.prog X.w) X.A (evalPart e X.env) (fun u s'=>∃o H',Inv X pins σ H' s'/\c8T u o/\Q o H') X.xe s
def a4R:TO:=fun _ H Q=>Q none H
def a9K(t:TE):TO:=fun σ H Q=>t σ H fun x H1=>∃i,x=.int i/\Q (some i) H1
section
variable {e:Expr}{te:TE}{lo hi:Option Expr}{tl th:TO}{pos p2:Pos}
theorem c7A:PO X none a4R:=by
 intro pins s σ H Q I h
 rw[evalPart_none]
 exact u7 ⟨none,H,I,.none,h⟩
theorem c7z(h:PE X e te):PO X (some e) (a9K te):=by
 intro pins s σ H Q I hw
 rw[evalPart_some]
 refine thn (h pins s σ H _ I hw) fun u s1 ⟨x,H1,I1,r1,q1⟩=>?_
 obtain⟨i,rfl,q⟩:=q1
 obtain⟨t,rfl⟩:=r1
 exact⟨some i,H1,I1,.int i t,q⟩
def SlR(X:Cx)(r:V->Option Int->Option Int->Hp->VK->Prop):Prop:=
 ∀(pins:List (Addr×Obj)) (s:k8) (σ:St) (H:Hp) (x:V) (v vl vu:Value) (lo hi:Option Int) (sl:Addr) (Q:VK),Inv X pins σ H s->L5 x v->s.heap.IsSliceOf sl vl vu .none->c8T vl lo->c8T vu hi->r x lo hi H Q ->
  ∃T id,typeLookup (.type T) "__getitem__" = pure (some (.builtin id))/\s.TypeIs v T/\wpAny (model X.prog X.w) X.A (c9v v (.ref sl)) (EP X pins σ Q) X.xe s
theorem SlR.or{r r':V->Option Int->Option Int->Hp->VK->Prop}(h:SlR X r)(h':SlR X r'):SlR X (fun x lo hi H Q=>r x lo hi H Q\/r' x lo hi H Q):=by
 intro pins s σ H x v vl vu lo hi sl Q I rx hs pl pu q
 rcases q with q | q
 ·exact h pins s σ H x v vl vu lo hi sl Q I rx hs pl pu q
 ·exact h' pins s σ H x v vl vu lo hi sl Q I rx hs pl pu q
def tSl(r:V->Option Int->Option Int->Hp->VK->Prop)(te:TE)(tl th:TO):TE:=fun σ H Q=>te σ H fun x H1=>tl σ H1 fun l H2=>th σ H2 fun u H3=>r x l u H3 Q
theorem c5y{r:V->Option Int->Option Int->Hp->VK->Prop}(hr:SlR X r)(he:PE X e te)(hl:PO X lo tl)(hu:PO X hi th):PE X (.Subscript e (.Slice lo hi none p2) pos) (tSl r te tl th):=by
 intro pins s σ H Q I h
 refine Subscript_ (thn (he pins s σ H _ I h) fun v s1 ⟨x,H1,I1,r1,q1⟩=>?_)
 refine wpAny_Slice (thn (hl pins s1 σ H1 _ I1 q1) fun vl s2 ⟨l,H2,I2,pl,q2⟩=>thn (hu pins s2 σ H2 _ I2 q2) fun vu s3 ⟨u,H3,I3,pu,q3⟩=>?_)
 rw[evalPart_none]
 refine u7 ?_
 have I4:Inv X pins σ H3 { s3 with heap:=s3.heap.push { cls:=.type "slice",data:=.fields #[vl,vu,.none] } }:=I3.kept (t':=s3.toks) fun b ob q=>j4 _ q
 obtain⟨T,id,hT,ht,hg⟩:=hr pins { s3 with heap:=s3.heap.push { cls:=.type "slice",data:=.fields #[vl,vu,.none] } } σ H3 x v vl vu l u s3.heap.objs.size Q I4 r1 (Heap.IsSliceOf.new ..) pl pu q3
 show wpAny (model X.prog X.w) X.A (subscriptTail e (.Slice lo hi none p2) v (.ref s3.heap.objs.size)) (EP X pins σ Q) X.xe { s3 with heap:=s3.heap.push { cls:=.type "slice",data:=.fields #[vl,vu,.none] } }
 exact tail_any (ops:=[.ref s3.heap.objs.size,v]) ht hT hg (by with_unfolding_all rfl)
def a8U(xs:List V)(lo hi:Option Int):List V:=(xs.drop (HT.sIx xs.length 0 lo)).take (HT.sIx xs.length xs.length hi - HT.sIx xs.length 0 lo)
theorem b2Y(xs:List V)(lo hi:Option Int):(a8U xs lo hi).length<=xs.length:=by
 unfold a8U
 rw[D8,b5D]
 omega
def d3o(K:Fg):V->Option Int->Option Int->Hp->VK->Prop:=fun x lo hi H Q=>∃a xs,x=.ref a/\SqT K H a xs /\
 ¬(HT.sIx xs.length 0 lo=0/\HT.sIx xs.length xs.length hi=xs.length)/\∀p,H p=none->Q (.ref p) (upd H p (.tup (a8U xs lo hi)))
theorem c9z:SlR X (d3o X.K):=by
 intro pins s σ H x v vl vu lo hi sl Q I rx hs pl pu h
 obtain⟨a,xs,rfl,hx,hw,q⟩:=h
 cases rx
 obtain⟨its,r,ht,hz⟩:=I.tuple hx
 have hlen:its.toArray.size=xs.length:=by rw[p9];exact r.length.symm
 refine⟨"tuple",_,a3W.lookup,ht.typeIs,?_⟩
 refine HT.b1n ht hs pl pu (by rw[hlen];exact hw) ?_ (by rw[hlen];exact hz)
 rw[hlen]
 refine⟨.ref s.heap.objs.size,_,I.laid (t':=s.toks) (o:=.tup (a8U xs lo hi)) (fun b ob q=>j4 _ q) (j6 _) ?_,rfl,q _ (I.hok.fresh (j6 _))⟩
 exact⟨D4 (b2Y xs lo hi) hz,_,(r.drop (HT.sIx xs.length 0 lo)).take (HT.sIx xs.length xs.length hi - HT.sIx xs.length 0 lo),IsTup.new _ _⟩
end
def ixN(n:Nat)(i:Int):Option Nat:=if 0<=i then (if i<n then some i.toNat else none)else if -(n:Int)<=i then some (i+n).toNat else none
def atI{α:Type}(xs:List α)(i:Int):Option α:=(ixN xs.length i).bind fun j=>xs[j]?
theorem c2j{i:Int}{j:Nat}(h:ixN n i=some j):seqIndex? i n=some j/\j<n /\ -(n:Int)<=i/\i<n:=by
 unfold ixN at h
 by_cases h0:0<=i
 ·rw[if_pos h0]at h
  by_cases h1:i<n
  ·rw[if_pos h1]at h
   have e:i.toNat=j:=Option.some.inj h
   exact⟨by rw[d3h h0 h1,e],by omega,by omega,h1⟩
  ·rw[if_neg h1]at h;cases h
 ·rw[if_neg h0]at h
  by_cases h1 : -(n:Int)<=i
  ·rw[if_pos h1]at h
   have e:(i+n).toNat=j:=Option.some.inj h
   exact⟨by rw[d1P (by omega) h1,e],by omega,h1,by omega⟩
  ·rw[if_neg h1]at h;cases h
theorem b8j{α:Type}{xs:List α}{i:Int}{v:α}(h:atI xs i=some v):∃j,seqIndex? i xs.length=some j/\xs[j]? = some v/\j<xs.length /\ -(xs.length:Int)<=i/\i<xs.length:=by
 unfold atI at h
 cases e:ixN xs.length i with
 | none=>rw[e]at h;cases h
 | some j=>
  rw[e]at h
  obtain⟨h1,h2,h3,h4⟩:=c2j e
  exact⟨j,h1,h,h2,h3,h4⟩
theorem a0z{α:Type}{xs:List α}{j:Nat}{v:α}(h:xs[j]? = some v):atI xs (j:Int)=some v:=by
 have hj:j<xs.length:=(t6.mp h).1
 have e:ixN xs.length (j:Int)=some j:=by
  unfold ixN
  rw[if_pos (by omega),if_pos (by omega)];simp
 unfold atI;rw[e];exact h
def b8n(b:Expr):Prop:=∀o i,subscripted b false o i=operate [o,i] (c9v o i)
def IxR(X:Cx)(r:R2):Prop:=
 ∀(value slice:Expr) (pins:List (Addr×Obj)) (s:k8) (σ:St) (H:Hp) (x y:V) (v u:Value) (Q:VK),Inv X pins σ H s->L5 x v->L5 y u->r x y H Q ->
  subscripted slice false v u=operate [v,u] (c9v v u)->wpAny (model X.prog X.w) X.A (subscriptTail value slice v u) (EP X pins σ Q) X.xe s
def MtR(X:Cx)(id:String)(r:V->List V->Hp->VK->Prop):Prop:=
 ∀(pins:List (Addr×Obj)) (s:k8) (σ:St) (H:Hp) (x:V) (xs:List V) (v:Value) (us:List Value) (Q:VK),Inv X pins σ H s->L5 x v->O6 xs us->r x xs H Q ->
  wpAny (model X.prog X.w) X.A (call (.builtin id) (v::us)) (EP X pins σ Q) X.xe s
section
variable {a b:Expr}{ta tb:TE}{pos:Pos}
theorem IxR.or{r r':R2}(h:IxR X r)(h':IxR X r'):IxR X (fun x y H Q=>r x y H Q\/r' x y H Q):=by
 intro value slice pins s σ H x y v u Q I rx ry q hs
 rcases q with q | q
 ·exact h value slice pins s σ H x y v u Q I rx ry q hs
 ·exact h' value slice pins s σ H x y v u Q I rx ry q hs
theorem d2z{r:R2}(hr:IxR X r)(ha:PE X a ta)(hb:PE X b tb)(hs:b8n b):PE X (.Subscript a b pos) (tOp r ta tb):=by
 intro pins s σ H Q I h
 exact Subscript_ (d1p ha hb I h fun v u s2 x y H2 I2 rx ry q=>hr a b pins s2 σ H2 x y v u Q I2 rx ry q (hs _ _))
def d2m(K:Fg):R2:=fun x y H Q=>∃p xs i v,x=.ref p/\y=.int i/\SqL K H p xs/\atI xs i=some v/\Q v H
def d2k(K:Fg):R2:=fun x y H Q=>∃p xs i v,x=.ref p/\y=.int i/\SqT K H p xs/\atI xs i=some v/\Q v H
def d2l:R2:=fun x y H Q=>∃z i c,x=.str z/\y=.int i/\z.length<=u9/\atI z.cps.toList i=some c/\Q (.str ⟨#[c]⟩) H
theorem c8r:IxR X (d2m X.K):=by
 intro value slice pins s σ H x y v u Q I rx ry h hs
 obtain⟨p,xs,i,z,rfl,rfl,hq,he,q⟩:=h
 cases rx
 obtain⟨t,rfl⟩:=ry
 obtain⟨its,r,pl,hz⟩:=I.list hq
 obtain⟨j,h1,h2,h3,h4,h5⟩:=b8j he
 obtain⟨w,ew,rw'⟩:=r.get h2
 have hl:=r.length
 have hn:=b0o
 have fin:EP X pins σ Q w s:=⟨z,H,I,rw',q⟩
 by_cases h0:0<=i
 ·have hj:i.toNat=j:=by
   rw[d3h h0 h5]at h1
   exact Option.some.inj h1
  exact item_listR pl.isList h0 (by omega) (by rw[hj];simpa using ew) fin hs
 ·have hj:(i+(its.toArray.size:Int)).toNat=j:=by
   rw[d1P (by omega) h4]at h1
   rw[p9,<-hl]
   exact Option.some.inj h1
  exact d1H (x:=w) pl.isList.typeIs slot_list_getitem.lookup
   (wpAny_getItem_list_neg (Q:=fun r s'=>r=w/\EP X pins σ Q r s') pl.isList (by omega) (by rw[p9] <;> omega) (by omega) (by rw[hj];simpa using ew) ⟨rfl,fin⟩) hs
theorem d1g:IxR X (d2k X.K):=by
 intro value slice pins s σ H x y v u Q I rx ry h hs
 obtain⟨p,xs,i,z,rfl,rfl,hq,he,q⟩:=h
 cases rx
 obtain⟨t,rfl⟩:=ry
 obtain⟨its,r,pl,hz⟩:=I.tuple hq
 obtain⟨j,h1,h2,h3,h4,h5⟩:=b8j he
 obtain⟨w,ew,rw'⟩:=r.get h2
 have hl:=r.length
 have hn:=b0o
 have fin:EP X pins σ Q w s:=⟨z,H,I,rw',q⟩
 exact d1H (x:=w) pl.typeIs slot_tuple_getitem.lookup
  (getItem_tuple (j:=j) (Q:=fun r s'=>r=w/\EP X pins σ Q r s') pl (by omega) (by omega) (by rw[p9,<-hl];exact h1) (by simpa using ew) ⟨rfl,fin⟩) hs
theorem d1h:IxR X d2l:=by
 intro value slice pins s σ H x y v u Q I rx ry h hs
 obtain⟨z,i,c,rfl,rfl,hz,he,q⟩:=h
 obtain⟨t,rfl⟩:=rx
 obtain⟨t',rfl⟩:=ry
 obtain⟨j,h1,h2,h3,h4,h5⟩:=b8j he
 have hl:z.cps.toList.length=z.length:=by simp[Str.length]
 rw[hl]at h1 h4 h5
 have hn:=b0o
 exact tail_any (typeIs_str s z t) slot_str_getitem.lookup (getItem_str (c:=c) (by
  have e1:decide (i < -(2 ^ 63:Int))=false:=d5k (by omega)
  have e2:decide (i ≥ 2 ^ 63)=false:=d5k (by omega)
  rw[e1,e2,Bool.or_false]) (by rw[h1];simpa using h2) ⟨.str ⟨#[c]⟩,H,I.tok _,⟨_,rfl⟩,q⟩) hs
def rIx(K:Fg):R2:=fun x y H Q=>d2m K x y H Q\/d2k K x y H Q\/d2l x y H Q
theorem c6e:IxR X (rIx X.K):=c8r.or (d1g.or d1h)
theorem c1p(its:List Value)(n j:Nat)(u:Value):Obj.mapSeq (·.setIfInBounds j u) { cls:=.type "list",data:=.seq its.toArray n }={ cls:=.type "list",data:=.seq (its.set j u).toArray n }:=by
 simp[Obj.mapSeq]
theorem Inv.lst{pins:List (Addr×Obj)}{σ:St}{H:Hp}{s:k8}{p:Addr}{xs:List V}(I:Inv X pins σ H s)(h:H p=some (.lst xs)) :
  ∃(its:List Value) (n:Nat),O6 xs its/\s.heap.get? p=some { cls:=.type "list",data:=.seq its.toArray n }/\xs.length<=u9:=by
 obtain⟨z,its,n,r,e⟩:=I.hok p _ h
 exact⟨its,n,r,e,z⟩
theorem Inv.lstUpd{p:Addr}{ys:List V}{its its':List Value}{n':Nat}{f:Obj->Obj}(I:Inv X pins σ H s)(h:H p=some (.lst xs))
  (ho:s.heap.get? p=some { cls:=.type "list",data:=.seq its.toArray n }) (hf:f { cls:=.type "list",data:=.seq its.toArray n }={ cls:=.type "list",data:=.seq its'.toArray n' }) (r:O6 ys its') (hz:ys.length<=u9) (t:Nat) :
  Inv X pins σ (upd H p (.lst ys)) { s with heap:=s.heap.update p f,toks:=t }:=by
 have e:(s.heap.update p f).get? p=some { cls:=.type "list",data:=.seq its'.toArray n' }:=by
  rw[c4e f ho (by rw[hf] <;> rfl),hf]
 refine I.write (x:=p) (e:=p) (by rw[h];trivial) (.inl rfl) (fun b u hb q=>(c2B _ _ (Ne.symm hb)).trans q) ⟨_,e⟩ ?_
 exact⟨hz,its',n',r,e⟩
def d2j:V->V->V->Hp->(Hp->Prop)->Prop:=fun o i v H Q=>∃p xs k j,o=.ref p/\i=.int k/\H p=some (.lst xs)/\ixN xs.length k=some j/\Q (upd H p (.lst (xs.set j v)))
theorem c4S:c6D X d2j:=by
 intro pins s σ H o i v ov iv u Q I ro ri rv h
 obtain⟨p,xs,k,j,rfl,rfl,hp,hj,q⟩:=h
 cases ro
 obtain⟨t,rfl⟩:=ri
 obtain⟨its,n,r,ho,hz⟩:=I.lst hp
 obtain⟨h1,h2,h3,h4⟩:=c2j hj
 have hl:=r.length
 have hn:=b0o
 have I':Inv X pins σ (upd H p (.lst (xs.set j v))) { s with heap:=s.heap.update p (Obj.mapSeq (·.setIfInBounds j u)) }:=
  I.lstUpd hp ho (c1p its n j u) (r.set rv j) (by rw[a4w];exact hz) s.toks
 by_cases h0:0<=k
 ·have hk:k.toNat=j:=by
   rw[d3h h0 h4]at h1
   exact Option.some.inj h1
  exact PySem.W.ki_setAt ho h0 (by omega) (by rw[p9,<-hl];exact h4) (by rw[hk];exact⟨_,I',q⟩)
 ·have hk:(k+(its.toArray.size:Int)).toNat=j:=by
   rw[d1P (by omega) h3]at h1
   rw[p9,<-hl]
   exact Option.some.inj h1
  exact PySem.W.ki_setBack ho (by omega) (by rw[p9,<-hl];exact h3) (by omega) (by rw[hk];exact⟨_,I',q⟩)
theorem b7l(lo hi:Option Int)(n:Nat):(a8q lo hi none n).1=((HT.sIx n 0 lo:Nat):Int)/\(a8q lo hi none n).2.1=((HT.sIx n n hi:Nat):Int)/\(a8q lo hi none n).2.2=1:=by
 refine⟨?_,?_,rfl⟩
 ·cases lo with
  | none=>simp[a8q,HT.sIx]
  | some i=>
   simp only[a8q,HT.sIx,c6N,show(1:Int) > 0 by decide,if_true]
   by_cases h:i<0
   ·simp only[h,if_true] <;> omega
   ·simp only[h,if_false] <;> omega
 ·cases hi with
  | none=>simp[a8q,HT.sIx]
  | some i=>
   simp only[a8q,HT.sIx,c6N,show(1:Int) > 0 by decide,if_true]
   by_cases h:i<0
   ·simp only[h,if_true] <;> omega
   ·simp only[h,if_false] <;> omega
theorem b5K(its:List Value)(lo hi:Option Int):slicePick its.toArray lo hi none=((its.drop (HT.sIx its.length 0 lo)).take (HT.sIx its.length its.length hi - HT.sIx its.length 0 lo)).toArray:=by
 obtain⟨h1,h2,h3⟩:=b7l lo hi its.toArray.size
 unfold slicePick
 rw[h1,h2,h3]
 simp only[sliceRange_one,pick_run,p9] <;> rfl
def c9P(K:Fg):V->Option Int->Option Int->Hp->VK->Prop:=fun x lo hi H Q=>∃a xs,x=.ref a/\SqL K H a xs/\∀p,H p=none->Q (.ref p) (upd H p (.lst (a8U xs lo hi)))
theorem c2a:SlR X (c9P X.K):=by
 intro pins s σ H x v vl vu lo hi sl Q I rx hs pl pu h
 obtain⟨a,xs,rfl,hx,q⟩:=h
 cases rx
 obtain⟨its,r,ht,hz⟩:=I.list hx
 have hlen:=r.length
 refine⟨"list",_,slot_list_getitem.lookup,ht.isList.typeIs,?_⟩
 refine wpAny_getItem_list_slice ht.isList hs pl pu .none (by simp) ?_ (by rw[p9] <;> omega)
 rw[b5K,<-hlen]
 refine⟨.ref s.heap.objs.size,_,I.laid (t':=s.toks) (o:=.lst (a8U xs lo hi)) (fun b ob q=>j4 _ q) (j6 _) ?_,rfl,q _ (I.hok.fresh (j6 _))⟩
 exact⟨D4 (b2Y xs lo hi) hz,_,0,(r.drop (HT.sIx xs.length 0 lo)).take (HT.sIx xs.length xs.length hi - HT.sIx xs.length 0 lo),A5 _ rfl⟩
def X1:V->Bool
 | .non=>true
 | .bl _=>true
 | .int _=>true
 | .str _=>true
 | _=>false
def eqV:V->V->Bool
 | .non,.non=>true
 | .bl a,.bl b=>a == b
 | .bl a,.int b=>(if a then 1 else 0) == b
 | .int a,.bl b=>a == (if b then 1 else 0)
 | .int a,.int b=>a == b
 | .str a,.str b=>a == b
 | _,_=>false
theorem c1A{A:U8}{y x:V}{u v:Value}(ry:L5 y u)(rx:L5 x v)(fy:X1 y=true)(fx:X1 x=true):SeqAt.EqAt A s u v (eqV y x):=by
 cases y with
 | non=>
  cases ry
  cases x with
  | non=>cases rx;exact SeqAt.EqAt.same _
  | bl b=>cases rx;exact SeqAt.EqAt.none_bool b
  | int b=>obtain⟨t,rfl⟩:=rx;exact SeqAt.EqAt.none_int b t
  | str b=>obtain⟨t,rfl⟩:=rx;exact SeqAt.EqAt.none_str b t
  | _=>exact absurd (show false=true from fx) z7
 | bl a=>
  cases ry
  cases x with
  | non=>cases rx;exact SeqAt.EqAt.bool_none a
  | bl b=>cases rx;exact SeqAt.EqAt.bool_bool a b
  | int b=>obtain⟨t,rfl⟩:=rx;exact SeqAt.EqAt.bool_int a b t
  | str b=>obtain⟨t,rfl⟩:=rx;exact SeqAt.EqAt.bool_str a b t
  | _=>exact absurd (show false=true from fx) z7
 | int a=>
  obtain⟨t',rfl⟩:=ry
  cases x with
  | non=>cases rx;exact SeqAt.EqAt.int_none a t'
  | bl b=>cases rx;exact SeqAt.EqAt.int_bool a t' b
  | int b=>obtain⟨t,rfl⟩:=rx;exact SeqAt.EqAt.int_int a t' b t
  | str b=>obtain⟨t,rfl⟩:=rx;exact SeqAt.EqAt.int_str a t' b t
  | _=>exact absurd (show false=true from fx) z7
 | str a=>
  obtain⟨t',rfl⟩:=ry
  cases x with
  | non=>cases rx;exact SeqAt.EqAt.str_none a t'
  | bl b=>cases rx;exact SeqAt.EqAt.str_bool a t' b
  | int b=>obtain⟨t,rfl⟩:=rx;exact SeqAt.EqAt.str_int a t' b t
  | str b=>obtain⟨t,rfl⟩:=rx;exact SeqAt.EqAt.str_str a t' b t
  | _=>exact absurd (show false=true from fx) z7
 | _=>exact absurd (show false=true from fy) z7
def eqU(x:V)(u:Value):Bool:=match u with
 | .none=>eqV .non x
 | .bool b=>eqV (.bl b) x
 | .int i _=>eqV (.int i) x
 | .str z _=>eqV (.str z) x
 | _=>false
theorem c6p{x y:V}{u:Value}(r:L5 y u)(f:X1 y=true):eqU x u=eqV y x:=by
 cases y with
 | non=>cases r;rfl
 | bl b=>cases r;rfl
 | int i=>obtain⟨t,rfl⟩:=r;rfl
 | str z=>obtain⟨t,rfl⟩:=r;rfl
 | _=>exact absurd (show false=true from f) z7
theorem b8l{x:V}:∀ {xs:List V} {us:List Value},O6 xs us->xs.all X1=true->us.any (eqU x)=xs.any fun y=>eqV y x
 | _,_,.nil,_=>rfl
 | y::xs,u::us,.cons r t,f=>by
  rw[Z7,a3w]at f
  rw[a3X,a3X,c6p r f.1,b8l t f.2]
theorem b5a{A:U8}{x:V}{v:Value}(rx:L5 x v)(fx:X1 x=true):∀ {xs:List V} {us:List Value},O6 xs us->xs.all X1=true->∀u∈us,SeqAt.EqAt A s u v (eqU x u)
 | _,_,.nil,_=>fun u hu=>by cases hu
 | y::xs,u::us,.cons r t,f=>fun u' hu=>by
  rw[Z7,a3w]at f
  rcases u5.mp hu with rfl | hu
  ·rw[c6p r f.1];exact c1A r rx f.1 fx
  ·exact b5a rx fx t f.2 u' hu
def inV(x:V)(xs:List V):Bool:=xs.any fun y=>eqV y x
def rIn(K:Fg)(neg:Bool):R2:=fun x y H Q=>∃p xs,y=.ref p/\(SqL K H p xs\/SqT K H p xs)/\X1 x=true/\xs.all X1=true/\Q (.bl (if neg then !inV x xs else inV x xs)) H
theorem b6C:OpR X (C3 .In) (rIn X.K false):=by
 intro pins s σ H x y v u Q I rx ry h
 obtain⟨p,xs,rfl,hq,fx,fs,q⟩:=h
 cases ry
 rcases hq with hq | hq
 ·obtain⟨its,r,pl,hz⟩:=I.list hq
  refine SeqAt.in_listAt (eqU x) pl.isList (fun w hw=>b5a rx fx r fs w (by simpa using hw)) ⟨.bl _,H,I,rfl,?_⟩
  rw[show its.toArray.any (eqU x)=its.any (eqU x) by simp,b8l r fs]
  exact q
 ·obtain⟨its,r,pl,hz⟩:=I.tuple hq
  refine SeqAt.in_tupleAt (eqU x) pl (fun w hw=>b5a rx fx r fs w (by simpa using hw)) ⟨.bl _,H,I,rfl,?_⟩
  rw[show its.toArray.any (eqU x)=its.any (eqU x) by simp,b8l r fs]
  exact q
theorem b1p:a0S X (.builtin "len") (fun xs H Q=>∃p ys,xs=[.ref p]/\(SqL X.K H p ys\/SqT X.K H p ys)/\Q (.int ys.length) H):=by
 intro pins s σ H xs us Q I r h
 obtain⟨p,ys,rfl,hq,q⟩:=h
 obtain⟨u,rfl,rx⟩:=a8d r
 cases rx
 have hn:=b0o
 rcases hq with hq | hq
 ·obtain⟨its,r',pl,hz⟩:=I.list hq
  have hlen:=r'.length
  exact Calls.call_len_list pl.isList (by simp only[p9] <;> omega) ⟨.int ys.length,H,I.tok _,⟨s.toks+1,by rw[p9,hlen]⟩,q⟩
 ·obtain⟨its,r',pl,hz⟩:=I.tuple hq
  have hlen:=r'.length
  exact len_tuple pl (by simp only[p9] <;> omega) ⟨.int ys.length,H,I.tok _,⟨s.toks+1,by rw[p9,hlen]⟩,q⟩
theorem b8f:a0S X (.builtin "len") (fun xs H Q=>∃z,xs=[.str z]/\z.length<=u9/\Q (.int z.length) H):=by
 intro pins s σ H xs us Q I r h
 obtain⟨z,rfl,hz,q⟩:=h
 obtain⟨u,rfl,t,rfl⟩:=a8d r
 have hn:=b0o
 exact len_str (by omega) ⟨.int z.length,H,I.tok _,⟨_,rfl⟩,q⟩
theorem a0S.or{f:Value}{r r':List V->Hp->VK->Prop}(h:a0S X f r)(h':a0S X f r'):a0S X f (fun xs H Q=>r xs H Q\/r' xs H Q):=by
 intro pins s σ H xs us Q I rs q
 rcases q with q | q
 ·exact h pins s σ H xs us Q I rs q
 ·exact h' pins s σ H xs us Q I rs q
theorem b8e:a0S X (.type "list") (fun xs H Q=>∃p ys,xs=[.ref p]/\(SqL X.K H p ys\/SqT X.K H p ys)/\∀l,H l=none->Q (.ref l) (upd H l (.lst ys))):=by
 intro pins s σ H xs us Q I r h
 obtain⟨p,ys,rfl,hq,q⟩:=h
 obtain⟨u,rfl,rx⟩:=a8d r
 cases rx
 have fin:∀(its:List Value),O6 ys its->ys.length<=u9->∀(h':Heap) (c':Nat),(∀b o',s.heap.get? b=some o'->h'.get? b=some o') ->
   h'.get? s.heap.objs.size=some { cls:=.type "list",dict:=none,data:=.seq its.toArray c',slots := #[] }->EP X pins σ Q (.ref s.heap.objs.size) { s with heap:=h' }:=fun its r' hz h' c' kp e=>
  ⟨.ref s.heap.objs.size,_,I.laid (t':=s.toks) kp (j6 _) (show a0u X.prog X.w _ h' _ (.lst ys)from⟨hz,its,c',r',e⟩),rfl,q _ (I.hok.fresh (j6 _))⟩
 rcases hq with hq | hq
 ·obtain⟨its,r',pl,hz⟩:=I.list hq
  have hlen:=r'.length
  obtain⟨o,ho,hc,n,hd⟩:=pl.isList
  exact call_list_seq p (.inl rfl) ho hc hd (fun h' c' kp e=>fin its r' hz h' c' kp e) (by simp only[p9] <;> omega)
 ·obtain⟨its,r',pl,hz⟩:=I.tuple hq
  have hlen:=r'.length
  obtain⟨o,ho,hc,n,hd⟩:=pl
  exact call_list_seq p (.inr rfl) ho hc hd (fun h' c' kp e=>fin its r' hz h' c' kp e) (by simp only[p9] <;> omega)
def tyV(K:Fg)(T:String)(x:V)(H:Hp):Prop:=match x with
 | .str _=>T = "str"
 | .int _=>T = "int"
 | .ref p=>(T = "list" /\ ∃xs,SqL K H p xs)\/(T = "tuple" /\ ∃o,K.lookup p=some o/\o.cls=.type "tuple" /\ o.dict=none) \/
   (T = "dict" /\ ((∃kvs,H p=some (.dK kvs))\/∃kvs,H p=some (.dT kvs)))\/(T = "set" /\ ∃S n,H p=some (.set S n))
 | _=>False
theorem c4H{T:String}{x:V}{v:Value}(I:Inv X pins σ H s)(r:L5 x v)(ty:tyV X.K T x H) :
  s.TypeIs v T/\∀a,v=.ref a->∃ob,s.heap.get? a=some ob/\ob.dict=none:=by
 cases x with
 | str z=>
  obtain⟨t,rfl⟩:=r
  cases (show T = "str" from ty)
  exact⟨typeIs_str s z t,fun _ e=>nomatch e⟩
 | int i=>
  obtain⟨t,rfl⟩:=r
  cases (show T = "int" from ty)
  exact⟨typeIs_int s i t,fun _ e=>nomatch e⟩
 | ref p=>
  cases r
  rcases ty with ⟨rfl,xs,hq⟩ | ⟨rfl,o,hk,hc,hd⟩ | ⟨rfl,hk⟩ | ⟨rfl,S,n,hk⟩
  ·obtain⟨its,_,pl,_⟩:=I.list hq
   refine⟨pl.isList.typeIs,fun a e=>?_⟩
   cases e
   obtain⟨o,n,e,c,hd,_⟩:=pl
   exact⟨o,e,hd⟩
  ·refine⟨⟨o,I.kIn p o hk,hc⟩,fun a e=>?_⟩
   cases e
   exact⟨o,I.kIn _ o hk,hd⟩
  ·have z:∃o,s.heap.get? p=some o/\o.ExactDict:=by
    rcases hk with ⟨kvs,hk⟩ | ⟨kvs,hk⟩
    ·obtain⟨_,_,_,_,o,_,_,e,ex,_⟩:=I.hok p _ hk
     exact⟨o,e,ex⟩
    ·obtain⟨_,_,_,_,o,_,_,e,ex,_⟩:=I.hok p _ hk
     exact⟨o,e,ex⟩
   obtain⟨o,e,ex⟩:=z
   refine⟨⟨o,e,ex.1⟩,fun a e2=>?_⟩
   cases e2
   exact⟨o,e,ex.2.1⟩
  ·obtain⟨o,_,_,_,e,ex,_⟩:=I.hok p _ hk
   refine⟨⟨o,e,ex.1⟩,fun a e2=>?_⟩
   cases e2
   exact⟨o,e,ex.2.1⟩
 | _=>exact False.elim ty
def c6W(K:Fg)(T:String)(r:V->List V->Hp->VK->Prop)(to:TE):TE:=fun σ H Q=>to σ H fun x H1=>tyV K T x H1/\r x [] H1 Q
def tBM(K:Fg)(T:String)(r:V->List V->Hp->VK->Prop)(to:TE)(t:TA):TE:=fun σ H Q=>to σ H fun x H1=>tyV K T x H1/\t σ H1 fun xs H2=>r x xs H2 Q
variable {o e:Expr}{es:List Expr}{to:TE}{t:TA}{name:Str}{apos cpos:Pos}{T id:String}{r:V->List V->Hp->VK->Prop}
theorem d0v(pa:c8S T)(slot:Slot T name id)(hty:typeOf (.builtin id)=pure (.type "method_descriptor"))(hm:MtR X id r)(ho:PE X o to)
  (hbase:a3b o name X.env (eval o X.env)=eval o X.env:=by rfl) (hline:(apos.endLine == cpos.line)=true:=by rfl):PE X (.Call (.Attribute o name apos) [] [] cpos) (c6W X.K T r to):=by
 intro pins s σ H Q I h
 refine wpAny_Call_method0_late hbase hline (thn (ho pins s σ H _ I h) fun v s1 ⟨x,H1,I1,r1,ty,q1⟩=>?_)
 obtain⟨h1,h2⟩:=c4H I1 r1 ty
 exact⟨T,id,pa,slot,hty,h1,h2,Calls.callWith_builtin rfl (PySem.evalArgs_none (hm pins s1 σ H1 x [] v [] Q I1 r1 .nil q1))⟩
theorem d2A(pa:c8S T)(slot:Slot T name id)(hty:typeOf (.builtin id)=pure (.type "method_descriptor"))(hm:MtR X id r)(ho:PE X o to)(ha:PA X (e::es) t)
  (hbase:a3b o name X.env (eval o X.env)=eval o X.env:=by rfl)
  (hfew:((a1y cpos (j9 (e::es) X.env)).all (fun x => !x.1)&&(a9A cpos (a4a [] X.env)).all (fun x=>x.1.isSome)
   && decide ((e::es).length+([]:List b6T).length+(if([]:List b6T).isEmpty then 0 else 1)<30))=true:=by rfl)
  (hline:(apos.endLine == cpos.line)=true:=by rfl) (hs:j9 (e::es) X.env=(false,eval e X.env)::j9 es X.env:=by rfl) (hplain:(a1y cpos (j9 es X.env)).any (·.1)=false:=by rfl) :
  PE X (.Call (.Attribute o name apos) (e::es) [] cpos) (tBM X.K T r to t):=by
 intro pins s σ H Q I h
 refine wpAny_Call_method_late hbase hfew hline rfl (thn (ho pins s σ H _ I h) fun v s1 ⟨x,H1,I1,r1,ty,q1⟩=>?_)
 obtain⟨h1,h2⟩:=c4H I1 r1 ty
 refine⟨T,id,pa,slot,hty,h1,h2,?_⟩
 have hA:=ha cpos pins s1 σ H1 _ I1 q1
 rw[hs]at hA ⊢
 refine Calls.callWith_builtin (by show(false||(a1y cpos (j9 es X.env)).any (·.1))=false;rw[hplain] <;> rfl) (Calls.evalArgs_plain ?_)
 exact thn hA fun us s2 ⟨vs,H2,I2,r2,q2⟩=>hm pins s2 σ H2 x vs v us Q I2 r1 r2 q2
end
def MtM(X:Cx)(id:String)(r:V->List V->Hp->VK->Prop):Prop:=
 ∀(pins:List (Addr×Obj)) (s:k8) (σ:St) (H:Hp) (x:V) (xs:List V) (v:Value) (us:List Value) (Q:VK),Inv X pins σ H s->L5 x v->O6 xs us->r x xs H Q ->
  wpAny (model X.prog X.w) X.A (call (.builtin id) (v::us)) (EP X pins σ Q) X.xe s
theorem O6.one:∀ {x:V} {us:List Value},O6 [x] us->∃u,us=[u]/\L5 x u
 | _,_,.cons r .nil=>⟨_,rfl,r⟩
theorem O6.zero:∀ {us:List Value},O6 [] us->us=[]
 | _,.nil=>rfl
theorem O6.dropLast(h:O6 xs us):O6 xs.dropLast us.dropLast:=by
 induction h with
 | nil=>exact .nil
 | cons r t ih=>
  cases t with
  | nil=>exact .nil
  | cons q t'=>exact .cons r ih
theorem c1z{α:Type}(l:List α):l.eraseIdx (l.length - 1)=l.dropLast:=by
 induction l with
 | nil=>rfl
 | cons a r ih=>
  cases r with
  | nil=>rfl
  | cons b r=>
   have e:(a::b::r).length - 1=((b::r).length - 1)+1:=by
    have h1:(a::b::r).length=r.length+2:=rfl
    have h2:(b::r).length=r.length+1:=rfl
    omega
   rw[e,List.eraseIdx_cons_succ,ih]
   all_goals rfl
section
variable {l b:Addr}{ys zs:List V}
theorem Inv.lset{its its':List Value}{f:Array Value->Array Value}{t':Nat}(I:Inv X pins σ H s)(hH:H l=some (.lst xs))
  (e:s.heap.get? l=some { cls:=.type "list",data:=.seq its.toArray n }) (hf:f its.toArray=its'.toArray) (hv:O6 ys its') (hz:ys.length<=u9) :
  Inv X pins σ (upd H l (.lst ys)) { s with heap:=s.heap.update l (Obj.mapSeq f),toks:=t' }:=by
 have q:=PySem.IsL.update e f
 rw[hf]at q
 refine I.write (x:=l) (e:=l) (by rw[hH];exact trivial) (.inl rfl) (fun b' u hb hu=>(c2B s.heap (Obj.mapSeq f) (Ne.symm hb)).trans hu) ⟨_,q⟩ ?_
 exact⟨hz,its',_,hv,q⟩
theorem Inv.lnew{its:List Value}{t':Nat}(I:Inv X pins σ H s)(hv:O6 ys its)(hz:ys.length<=u9) :
  Inv X pins σ (upd H s.heap.objs.size (.lst ys)) { s with heap:=s.heap.push { cls:=.type "list",data:=.seq its.toArray },toks:=t' }:=
 I.laid (fun _ _ q=>j4 _ q) (j6 _) ⟨hz,its,0,hv,A5 _ rfl⟩
theorem Inv.fresh(I:Inv X pins σ H s):H s.heap.objs.size=none:=I.hok.fresh (j6 _)
theorem Inv.lstM(I:Inv X pins σ H s)(hH:H l=some (.lst xs)):xs.length<=u9/\∃(its:List Value) (n:Nat),O6 xs its/\xs.length=its.length/\s.heap.get? l=some { cls:=.type "list",data:=.seq its.toArray n }:=by
 obtain⟨z,its,n,r,e⟩:=I.hok l _ hH
 exact⟨z,its,n,r,r.length,e⟩
theorem c5Q(h:n<=u9):Builtin.List.listTooLong n=false:=by
 unfold Builtin.List.listTooLong
 exact d5k (by omega)
end
section
def c7m:V->List V->Hp->VK->Prop:=fun x vs H Q=>∃l xs y,x=.ref l/\vs=[y]/\H l=some (.lst xs)/\xs.length<u9/\Q .non (upd H l (.lst (xs++[y])))
theorem b2s:MtM X "list.append" c7m:=by
 intro pins s σ H x vs v us Q I rx rv h
 obtain⟨l,xs,y,rfl,rfl,hH,hz,q⟩:=h
 cases rx
 obtain⟨u,rfl,ru⟩:=rv.one
 obtain⟨z,its,n,r,hl,e⟩:=I.lstM hH
 refine c8Q F.slot_list_append ⟨_,e,rfl⟩ F.entry_list_append (F.args_list_append_2 _ _) (PySem.list_append l its.toArray n u (by rw[p9];omega)) ⟨e,?_⟩
 refine⟨.non,_,I.lset (its':=its++[u]) hH e (by simp) (r.append (.cons ru .nil)) ?_,rfl,q⟩
 rw[o5,a0l]
 omega
def c7l:V->List V->Hp->VK->Prop:=fun x vs H Q=>∃l b xs zs,x=.ref l/\vs=[.ref b]/\H l=some (.lst xs)/\H b=some (.lst zs)/\xs.length+zs.length<=u9/\Q .non (upd H l (.lst (xs++zs)))
theorem c3o:MtM X "list.extend" c7l:=by
 intro pins s σ H x vs v us Q I rx rv h
 obtain⟨l,b,xs,zs,rfl,rfl,hH,hB,hz,q⟩:=h
 cases rx
 obtain⟨u,rfl,ru⟩:=rv.one
 cases ru
 obtain⟨z,its,n,r,hl,e⟩:=I.lstM hH
 obtain⟨z2,its2,n2,r2,hl2,e2⟩:=I.lstM hB
 have hsz:its.toArray.size+its2.toArray.size<=u9:=by rw[p9,p9];omega
 have hlong:¬(!its.toArray.isEmpty&&Builtin.List.listTooLong (its.toArray.size+its2.toArray.size))=true:=by
  rw[c5Q hsz,Bool.and_false]
  exact z7
 refine c8Q F.slot_list_extend ⟨_,e,rfl⟩ F.entry_list_extend (F.args_list_extend_2 _ _)
  (AutoSeq1.list_extend_list_list_0 l its.toArray n b its2.toArray n2 hlong (by rw[p9];omega) (by omega)) ⟨e,e2,?_⟩
 refine⟨.non,_,I.lset (its':=its++its2) hH e (by simp) (r.append r2) ?_,rfl,q⟩
 rw[o5]
 omega
def d3p:V->List V->Hp->VK->Prop:=fun x vs H Q=>∃l xs y,x=.ref l/\vs=[]/\H l=some (.lst xs)/\xs[xs.length - 1]? = some y/\Q y (upd H l (.lst xs.dropLast))
theorem d0U:MtM X "list.pop" d3p:=by
 intro pins s σ H x vs v us Q I rx rv h
 obtain⟨l,xs,y,rfl,rfl,hH,hy,q⟩:=h
 cases rx
 have hus:=rv.zero
 subst hus
 obtain⟨z,its,n,r,hl,e⟩:=I.lstM hH
 obtain⟨u,hu,ru⟩:=r.get hy
 have hy':its.toArray[its.toArray.size - 1]? = some u:=by
  show its.toArray[its.length - 1]? = some u
  rw[<-a0j,<-hl]
  exact hu
 refine c8Q F.slot_list_pop ⟨_,e,rfl⟩ F.entry_list_pop (F.args_list_pop_1 _) (MeetsSeq.list_pop_last l its.toArray n u hy' (by rw[p9];omega)) ⟨e,?_⟩
 refine⟨y,_,I.lset (its':=its.dropLast) hH e ?_ r.dropLast ?_,ru,q⟩
 ·show its.toArray.eraseIdxIfInBounds (its.toArray.size - 1)=its.dropLast.toArray
  rw[p9,List.eraseIdxIfInBounds_toArray,c1z]
 ·rw[List.length_dropLast]
  omega
def d3q:R2:=fun x y H Q=>∃l b xs zs,x=.ref l/\y=.ref b/\H l=some (.lst xs)/\H b=some (.lst zs)/\xs.length+zs.length<=u9/\∀p,H p=none->Q (.ref p) (upd H p (.lst (xs++zs)))
theorem d0M:OpR X (a2o .Add) d3q:=by
 intro pins s σ H x y v u Q I rx ry h
 obtain⟨l,b,xs,zs,rfl,rfl,hH,hB,hz,q⟩:=h
 cases rx
 cases ry
 obtain⟨z,its,n,r,hl,e⟩:=I.lstM hH
 obtain⟨z2,its2,n2,r2,hl2,e2⟩:=I.lstM hB
 refine PySem.P.add_list e e2 ?_ (by rw[p9,p9];omega)
 have ea:its.toArray++its2.toArray=(its++its2).toArray:=by simp
 rw[ea]
 exact⟨.ref _,_,I.lnew (t':=s.toks) (r.append r2) (by rw[o5];omega),rfl,q _ I.fresh⟩
end
section
variable {prog:D0}{w:World}{A:U8}{E:Value->k8->Prop}
set_option maxRecDepth 100000 in
end
section
end
end L2
namespace Att
open PySem PySem.W PySem.Calls PyProof.Rows
theorem b3p{P:Params}{h:Heap}:∀(ns:List Int) (vs:List Value),WellAll P h vs (ns.map WData.int)->c9w vs ns:=by
 intro ns
 induction ns with
 | nil=>
  intro vs w
  rw[c2z]at w
  cases w
  exact .nil
 | cons n ns ih=>
  intro vs w
  rw[J0]at w
  cases w with
  | cons a b=>
   cases a
   exact .cons _ _ (ih _ b)
theorem c2O{l:OpenLaw}{n:Nat}(hn:l.most=some n){P:Params}{h:Heap}{args:List WData}{vals:List Value}
  (hpre:l.row.toRowW.claim.pre args=true) (hwl:WellAll P h vals args) :
  ∃a vs ns,vals=[Value.ref a]/\args=[WData.list (ns.map WData.int)]/\h.get? a=some { cls:=.type "list",data:=.seq vs.toArray }/\c9w vs ns/\ns.length<=n:=by
 have hsh:WShape.hasAll [] args [.list .int]=true:=(pre_splitW hpre).1
 have hc:l.pre.holds [] { args:=args }=true:=(pre_splitW hpre).2
 obtain⟨d,r,rfl,h1,h2⟩:=hasAllW_cons hsh
 obtain rfl:=hasAllW_nil h2
 obtain⟨xs,rfl,h3⟩:=hasW_list h1
 obtain⟨ns,rfl⟩:=items_int h3
 have hlen:ns.length<=n:=by
  unfold OpenLaw.pre at hc
  have h4:(WTm.not (.lt (.lit (.int (n:Int))) (.len (.arg 0)))).holds [] { args:=[.list (ns.map .int)] }=true:=by
   have h4:=(holds_andW hc).1
   rw[hn]at h4
   exact h4
  have h5:=condW_of h4 (w_not (w_lt w_lit (w_len_list (w_arg rfl))))
  rw[b9]at h5
  refine Nat.le_of_not_lt fun q=>?_
  have q':(n:Int)<((ns.length:Nat):Int):=by omega
  first
   | (rw[d5l q']at h5;exact absurd h5 (by decide))
   | (simp at h5;omega)
 cases hwl with
 | cons w1 w2=>
  cases w2
  cases w1 with
  | list ho hall=>exact⟨_,_,ns,rfl,rfl,ho,b3p ns _ hall,hlen⟩
theorem c3a(l:OpenLaw)(args:List WData):l.row.toRowW.claim.post args (.bool true) args=true:=
 postW_of (r:=l.row.toRowW) (X:=(true == true))
  (show WShape.has [] (.bool true) .bool=true by first | rfl | decide | simp[WShape.has,WShape.arms,WShape.armsAll])
  (show(WTm.eq .res (.lit (.bool true))).value [] { args:=args,res:=some (.bool true),after:=args }=some (.bool (true == true))from w_eq_bool (w_res rfl) w_lit) rfl
theorem c0b{l:OpenLaw}{n:Nat}{q:D0}{loose:List Str}{XP:(Str->Option Value)->Heap->Prop}{YP:World->Heap->Prop}{d:DefRec}
  (hn:l.most=some n) (hdf:d.params.defaults=[])
  (call:∀(w:World) (s₀ s₁:k8) (mg mb:Str->Option Value) (fa:Addr) (o:Obj) (pm cd doc:Value) (a:Addr) (vs:List Value) (ns:List Int),
   Ground q loose [] XP w s₀ mg mb s₁.heap->YP w s₁.heap ->
   s₁.heap.get? fa=some o->o.data=.func (docDef d.name d.params d.body d.scope pm cd doc)->s₁.heap.CodeRec cd d.name->mg d.name=some (.ref fa) ->
   s₁.heap.get? a=some { cls:=.type "list",data:=.seq vs.toArray }->c9w vs ns->ns.length<=n->s₁.gens = #[] ->
   a7x (model l.prog w) c4o (.call (.ref fa) ⟨[.ref a],[]⟩) (fun r s'=>r=.ok (.ret (.bool true))/\OldK s₁.heap s'.heap/\s'.os=s₁.os/\b6U s'.gens) s₁) :
  WalkO q loose XP YP l.row.toRowW d [] (fun f vs=>b8r f vs):=by
 intro w s₀ s₁ mg mb G Y fa o pm cd doc dV kV ho hd hcd hD hmg hg args vals as hpre hlay hrd hwl hlo
 obtain rfl:dV=.none:=Dflts.none hD hdf
 obtain rfl:kV=.none:=Dflts.noKw hD
 obtain⟨a,vs,ns,rfl,rfl,hobj,hints,hlen⟩:=c2O hn hpre hwl
 refine enter_call (c1Q (call w s₀ s₁ mg mb fa o pm cd doc a vs ns G Y ho (fd_plain hd) hcd hmg hobj hints hlen hg) fun r s' hq=>?_)
 obtain⟨rfl,h2,h3,h4⟩:=hq
 exact⟨.inl ⟨.bool true,.bool true,[],rfl,fun _=>rfl,.bool true,c3a l _,fun _=>⟨List.Pairwise.nil,fun _ hm=>(nomatch hm)⟩⟩,h2,h3,h4⟩
section
variable {prog:D0}{w:World}{A:U8}{E:Value->k8->Prop}{s:k8}{K:Frag}
end
end Att
namespace L2
open PySem PySem.Spec PyProof.Rows
theorem b1M:∀ {vs:List Value} {ns:List Int},c9w vs ns->O6 (ns.map V.int) vs
 | _,_,.nil=>.nil
 | _,_,.cons n t h=>.cons ⟨t,rfl⟩ (b1M h)
def c8I(H:Hp):Prop:=∀b,H b=none\/∃o xs,H b=some (.frz o (.lst xs))
theorem c6a{P:D0}{w:World}{K:Fg}{mg mb:Str->Option Value}{CX:CXT}{k:Nat}{fa a:Addr}{fd:a1g}{x:Str}{sp:Sp}{s₁:k8}{vs:List Value}{ns:List Int}
  (KX:K.In s₁.heap) (hns:s₁.heap.Ns A2 mg) (hb:s₁.heap.Ns builtinsNs mb) (hbb:∀x:Str,x ≠ "__name__" -> mb x=a4b x) (hlim:s₁.heap.NoLimit) (hg:s₁.gens = #[])
  (ha:s₁.heap.get? a=some { cls:=.type "list",data:=.seq vs.toArray }) (hi:c9w vs ns) (hl:ns.length<=u9) (hr:W0 k c4o)
  (F:∀base:Heap,K.In base->base.Ns A2 mg->G8 P w K mg base CX k fa fd [x] sp) (hbind:∀(s:k8) (u:Value),c4p s fd ⟨[u],[]⟩ [(x,u)])
  (hsp:∀H:Hp,c8I H->SqL K H a (ns.map V.int)->sp [.ref a] H (fun v _=>v=.bl true) fun _ _ _=>False)
  (hCX:∀H e s',CX [] H s₁ (fun _ _ _=>False) e s'->False) :
  a7x (model P w) c4o (.call (.ref fa) ⟨[.ref a],[]⟩) (fun r s'=>r=.ok (.ret (.bool true))/\OldK s₁.heap s'.heap/\s'.os=s₁.os/\b6U s'.gens) s₁:=by
 have rv:=b1M hi
 have lenV:=hi.length
 have core:∀H:Hp,c8I H->SqL K H a (ns.map V.int)->HOk P w H s₁.heap->(∀b,H b≠none->b=a)->(H a≠none->K.lookup a=none) ->
   a7x (model P w) c4o (.call (.ref fa) ⟨[.ref a],[]⟩) (fun r s'=>r=.ok (.ret (.bool true))/\OldK s₁.heap s'.heap/\s'.os=s₁.os/\b6U s'.gens) s₁:=by
  intro H hO hS hok hA hK
  have base_of:∀ {b:Addr} {o:Obj},s₁.heap.get? b=some o->H b=none->(b7V s₁.heap H).get? b=some o:=fun e n=>c6j e n
  have noA:∀ {b:Addr} {o:Obj} {es:Array a3j} {ep:Nat},s₁.heap.get? b=some o->o.data=.dict es ep->H b=none:=fun {b o es ep} e d=>by
   cases q:H b with
   | none=>rfl
   | some u=>
    have e':b=a:=hA b (by rw[q];simp)
    subst e'
    rw[ha]at e;cases e
    have d':Data.seq vs.toArray _=Data.dict es ep:=d
    cases d'
  have nsK:∀ {b:Addr} {m:Str->Option Value},s₁.heap.Ns b m->(b7V s₁.heap H).Ns b m:=fun {b m} ⟨o,es,ep,e,d,r⟩=>⟨o,es,ep,base_of e (noA e d),d,r⟩
  have hKb:K.In (b7V s₁.heap H):=fun b o e=>base_of (KX b o e) (by
   cases q:H b with
   | none=>rfl
   | some u=>
    have e':b=a:=hA b (by rw[q];simp)
    subst e'
    rw[hK (by rw[q];simp)]at e;cases e)
  have hM:Mod K mg (b7V s₁.heap H):=⟨hKb,nsK hns,⟨mb,nsK hb,hbb⟩,let⟨mc,h1,h2⟩:=hlim; ⟨mc,nsK h1,h2⟩⟩
  have e0:c1L P w K mg (b7V s₁.heap H) c4o [] s₁ H:=⟨rfl,hM,fun b o e=>c8f e,Nat.le_of_eq (c3z _ _),trivial,fun b hb=>absurd (show b∈([]:List Addr)from hb) (by simp),hok,.of_eq hg⟩
  refine c1Q ((F _ hKb (nsK hns)).run c4o [] s₁ H ⟨[.ref a],[]⟩ [.ref a] [.ref a] _ _ hr e0 (hbind s₁ (.ref a)) (.cons rfl .nil) (hsp H hO hS)) fun r s' h=>?_
  cases r with
  | error e=>exact(hCX H e s' h).elim
  | ok fl=>
   cases fl with
   | next=>exact False.elim h
   | brk=>exact False.elim h
   | cont=>exact False.elim h
   | ret u=>
    obtain⟨v,H',os,bare,un,hok',r',q⟩:=h
    have q':v=.bl true:=q
    subst q'
    obtain rfl:u=Value.bool true:=r'
    refine⟨rfl,OldK.of_keep fun b o e=>?_,os,bare⟩
    cases q:H b with
    | none=>exact un.keep b o e q (by intro z;exact absurd (show b∈([]:List Addr)from z) (by simp)) (by simp)
    | some u=>
     rcases hO b with z | ⟨ob,xs,z⟩
     ·rw[q]at z;cases z
     ·have z2:=un.frzs b ob _ z
      obtain⟨e1,_⟩:=hok b _ z
      obtain⟨e2,_⟩:=hok' b _ z2
      rw[e]at e1;cases e1
      exact e2
 cases hk:K.lookup a with
 | some o=>
  have e:=KX a o hk
  rw[ha]at e
  cases e
  refine core (fun _=>none) (fun _=>.inl rfl) (.inr ⟨_,vs.toArray,_,hk,rfl,rfl,rfl,by rw[p9,lenV];exact hl,by simpa using rv⟩) (fun b u z=>by have z':(none:Option HO)=some u:=z;cases z') (fun b z=>absurd rfl z) fun z=>absurd rfl z
 | none=>
  refine core (fun b=>if b=a then some (.frz { cls:=.type "list",data:=.seq vs.toArray } (.lst (ns.map V.int)))else none) (fun b=>?_) (.inl (.inr ⟨{ cls:=.type "list",data:=.seq vs.toArray },if_pos rfl⟩)) (fun b u z=>?_) (fun b z=>?_) fun _=>hk
  ·by_cases hb:b=a
   ·exact .inr ⟨_,_,if_pos hb⟩
   ·exact .inl (if_neg hb)
  ·by_cases hb:b=a
   ·have z':=(if_pos hb).symm.trans z
    cases z'
    subst hb
    exact⟨ha,by rw[b9];exact hl,vs,_,rv,ha⟩
   ·have z':=(if_neg hb).symm.trans z
    cases z'
  ·by_cases hb:b=a
   ·exact hb
   ·exact absurd (if_neg hb) z
theorem c6V{l:PySem.W.OpenLaw}{n k:Nat}{q:D0}{loose:List Str}{XP:(Str->Option Value)->Heap->Prop}{YP:World->Heap->Prop}{d:DefRec}{K:Params->Fg}{CX:World->CXT}{sp:World->Sp}{x:Str}
  (hn:l.most=some n) (hn2:n<=u9) (hdf:d.params.defaults=[]) (hr:W0 k c4o)
  (hY:∀(w:World) (h:Heap),YP w h->(K w.params).In h)
  (F:∀(w:World) (mg:Str->Option Value) (fa:Addr) (h:Heap),(K w.params).In h->h.Ns A2 mg->mg d.name=some (.ref fa) ->
   ∃fd:a1g,(∀(s:k8) (u:Value),c4p s fd ⟨[u],[]⟩ [(x,u)]) /\
    ∀base:Heap,(K w.params).In base->base.Ns A2 mg->G8 l.prog w (K w.params) mg base (CX w) k fa fd [x] (sp w))
  (hsp:∀(w:World) (H:Hp) (a:Addr) (ns:List Int),ns.length<=n->c8I H->SqL (K w.params) H a (ns.map V.int)->sp w [.ref a] H (fun v _=>v=.bl true) fun _ _ _=>False)
  (hCX:∀(w:World) (H:Hp) (s:k8) (e:Value) (s':k8),CX w [] H s (fun _ _ _=>False) e s'->False) :
  PySem.W.WalkO q loose XP YP l.row.toRowW d [] (fun f vs=>b8r f vs):=by
 refine Att.c0b hn hdf fun w s₀ s₁ mg mb fa o pm cd doc a vs ns G Y ho hd hcd hmg hobj hints hlen hg=>?_
 have KX:=hY w _ Y
 obtain⟨fd,hb,hF⟩:=F w mg fa _ KX G.T.g hmg
 exact c6a KX G.T.g G.T.b G.T.builtins G.T.nolimit hg hobj hints (D4 hlen hn2) hr hF hb (fun H hO hS=>hsp w H a ns hlen hO hS) fun H e s'=>hCX w H s₁ e s'
abbrev CX0:CXT:=fun _ _ _ _ _ _=>False
abbrev E0:XK:=fun _ _ _=>False
theorem b9l{X:Cx}:b0t CX0 X E0:=fun _ _ _ _ _ _ _ h=>h.elim
structure Fun(K:Fg)(x qual:Str)(st:Stmt)(f:Addr)(fd:a1g):Prop where
 ex:∃(oc:Value) (od:Option Addr) (kV doc pm:Value) (an:Option Addr) (cdv ct:Value) (osl:Array (Option Value)),
  fd=Z3 x qual (a2k st) (a0y st) (f6 st) .none kV doc pm an cdv ct/\K.lookup f=some ⟨oc,od,.func fd,osl⟩/\a4C K cdv qual=true
 kp:V5 K (.ref f)=true
section
variable {P:D0}{w:World}{K:Fg}{mg:Str->Option Value}{base:Heap}
theorem Fun.ok{x qual:Str}{st:Stmt}{f:Addr}{fd:a1g}{N ps:List Str}{k:Nat}{sp:Sp}(F:Fun K x qual st f fd)(S:v0 N ps (f6 st))(len:∀vs H Q E,sp vs H Q E->vs.length=ps.length)
  (hbody:∀(cdv:Value) (A:U8) (outer:List Env) (s:k8) (H:Hp) (vs:List V) (Q:VK) (E:XK),W0 k (A.deeper (b2L qual (f6 st) s.heap.objs.size f cdv))->sp vs H Q E ->
   ∃t,PSs (b5h CX0 P w K mg base N qual (f6 st) f cdv A outer s H E).nox (a0y st) t/\t { nx:=fun _ H'=>Q .non H',rt:=Q } (a8D N vs) H):G8 P w K mg base CX0 (k+1) f fd ps sp:=by
 obtain⟨oc,od,kV,doc,pm,an,cdv,ct,osl,rfl,lk,hcd⟩:=F.ex
 refine c9k lk hcd S len fun A outer s H vs Q E hr hsp=>?_
 obtain⟨t,h,q⟩:=hbody cdv A outer s H vs Q E hr hsp
 exact⟨t,h.nox,q⟩
theorem Fun.binds{x qual:Str}{st:Stmt}{f:Addr}{fd:a1g}{ps:List Str}(F:Fun K x qual st f fd)
  (h:∀(kV doc pm:Value) (an:Option Addr) (cdv ct:Value) (us:List Value),us.length=ps.length->bindArgs (Z3 x qual (a2k st) (a0y st) (f6 st) .none kV doc pm an cdv ct) ⟨us,[]⟩=pure (ps.zip us)):a6j K fd ps []:=by
 obtain⟨oc,od,kV,doc,pm,an,cdv,ct,osl,rfl,lk,hcd⟩:=F.ex
 exact .all (h kV doc pm an cdv ct)
theorem d1m{x qual:Str}{st:Stmt}{f:Addr}{oc:Value}{od an:Option Addr}{osl:Array (Option Value)}{kV doc pm cdv ct:Value}(l:K.lookup f=some ⟨oc,od,.func (Z3 x qual (a2k st) (a0y st) (f6 st) .none kV doc pm an cdv ct),osl⟩)
  (c:a4C K cdv qual=true) (k:V5 K (.ref f)=true):Fun K x qual st f (Z3 x qual (a2k st) (a0y st) (f6 st) .none kV doc pm an cdv ct):=⟨⟨oc,od,kV,doc,pm,an,cdv,ct,osl,rfl,l,c⟩,k⟩
end
theorem b5e{A:U8}{k:Nat}(hr:W0 k A):A.units+1<cLine:=Nat.lt_of_le_of_lt (Nat.add_le_add_left (by decide:1<=64) _) hr.units
section
variable {X:Cx}
end
theorem d1i{A B:Prop}(h:B):if false=true then A else B:=by
 rw[if_neg z7]
 exact h
theorem b9D{A B:Prop}(h:A):if true=true then A else B:=by
 rw[if_pos rfl]
 exact h
theorem a3f{c A B:Prop}[Decidable c](h1:c->A)(h2:¬c->B):if c then A else B:=by
 by_cases h:c
 ·rw[if_pos h]
  exact h1 h
 ·rw[if_neg h]
  exact h2 h
def j5(H H':Hp):Prop:=∀b o,H b=some o->H' b=some o
theorem j5.refl(H:Hp):j5 H H:=fun _ _ h=>h
theorem j5.trans{H H1 H2:Hp}(a:j5 H H1)(b:j5 H1 H2):j5 H H2:=fun c o h=>b c o (a c o h)
theorem j5.free{H H':Hp}(e:j5 H H'){l:Addr}(h:H' l=Option.none):H l=Option.none:=by
 cases q:H l with
 | none=>rfl
 | some o=>
  rw[e l o q]at h
  cases h
section
variable {κ:Type}[DecidableEq κ]
theorem c1S{kvs:List (κ×V)}{k:κ}{v:V}(h:a7B kvs k=some v):k∈kvs.map (·.1):=by
 have q:(kvs.any fun kv=>decide (kv.1=k))=true:=by
  rw[a5O,h]
  all_goals rfl
 obtain⟨p,hp,e⟩:=c9q.mp q
 exact E7.mpr ⟨p,hp,of_decide_eq_true e⟩
end
end L2
set_option maxHeartbeats 4000000
namespace L2
open PySem PySem.Spec PyProof.Rows
variable{env:Env}{scope:Scope}{y:Str}{X:Cx}{w:World}{s:k8}{elt iter:Expr}{elts ifs:List Expr}{p pos tp:Pos}{pins:List (Addr×Obj)}{σ:St}{H:Hp}{cl:List (Str×Addr)}{fp:List Addr}{tt:TT}{te:TE}{wi:TI}{i j:Nat}{xs:List V}{us:List Value}{u:Value}{ps:List Str}{sp:Sp}
theorem b8a:∀(names:List (Str×a9C)) (cs:List (Str×Addr)),(∀y∈names,y.2=.free->∃c,env.cells.lookup y.1=some c) ->
  (∀y c,cs.lookup y=some c->env.cells.lookup y=some c) ->
  ∃cl,(forIn names cs (fun(x:Str×a9C) (r:List (Str×Addr))=>(if(x.2 == NameKind.free)=true then (do let c <-cellOf env x.1;pure (ForInStep.yield ((x.1,c)::r)))else pure (ForInStep.yield r):Sem (ForInStep (List (Str×Addr)))))=(pure cl:Sem (List (Str×Addr)))) /\
   (∀y c,cl.lookup y=some c->env.cells.lookup y=some c)/\(∀y,(y,NameKind.free)∈names\/(cs.lookup y).isSome=true->(cl.lookup y).isSome=true)
 | [],cs,_,h=>⟨cs,rfl,h,fun y q=>q.elim (fun z=>absurd z (by simp)) id⟩
 | (n,k)::r,cs,hc,h=>by
  by_cases e:(k == NameKind.free)=true
  ·have ek:k=.free:=by simpa using e
   obtain⟨c,hcc⟩:=hc (n,k) X2 ek
   have h':∀y d,((n,c)::cs).lookup y=some d->env.cells.lookup y=some d:=by
    intro y d q
    rw[M0]at q
    cases eq:y == n with
    | true=>
     rw[eq]at q
     have e2:y=n:=by simpa using eq
     cases q;rw[e2];exact hcc
    | false=>rw[eq]at q;exact h y d q
   obtain⟨cl,h1,h2,h3⟩:=b8a r ((n,c)::cs) (fun y hy=>hc y (I0 _ hy)) h'
   refine⟨cl,?_,h2,fun y q=>h3 y ?_⟩
   ·rw[d1E]
    show((if(k == NameKind.free)=true then (do let c <-cellOf env n;pure (ForInStep.yield ((n,c)::cs)))else pure (ForInStep.yield cs):Sem (ForInStep (List (Str×Addr)))) >>= _)=_
    rw[if_pos e]
    have ec:cellOf env n=pure c:=by unfold cellOf;rw[hcc]
    rw[ec]
    exact h1
   ·rcases q with q | q
    ·rcases u5.mp q with q | q
     ·cases q
      right
      simp[M0]
     ·exact .inl q
    ·right
     rw[M0]
     cases y == n
     ·exact q
     ·rfl
  ·obtain⟨cl,h1,h2,h3⟩:=b8a r cs (fun y hy=>hc y (I0 _ hy)) h
   refine⟨cl,?_,h2,fun y q=>h3 y ?_⟩
   ·rw[d1E]
    show((if(k == NameKind.free)=true then (do let c <-cellOf env n;pure (ForInStep.yield ((n,c)::cs)))else pure (ForInStep.yield cs):Sem (ForInStep (List (Str×Addr)))) >>= _)=_
    rw[if_neg e]
    exact h1
   ·rcases q with q | q
    ·rcases u5.mp q with q | q
     ·cases q
      exact absurd rfl e
     ·exact .inl q
    ·exact .inr q
theorem a7X(hc:∀y∈scope.names,y.2=.free->∃c,env.cells.lookup y.1=some c) :
  ∃cl,closureFor scope env=pure cl/\(∀y c,cl.lookup y=some c->env.cells.lookup y=some c)/\∀y,(y,NameKind.free)∈scope.names->(cl.lookup y).isSome=true:=by
 obtain⟨cl,h1,h2,h3⟩:=b8a scope.names [] hc (fun y c q=>by cases q)
 refine⟨cl,?_,h2,fun y q=>h3 y (.inl q)⟩
 unfold closureFor
 first
  | exact h1
  | (show(forIn scope.names [] _ >>= fun r=>pure r)=_;rw[h1];rfl)
theorem Y1{env:Env}:∀ {names:List (Str×a9C)} {y:Str} {k:a9C},
  (names.map fun(n,k)=>if(k == NameKind.free&&env.scope.kind == .function&&env.kindOf n == some .cell)then (n,NameKind.cell)else (n,k)).lookup y=some k ->
  names.lookup y=some k\/(names.lookup y=some .free/\k=.cell)
 | [],_,_,h=>by cases h
 | (n,k0)::r,y,k,h=>by
  have ih := @Y1 env r y k
  rw[J0]at h
  rw[M0]
  cases hx:y == n with
  | true=>
   by_cases hc:(k0 == NameKind.free&&env.scope.kind == .function&&env.kindOf n == some .cell)=true
   ·have e2:k0=.free:=by simp at hc;exact hc.1.1
    dsimp only at h
    rw[if_pos hc,M0,hx]at h
    cases h
    exact .inr ⟨by rw[e2],rfl⟩
   ·dsimp only at h
    rw[if_neg hc,M0,hx]at h
    exact .inl h
  | false=>
   by_cases hc:(k0 == NameKind.free&&env.scope.kind == .function&&env.kindOf n == some .cell)=true
   ·dsimp only at h
    rw[if_pos hc,M0,hx]at h
    exact ih h
   ·dsimp only at h
    rw[if_neg hc,M0,hx]at h
    exact ih h
def hid(x:Str)(N:List Str):List Str:=N.map fun y=>if y=x then ("." : Str)++x else y
def a0t(X:Cx)(scope:Scope)(cl:List (Str×Addr))(C:Addr)(x:Str)(fp:List Addr)(s3:k8)(H3:Hp):Cx:=
 { X with N:=x::hid x X.N,s₀:=s3,H₀:=H3,env:=c4g scope cl C X.env,outer:=X.stack,stack:=X.stack,ex:=fp,fn:=fun _=>false,pn:=[],xe:=fun _ _=>False }
structure O7(N:List Str)(osc sc:Scope)(x:Str):Prop where
 kind:sc.kind=.function
 cell:∀y∈sc.names,y.2≠.cell
 names:∀y∈sc.names,y.2=.local->sc.names.lookup y.1=some .local
 own:sc.names.lookup x=some .local
 fr:∀y∈sc.names,y.2=.free->osc.names.lookup y.1=some .cell\/osc.names.lookup y.1=some .free
 see:∀y∈hid x N,sc.names.lookup y≠some .local
 dot:sc.names.lookup (("." : Str)++x)=none
 nd:(x::hid x N).Nodup
def V6(wi:TI)(tt:TT)(te:TE):TE:=fun σ H Q=>wi σ H fun J H1=>∀D,H1 D=none->∃W:Nat->Nat->List V->Hp->Prop,
 (∃m,W 0 m [] (upd H1 D (.lst [])))/\∀i m ys H2,W i m ys H2->H2 D=some (.lst ys) /\
  ((J.stop i H2 /\ Q (.ref D) H2) \/ (J.go i H2 /\ ∀ x H3,J.yld i H2 x H3 -> tt (some x :: σ) H3 fun ok H4 => if ok = true then
    te (some x::σ) H4 (fun y H5=>H5 D=some (.lst ys)/\ys.length<u9/\∃m',m'<m/\W (i+1) m' (ys++[y]) (upd H5 D (.lst (ys++[y]))))
    else ∃m',m'<m/\W (i+1) m' ys H4))
def PTs(X:Cx)(ifs:List Expr)(t:TT):Prop:=
 ∀(pins:List (Addr×Obj)) (s:k8) (σ:St) (H:Hp) (Q:Bool->Hp->Prop),Inv X pins σ H s->t σ H Q ->
  wpAny (model X.prog X.w) X.A (forIn ifs true fun c r=>if r=true then do let ok <-isTrue c X.env (eval c X.env);pure (ForInStep.yield ok)else pure (ForInStep.yield r)) (TP X pins σ Q) X.xe s
def a0Q:TT:=fun _ H Q=>Q true H
theorem c7r:PTs X [] a0Q:=fun _ _ _ H _ I h=>wpAny_tests_nil ⟨H,I,h⟩
theorem c7q{c:Expr}{t:TT}(h:PT X c t):PTs X [c] t:=fun pins s σ H Q I hq=>wpAny_tests_one (h pins s σ H Q I hq)
theorem b6J{prog:D0}{A:U8}{R:c8R->k8->Prop}{target:Expr}{it acc:Value}(I:Nat->k8->Prop)
  (turn:∀n s,I n s->wpAny (model prog w) A (b8B it) (fun r s₁=>match r with
   | none=>R (.ok .next) s₁
   | some v=>wpAny (model prog w) A (a8r target it v) (fun _ s₂=>wpAny (model prog w) A (a9B target env v) (fun _ s₃=>
     wpAny (model prog w) A (forIn ifs true fun c r=>if r=true then do let ok <-isTrue c env (eval c env);pure (ForInStep.yield ok)else pure (ForInStep.yield r)) (fun ok s₄=>
      if ok=true then wpAny (model prog w) A (eval elt env) (fun x s₅=>
       wpAny (model prog w) A (call (.builtin "list.append") [acc,x]) (fun _ s₆=>∃m,m<n/\I m s₆) (fun _ _=>False) s₅) (fun _ _=>False) s₄
      else ∃m,m<n/\I m s₄) (fun _ _=>False) s₃) (fun _ _=>False) s₂) (fun _ _=>False) s₁) (fun _ _=>False) s)
  (n:Nat) (h:I n s) :
  a7x (model prog w) A (.compLoop (.ListComp elt [⟨target,iter,ifs,0⟩] scope pos) 0 it acc env) R s:=by
 have up:∀ {α:Type} {m:Sem α} {Q:α->k8->Prop} {E:Value->k8->Prop} {s:k8},wpAny (model prog w) A m Q (fun _ _=>False) s->wpAny (model prog w) A m Q E s:=
  fun h=>a3p h (fun _ _ q=>q) fun _ _ f=>f.elim
 refine codeAny_loop rfl I (fun n s hI=>?_) n h
 refine wpAny_noted ?_
 rw[compTurn_list]
 refine i8 (b8A (i8 (up (thn (turn n s hI) fun r s₁ h₁=>?_))))
 cases r with
 | none=>exact u7 h₁
 | some v=>
  refine i8 (up (thn h₁ fun _ s₂ h₂=>i8 (up (thn h₂ fun _ s₃ h₃=>i8 (up (thn h₃ fun ok s₄ h₄=>?_))))))
  cases ok with
  | false=>exact u7 ⟨rfl,by simpa using h₄⟩
  | true=>
   rw[if_pos rfl]at h₄
   exact i8 (i8 (up (thn h₄ fun x s₅ h₅=>i8 (up (thn h₅ fun _ s₆ h₆=>u7 (u7 ⟨rfl,h₆⟩))))))
section
variable {x:Str}{px:Pos}
theorem c6x{s3:k8}{h4:Heap}{tk:Nat}(hc:O7 X.N X.env.scope scope x)(I:Inv X pins σ H s3)
  (hcl:∀y c,cl.lookup y=some c->X.env.cells.lookup y=some c) (hcl2:∀y,(y,NameKind.free)∈scope.names->(cl.lookup y).isSome=true)
  (fpo:∀b∈fp,a9w X pins H b) (fpl:∀b∈fp,b<s3.heap.objs.size)
  (hn:h4.Ns s3.heap.objs.size (fun _=>none)) (k:∀b o,s3.heap.get? b=some o->h4.get? b=some o) :
  Inv (a0t X scope cl s3.heap.objs.size x fp s3 H) [] (none::σ) H { s3 with heap:=h4,toks:=tk }:=by
 have low:∀x y,(a0t X scope cl s3.heap.objs.size x fp s3 H).env.cells.lookup y=cl.lookup y:=fun _ _=>rfl
 have below:∀y c,cl.lookup y=some c->c<s3.heap.objs.size:=fun y c e=>by
  obtain⟨v,q⟩:=I.cell y c (hcl y c e)
  exact q.lt
 have kinds:∀y,((a0t X scope cl s3.heap.objs.size x fp s3 H).env.kindOf y=some .cell\/(a0t X scope cl s3.heap.objs.size x fp s3 H).env.kindOf y=some .free)->scope.names.lookup y=some .free:=by
  intro y hy
  rcases hy with hy | hy
  ·rcases Y1 hy with q | ⟨q,_⟩
   ·exact absurd rfl (hc.cell _ (E6 q))
   ·exact q
  ·rcases Y1 hy with q | ⟨q,z⟩
   ·exact q
   ·cases z
 refine⟨⟨I.ok.mod,?_,I.ok.glob,I.ok.blt,j6 _,fun y z c h1 h2=>?_,fun y hy=>?_,fun y c h=>?_,I.ok.hd,I.ok.frames,.inl rfl,fun b hb=>⟨?_,fun y c e z=>?_⟩,fun b o e=>I.bs b o e,D4 I.ok.bsz I.sz,fun b o e hb=>?_,fun b hb hf=>?_,I.stack,I.stkFree⟩,
  rfl,I.bare,Un.kept k,⟨_,hn,fun i y v h1 h2 h3=>?_⟩,fun y c e=>?_,I.fresh,fun y c e=>?_,fun p hp=>absurd (show p∈([]:List (Addr×Obj))from hp) (by simp),I.hok.kept k,?_⟩
 ·exact hc.kind
 ·exact I.ok.inj y z c (hcl _ _ h1) (hcl _ _ h2)
 ·have:=hcl2 y (E6 (kinds y hy))
  exact a1F.mp this
 ·cases h
 ·exact z9 (fpl b hb)
 ·exact(fpo b hb).2.2.2.2.1 y c (hcl y c e) z
 ·rcases(fpo b hb).2.2.2.1 with q | q
  ·exact I.ok.noex b o e q
  ·exact absurd (D7 (l9 (I.ok.bs b o e).1) q) (Q8 _)
 ·rcases u5.mp (I.stkSub b hf)with e | e
  ·exact(fpo b hb).2.1 e
  ·exact(fpo b hb).2.2.1 e
 ·-- the names
  have h1:(x::hid x X.N)[i]? = some y:=h1
  cases i with
  | zero=>cases h2
  | succ i=>
   have h1:(hid x X.N)[i]? = some y:=h1
   have h2:σ[i]? = some (some v):=h2
   have my:y∈hid x X.N:=a1G h1
   have h3:(b1G scope X.env).names.lookup y=some .local\/(b1G scope X.env).names.lookup y=some .cell\/(b1G scope X.env).names.lookup y=some .free:=h3
   have hf:scope.names.lookup y=some .free:=by
    rcases h3 with q | q
    ·rcases Y1 q with q | ⟨_,z⟩
     ·exact absurd q (hc.see y my)
     ·cases z
    ·exact kinds y q
   have hy:X.N[i]? = some y:=by
    unfold hid at h1
    rw[b6]at h1
    cases e:X.N[i]? with
    | none=>rw[e]at h1;cases h1
    | some z=>
     rw[e]at h1
     by_cases ez:z=x
     ·rw[a8Y,if_pos ez]at h1
      have h1:=Option.some.inj h1
      subst h1
      rw[hc.dot]at hf
      cases hf
     ·rw[a8Y,if_neg ez]at h1
      exact h1
   obtain⟨m,_,hl⟩:=I.loc
   obtain⟨c,hcc⟩:=a1F.mp (hcl2 y (E6 hf))
   have vis:Vis X.env.scope y:=by
    rcases hc.fr _ (E6 hf) rfl with q | q
    ·exact .inr (.inl q)
    ·exact .inr (.inr q)
   obtain⟨u,ru,lk⟩:=hl i y v hy h2 vis
   refine⟨u,ru,.inr ⟨?_,c,hcc,?_⟩⟩
   ·rcases h3 with q | q
    ·rcases Y1 q with q | ⟨_,z⟩
     ·exact absurd q (hc.see y my)
     ·cases z
    ·exact q
   ·have hce:=hcl y c hcc
    rcases lk with ⟨q,_⟩ | ⟨_,c',e',z⟩
    ·rcases hc.fr _ (E6 hf) rfl with q' | q'
     ·have q:X.env.scope.names.lookup y=some .local:=q
      rw[show X.env.scope.names.lookup y=some NameKind.cell from q']at q
      cases q
     ·have q:X.env.scope.names.lookup y=some .local:=q
      rw[show X.env.scope.names.lookup y=some NameKind.free from q']at q
      cases q
    ·rw[e']at hce
     cases hce
     obtain⟨o,ho,hd⟩:=z
     exact⟨o,k _ _ ho,hd⟩
 ·obtain⟨v,o,ho,hd⟩:=I.cell y c (hcl y c e)
  exact⟨v,o,k _ _ ho,hd⟩
 ·exact I.freeC y c (hcl y c e)
 ·show(none::σ).length=(x::hid x X.N).length
  have:=I.len
  simp[hid,this]
theorem b5k{H1:Hp}{s2:k8}{it:Addr}{tn:Nat->Heap->Prop}{J:It}{Q:VK}{E:Value->k8->Prop}
  {RR:Value->Addr->c8R->k8->Prop} (hc:O7 X.N X.env.scope scope x) (hcalm:X.calm=true)
  (hcl:∀y c,cl.lookup y=some c->X.env.cells.lookup y=some c) (hcl2:∀y,(y,NameKind.free)∈scope.names->(cl.lookup y).isSome=true)
  (ht:∀C fp s3 H3,PTs (a0t X scope cl C x fp s3 H3) ifs tt) (he:∀C fp s3 H3,PE (a0t X scope cl C x fp s3 H3) elt te)
  (I:Inv X pins σ H1 s2) (T:b6h X.prog X.w X.K (.Name x px) J fp it tn) (st:tn 0 s2.heap) (fpo:∀b∈fp,a9w X pins H1 b)
  (h:∀D,H1 D=none->∃W:Nat->Nat->List V->Hp->Prop,
   (∃m,W 0 m [] (upd H1 D (.lst [])))/\∀i m ys H2,W i m ys H2->H2 D=some (.lst ys) /\
   ((J.stop i H2 /\ Q (.ref D) H2) \/ (J.go i H2 /\ ∀ x H3,J.yld i H2 x H3 -> tt (some x :: σ) H3 fun ok H4 => if ok = true then
     te (some x::σ) H4 (fun y H5=>H5 D=some (.lst ys)/\ys.length<u9/\∃m',m'<m/\W (i+1) m' (ys++[y]) (upd H5 D (.lst (ys++[y]))))
     else ∃m',m'<m/\W (i+1) m' ys H4)))
  (hRR:∀D C s' H' m,Inv X pins σ H' s'->s'.heap.Ns C m->H' C=none->C≠X.env.locals->X.s₀.heap.objs.size<=C->(∀y c,X.env.cells.lookup y=some c->c≠C)->(∀p∈X.pn++pins,p.1≠C)->Q (.ref D) H'->RR (.ref D) C (.ok .next) s') :
  wpAny (model X.prog X.w) X.A (newList []) (fun acc s₃=>wpAny (model X.prog X.w) X.A (newFunctionEnv scope X.env.globals cl [] X.env.qual none .none (some X.env)) (fun cenv s₄=>
   a7x (model X.prog X.w) X.A (.compStart (.ListComp elt [⟨.Name x px,iter,ifs,0⟩] scope pos) 0 (.ref it) acc { cenv with scope:=b1G scope X.env }) (RR acc cenv.locals) s₄) E s₃) E s2:=by
 refine a0J (hd:=by size_fits) ?_
 have I3:=I.lnew (ys:=[]) (its:=[]) (t':=s2.toks) .nil (by show 0<=u9;exact Z0 _)
 obtain⟨W,⟨m0,w0⟩,turn⟩:=h _ I.fresh
 generalize hD:s2.heap.objs.size=D at I3 w0 turn ⊢
 generalize hs3:({ s2 with heap:=s2.heap.push { cls:=.type "list",data:=.seq ([]:List Value).toArray } }:k8)=s3
 have hs3':({ s2 with heap:=s2.heap.push { cls:=.type "list",data:=.seq ([]:List Value).toArray },toks:=s2.toks }:k8)=s3:=hs3
 rw[hs3']at I3
 have keep3:∀b o,s2.heap.get? b=some o->s3.heap.get? b=some o:=fun b o e=>by rw[<-hs3];exact j4 _ e
 have fpl:∀b∈fp,b<s3.heap.objs.size:=fun b hb=>by
  obtain⟨o,e,_⟩:=T.obj _ _ st b hb
  exact l9 (keep3 b o e)
 have fpD:∀b∈fp,b≠D:=fun b hb z=>by
  obtain⟨o,e,_⟩:=T.obj _ _ st b hb
  exact absurd (l9 e) (by rw[z,hD];exact Q8 _)
 have fpo3:∀b∈fp,a9w X pins (upd H1 D (.lst [])) b:=fun b hb=>⟨by rw[i9 (fpD b hb)];exact(fpo b hb).1,(fpo b hb).2⟩
 show wpAny _ _ _ _ _ s3
 refine d2Z hc.cell (by intro y hy;simp at hy) (fun h₁ hns₁ hsb₁=>?_) hc.kind
 dsimp only[newEnv]at hns₁ hsb₁ ⊢
 have keep4:∀b o,s3.heap.get? b=some o->h₁.get? b=some o:=fun b o e=>hsb₁.extBut b o (z9 (l9 e)) (j4 _ e)
 have I4:=c6x (tk:=s3.toks+([]:List (Str×Value)).length) hc I3 hcl hcl2 fpo3 fpl hns₁ keep4
 have st4:tn 0 h₁:=T.keep _ _ _ st fun b hb o e=>keep4 b o (keep3 b o e)
 have loop:∀s₄:k8,s₄={ s3 with heap:=h₁,toks:=s3.toks+([]:List (Str×Value)).length } ->
   a7x (model X.prog X.w) X.A (.compLoop (.ListComp elt [⟨.Name x px,iter,ifs,0⟩] scope pos) 0 (.ref it) (.ref D) (c4g scope cl s3.heap.objs.size X.env)) (RR (.ref D) s3.heap.objs.size) s₄:=by
  rintro s₄ rfl
  have stat:∀ {H':Hp},(∀b∈fp,H' b=none)->∀b∈fp,a9w (a0t X scope cl s3.heap.objs.size x fp s3 (upd H1 D (.lst []))) [] H' b:=fun hn b hb=>
   ⟨hn b hb,z9 (fpl b hb),fun hf=>by
    rcases u5.mp (I3.stkSub b hf)with e | e
    ·exact(fpo b hb).2.1 e
    ·exact(fpo b hb).2.2.1 e,.inl hb,fun y c e=>(fpo b hb).2.2.2.2.1 y c (hcl y c e),fun p hp=>absurd (show p∈([]:List (Addr×Obj))from hp) (by simp)⟩
  refine b6J (env:=c4g scope cl s3.heap.objs.size X.env) (fun n s'=>∃i ys H',Inv (a0t X scope cl s3.heap.objs.size x fp s3 (upd H1 D (.lst []))) [] (none::σ) H' s'/\tn i s'.heap/\(∀b∈fp,H' b=none)/\W i n ys H') ?_ m0
   ⟨0,[],_,I4,st4,fun b hb=>(fpo3 b hb).1,w0⟩
  rintro n s5 ⟨i,ys,H5,I5,st5,fr5,w5⟩
  obtain⟨hDy,alt⟩:=turn i n ys H5 w5
  rcases alt with ⟨stop,q⟩ | ⟨go,step⟩
  ·refine a3p (T.done (a0t X scope cl s3.heap.objs.size x fp s3 (upd H1 D (.lst []))) rfl rfl rfl hcalm i [] s5 _ H5 (fun _ _=>False) I5 (stat fr5) st5 stop) (fun r s6 ⟨hr,I6⟩=>?_) fun _ _ f=>f
   subst hr
   obtain⟨m6,n6,_⟩:=I6.loc
   have J6:Inv X pins σ H5 s6:=by
    refine I3.call' (ch:=fp) I6.os I6.base I6.hok I6.bare fun b hb=>?_
    obtain⟨_,f1,f2,f3,f4,f5⟩:=fpo3 b hb
    exact⟨f3,f1,f4,f5⟩
   refine hRR D _ s6 H5 m6 J6 n6 I6.free (c4c I3.lt) I3.sz (fun y c e z=>?_) (fun p hp z=>?_) q
   ·obtain⟨v,q⟩:=I3.cell y c e
    exact absurd q.lt (by rw[z];exact Q8 _)
   ·exact absurd (l9 (I3.pin p hp).1) (by rw[z];exact Q8 _)
  ·refine a3p (T.item (a0t X scope cl s3.heap.objs.size x fp s3 (upd H1 D (.lst []))) rfl rfl rfl hcalm i [] s5 _ H5 (fun _ _=>False) I5 (stat fr5) st5 go) (fun r s6 ⟨u,hr,h6⟩=>?_) fun _ _ f=>f
   subst hr
   refine thn h6 fun _ s6 ⟨xv,H6,I6,r6,y6,st6,fr6⟩=>?_
   have I6':=I6.pinned (stat fr6) (T.obj _ _ st6)
   refine b0x (b0O (i:=0) I6' ?nd rfl (.inl ?loc) r6 (fun s7 I7=>?_) (.inr ?loc))
   case nd=>exact hc.nd
   case loc=>exact a4G hc.own
   have I7:Inv (a0t X scope cl s3.heap.objs.size x fp s3 (upd H1 D (.lst []))) ([]++b0b fp s6.heap) (some xv::σ) H6 s7:=I7
   have again:∀ {s8:k8} {H8:Hp} {ys8:List V},Inv (a0t X scope cl s3.heap.objs.size x fp s3 (upd H1 D (.lst []))) ([]++b0b fp s6.heap) (some xv::σ) H8 s8->(∃m',m'<n/\W (i+1) m' ys8 H8) ->
     ∃m,m<n/\∃i ys H',Inv (a0t X scope cl s3.heap.objs.size x fp s3 (upd H1 D (.lst []))) [] (none::σ) H' s8/\tn i s8.heap/\(∀b∈fp,H' b=none)/\W i m ys H':=by
    rintro s8 H8 ys8 I8 ⟨m',hm,w8⟩
    refine⟨m',hm,i+1,ys8,H8,(I8.unpinned (pins:=[])).weak rfl (fun j v e=>?_),T.keep _ _ _ st6 fun b hb o e=>(I8.pin (b,o) (w6 _ (w6 _ (a4P hb e)))).1,fun b hb=>?_,w8⟩
    ·cases j with
     | zero=>cases e
     | succ j=>exact e
    ·obtain⟨o,e,d⟩:=T.obj _ _ st6 b hb
     exact(I8.pin (b,o) (w6 _ (w6 _ (a4P hb e)))).2.1
   refine thn (ht _ fp s3 _ _ s7 _ H6 _ I7 (step xv H6 y6)) (fun ok s8 ⟨H8,I8,q8⟩=>?_)
   cases ok with
   | false=>exact again I8 (by simpa using q8)
   | true=>
    rw[if_pos rfl]at q8
    rw[if_pos rfl]
    refine thn (he _ fp s3 _ _ s8 _ H8 _ I8 q8) (fun v s9 ⟨y,H9,I9,r9,hD9,hz9,w9⟩=>?_)
    refine a3p (b2s (X:=a0t X scope cl s3.heap.objs.size x fp s3 (upd H1 D (.lst []))) _ s9 _ H9 (.ref D) [y] (.ref D) [v] (fun _ H'=>H'=upd H9 D (.lst (ys++[y]))) I9 rfl (.cons r9 .nil) ⟨D,ys,y,rfl,rfl,hD9,hz9,rfl⟩) (fun _ s10 ⟨_,H10,I10,_,e10⟩=>?_) fun _ _ f=>f
    subst e10
    exact again I10 w9
 exact d1I (loop _ rfl) (T.self X.A 0 _ _ _ st4 (loop _ rfl))
theorem b5j(hc:O7 X.N X.env.scope scope x)(I:Inv X pins σ H s):∀y∈scope.names,y.2=.free->∃c,X.env.cells.lookup y.1=some c:=by
 intro y hy e
 rcases hc.fr y hy e with q | q
 ·exact I.ok.has y.1 (.inl q)
 ·exact I.ok.has y.1 (.inr q)
theorem c2i(hc:O7 X.N X.env.scope scope x)(hcalm:X.calm=true)(hi:PI X (.Name x px) iter wi)
  (ht:∀cl C fp s3 H3,PTs (a0t X scope cl C x fp s3 H3) ifs tt) (he:∀cl C fp s3 H3,PE (a0t X scope cl C x fp s3 H3) elt te)
  (hs:∀x,T1 iter X.env x=pure x:=by intro _;rfl) :
  PE X (.ListComp elt [⟨.Name x px,iter,ifs,0⟩] scope pos) (V6 wi tt te):=by
 intro pins s σ H Q I h
 obtain⟨cl,hclos,hcl,hcl2⟩:=a7X (b5j hc I)
 rw[eval_ListComp]
 refine a5y (use:=none) rfl hs hclos hc.kind hc.names (thn (hi pins s σ H _ I h) fun v s1 h1=>thn h1 fun itv s2 ⟨it,fp,tn,J,H2,e,I2,T,st,fpo,R⟩=>?_)
 subst e
 refine b5k (RR:=fun acc C=>compPost (model X.prog X.w) X.A X.xe none (EP X pins σ Q) acc C) (Q:=Q) hc hcalm hcl hcl2 (ht cl) (he cl) I2 T st fpo R ?_
 intro D C s' H' m I' n f1 f2 f3 f4 f5 q
 exact⟨m,n,fun h' sb=>⟨.ref D,H',I'.turned (t':=s'.toks) (fun b o hb e=>(sb.2 b hb).trans e) f1 f2 (.inr f3) f4 f5,rfl,q⟩⟩
theorem c0X{py spos:Pos}(hN:X.N.Nodup)(hiy:X.N[i]? = some y)(hy:X.env.scope.names.lookup y=some .local)(hc:O7 X.N X.env.scope scope x)(hcalm:X.calm=true)(hi:PI X (.Name x px) iter wi)
  (ht:∀cl C fp s3 H3,PTs (a0t X scope cl C x fp s3 H3) ifs tt) (he:∀cl C fp s3 H3,PE (a0t X scope cl C x fp s3 H3) elt te)
  (hsw:a3Z (.ListComp elt [⟨.Name x px,iter,ifs,0⟩] scope pos) (some (.Name y py)) spos.line X.env=pure true:=by rfl)
  (hs:∀x,T1 iter X.env x=pure x:=by intro _;rfl) :
  PS X (.Assign [.Name y py] (.ListComp elt [⟨.Name x px,iter,ifs,0⟩] scope pos) spos) (fun D σ H=>V6 wi tt te σ H fun v H1=>D.nx (σ.set i (some v)) H1):=by
 intro pins s σ H D I h
 obtain⟨cl,hclos,hcl,hcl2⟩:=a7X (b5j hc I)
 rw[d1R _ _ _ _ hsw]
 refine i8 (b8A (i8 ?_))
 show wpAny _ X.A (do let _ <-comprehension (.ListComp elt [⟨.Name x px,iter,ifs,0⟩] scope pos) scope X.env _ (newList []) false (eval iter X.env) (some (a9B (.Name y py) X.env))) _ _ s
 refine i8 (a3p (a5y (use:=some (a9B (.Name y py) X.env)) (Q:=fun _ s'=>SP X pins D .next s') rfl hs hclos hc.kind hc.names
  (thn (hi pins s σ H _ I h) fun v s1 h1=>thn h1 fun itv s2 ⟨it,fp,tn,J,H2,e,I2,T,st,fpo,R⟩=>?_)) (fun _ s' hq=>u7 (u7 hq)) fun _ _ e=>e)
 subst e
 refine b5k (RR:=fun acc C=>compPost (model X.prog X.w) X.A X.xe (some (a9B (.Name y py) X.env)) (fun _ s'=>SP X pins D .next s') acc C) (Q:=fun v H1=>D.nx (σ.set i (some v)) H1) hc hcalm hcl hcl2 (ht cl) (he cl) I2 T st fpo R ?_
 intro E C s' H' m I' n f1 f2 f3 f4 f5 q
 show wpAny _ _ (a9B (.Name y py) X.env (.ref E)) _ _ _
 refine b0x (b1R (v:=.ref E) I' hN hiy (.inl hy) rfl (fun s'' I'' ch=>?_) (.inr hy))
 obtain⟨a,sb,ha⟩:=ch
 have hCa:C≠a:=by
  rcases ha with e | e
  ·rw[e];exact f2
  ·exact fun z=>f4 y a e z.symm
 exact⟨m,n.sameBut sb hCa,fun h' sb'=>⟨_,_,I''.turned (t':=s''.toks) (fun b o hb e=>(sb'.2 b hb).trans e) f1 f2 (.inr f3) f4 f5,q⟩⟩
end
section
theorem OpR.imp{f:Value->Value->Sem Value}{r r':R2}(h:OpR X f r)(i:∀x y H Q,r' x y H Q->r x y H Q):OpR X f r':=fun pins s σ H x y u v Q I rx ry q=>h pins s σ H x y u v Q I rx ry (i _ _ _ _ q)
theorem a0S.imp{f:Value}{r r':List V->Hp->VK->Prop}(h:a0S X f r)(i:∀xs H Q,r' xs H Q->r xs H Q):a0S X f r':=fun pins s σ H xs us Q I rx q=>h pins s σ H xs us Q I rx (i _ _ _ q)
theorem IxR.imp{r r':R2}(h:IxR X r)(i:∀x y H Q,r' x y H Q->r x y H Q):IxR X r':=by
 intro value slice pins s σ H x y v u Q I rx ry q hs
 exact h value slice pins s σ H x y v u Q I rx ry (i _ _ _ _ q) hs
theorem SlR.imp{r r':V->Option Int->Option Int->Hp->VK->Prop}(h:SlR X r)(i:∀x lo hi H Q,r' x lo hi H Q->r x lo hi H Q):SlR X r':=fun pins s σ H x v vl vu lo hi sl Q I rx hs pl pu q=>h pins s σ H x v vl vu lo hi sl Q I rx hs pl pu (i _ _ _ _ _ q)
def a6m:R2:=fun x y H Q=>match x,y with
 | .int i,.int j=>Q (.int (i+j)) H
 | .str i,.str j=>i.length+j.length<=u9/\Q (.str (i++j)) H
 | .ref a,.ref b=>match H a,H b with
  | some (.lst xs),some (.lst ys)=>xs.length+ys.length<=u9/\∀p,H p=none->Q (.ref p) (upd H p (.lst (xs++ys)))
  | _,_=>False
 | _,_=>False
theorem c7V:OpR X (a2o .Add) a6m:=by
 refine(d0N.or (c1g.or d0M)).imp fun x y H Q h=>?_
 unfold a6m at h
 split at h
 ·exact .inl ⟨_,_,rfl,rfl,h⟩
 ·exact .inr (.inl ⟨_,_,rfl,rfl,h.1,h.2⟩)
 ·split at h
  ·exact .inr (.inr ⟨_,_,_,_,rfl,rfl,by assumption,by assumption,h.1,h.2⟩)
  ·exact h.elim
 ·exact h.elim
def q2I(C:Int->Int->Prop)(g:Int->Int->V):R2:=fun x y H Q=>match x,y with
 | .int i,.int j=>C i j/\Q (g i j) H
 | _,_=>False
def b9j(g:Int->Int->V):R2:=fun x y H Q=>match x,y with
 | .int i,.int j=>Q (g i j) H
 | _,_=>False
theorem c0W{f:Value->Value->Sem Value}{C:Int->Int->Prop}{g:Int->Int->V}(h:OpR X f (rI C g)):OpR X f (q2I C g):=h.imp fun x y H Q q=>by
 unfold q2I at q
 split at q
 ·exact⟨_,_,rfl,rfl,q.1,q.2⟩
 ·exact q.elim
theorem b1b{f:Value->Value->Sem Value}{g:Int->Int->V}(h:OpR X f (rI0 g)):OpR X f (b9j g):=h.imp fun x y H Q q=>by
 unfold b9j at q
 split at q
 ·exact⟨_,_,rfl,rfl,q⟩
 ·exact q.elim
abbrev c5j:R2:=b9j fun i j=>.int (i - j)
abbrev c0S:R2:=q2I c8L fun i j=>.int (i * j)
abbrev b5S:R2:=q2I (fun _ j=>0<j) fun i j=>.int (i % j)
abbrev c7n:R2:=q2I (fun _ j=>0<j/\j<2 ^ 64) fun i j=>.int (i / j)
abbrev qLt:R2:=b9j fun i j=>.bl (decide (i<j))
abbrev qLe:R2:=b9j fun i j=>.bl (decide (i<=j))
abbrev qGt:R2:=b9j fun i j=>.bl (decide (j<i))
abbrev qGe:R2:=b9j fun i j=>.bl (decide (j<=i))
theorem c7M:OpR X (a2o .Sub) c5j:=b1b d0A
theorem c7P:OpR X (a2o .Mult) c0S:=c0W d0J
theorem c7Q:OpR X (a2o .Mod) b5S:=c0W d0K
theorem c7U:OpR X (a2o .FloorDiv) c7n:=c0W (opI fun i j _ _ _ _ _ hc q=>by
 have hl:j.natAbs.log2<9000:=by
  have:j.natAbs<2 ^ 64:=by have:=hc.1;have:=hc.2;omega
  by_cases h0:j.natAbs=0
  ·rw[h0];decide +kernel
  ·exact Nat.lt_trans ((Nat.log2_lt h0).mpr this) (by decide)
 refine floordiv_int (by omega) ?_ (.inl (PyProof.noPylong_of_log2 hl))
 rw[Int.fdiv_eq_ediv_of_nonneg _ (by omega)]
 exact q)
theorem d0C:OpR X (C3 .Lt) qLt:=b1b d2D
theorem d0D:OpR X (C3 .LtE) qLe:=b1b d2E
theorem d0G:OpR X (C3 .Gt) qGt:=b1b d2F
theorem d0H:OpR X (C3 .GtE) qGe:=b1b d2G
def qIx:R2:=fun x y H Q=>match x,y with
 | .ref p,.int i=>match H p with
  | some (.lst xs)=>∃v,atI xs i=some v/\Q v H
  | some (.tup xs)=>∃v,atI xs i=some v/\Q v H
  | _=>False
 | .str z,.int i=>z.length<=u9/\∃c,atI z.cps.toList i=some c/\Q (.str ⟨#[c]⟩) H
 | _,_=>False
theorem d3y:IxR X qIx:=c6e.imp fun x y H Q h=>by
 unfold qIx at h
 split at h
 ·split at h
  ·obtain⟨v,e,q⟩:=h
   exact .inl ⟨_,_,_,v,rfl,rfl,SqL.of (by assumption),e,q⟩
  ·obtain⟨v,e,q⟩:=h
   exact .inr (.inl ⟨_,_,_,v,rfl,rfl,SqT.of (by assumption),e,q⟩)
  ·exact h.elim
 ·obtain⟨z,c,e,q⟩:=h
  exact .inr (.inr ⟨_,_,c,rfl,rfl,z,e,q⟩)
 ·exact h.elim
def qSl:V->Option Int->Option Int->Hp->VK->Prop:=fun x lo hi H Q=>match x with
 | .ref a=>match H a with
  | some (.lst xs)=>∀p,H p=none->Q (.ref p) (upd H p (.lst (a8U xs lo hi)))
  | some (.tup xs)=>¬(HT.sIx xs.length 0 lo=0/\HT.sIx xs.length xs.length hi=xs.length)/\∀p,H p=none->Q (.ref p) (upd H p (.tup (a8U xs lo hi)))
  | _=>False
 | _=>False
theorem d3j:SlR X qSl:=(c2a.or c9z).imp fun x lo hi H Q h=>by
 unfold qSl at h
 split at h
 ·split at h
  ·exact .inl ⟨_,_,rfl,SqL.of (by assumption),h⟩
  ·exact .inr ⟨_,_,rfl,SqT.of (by assumption),h.1,h.2⟩
  ·exact h.elim
 ·exact h.elim
def a0r:List V->Hp->VK->Prop:=fun xs H Q=>match xs with
 | [.ref p]=>match H p with
  | some (.lst ys)=>Q (.int ys.length) H
  | some (.tup ys)=>Q (.int ys.length) H
  | _=>False
 | [.str z]=>z.length<=u9/\Q (.int z.length) H
 | _=>False
theorem c3P:a0S X (.builtin "len") a0r:=(b1p.or b8f).imp fun xs H Q h=>by
 unfold a0r at h
 split at h
 ·split at h
  ·exact .inl ⟨_,_,rfl,.inl (SqL.of (by assumption)),h⟩
  ·exact .inl ⟨_,_,rfl,.inr (SqT.of (by assumption)),h⟩
  ·exact h.elim
 ·exact .inr ⟨_,rfl,h.1,h.2⟩
 ·exact h.elim
def c5p:List V->Hp->VK->Prop:=fun xs H Q=>match xs with
 | [.int i]=>Q (.int (if i<0 then -i else i)) H
 | _=>False
theorem c3T:a0S X (.builtin "abs") c5p:=c6B.imp fun xs H Q h=>by
 unfold c5p at h
 split at h
 ·exact⟨_,rfl,h⟩
 ·exact h.elim
def b7A:V->V->V->Hp->(Hp->Prop)->Prop:=fun o i v H Q=>match o,i with
 | .ref p,.int k=>match H p with
  | some (.lst xs)=>∃j,ixN xs.length k=some j/\Q (upd H p (.lst (xs.set j v)))
  | _=>False
 | _,_=>False
theorem d1W:c6D X b7A:=by
 intro pins s σ H o i v u1 u2 u3 Q I r1 r2 r3 h
 refine c4S pins s σ H o i v u1 u2 u3 Q I r1 r2 r3 ?_
 unfold b7A at h
 split at h
 ·split at h
  ·obtain⟨j,e,q⟩:=h
   exact⟨_,_,_,j,rfl,rfl,by assumption,e,q⟩
  ·exact h.elim
 ·exact h.elim
def a1S(xs ys:List V):Bool:=(t8 (min xs.length ys.length)).all (fun j=>eqV (xs.getD j .non) (ys.getD j .non))&&xs.length == ys.length
def eqO(x y:V)(H:Hp):Option Bool:=if b8U x y=true then some (decide (x=y))else match x,y with
 | .ref a,.ref b=>match H a,H b with
  | some (.tup xs),some (.tup ys)=>if xs.all X1=true/\ys.all X1=true then some (a1S xs ys)else none
  | some (.lst xs),some (.lst ys)=>if xs.all X1=true/\ys.all X1=true then some (a1S xs ys)else none
  | _,_=>none
 | .non,.ref a=>match H a with
  | some (.tup _)=>some false
  | _=>none
 | .ref a,.non=>match H a with
  | some (.tup _)=>some false
  | _=>none
 | _,_=>none
def qEq:R2:=fun x y H Q=>∃b,eqO x y H=some b/\Q (.bl b) H
def qNe:R2:=fun x y H Q=>∃b,eqO x y H=some b/\Q (.bl (!b)) H
theorem a9j{A:U8}{ys:List V}{ws:List Value}(rx:O6 xs us)(ry:O6 ys ws)(fx:xs.all X1=true)(fy:ys.all X1=true) :
  ∀j (h1:j<us.toArray.size) (h2:j<ws.toArray.size),SeqAt.EqAt A s us.toArray[j] ws.toArray[j] (eqV (xs.getD j .non) (ys.getD j .non)):=by
 intro j h1 h2
 have l1:=rx.length
 have l2:=ry.length
 have h1':j<us.length:=by simpa using h1
 have h2':j<ws.length:=by simpa using h2
 have e1:xs[j]? = some (xs[j]'(by omega)):=by simp
 have e2:ys[j]? = some (ys[j]'(by omega)):=by simp
 obtain⟨u,hu,ru⟩:=rx.get e1
 obtain⟨w,hw,rw'⟩:=ry.get e2
 have z1:us.toArray[j]=u:=by
  have:us[j]? = some us[j]:=by simp
  rw[this]at hu
  simpa using hu
 have z2:ws.toArray[j]=w:=by
  have:ws[j]? = some ws[j]:=by simp
  rw[this]at hw
  simpa using hw
 rw[z1,z2]
 have g1:xs.getD j .non=xs[j]'(by omega):=by simp[Q1,e1]
 have g2:ys.getD j .non=ys[j]'(by omega):=by simp[Q1,e2]
 rw[g1,g2]
 exact c1A ru rw' (X5.mp fx _ (M3 _)) (X5.mp fy _ (M3 _))
theorem c9c{x y:V}{v:Value}{k:Bool}(I:Inv X pins σ H s)(hu:X.A.units<cLine)(rx:L5 x v)(ry:L5 y u)(hs:¬b8U x y=true)(e:eqO x y H=some k) :
  SeqAt.RcAt X.A s v u k/\SeqAt.RcNeAt X.A s v u (!k):=by
 unfold eqO at e
 rw[if_neg hs]at e
 split at e
 ·rename_i a b
  cases rx
  cases ry
  split at e
  ·rename_i xs ys ha hb
   split at e
   ·rename_i hf
    cases e
    obtain⟨us,r1,t1,_⟩:=I.tuple (SqT.of ha)
    obtain⟨ws,r2,t2,_⟩:=I.tuple (SqT.of hb)
    have l1:=r1.length
    have l2:=r2.length
    have q1:=SeqAt.RcAt.tuples (A:=X.A) t1 t2 hu (a9j r1 r2 hf.1 hf.2)
    have q2:=SeqAt.RcNeAt.tuples (A:=X.A) t1 t2 hu (a9j r1 r2 hf.1 hf.2)
    simp only[p9,<-l1,<-l2]at q1 q2
    exact⟨q1,q2⟩
   ·cases e
  ·rename_i xs ys ha hb
   split at e
   ·rename_i hf
    cases e
    obtain⟨us,r1,t1,_⟩:=I.list (SqL.of ha)
    obtain⟨ws,r2,t2,_⟩:=I.list (SqL.of hb)
    have l1:=r1.length
    have l2:=r2.length
    by_cases hl:us.toArray.size=ws.toArray.size
    ·have q1:=SeqAt.RcAt.lists (A:=X.A) t1.isList t2.isList hl hu (a9j r1 r2 hf.1 hf.2)
     have q2:=SeqAt.RcNeAt.lists (A:=X.A) t1.isList t2.isList hl hu (a9j r1 r2 hf.1 hf.2)
     have hl':xs.length=ys.length:=by simpa[<-l1,<-l2]using hl
     have ef:a1S xs ys=(t8 us.toArray.size).all fun j=>eqV (xs.getD j .non) (ys.getD j .non):=by
      unfold a1S
      rw[hl',b5y,p9,<-l1,hl']
      simp
     rw[ef]
     exact⟨q1,q2⟩
    ·have hl2:(us.toArray.size != ws.toArray.size)=true:=by simpa using hl
     have q1:=SeqAt.RcAt.lists_lengths (A:=X.A) t1.isList t2.isList hl2 hu
     have q2:=SeqAt.RcNeAt.lists_lengths (A:=X.A) t1.isList t2.isList hl2 hu
     have ef:a1S xs ys=false:=by
      unfold a1S
      have:¬xs.length=ys.length:=by simpa[<-l1,<-l2]using hl
      simp[this]
     rw[ef]
     exact⟨q1,q2⟩
   ·cases e
  ·cases e
 ·cases rx
  cases ry
  split at e
  ·cases e
   obtain⟨us,_,t1,_⟩:=I.tuple (SqT.of (by assumption))
   exact⟨SeqAt.RcAt.none_tuple t1 hu,SeqAt.RcNeAt.none_tuple t1 hu⟩
  ·cases e
 ·cases rx
  cases ry
  split at e
  ·cases e
   obtain⟨us,_,t1,_⟩:=I.tuple (SqT.of (by assumption))
   exact⟨SeqAt.RcAt.tuple_none t1 hu,SeqAt.RcNeAt.tuple_none t1 hu⟩
  ·cases e
 ·cases e
theorem d0I(hu:X.A.units<cLine):OpR X (C3 .Eq) qEq:=by
 intro pins s σ H x y v u Q I rx ry h
 obtain⟨k,e,q⟩:=h
 by_cases hs:b8U x y=true
 ·unfold eqO at e
  rw[if_pos hs]at e
  cases e
  exact d2H pins s σ H x y v u Q I rx ry ⟨hs,q⟩
 ·exact(c9c I hu rx ry hs e).1 _ _ _ _ ⟨.bl k,H,I,rfl,q⟩
theorem d0B(hu:X.A.units<cLine):OpR X (C3 .NotEq) qNe:=by
 intro pins s σ H x y v u Q I rx ry h
 obtain⟨k,e,q⟩:=h
 by_cases hs:b8U x y=true
 ·unfold eqO at e
  rw[if_pos hs]at e
  cases e
  exact d2C pins s σ H x y v u Q I rx ry ⟨hs,q⟩
 ·exact(c9c I hu rx ry hs e).2 _ _ _ _ ⟨.bl (!k),H,I,rfl,q⟩
def qIn(neg:Bool):R2:=fun x y H Q=>match x,y with
 | .str i,.str j=>Q (.bl (if neg then !(!(Builtin.Str.occurrences j i 0 j.length 1).isEmpty)else !(Builtin.Str.occurrences j i 0 j.length 1).isEmpty)) H
 | x,.ref p=>match H p with
  | some (.lst xs)=>X1 x=true/\xs.all X1=true/\Q (.bl (if neg then !inV x xs else inV x xs)) H
  | some (.tup xs)=>X1 x=true/\xs.all X1=true/\Q (.bl (if neg then !inV x xs else inV x xs)) H
  | _=>False
 | _,_=>False
theorem d0F:OpR X (C3 .In) (qIn false):=(c3f.or b6C).imp fun x y H Q h=>by
 unfold qIn at h
 split at h
 ·exact .inl ⟨_,_,rfl,rfl,h⟩
 ·split at h
  ·exact .inr ⟨_,_,rfl,.inl (SqL.of (by assumption)),h.1,h.2.1,h.2.2⟩
  ·exact .inr ⟨_,_,rfl,.inr (SqT.of (by assumption)),h.1,h.2.1,h.2.2⟩
  ·exact h.elim
 ·exact h.elim
def V3:V->List V->Hp->VK->Prop:=fun x vs H Q=>match x,vs with
 | .ref l,[y]=>match H l with
  | some (.lst xs)=>xs.length<u9/\Q .non (upd H l (.lst (xs++[y])))
  | _=>False
 | _,_=>False
theorem c1o:MtR X "list.append" V3:=fun pins s σ H x xs v us Q I rx rv h=>by
 refine b2s pins s σ H x xs v us Q I rx rv ?_
 unfold V3 at h
 split at h
 ·split at h
  ·exact⟨_,_,_,rfl,rfl,by assumption,h.1,h.2⟩
  ·exact h.elim
 ·exact h.elim
def a6N:List V->Option (List Str)
 | []=>some []
 | .str s::r=>(a6N r).map (s :: ·)
 | _=>none
theorem c0A(ss:List Str):a6N (ss.map V.str)=some ss:=by
 induction ss with
 | nil=>rfl
 | cons s r ih=>simp[a6N,ih]
theorem b4n:∀ {xs:List V} {us:List Value} {ss:List Str},O6 xs us->a6N xs=some ss->StrsAre us ss
 | _,_,ss,.nil,e=>by cases e;exact .nil
 | x::xs,_,ss,.cons r t,e=>by
  cases x with
  | str s=>
   obtain⟨k,rfl⟩:=r
   cases e2:a6N xs with
   | none=>simp[a6N,e2]at e
   | some ss2=>
    simp[a6N,e2]at e
    subst e
    exact .cons _ _ (b4n t e2)
  | _=>simp[a6N]at e
def b6z:V->List V->Hp->VK->Prop:=fun x vs H Q=>match x,vs with
 | .str x,[.ref l]=>match H l with
  | some (.lst xs)=>∃ss,a6N xs=some ss/\(ss.map (·.length)).sum+ss.length * x.length<=16777216/\Q (.str (Txt.join x ss)) H
  | _=>False
 | _,_=>False
theorem c5T:MtR X "str.join" b6z:=fun pins s σ H x xs v us Q I rx rv h=>by
 unfold b6z at h
 split at h
 ·split at h
  ·obtain⟨ss,e,hk,q⟩:=h
   obtain⟨t,rfl⟩:=rx
   obtain⟨u,rfl,ru⟩:=rv.one
   cases ru
   obtain⟨its,r,p,hz⟩:=I.list (SqL.of (by assumption))
   exact join_list p.isList (b4n r e) hk fun t' k=>⟨.str _,H,I.tok _,⟨_,rfl⟩,q⟩
  ·exact h.elim
 ·exact h.elim
def a5n(x:V)(H:Hp):Option String:=match x with
 | .non=>some "NoneType"
 | .bl _=>some "bool"
 | .int _=>some "int"
 | .str _=>some "str"
 | .ref a=>match H a with
  | some (.lst _)=>some "list"
  | some (.tup _)=>some "tuple"
  | some (.dK _)=>some "dict"
  | some (.dT _)=>some "dict"
  | _=>none
 | _=>none
def c1u(t c:String):Bool:=t == c||(t == "bool" && c == "int")
def b2u:List String:=["int","bool","str","list","tuple","dict"]
theorem c6c(K:Fg):∀t ∈ "NoneType" :: b2u,∀c∈b2u,a9y K (.type t) (.type c)=some (c1u t c):=by
 intro t ht c hc
 simp only[b2u,u5,Q7,or_false]at ht hc
 rcases ht with rfl | rfl | rfl | rfl | rfl | rfl | rfl <;> rcases hc with rfl | rfl | rfl | rfl | rfl | rfl <;> kernel_rfl
theorem d1U{K:Fg}{x:V}{t:String}(h:a5n x H=some t):b2H K H x (.type t)/\t ∈ "NoneType" :: b2u:=by
 unfold a5n at h
 split at h
 ·cases h;exact⟨.non,by decide⟩
 ·cases h;exact⟨.bl _,by decide⟩
 ·cases h;exact⟨.int _,by decide⟩
 ·cases h;exact⟨.str _,by decide⟩
 ·split at h
  ·cases h;exact⟨.lst (by assumption),by decide⟩
  ·cases h;exact⟨.tup (by assumption),by decide⟩
  ·cases h;exact⟨.dK (by assumption),by decide⟩
  ·cases h;exact⟨.dT (by assumption),by decide⟩
  ·cases h
 ·cases h
def a8m:List V->Hp->VK->Prop:=fun xs H Q=>match xs with
 | [x,.ty c]=>∃t,a5n x H=some t/\c∈b2u/\Q (.bl (c1u t c)) H
 | _=>False
theorem c3Q:a0S X (.builtin "isinstance") a8m:=fun pins s σ H xs us Q I r h=>by
 unfold a8m at h
 split at h
 ·obtain⟨t,e,hc,q⟩:=h
  obtain⟨u,u2,rfl,ru,ru2⟩:=b6q r
  cases ru2
  obtain⟨ty,ht⟩:=d1U (K:=X.K) e
  exact b6I I ru ty (c6c X.K t ht _ hc) fun tk=>⟨.bl _,H,I.tok _,rfl,q⟩
 ·exact h.elim
def c2X:V->V->Hp->VK->Prop:=fun x y H Q=>match x,y with
 | .ref p,.int i=>match H p with
  | some (.lst xs)=>0<=i/\∃v,xs[i.toNat]? = some v/\Q v H
  | _=>False
 | _,_=>False
theorem d2N:d1x X c2X:=fun pins s σ H o i ov iv Q I r1 r2 h=>by
 unfold c2X at h
 split at h
 ·split at h
  ·obtain⟨h0,v,e,q⟩:=h
   cases r1
   obtain⟨t,rfl⟩:=r2
   obtain⟨its,r,pl,hz⟩:=I.list (SqL.of (by assumption))
   obtain⟨u,eu,ru⟩:=r.get e
   have hl:=(t6.mp e).1
   have hn:=b0o
   exact wpAny_getItem_list pl.isList h0 (by omega) (by simpa using eu) ⟨v,H,I,ru,q⟩
  ·exact h.elim
 ·exact h.elim
def qIs:R2:=fun x y H Q=>y=.non/\Q (.bl (decide (x=.non))) H
def c0T:R2:=fun x y H Q=>y=.non/\Q (.bl (!decide (x=.non))) H
theorem d0E:OpR X (C3 .Is) qIs:=d0L
theorem c3e:OpR X (C3 .IsNot) c0T:=c7W
structure F4(P:D0)(w:World)(K:Fg)(mg:Str->Option Value)(base:Heap)(k:Nat)(x:Str)(ps:List Str)(sp:Sp):Prop where
 ex:∃f fd,G8 P w K mg base CX0 k f fd ps sp/\mg x=some (.ref f)/\V5 K (.ref f)=true/\a6j K fd ps []
theorem d0m{k:Nat}{x:Str}{e:Expr}{es:List Expr}{t:TA}{p:Pos}(C:F4 X.prog X.w X.K X.mg X.base k x ps sp)(hr:W0 j X.A)(hk:k<=j)(hg:Gl X x)(ha:PA X (e::es) t)
  (hdb:(x == ("__debug__" : Str))=false:=by decide) (he:j9 (e::es) X.env=(false,eval e X.env)::j9 es X.env:=by rfl) (hpl:(a1y pos (j9 es X.env)).any (·.1)=false:=by rfl) :
  PE X (.Call (.Name x p) (e::es) [] pos) (z4 sp [] E0 t):=by
 obtain⟨f,fd,F,hm,hkp,hb⟩:=C.ex
 exact c7J F (hr.mono hk) hg hm hkp hb .nil b9l ha hdb he hpl
theorem c3N{P:D0}{K:Fg}{mg:Str->Option Value}{base:Heap}{k:Nat}{x q:Str}{st:Stmt}{f:Addr}{fd:a1g}(F:Fun K x q st f fd)(O:G8 P w K mg base CX0 k f fd ps sp)
  (hm:mg x=some (.ref f)) (hb:a6j K fd ps []):F4 P w K mg base k x ps sp:=⟨f,fd,O,hm,F.kp,hb⟩
def a6B:List V->Hp->VK->Prop:=fun xs H Q=>match xs with
 | [.ref p]=>match H p with
  | some (.lst ys)=>∀l,H l=none->Q (.ref l) (upd H l (.lst ys))
  | some (.tup ys)=>∀l,H l=none->Q (.ref l) (upd H l (.lst ys))
  | _=>False
 | _=>False
theorem c1E:a0S X (.type "list") a6B:=b8e.imp fun xs H Q h=>by
 unfold a6B at h
 split at h
 ·split at h
  ·exact⟨_,_,rfl,.inl (SqL.of (by assumption)),h⟩
  ·exact⟨_,_,rfl,.inr (SqT.of (by assumption)),h⟩
  ·exact h.elim
 ·exact h.elim
theorem b4f:∀ {kvs:List (Key×V)} {k:Key} {x:V},(kvs.map (·.1)).Nodup->(k,x)∈kvs->a7B kvs k=some x
 | [],_,_,_,h=>by cases h
 | (k0,x0)::r,k,x,nd,h=>by
  have nd':k0∉r.map (·.1)/\(r.map (·.1)).Nodup:=a1A.mp nd
  unfold a7B
  rw[a0T]
  by_cases e:k0=k
  ·rw[show decide (((k0,x0):Key×V).1=k)=true from d5l e]
   rcases u5.mp h with z | z
   ·cases z;rfl
   ·exact absurd (E7.mpr ⟨_,z,e.symm⟩) nd'.1
  ·rw[show decide (((k0,x0):Key×V).1=k)=false from d5k e]
   rcases u5.mp h with z | z
   ·cases z;exact absurd rfl e
   ·exact b4f nd'.2 z
end
def Its(x:Str):It:=⟨fun i _=>i<x.length,fun i H v H'=>H'=H/\∃c,x.cps[i]? = some c/\v=.str ⟨#[c]⟩,fun i _=>x.length<=i⟩
theorem c4J{P:D0}{K:Fg}{tg:Expr}(x:Str)(t:Tok)(it:Addr):b6h P w K tg (Its x) [it] it (fun i h=>h.IsStrIter it (a6L x) x t i) where
 mem:=by simp
 obj:=fun i h st b hb=>by
  have e:b=it:=by simpa using hb
  subst e
  obtain⟨o,e,c,d⟩:=st
  exact⟨o,e,fun v z=>by rw[d]at z;cases z⟩
 keep:=fun i h h' st k=>let⟨o,ho,r⟩:=st; ⟨o,k it (by simp) o ho,r⟩
 item:=by
  intro X hP hw hK hc i pins s σ H E I hf st hg
  subst hP hw hK
  have hi:i<x.cps.size:=hg
  obtain⟨f0,f1,f2,f3,f4,f5⟩:=hf it (by simp)
  have hx:x.cps[i]? = some x.cps[i]:=by simp[hi]
  have fin:∀h',h'.IsStrIter it (a6L x) x t (i+1)->Heap.SameBut it s.heap h'->∃u,some (Value.str ⟨#[x.cps[i]]⟩ s.toks)=some u /\
    wpAny (model X.prog X.w) X.A (a8r tg (.ref it) u) (fun _ s2=>∃v H',Inv X pins σ H' s2/\L5 v u/\(Its x).yld i H v H'/\s2.heap.IsStrIter it (a6L x) x t (i+1)/\∀b∈[it],H' b=none) E { s with heap:=h',toks:=s.toks+1 }:=by
   intro h' st' sb
   have I1:Inv X pins σ H { s with heap:=h',toks:=s.toks+1 }:=I.turned (t':=s.toks+1) (fun b o hb e=>(sb.2 b hb).trans e) f0 f1 f3 f4 f5
   obtain⟨o,e,c,d⟩:=id st'
   refine⟨_,rfl,b9H (s:={ s with heap:=h',toks:=s.toks+1 }) e c d ?_ ⟨.str ⟨#[x.cps[i]]⟩,H,I1,⟨_,rfl⟩,⟨rfl,_,hx,rfl⟩,st',fun b hb=>(hf b hb).1⟩⟩
   unfold a6L
   split <;> decide
  unfold a6L at st fin ⊢
  split at st
  ·rename_i ha
   simp only[ha]at fin ⊢
   exact wpAny_pyNext_ascii_item st hx fun h' st' sb=>fin h' st' sb
  ·rename_i ha
   simp only[ha]at fin ⊢
   exact wpAny_pyNext_wide_item st hx fun h' st' sb=>fin h' st' sb
 done:=by
  intro X hP hw hK hc i pins s σ H E I hf st hg
  subst hP hw hK
  have hi:x.cps.size<=i:=hg
  obtain⟨f0,f1,f2,f3,f4,f5⟩:=hf it (by simp)
  have hx:x.cps[i]? = none:=by simp[hi]
  unfold a6L at st
  split at st
  ·exact wpAny_pyNext_ascii_end (I.ok.hd hc) st hx fun h' eb=>⟨rfl,I.turned (t':=s.toks) (fun b o hb e=>eb b o hb e) f0 f1 f3 f4 f5⟩
  ·exact wpAny_pyNext_wide_end (I.ok.hd hc) st hx fun h' eb=>⟨rfl,I.turned (t':=s.toks) (fun b o hb e=>eb b o hb e) f0 f1 f3 f4 f5⟩
 self:=fun _ _ _ _ _ st h=>by
  unfold a6L at st
  split at st
  ·exact wpAny_pyIter_striter_ascii st h
  ·exact wpAny_pyIter_striter_wide st h
def c8u(tl:TE):TI:=fun σ H R=>tl σ H fun v H1=>∃x,v=.str x/\R (Its x) H1
section
variable {tg:Expr}
theorem d0h{l:Expr}{tl:TE}(hl:PE X l tl):PI X tg l (c8u tl):=by
 intro pins s σ H R I h
 refine thn (hl pins s σ H _ I h) fun v s1 ⟨y,H1,I1,r1,x,e,q1⟩=>?_
 subst e
 obtain⟨t,rfl⟩:=r1
 refine wpAny_pyIter_strU ?_
 have k:∀b u,s1.heap.get? b=some u->(s1.heap.push { cls:=.type (a6L x),data:=.fields #[.str x t,.int 0 0] }).get? b=some u:=fun b u q=>j4 _ q
 refine⟨s1.heap.objs.size,[s1.heap.objs.size],_,Its x,H1,rfl,I1.kept (t':=s1.toks) k,c4J x t _,⟨_,A5 _ rfl,rfl,rfl⟩,fun b hb=>?_,q1⟩
 have e:b=s1.heap.objs.size:=by simpa using hb
 subst e
 exact I1.fpOk (j6 _) I1.fresh
def a1q:List V->Option (List Bool)
 | []=>some []
 | .bl b::r=>(a1q r).map (b :: ·)
 | _=>none
theorem b2F:∀ {xs:List V} {bs:List Bool} {i:Nat} {x:V},a1q xs=some bs->xs[i]? = some x->∃b,bs[i]? = some b/\x=.bl b
 | [],_,_,_,_,h=>by simp at h
 | y::r,bs,i,x,e,h=>by
  cases y with
  | bl b=>
   cases e2:a1q r with
   | none=>simp[a1q,e2]at e
   | some bs2=>
    simp[a1q,e2]at e
    subst e
    cases i with
    | zero=>simp at h;exact⟨b,rfl,h.symm⟩
    | succ i=>
     obtain⟨b',h1,h2⟩:=b2F (i:=i) e2 (by simpa using h)
     exact⟨b',by simpa using h1,h2⟩
  | _=>simp[a1q]at e
theorem b2E:∀ {xs:List V} {bs:List Bool},a1q xs=some bs->xs.length=bs.length
 | [],_,e=>by cases e;rfl
 | y::r,bs,e=>by
  cases y with
  | bl b=>
   cases e2:a1q r with
   | none=>simp[a1q,e2]at e
   | some bs2=>
    simp[a1q,e2]at e
    subst e
    simp[b2E e2]
  | _=>simp[a1q]at e
theorem c3Z(bs:List Bool):((t8 bs.length).all fun i=>(bs[i]?).getD true)=bs.all id:=by
 rw[a2p,X5,X5]
 constructor
 ·intro h b hb
  obtain⟨i,hi,rfl⟩:=List.mem_iff_getElem.mp hb
  have:=h i (by simpa using hi)
  simpa[hi]using this
 ·intro h i hi
  have hl:i<bs.length:=by simpa using hi
  have:=h bs[i] (M3 _)
  simpa[hl]using this
def b5T:List V->Hp->VK->Prop:=fun vs H Q=>match vs with
 | [.ref l]=>match H l with
  | some (.lst xs)=>∃bs,a1q xs=some bs/\Q (.bl (bs.all id)) H
  | _=>False
 | _=>False
theorem c3S(hc:X.calm=true):a0S X (.builtin "all") b5T:=fun pins s σ H xs us Q I r h=>by
 unfold b5T at h
 split at h
 ·split at h
  ·rename_i l _ ys hl
   obtain⟨bs,e,q⟩:=h
   obtain⟨u,rfl,ru⟩:=a8d r
   cases ru
   obtain⟨its,rv,pl,hz⟩:=I.list (SqL.of hl)
   have hlt:l<s.heap.objs.size:=by obtain⟨_,e,_⟩:=pl.isList;exact l9 e
   have hlen:=rv.length
   have hbl:=b2E e
   refine call_all_walk (a6K pl.isList ?_)
   refine⟨s.heap.objs.size,[s.heap.objs.size,l],[s.heap.objs.size],its.toArray.size,_,_,fun i=>(bs[i]?).getD true,rfl,Walks.list (A:=X.A.in1) (I.ok.hd hc) _ l (z9 hlt) its.toArray,
    ⟨⟨_,A5 _ rfl,rfl,rfl⟩,pl.isList.push _⟩,fun i v s' Q' E' hP hQ=>?_,fun h' tk hk=>?_⟩
   ·have hP:its[i]? = some v:=by simpa using hP
    have hi:i<ys.length:=by rw[hlen];exact(t6.mp hP).1
    have ey:ys[i]? = some ys[i]:=by simp[hi]
    obtain⟨b,eb,ez⟩:=b2F e ey
    obtain⟨u,eu,ru⟩:=rv.get ey
    rw[hP]at eu
    cases eu
    rw[ez]at ru
    cases ru
    simp only[eb,a5m]at hQ
    exact V8 hQ
   ·have e2:((t8 its.toArray.size).all fun i=>(bs[i]?).getD true)=bs.all id:=by
     rw[p9,<-hlen,hbl]
     exact c3Z bs
    rw[e2]
    exact⟨.bl _,H,I.kept (t':=tk) fun b x e=>hk b x (fun hm=>by rw[l6.mp hm]at e;exact Q8 _ (l9 e)) (j4 _ e),rfl,q⟩
  ·exact h.elim
 ·exact h.elim
end
section
theorem Inv.turnedL{h':Heap}{t':Nat}(I:Inv X pins σ H s)(k:∀b o,b∉fp->s.heap.get? b=some o->h'.get? b=some o)(hf:∀b∈fp,a9w X pins H b) :
  Inv X pins σ H { s with heap:=h',toks:=t' }:=by
 have nit:∀b u,H b=some u->b∉fp:=fun b u e z=>by rw[(hf b z).1]at e;cases e
 refine I.step (g':=s.gens) (d':=s.drawn) (ch:=fp) (fun b hb=>?_) (fun b o _ _ hc e _=>k b o hc e) (fun b o _ _ hc e _=>⟨o.slots,k b o hc e⟩) (fun _ _ _ _ n=>n)
  (fun b o hc e=>⟨o,k b o hc e⟩) (fun _ _ e=>e) (fun _ _ _ e=>e) (fun b ps e=>⟨#[],by rw[e];simp⟩) (fun m hm=>?_) (fun b u e=>?_) I.bare
 ·obtain⟨_,f1,_,f3,f4,f5⟩:=hf b hb
  exact⟨f3,f1,f4,f5⟩
 ·obtain⟨o,es,ep,ho,r⟩:=hm
  exact⟨o,es,ep,k _ o (fun z=>(hf _ z).2.1 rfl) ho,r⟩
 ·refine(I.hok b u e).stay (fun c v hc q=>k c v ?_ q) (fun _ q=>q) fun _ _ q=>q
  rcases hc with z | z
  ·rw[z];exact nit b u e
  ·exact nit c _ z
theorem Inv.pairL{h':Heap}{t':Nat}{x y:V}{v:Value}(I:Inv X pins σ H s)(hf:∀b∈fp,a9w X pins H b)(fl:∀b∈fp,b≠s.heap.objs.size)
  (rx:L5 x u) (ry:L5 y v) (ht:h'.get? s.heap.objs.size=some { cls:=.type "tuple",data:=.seq #[u,v] }) (k:∀b o,b∉fp->s.heap.get? b=some o->h'.get? b=some o) :
  Inv X pins σ (upd H s.heap.objs.size (.tup [x,y])) { s with heap:=h',toks:=t' }:=by
 have I1:Inv X pins σ (upd H s.heap.objs.size (.tup [x,y])) { s with heap:=s.heap.push { cls:=.type "tuple",data:=.seq #[u,v] },toks:=s.toks }:=
  I.laid (fun b u e=>j4 _ e) (j6 _) ⟨by show 2<=u9;decide,[u,v],.cons rx (.cons ry .nil),⟨_,A5 _ rfl,rfl,_,rfl⟩⟩
 refine Inv.turnedL (s:={ s with heap:=s.heap.push { cls:=.type "tuple",data:=.seq #[u,v] },toks:=s.toks }) (fp:=fp) I1 (fun b o hb e=>?_) fun b hb=>⟨by rw[i9 (fl b hb)];exact(hf b hb).1,(hf b hb).2⟩
 by_cases hz:b=s.heap.objs.size
 ·subst hz
  have e2:=A5 s.heap (o:={ cls:=.type "tuple",data:=.seq #[u,v] }) rfl
  rw[show(s.heap.push { cls:=.type "tuple",data:=.seq #[u,v] }).get? s.heap.objs.size=some o from e]at e2
  cases e2
  exact ht
 ·refine k b o hb ?_
  have e:(s.heap.push { cls:=.type "tuple",data:=.seq #[u,v] }).get? b=some o:=e
  rwa [Heap.get?_push_ne _ _ _ hz]at e
def Ite(K:Fg)(a:Addr):It:=
 ⟨fun i H=>∃xs x,SqL K H a xs/\xs[i]? = some x,fun i H v H'=>∃p x,H p=none/\v=.ref p/\H'=upd H p (.tup [.int i,x])/\∀xs,SqL K H a xs->xs[i]? = some x,fun i H=>∃xs,SqL K H a xs/\xs.length<=i⟩
theorem c2N{P:D0}{K:Fg}{x1}(a e it:Addr)(hne:e≠it):b6h P w K (.Tuple elts x1 tp) (Ite K a) [e,it] e (fun i h=>(∃old,IsEnum h e it i old)/\h.IsListIter it a i) where
 mem:=by simp
 obj:=fun i h st b hb=>by
  obtain⟨⟨old,he⟩,o,e1,c,d⟩:=st
  rcases u5.mp hb with rfl | hb
  ·exact⟨_,he,fun v z=>by
    have z':Data.fields _=Data.cell v:=z
    cases z'⟩
  ·have:b=it:=by simpa using hb
   subst this
   exact⟨o,e1,fun v z=>by rw[d]at z;cases z⟩
 keep:=fun i h h' st k=>by
  obtain⟨⟨old,he⟩,hi⟩:=st
  exact⟨⟨old,k e (by simp) _ he⟩,hi.at fun o q=>k it (by simp) o q⟩
 item:=by
  intro X hP hw hK hc i pins s σ H E I hf st hg
  subst hP hw hK
  obtain⟨⟨old,he⟩,hit⟩:=st
  obtain⟨xs,x,hq,hx⟩:=hg
  obtain⟨its,rv,p,hz⟩:=I.list hq
  obtain⟨u,hu,ru⟩:=rv.get hx
  refine wpAny_pyNext_enum_item he hit p.isList (x:=u) (by simpa using hu) hne fun h1 ho hit1 hT hsz hk=>?_
  refine⟨_,rfl,?_⟩
  refine wpAny_letOwnedTupleGo_enum (s:={ s with heap:=h1,toks:=s.toks+1 }) ho fun h2 he2 hs2=>?_
  have hs2:Heap.SameBut e h1 h2:=hs2
  have le:e≠s.heap.objs.size:=z9 (l9 he)
  have li:it≠s.heap.objs.size:=by obtain⟨_,q,_⟩:=hit;exact z9 (l9 q)
  have fl:∀b∈[e,it],b≠s.heap.objs.size:=fun b hb=>by
   rcases u5.mp hb with rfl | hb
   ·exact le
   ·have:b=it:=by simpa using hb
    subst this;exact li
  have I2:=I.pairL (h':=h2) (t':=s.toks+1) (x:=.int i) (y:=x) (u:=.int i s.toks) (v:=u) hf fl ⟨_,rfl⟩ ru ((hs2.2 _ (Ne.symm le)).trans hT) fun b o hb q=>by
   have n1:b≠e:=fun z=>hb (by simp[z])
   have n2:b≠it:=fun z=>hb (by simp[z])
   exact(hs2.2 b n1).trans (hk b o n1 n2 q)
  refine⟨.ref s.heap.objs.size,_,I2,rfl,⟨_,x,I.fresh,rfl,rfl,fun ys hy=>by rw[I.list_inj hy hq];exact hx⟩,⟨⟨u,by simpa using he2⟩,hit1.at fun o q=>(hs2.2 it (Ne.symm hne)).trans q⟩,fun b hb=>?_⟩
  rw[i9 (fl b hb)];exact(hf b hb).1
 done:=by
  intro X hP hw hK hc i pins s σ H E I hf st hg
  subst hP hw hK
  obtain⟨⟨old,he⟩,hit⟩:=st
  obtain⟨xs,hq,hx⟩:=hg
  obtain⟨its,rv,p,hz⟩:=I.list hq
  obtain⟨f0,f1,f2,f3,f4,f5⟩:=hf it (by simp)
  have hl:=rv.length
  exact wpAny_pyNext_enum_end (I.ok.hd hc) he hit p.isList (by simp;omega) fun h' eb=>⟨rfl,I.turned (t':=s.toks) (fun b o hb e=>eb b o hb e) f0 f1 f3 f4 f5⟩
 self:=fun _ _ _ _ _ st h=>by
  obtain⟨⟨old,he⟩,_⟩:=st
  exact wpAny_pyIter_enum he h
def a8j(K:Fg)(ta:TA):TI:=fun σ H R=>ta σ H fun vs H1=>∃a,vs=[.ref a]/\(∃xs,SqL K H1 a xs)/\R (Ite K a) H1
theorem c7D{x1}{a:Expr}{ta:TA}(hg:Gl X "enumerate")(hm:X.mg "enumerate" = none)(ha:PA X [a] ta)(hs:j9 [a] X.env=[(false,eval a X.env)]:=by rfl) :
  PI X (.Tuple elts x1 tp) (.Call (.Name "enumerate" p) [a] [] pos) (a8j X.K ta):=by
 intro pins s σ H R I h
 refine Call_ (b2t I hg hm boot_enumerate (a1X (thn (ha pos pins s σ H _ I h) fun us s1 ⟨vs,H1,I1,r1,q1⟩=>?_) hs rfl))
 obtain⟨b,e,⟨xs,hq⟩,q⟩:=q1
 subst e
 cases r1 with
 | cons r rr=>
  cases rr
  cases r
  obtain⟨its,rv,pl,hz⟩:=I1.list hq
  refine call_enumerate_list pl.isList fun h' he hit hsz hk=>?_
  have I2:Inv X pins σ H1 { s1 with heap:=h' }:=I1.kept (t':=s1.toks) hk
  refine wpAny_pyIter_enum he ⟨_,[s1.heap.objs.size+1,s1.heap.objs.size],_,_,H1,rfl,I2,c2N b (s1.heap.objs.size+1) s1.heap.objs.size (Nat.succ_ne_self _),⟨⟨_,he⟩,hit⟩,fun c hc=>?_,q⟩
  rcases u5.mp hc with rfl | hc
  ·exact I1.fpOk (by omega) (I1.hok.fresh (by omega))
  ·have:c=s1.heap.objs.size:=by simpa using hc
   subst this
   exact I1.fpOk (j6 _) (I1.hok.fresh (j6 _))
def Itz(K:Fg)(a b:Addr):It:=
 ⟨fun i H=>∃xs ys x y,SqL K H a xs/\SqL K H b ys/\xs[i]? = some x/\ys[i]? = some y,fun i H v H'=>∃p x y,H p=none/\v=.ref p/\H'=upd H p (.tup [x,y])/\(∀xs,SqL K H a xs->xs[i]? = some x)/\∀ys,SqL K H b ys->ys[i]? = some y,
  fun i H=>∃xs ys,SqL K H a xs/\SqL K H b ys/\(xs.length<=i\/ys.length<=i)⟩
theorem a0H{h:Heap}{a b:Addr}{o o':Obj}(h1:h.get? a=some o)(h2:h.get? b=some o')(hc:o.cls≠o'.cls):a≠b:=fun z=>by
 subst z;rw[h1]at h2;cases h2;exact hc rfl
theorem c4I{P:D0}{K:Fg}{x1}(a b z TI TO i1 i2:Addr)(n1:TI≠z)(n2:TO≠z)(n3:i1≠z)(n4:i2≠z)(n5:TI≠TO)(n6:TI≠i1)(n7:TI≠i2)(n8:TO≠i1)(n9:TO≠i2)(n10:i1≠i2) :
  b6h P w K (.Tuple elts x1 tp) (Itz K a b) [z,TI,TO,i1,i2] z (fun i h=>IsZip h z TI TO .none/\IsPair h TI (.ref i1) (.ref i2)/\(∃u v,IsPair h TO u v)/\h.IsListIter i1 a i/\h.IsListIter i2 b i) where
 mem:=by simp
 obj:=fun i h st c hb=>by
  obtain⟨hz,hTI,⟨u,v,hTO⟩,⟨o1,e1,c1,d1⟩,⟨o2,e2,c2,d2⟩⟩:=st
  simp only[u5,Q7,or_false]at hb
  rcases hb with rfl | rfl | rfl | rfl | rfl
  ·exact⟨_,hz,fun v z=>by
    have z':Data.fields _=Data.cell v:=z
    cases z'⟩
  ·exact⟨_,hTI,fun v z=>by
    have z':Data.seq _ _=Data.cell v:=z
    cases z'⟩
  ·exact⟨_,hTO,fun v z=>by
    have z':Data.seq _ _=Data.cell v:=z
    cases z'⟩
  ·exact⟨o1,e1,fun v z=>by rw[d1]at z;cases z⟩
  ·exact⟨o2,e2,fun v z=>by rw[d2]at z;cases z⟩
 keep:=fun i h h' st k=>by
  obtain⟨hz,hTI,⟨u,v,hTO⟩,h1,h2⟩:=st
  exact⟨k z (by simp) _ hz,k TI (by simp) _ hTI,⟨u,v,k TO (by simp) _ hTO⟩,h1.at fun o q=>k i1 (by simp) o q,h2.at fun o q=>k i2 (by simp) o q⟩
 item:=by
  intro X hP hw hK hc i pins s σ H E I hf st hg
  subst hP hw hK
  obtain⟨hz,hTI,⟨u,v,hTO⟩,h1,h2⟩:=st
  obtain⟨xs,ys,x,y,hqa,hqb,hx,hy⟩:=hg
  obtain⟨ia,ra,pa,za⟩:=I.list hqa
  obtain⟨ib,rb,pb,zb⟩:=I.list hqb
  obtain⟨ux,hux,rux⟩:=ra.get hx
  obtain⟨uy,huy,ruy⟩:=rb.get hy
  obtain⟨oa,la,ca,_⟩:=id pa.isList
  obtain⟨ob,lb,cb,_⟩:=id pb.isList
  obtain⟨o1,e1,c1,_⟩:=id h1
  obtain⟨o2,e2,c2,_⟩:=id h2
  have D:ZipApart z TI TO i1 i2 a b:=⟨n1,n2,n3,n4,n5,n6,n7,n8,n9,n10,
   a0H la hz (by rw[ca];intro z;injection z with z;revert z;decide),a0H la hTO (by rw[ca];intro z;injection z with z;revert z;decide),a0H la e1 (by rw[ca,c1];intro z;injection z with z;revert z;decide),a0H la e2 (by rw[ca,c2];intro z;injection z with z;revert z;decide),
   a0H lb hz (by rw[cb];intro z;injection z with z;revert z;decide),a0H lb hTO (by rw[cb];intro z;injection z with z;revert z;decide),a0H lb e1 (by rw[cb,c1];intro z;injection z with z;revert z;decide),a0H lb e2 (by rw[cb,c2];intro z;injection z with z;revert z;decide)⟩
  refine wpAny_pyNext_zip_item D hz hTI hTO h1 h2 pa.isList pb.isList (x:=ux) (y:=uy) (by simpa using hux) (by simpa using huy) fun h3 a1 a2 a3 a4 a5 a6 hk=>?_
  refine⟨_,rfl,?_⟩
  refine wpAny_letOwnedTupleGo_zip (s:={ s with heap:=h3 }) a1 fun h4 hz4 hs4=>?_
  have hs4:Heap.SameBut z h3 h4:=hs4
  have lz:z≠s.heap.objs.size:=z9 (l9 hz)
  have fl:∀c∈[z,TI,TO,i1,i2],c≠s.heap.objs.size:=fun c hc=>by
   simp only[u5,Q7,or_false]at hc
   rcases hc with rfl | rfl | rfl | rfl | rfl
   ·exact lz
   ·exact z9 (l9 hTI)
   ·exact z9 (l9 hTO)
   ·exact z9 (l9 e1)
   ·exact z9 (l9 e2)
  have I2:=I.pairL (h':=h4) (t':=s.toks) (x:=x) (y:=y) (u:=ux) (v:=uy) hf fl rux ruy ((hs4.2 _ (Ne.symm lz)).trans a5) fun c o hc q=>by
   have m1:c≠z:=fun z=>hc (by simp[z])
   have m3:c≠TO:=fun z=>hc (by simp[z])
   have m4:c≠i1:=fun z=>hc (by simp[z])
   have m5:c≠i2:=fun z=>hc (by simp[z])
   exact(hs4.2 c m1).trans (hk c o m1 m3 m4 m5 q)
  refine⟨.ref s.heap.objs.size,_,I2,rfl,⟨_,x,y,I.fresh,rfl,rfl,fun zs hy=>by rw[I.list_inj hy hqa];exact hx,fun zs hy'=>by rw[I.list_inj hy' hqb];exact hy⟩,
   ⟨hz4,hs4.extBut _ _ n1 (hk _ _ n1 n5 n6 n7 hTI),⟨_,_,hs4.extBut _ _ n2 a2⟩,a3.extBut hs4.extBut n3,a4.extBut hs4.extBut n4⟩,fun c hc=>?_⟩
  rw[i9 (fl c hc)];exact(hf c hc).1
 done:=by
  intro X hP hw hK hc i pins s σ H E I hf st hg
  subst hP hw hK
  obtain⟨hz,hTI,⟨u,v,hTO⟩,h1,h2⟩:=st
  obtain⟨xs,ys,hqa,hqb,hx⟩:=hg
  obtain⟨ia,ra,pa,za⟩:=I.list hqa
  obtain⟨ib,rb,pb,zb⟩:=I.list hqb
  obtain⟨oa,la,ca,_⟩:=id pa.isList
  obtain⟨ob,lb,cb,_⟩:=id pb.isList
  obtain⟨o1,e1,c1,_⟩:=id h1
  obtain⟨o2,e2,c2,_⟩:=id h2
  have D:ZipApart z TI TO i1 i2 a b:=⟨n1,n2,n3,n4,n5,n6,n7,n8,n9,n10,
   a0H la hz (by rw[ca];intro z;injection z with z;revert z;decide),a0H la hTO (by rw[ca];intro z;injection z with z;revert z;decide),a0H la e1 (by rw[ca,c1];intro z;injection z with z;revert z;decide),a0H la e2 (by rw[ca,c2];intro z;injection z with z;revert z;decide),
   a0H lb hz (by rw[cb];intro z;injection z with z;revert z;decide),a0H lb hTO (by rw[cb];intro z;injection z with z;revert z;decide),a0H lb e1 (by rw[cb,c1];intro z;injection z with z;revert z;decide),a0H lb e2 (by rw[cb,c2];intro z;injection z with z;revert z;decide)⟩
  have la':=ra.length
  have lb':=rb.length
  have hend:ia.toArray[i]? = none\/ib.toArray[i]? = none:=by
   rcases hx with hx | hx
   ·left;simp;omega
   ·right;simp;omega
  refine wpAny_pyNext_zip_end (I.ok.hd hc) D hz hTI hTO h1 h2 pa.isList pb.isList hend fun h' hk=>⟨rfl,?_⟩
  refine I.turnedL (t':=s.toks) (fp:=[z,TI,TO,i1,i2]) (fun c o hc q=>?_) hf
  exact hk c o (fun z=>hc (by simp[z])) (fun z=>hc (by simp[z])) (fun z=>hc (by simp[z])) (fun z=>hc (by simp[z])) q
 self:=fun _ _ _ _ _ st h=>wpAny_pyIter_zip st.1 h
def c6h(K:Fg)(ta:TA):TI:=fun σ H R=>ta σ H fun vs H1=>∃a b,vs=[.ref a,.ref b]/\(∃xs,SqL K H1 a xs)/\(∃xs,SqL K H1 b xs)/\R (Itz K a b) H1
theorem d0f{x1}{a b:Expr}{ta:TA}(hg:Gl X "zip")(hm:X.mg "zip" = none)(ha:PA X [a,b] ta)(hs:j9 [a,b] X.env=[(false,eval a X.env),(false,eval b X.env)]:=by rfl)(hs2:j9 [b] X.env=[(false,eval b X.env)]:=by rfl) :
  PI X (.Tuple elts x1 tp) (.Call (.Name "zip" p) [a,b] [] pos) (c6h X.K ta):=by
 intro pins s σ H R I h
 refine Call_ (b2t I hg hm boot_zip (a1X (thn (ha pos pins s σ H _ I h) fun us s1 ⟨vs,H1,I1,r1,q1⟩=>?_) (by rw[hs,hs2]) (by rw[hs2];rfl)))
 obtain⟨c,d,e,⟨xs,hq⟩,⟨ys,hq'⟩,q⟩:=q1
 subst e
 cases r1 with
 | cons r rr=>
  cases rr with
  | cons r' rr=>
   cases rr
   cases r
   cases r'
   obtain⟨ia,ra,pa,za⟩:=I1.list hq
   obtain⟨ib,rb,pb,zb⟩:=I1.list hq'
   refine call_zip_2 pa.isList pb.isList fun h' hz hTI hTO h1 h2 hsz hk=>?_
   have I2:Inv X pins σ H1 { s1 with heap:=h' }:=I1.kept (t':=s1.toks) hk
   have N:∀n:Nat,n+2≠n+4/\n+3≠n+4/\n≠n+4/\n+1≠n+4/\n+2≠n+3/\n+2≠n/\n+2≠n+1/\n+3≠n/\n+3≠n+1/\n≠n+1:=fun n=>by omega
   obtain⟨m1,m2,m3,m4,m5,m6,m7,m8,m9,m10⟩:=N s1.heap.objs.size
   refine wpAny_pyIter_zip hz ⟨_,[s1.heap.objs.size+4,s1.heap.objs.size+2,s1.heap.objs.size+3,s1.heap.objs.size,s1.heap.objs.size+1],_,_,H1,rfl,I2,
    c4I c d (s1.heap.objs.size+4) (s1.heap.objs.size+2) (s1.heap.objs.size+3) s1.heap.objs.size (s1.heap.objs.size+1) m1 m2 m3 m4 m5 m6 m7 m8 m9 m10,⟨hz,hTI,⟨_,_,hTO⟩,h1,h2⟩,fun y hy=>?_,q⟩
   have:s1.heap.objs.size<=y:=by
    simp only[u5,Q7,or_false]at hy
    rcases hy with rfl | rfl | rfl | rfl | rfl
    ·exact a8Z _ _
    ·exact a8Z _ _
    ·exact a8Z _ _
    ·exact j6 _
    ·exact a8Z _ _
   exact I1.fpOk this (I1.hok.fresh this)
end
def b7W(x y:Str)(N:List Str):List Str:=N.map fun z=>if z=x then ("." : Str)++x else if z=y then ("." : Str)++y else z
def Y3(X:Cx)(scope:Scope)(cl:List (Str×Addr))(C:Addr)(x y:Str)(fp:List Addr)(s3:k8)(H3:Hp):Cx:=
 { X with N:=x::y::b7W x y X.N,s₀:=s3,H₀:=H3,env:=c4g scope cl C X.env,outer:=X.stack,stack:=X.stack,ex:=fp,fn:=fun _=>false,pn:=[],xe:=fun _ _=>False }
structure a4Y(N:List Str)(osc sc:Scope)(x y:Str):Prop where
 kind:sc.kind=.function
 cell:∀y∈sc.names,y.2≠.cell
 names:∀y∈sc.names,y.2=.local->sc.names.lookup y.1=some .local
 own:sc.names.lookup x=some .local
 own2:sc.names.lookup y=some .local
 fr:∀y∈sc.names,y.2=.free->osc.names.lookup y.1=some .cell\/osc.names.lookup y.1=some .free
 see:∀z∈b7W x y N,sc.names.lookup z≠some .local
 dot:sc.names.lookup (("." : Str)++x)=none
 dot2:sc.names.lookup (("." : Str)++y)=none
 nd:(x::y::b7W x y N).Nodup
def a7D(K:Fg)(wi:TI)(tt:TT)(te:TE):TE:=fun σ H Q=>wi σ H fun J H1=>∀D,H1 D=none->∃W:Nat->Nat->List V->Hp->Prop,
 (∃m,W 0 m [] (upd H1 D (.lst [])))/\∀i m ys H2,W i m ys H2->H2 D=some (.lst ys) /\
  ((J.stop i H2 /\ Q (.ref D) H2) \/ (J.go i H2 /\ ∀ x H3,J.yld i H2 x H3 -> ∃ a u v,x = .ref a /\ SqT K H3 a [u,v] /\ tt (some u :: some v :: σ) H3 fun ok H4 => if ok = true then
    te (some u::some v::σ) H4 (fun y H5=>H5 D=some (.lst ys)/\ys.length<u9/\∃m',m'<m/\W (i+1) m' (ys++[y]) (upd H5 D (.lst (ys++[y]))))
    else ∃m',m'<m/\W (i+1) m' ys H4))
section
variable {x x2:Str}{px py2 pt:Pos}{kt}
theorem c3G{s3:k8}{h4:Heap}{tk:Nat}(hc:a4Y X.N X.env.scope scope x x2)(I:Inv X pins σ H s3)
  (hcl:∀y c,cl.lookup y=some c->X.env.cells.lookup y=some c) (hcl2:∀y,(y,NameKind.free)∈scope.names->(cl.lookup y).isSome=true)
  (fpo:∀b∈fp,a9w X pins H b) (fpl:∀b∈fp,b<s3.heap.objs.size)
  (hn:h4.Ns s3.heap.objs.size (fun _=>none)) (k:∀b o,s3.heap.get? b=some o->h4.get? b=some o) :
  Inv (Y3 X scope cl s3.heap.objs.size x x2 fp s3 H) [] (none::none::σ) H { s3 with heap:=h4,toks:=tk }:=by
 have low:∀x y,(Y3 X scope cl s3.heap.objs.size x x2 fp s3 H).env.cells.lookup y=cl.lookup y:=fun _ _=>rfl
 have below:∀y c,cl.lookup y=some c->c<s3.heap.objs.size:=fun y c e=>by
  obtain⟨v,q⟩:=I.cell y c (hcl y c e)
  exact q.lt
 have kinds:∀y,((Y3 X scope cl s3.heap.objs.size x x2 fp s3 H).env.kindOf y=some .cell\/(Y3 X scope cl s3.heap.objs.size x x2 fp s3 H).env.kindOf y=some .free)->scope.names.lookup y=some .free:=by
  intro y hy
  rcases hy with hy | hy
  ·rcases Y1 hy with q | ⟨q,_⟩
   ·exact absurd rfl (hc.cell _ (E6 q))
   ·exact q
  ·rcases Y1 hy with q | ⟨q,z⟩
   ·exact q
   ·cases z
 refine⟨⟨I.ok.mod,?_,I.ok.glob,I.ok.blt,j6 _,fun y z c h1 h2=>?_,fun y hy=>?_,fun y c h=>?_,I.ok.hd,I.ok.frames,.inl rfl,fun b hb=>⟨?_,fun y c e z=>?_⟩,fun b o e=>I.bs b o e,D4 I.ok.bsz I.sz,fun b o e hb=>?_,fun b hb hf=>?_,I.stack,I.stkFree⟩,
  rfl,I.bare,Un.kept k,⟨_,hn,fun i y v h1 h2 h3=>?_⟩,fun y c e=>?_,I.fresh,fun y c e=>?_,fun p hp=>absurd (show p∈([]:List (Addr×Obj))from hp) (by simp),I.hok.kept k,?_⟩
 ·exact hc.kind
 ·exact I.ok.inj y z c (hcl _ _ h1) (hcl _ _ h2)
 ·have:=hcl2 y (E6 (kinds y hy))
  exact a1F.mp this
 ·cases h
 ·exact z9 (fpl b hb)
 ·exact(fpo b hb).2.2.2.2.1 y c (hcl y c e) z
 ·rcases(fpo b hb).2.2.2.1 with q | q
  ·exact I.ok.noex b o e q
  ·exact absurd (D7 (l9 (I.ok.bs b o e).1) q) (Q8 _)
 ·rcases u5.mp (I.stkSub b hf)with e | e
  ·exact(fpo b hb).2.1 e
  ·exact(fpo b hb).2.2.1 e
 ·-- the names
  have h1:(x::x2::b7W x x2 X.N)[i]? = some y:=h1
  cases i with
  | zero=>cases h2
  | succ i=>
   cases i with
   | zero=>cases h2
   | succ i=>
   have h1:(b7W x x2 X.N)[i]? = some y:=h1
   have h2:σ[i]? = some (some v):=h2
   have my:y∈b7W x x2 X.N:=a1G h1
   have h3:(b1G scope X.env).names.lookup y=some .local\/(b1G scope X.env).names.lookup y=some .cell\/(b1G scope X.env).names.lookup y=some .free:=h3
   have hf:scope.names.lookup y=some .free:=by
    rcases h3 with q | q
    ·rcases Y1 q with q | ⟨_,z⟩
     ·exact absurd q (hc.see y my)
     ·cases z
    ·exact kinds y q
   have hy:X.N[i]? = some y:=by
    unfold b7W at h1
    rw[b6]at h1
    cases e:X.N[i]? with
    | none=>rw[e]at h1;cases h1
    | some z=>
     rw[e]at h1
     by_cases ez:z=x
     ·rw[a8Y,if_pos ez]at h1
      have h1:=Option.some.inj h1
      subst h1
      rw[hc.dot]at hf
      cases hf
     ·rw[a8Y,if_neg ez]at h1
      by_cases ez2:z=x2
      ·rw[if_pos ez2]at h1
       have h1:=Option.some.inj h1
       subst h1
       rw[hc.dot2]at hf
       cases hf
      ·rw[if_neg ez2]at h1
       exact h1
   obtain⟨m,_,hl⟩:=I.loc
   obtain⟨c,hcc⟩:=a1F.mp (hcl2 y (E6 hf))
   have vis:Vis X.env.scope y:=by
    rcases hc.fr _ (E6 hf) rfl with q | q
    ·exact .inr (.inl q)
    ·exact .inr (.inr q)
   obtain⟨u,ru,lk⟩:=hl i y v hy h2 vis
   refine⟨u,ru,.inr ⟨?_,c,hcc,?_⟩⟩
   ·rcases h3 with q | q
    ·rcases Y1 q with q | ⟨_,z⟩
     ·exact absurd q (hc.see y my)
     ·cases z
    ·exact q
   ·have hce:=hcl y c hcc
    rcases lk with ⟨q,_⟩ | ⟨_,c',e',z⟩
    ·rcases hc.fr _ (E6 hf) rfl with q' | q'
     ·have q:X.env.scope.names.lookup y=some .local:=q
      rw[show X.env.scope.names.lookup y=some NameKind.cell from q']at q
      cases q
     ·have q:X.env.scope.names.lookup y=some .local:=q
      rw[show X.env.scope.names.lookup y=some NameKind.free from q']at q
      cases q
    ·rw[e']at hce
     cases hce
     obtain⟨o,ho,hd⟩:=z
     exact⟨o,k _ _ ho,hd⟩
 ·obtain⟨v,o,ho,hd⟩:=I.cell y c (hcl y c e)
  exact⟨v,o,k _ _ ho,hd⟩
 ·exact I.freeC y c (hcl y c e)
 ·show(none::none::σ).length=(x::x2::b7W x x2 X.N).length
  have:=I.len
  simp[b7W,this]
theorem b3a{H1:Hp}{s2:k8}{it:Addr}{tn:Nat->Heap->Prop}{J:It}{Q:VK}{E:Value->k8->Prop}
  {RR:Value->Addr->c8R->k8->Prop} (hc:a4Y X.N X.env.scope scope x x2) (hcalm:X.calm=true)
  (hcl:∀y c,cl.lookup y=some c->X.env.cells.lookup y=some c) (hcl2:∀y,(y,NameKind.free)∈scope.names->(cl.lookup y).isSome=true)
  (ht:∀C fp s3 H3,PTs (Y3 X scope cl C x x2 fp s3 H3) ifs tt) (he:∀C fp s3 H3,PE (Y3 X scope cl C x x2 fp s3 H3) elt te)
  (I:Inv X pins σ H1 s2) (T:b6h X.prog X.w X.K (.Tuple [.Name x px,.Name x2 py2] kt pt) J fp it tn) (st:tn 0 s2.heap) (fpo:∀b∈fp,a9w X pins H1 b)
  (h:∀D,H1 D=none->∃W:Nat->Nat->List V->Hp->Prop,
   (∃m,W 0 m [] (upd H1 D (.lst [])))/\∀i m ys H2,W i m ys H2->H2 D=some (.lst ys) /\
   ((J.stop i H2 /\ Q (.ref D) H2) \/ (J.go i H2 /\ ∀ x H3,J.yld i H2 x H3 -> ∃ a u v,x = .ref a /\ SqT X.K H3 a [u,v] /\ tt (some u :: some v :: σ) H3 fun ok H4 => if ok = true then
     te (some u::some v::σ) H4 (fun y H5=>H5 D=some (.lst ys)/\ys.length<u9/\∃m',m'<m/\W (i+1) m' (ys++[y]) (upd H5 D (.lst (ys++[y]))))
     else ∃m',m'<m/\W (i+1) m' ys H4)))
  (hRR:∀D C s' H' m,Inv X pins σ H' s'->s'.heap.Ns C m->H' C=none->C≠X.env.locals->X.s₀.heap.objs.size<=C->(∀y c,X.env.cells.lookup y=some c->c≠C)->(∀p∈X.pn++pins,p.1≠C)->Q (.ref D) H'->RR (.ref D) C (.ok .next) s') :
  wpAny (model X.prog X.w) X.A (newList []) (fun acc s₃=>wpAny (model X.prog X.w) X.A (newFunctionEnv scope X.env.globals cl [] X.env.qual none .none (some X.env)) (fun cenv s₄=>
   a7x (model X.prog X.w) X.A (.compStart (.ListComp elt [⟨.Tuple [.Name x px,.Name x2 py2] kt pt,iter,ifs,0⟩] scope pos) 0 (.ref it) acc { cenv with scope:=b1G scope X.env }) (RR acc cenv.locals) s₄) E s₃) E s2:=by
 refine a0J (hd:=by size_fits) ?_
 have I3:=I.lnew (ys:=[]) (its:=[]) (t':=s2.toks) .nil (by show 0<=u9;exact Z0 _)
 obtain⟨W,⟨m0,w0⟩,turn⟩:=h _ I.fresh
 generalize hD:s2.heap.objs.size=D at I3 w0 turn ⊢
 generalize hs3:({ s2 with heap:=s2.heap.push { cls:=.type "list",data:=.seq ([]:List Value).toArray } }:k8)=s3
 have hs3':({ s2 with heap:=s2.heap.push { cls:=.type "list",data:=.seq ([]:List Value).toArray },toks:=s2.toks }:k8)=s3:=hs3
 rw[hs3']at I3
 have keep3:∀b o,s2.heap.get? b=some o->s3.heap.get? b=some o:=fun b o e=>by rw[<-hs3];exact j4 _ e
 have fpl:∀b∈fp,b<s3.heap.objs.size:=fun b hb=>by
  obtain⟨o,e,_⟩:=T.obj _ _ st b hb
  exact l9 (keep3 b o e)
 have fpD:∀b∈fp,b≠D:=fun b hb z=>by
  obtain⟨o,e,_⟩:=T.obj _ _ st b hb
  exact absurd (l9 e) (by rw[z,hD];exact Q8 _)
 have fpo3:∀b∈fp,a9w X pins (upd H1 D (.lst [])) b:=fun b hb=>⟨by rw[i9 (fpD b hb)];exact(fpo b hb).1,(fpo b hb).2⟩
 show wpAny _ _ _ _ _ s3
 refine d2Z hc.cell (by intro y hy;simp at hy) (fun h₁ hns₁ hsb₁=>?_) hc.kind
 dsimp only[newEnv]at hns₁ hsb₁ ⊢
 have keep4:∀b o,s3.heap.get? b=some o->h₁.get? b=some o:=fun b o e=>hsb₁.extBut b o (z9 (l9 e)) (j4 _ e)
 have I4:=c3G (tk:=s3.toks+([]:List (Str×Value)).length) hc I3 hcl hcl2 fpo3 fpl hns₁ keep4
 have st4:tn 0 h₁:=T.keep _ _ _ st fun b hb o e=>keep4 b o (keep3 b o e)
 have loop:∀s₄:k8,s₄={ s3 with heap:=h₁,toks:=s3.toks+([]:List (Str×Value)).length } ->
   a7x (model X.prog X.w) X.A (.compLoop (.ListComp elt [⟨.Tuple [.Name x px,.Name x2 py2] kt pt,iter,ifs,0⟩] scope pos) 0 (.ref it) (.ref D) (c4g scope cl s3.heap.objs.size X.env)) (RR (.ref D) s3.heap.objs.size) s₄:=by
  rintro s₄ rfl
  have stat:∀ {H':Hp},(∀b∈fp,H' b=none)->∀b∈fp,a9w (Y3 X scope cl s3.heap.objs.size x x2 fp s3 (upd H1 D (.lst []))) [] H' b:=fun hn b hb=>
   ⟨hn b hb,z9 (fpl b hb),fun hf=>by
    rcases u5.mp (I3.stkSub b hf)with e | e
    ·exact(fpo b hb).2.1 e
    ·exact(fpo b hb).2.2.1 e,.inl hb,fun y c e=>(fpo b hb).2.2.2.2.1 y c (hcl y c e),fun p hp=>absurd (show p∈([]:List (Addr×Obj))from hp) (by simp)⟩
  refine b6J (env:=c4g scope cl s3.heap.objs.size X.env) (fun n s'=>∃i ys H',Inv (Y3 X scope cl s3.heap.objs.size x x2 fp s3 (upd H1 D (.lst []))) [] (none::none::σ) H' s'/\tn i s'.heap/\(∀b∈fp,H' b=none)/\W i n ys H') ?_ m0
   ⟨0,[],_,I4,st4,fun b hb=>(fpo3 b hb).1,w0⟩
  rintro n s5 ⟨i,ys,H5,I5,st5,fr5,w5⟩
  obtain⟨hDy,alt⟩:=turn i n ys H5 w5
  rcases alt with ⟨stop,q⟩ | ⟨go,step⟩
  ·refine a3p (T.done (Y3 X scope cl s3.heap.objs.size x x2 fp s3 (upd H1 D (.lst []))) rfl rfl rfl hcalm i [] s5 _ H5 (fun _ _=>False) I5 (stat fr5) st5 stop) (fun r s6 ⟨hr,I6⟩=>?_) fun _ _ f=>f
   subst hr
   obtain⟨m6,n6,_⟩:=I6.loc
   have J6:Inv X pins σ H5 s6:=by
    refine I3.call' (ch:=fp) I6.os I6.base I6.hok I6.bare fun b hb=>?_
    obtain⟨_,f1,f2,f3,f4,f5⟩:=fpo3 b hb
    exact⟨f3,f1,f4,f5⟩
   refine hRR D _ s6 H5 m6 J6 n6 I6.free (c4c I3.lt) I3.sz (fun y c e z=>?_) (fun p hp z=>?_) q
   ·obtain⟨v,q⟩:=I3.cell y c e
    exact absurd q.lt (by rw[z];exact Q8 _)
   ·exact absurd (l9 (I3.pin p hp).1) (by rw[z];exact Q8 _)
  ·refine a3p (T.item (Y3 X scope cl s3.heap.objs.size x x2 fp s3 (upd H1 D (.lst []))) rfl rfl rfl hcalm i [] s5 _ H5 (fun _ _=>False) I5 (stat fr5) st5 go) (fun r s6 ⟨u,hr,h6⟩=>?_) fun _ _ f=>f
   subst hr
   refine thn h6 fun _ s6 ⟨xv,H6,I6,r6,y6,st6,fr6⟩=>?_
   have I6':=I6.pinned (stat fr6) (T.obj _ _ st6)
   obtain⟨pa,u1,u2,rfl,hsq,step⟩:=step xv H6 y6
   have hpg:PG (Y3 X scope cl s3.heap.objs.size x x2 fp s3 (upd H1 D (.lst []))) (.Tuple [.Name x px,.Name x2 py2] kt pt) (b3q X.K 2 (a2A (v7 0) (a2A (v7 1) b3r))):=
    c5x (X:=Y3 X scope cl s3.heap.objs.size x x2 fp s3 (upd H1 D (.lst []))) hcalm (b4J (b7F (i:=0) hc.nd rfl (.inl (a4G hc.own)) (.inr (a4G hc.own))) (b4J (b7F (i:=1) hc.nd rfl (.inl (a4G hc.own2)) (.inr (a4G hc.own2))) c2g))
   refine thn (hpg _ s6 (none::none::σ) H6 (.ref pa) u (fun σ' H'=>σ'=some u1::some u2::σ/\H'=H6) I6' r6 ⟨pa,[u1,u2],rfl,hsq,rfl,_,_,rfl,_,_,rfl,rfl,rfl,rfl⟩) fun _ s7 ⟨σ7,H7,I7,e7,e7'⟩=>?_
   subst e7 e7'
   have again:∀ {s8:k8} {H8:Hp} {ys8:List V},Inv (Y3 X scope cl s3.heap.objs.size x x2 fp s3 (upd H1 D (.lst []))) ([]++b0b fp s6.heap) (some u1::some u2::σ) H8 s8->(∃m',m'<n/\W (i+1) m' ys8 H8) ->
     ∃m,m<n/\∃i ys H',Inv (Y3 X scope cl s3.heap.objs.size x x2 fp s3 (upd H1 D (.lst []))) [] (none::none::σ) H' s8/\tn i s8.heap/\(∀b∈fp,H' b=none)/\W i m ys H':=by
    rintro s8 H8 ys8 I8 ⟨m',hm,w8⟩
    refine⟨m',hm,i+1,ys8,H8,(I8.unpinned (pins:=[])).weak rfl (fun j v e=>?_),T.keep _ _ _ st6 fun b hb o e=>(I8.pin (b,o) (w6 _ (w6 _ (a4P hb e)))).1,fun b hb=>?_,w8⟩
    ·cases j with
     | zero=>cases e
     | succ j=>
      cases j with
      | zero=>cases e
      | succ j=>exact e
    ·obtain⟨o,e,d⟩:=T.obj _ _ st6 b hb
     exact(I8.pin (b,o) (w6 _ (w6 _ (a4P hb e)))).2.1
   refine thn (ht _ fp s3 _ _ s7 _ _ _ I7 step) (fun ok s8 ⟨H8,I8,q8⟩=>?_)
   cases ok with
   | false=>exact again I8 (by simpa using q8)
   | true=>
    rw[if_pos rfl]at q8
    rw[if_pos rfl]
    refine thn (he _ fp s3 _ _ s8 _ H8 _ I8 q8) (fun v s9 ⟨y,H9,I9,r9,hD9,hz9,w9⟩=>?_)
    refine a3p (b2s (X:=Y3 X scope cl s3.heap.objs.size x x2 fp s3 (upd H1 D (.lst []))) _ s9 _ H9 (.ref D) [y] (.ref D) [v] (fun _ H'=>H'=upd H9 D (.lst (ys++[y]))) I9 rfl (.cons r9 .nil) ⟨D,ys,y,rfl,rfl,hD9,hz9,rfl⟩) (fun _ s10 ⟨_,H10,I10,_,e10⟩=>?_) fun _ _ f=>f
    subst e10
    exact again I10 w9
 exact d1I (loop _ rfl) (T.self X.A 0 _ _ _ st4 (loop _ rfl))
theorem b2Z(hc:a4Y X.N X.env.scope scope x x2)(I:Inv X pins σ H s):∀y∈scope.names,y.2=.free->∃c,X.env.cells.lookup y.1=some c:=by
 intro y hy e
 rcases hc.fr y hy e with q | q
 ·exact I.ok.has y.1 (.inl q)
 ·exact I.ok.has y.1 (.inr q)
theorem c5D(hc:a4Y X.N X.env.scope scope x x2)(hcalm:X.calm=true)(hi:PI X (.Tuple [.Name x px,.Name x2 py2] kt pt) iter wi)
  (ht:∀cl C fp s3 H3,PTs (Y3 X scope cl C x x2 fp s3 H3) ifs tt) (he:∀cl C fp s3 H3,PE (Y3 X scope cl C x x2 fp s3 H3) elt te)
  (hs:∀x,T1 iter X.env x=pure x:=by intro _;rfl) :
  PE X (.ListComp elt [⟨.Tuple [.Name x px,.Name x2 py2] kt pt,iter,ifs,0⟩] scope pos) (a7D X.K wi tt te):=by
 intro pins s σ H Q I h
 obtain⟨cl,hclos,hcl,hcl2⟩:=a7X (b2Z hc I)
 rw[eval_ListComp]
 refine a5y (use:=none) rfl hs hclos hc.kind hc.names (thn (hi pins s σ H _ I h) fun v s1 h1=>thn h1 fun itv s2 ⟨it,fp,tn,J,H2,e,I2,T,st,fpo,R⟩=>?_)
 subst e
 refine b3a (RR:=fun acc C=>compPost (model X.prog X.w) X.A X.xe none (EP X pins σ Q) acc C) (Q:=Q) hc hcalm hcl hcl2 (ht cl) (he cl) I2 T st fpo R ?_
 intro D C s' H' m I' n f1 f2 f3 f4 f5 q
 exact⟨m,n,fun h' sb=>⟨.ref D,H',I'.turned (t':=s'.toks) (fun b o hb e=>(sb.2 b hb).trans e) f1 f2 (.inr f3) f4 f5,rfl,q⟩⟩
end
section
variable {x x2:Str}{px py2 pt:Pos}{kt:Nat}
theorem b9k{py spos:Pos}(hN:X.N.Nodup)(hiy:X.N[i]? = some y)(hy:X.env.scope.names.lookup y=some .local)(hc:a4Y X.N X.env.scope scope x x2)(hcalm:X.calm=true)(hi:PI X (.Tuple [.Name x px,.Name x2 py2] kt pt) iter wi)
  (ht:∀cl C fp s3 H3,PTs (Y3 X scope cl C x x2 fp s3 H3) ifs tt) (he:∀cl C fp s3 H3,PE (Y3 X scope cl C x x2 fp s3 H3) elt te)
  (hsw:a3Z (.ListComp elt [⟨.Tuple [.Name x px,.Name x2 py2] kt pt,iter,ifs,0⟩] scope pos) (some (.Name y py)) spos.line X.env=pure true:=by rfl)
  (hs:∀x,T1 iter X.env x=pure x:=by intro _;rfl) :
  PS X (.Assign [.Name y py] (.ListComp elt [⟨.Tuple [.Name x px,.Name x2 py2] kt pt,iter,ifs,0⟩] scope pos) spos) (fun D σ H=>a7D X.K wi tt te σ H fun v H1=>D.nx (σ.set i (some v)) H1):=by
 intro pins s σ H D I h
 obtain⟨cl,hclos,hcl,hcl2⟩:=a7X (b2Z hc I)
 rw[d1R _ _ _ _ hsw]
 refine i8 (b8A (i8 ?_))
 show wpAny _ X.A (do let _ <-comprehension (.ListComp elt [⟨.Tuple [.Name x px,.Name x2 py2] kt pt,iter,ifs,0⟩] scope pos) scope X.env _ (newList []) false (eval iter X.env) (some (a9B (.Name y py) X.env))) _ _ s
 refine i8 (a3p (a5y (use:=some (a9B (.Name y py) X.env)) (Q:=fun _ s'=>SP X pins D .next s') rfl hs hclos hc.kind hc.names
  (thn (hi pins s σ H _ I h) fun v s1 h1=>thn h1 fun itv s2 ⟨it,fp,tn,J,H2,e,I2,T,st,fpo,R⟩=>?_)) (fun _ s' hq=>u7 (u7 hq)) fun _ _ e=>e)
 subst e
 refine b3a (RR:=fun acc C=>compPost (model X.prog X.w) X.A X.xe (some (a9B (.Name y py) X.env)) (fun _ s'=>SP X pins D .next s') acc C) (Q:=fun v H1=>D.nx (σ.set i (some v)) H1) hc hcalm hcl hcl2 (ht cl) (he cl) I2 T st fpo R ?_
 intro E C s' H' m I' n f1 f2 f3 f4 f5 q
 show wpAny _ _ (a9B (.Name y py) X.env (.ref E)) _ _ _
 refine b0x (b1R (v:=.ref E) I' hN hiy (.inl hy) rfl (fun s'' I'' ch=>?_) (.inr hy))
 obtain⟨a,sb,ha⟩:=ch
 have hCa:C≠a:=by
  rcases ha with e | e
  ·rw[e];exact f2
  ·exact fun z=>f4 y a e z.symm
 exact⟨m,n.sameBut sb hCa,fun h' sb'=>⟨_,_,I''.turned (t':=s''.toks) (fun b o hb e=>(sb'.2 b hb).trans e) f1 f2 (.inr f3) f4 f5,q⟩⟩
end
section
def c5k:List V->Hp->VK->Prop:=fun xs H Q=>match xs with
 | [.int i,.int j]=>Q (.int (if j<i then j else i)) H
 | _=>False
theorem c3O(hc:X.calm=true):a0S X (.builtin "min") c5k:=(c3U hc).imp fun xs H Q h=>by
 unfold c5k at h
 split at h
 ·exact⟨_,_,rfl,h⟩
 ·exact h.elim
theorem c3Y:∀bs:List Bool,((t8 bs.length).any fun i=>(bs[i]?).getD false)=bs.any id:=by
 intro bs
 induction bs with
 | nil=>rfl
 | cons b r ih=>
  rw[D5,List.range_succ_eq_map,a3X,d3b,a3X]
  rw[<-ih]
  rfl
def c0V:List V->Hp->VK->Prop:=fun vs H Q=>match vs with
 | [.ref l]=>match H l with
  | some (.lst xs)=>∃bs,a1q xs=some bs/\Q (.bl (bs.any id)) H
  | _=>False
 | _=>False
theorem c3R(hc:X.calm=true):a0S X (.builtin "any") c0V:=fun pins s σ H xs us Q I r h=>by
 unfold c0V at h
 split at h
 ·split at h
  ·rename_i l _ ys hl
   obtain⟨bs,e,q⟩:=h
   obtain⟨u,rfl,ru⟩:=a8d r
   cases ru
   obtain⟨its,rv,pl,hz⟩:=I.list (SqL.of hl)
   have hlt:l<s.heap.objs.size:=by obtain⟨_,e,_⟩:=pl.isList;exact l9 e
   have hlen:=rv.length
   have hbl:=b2E e
   refine call_any_walk (a6K pl.isList ?_)
   refine⟨s.heap.objs.size,[s.heap.objs.size,l],[s.heap.objs.size],its.toArray.size,_,_,fun i=>(bs[i]?).getD false,rfl,Walks.list (A:=X.A.in1) (I.ok.hd hc) _ l (z9 hlt) its.toArray,
    ⟨⟨_,A5 _ rfl,rfl,rfl⟩,pl.isList.push _⟩,fun i v s' Q' E' hP hQ=>?_,fun h' tk hk=>?_⟩
   ·have hP:its[i]? = some v:=by simpa using hP
    have hi:i<ys.length:=by rw[hlen];exact(t6.mp hP).1
    have ey:ys[i]? = some ys[i]:=by simp[hi]
    obtain⟨b,eb,ez⟩:=b2F e ey
    obtain⟨u,eu,ru⟩:=rv.get ey
    rw[hP]at eu
    cases eu
    rw[ez]at ru
    cases ru
    simp only[eb,a5m]at hQ
    exact V8 hQ
   ·have e2:((t8 its.toArray.size).any fun i=>(bs[i]?).getD false)=bs.any id:=by
     rw[p9,<-hlen,hbl]
     exact c3Y bs
    rw[e2]
    exact⟨.bl _,H,I.kept (t':=tk) fun b x e=>hk b x (fun hm=>by rw[l6.mp hm]at e;exact Q8 _ (l9 e)) (j4 _ e),rfl,q⟩
  ·exact h.elim
 ·exact h.elim
def a5x:List V->Option (List Int)
 | []=>some []
 | .int i::r=>(a5x r).map (i :: ·)
 | _=>none
theorem b5d(ns:List Int):a5x (ns.map V.int)=some ns:=by
 induction ns with
 | nil=>rfl
 | cons s r ih=>simp[a5x,ih]
theorem a8S:∀ {xs:List V} {us:List Value} {ss:List Int},O6 xs us->a5x xs=some ss->c9w us ss
 | _,_,ss,.nil,e=>by cases e;exact .nil
 | x::xs,_,ss,.cons r t,e=>by
  cases x with
  | int s=>
   obtain⟨k,rfl⟩:=r
   cases e2:a5x xs with
   | none=>simp[a5x,e2]at e
   | some ss2=>
    simp[a5x,e2]at e
    subst e
    exact .cons _ _ (a8S t e2)
  | _=>simp[a5x]at e
def a9i:List V->Hp->VK->Prop:=fun vs H Q=>match vs with
 | [.ref l]=>match H l with
  | some (.lst xs)=>∃ns,a5x xs=some ns/\ns.length<64/\∀(p:Addr) (ms:List Int),ms.Perm ns->ms.Pairwise (· <= ·)->H p=none->Q (.ref p) (upd H p (.lst (ms.map V.int)))
  | _=>False
 | _=>False
theorem b8d:a0S X (.builtin "sorted") a9i:=fun pins s σ H xs us Q I r h=>by
 unfold a9i at h
 split at h
 ·split at h
  ·rename_i l _ ys hl
   obtain⟨ns,e,hn,q⟩:=h
   obtain⟨u,rfl,ru⟩:=a8d r
   cases ru
   obtain⟨its,rv,pl,hz⟩:=I.list (SqL.of hl)
   have hi:=a8S rv e
   have hil:=hi.length
   refine sorted_ints pl.isList hi (by omega) fun out ns' a1 a2 a3=>?_
   obtain⟨c,he⟩:=sortedAll_at s.heap its out
   have hl':=a2.length_eq
   refine⟨.ref _,_,I.laid (t':=s.toks) (a:=s.heap.objs.size+1) (o:=.lst (ns'.map V.int)) (fun b ob q=>sortedAll_old q) (c6J _) ?_,rfl,q _ ns' a2 a3 (I.hok.fresh (c6J _))⟩
   refine⟨by rw[b9,sizeLine_eq];omega,out.toList,c,b1M a1,?_⟩
   exact he
  ·exact h.elim
 ·exact h.elim
def b2g:V->List V->Hp->VK->Prop:=fun x vs H Q=>match x,vs with
 | .ref l,[.int k]=>match H l with
  | some (.lst xs)=>∃ns,a5x xs=some ns/\ns.length<10000/\k∈ns/\Q (.int (ns.idxOf k:Nat)) H
  | _=>False
 | _,_=>False
theorem c3n:MtR X "list.index" b2g:=fun pins s σ H x xs v us Q I rx rv h=>by
 unfold b2g at h
 split at h
 ·split at h
  ·rename_i l k _ ys hl
   obtain⟨ns,e,hn,hk,q⟩:=h
   cases rx
   obtain⟨u,rfl,⟨t,rfl⟩⟩:=rv.one
   obtain⟨its,r,pl,hz⟩:=I.list (SqL.of hl)
   have hi:=a8S r e
   obtain⟨⟨cls,dd,data,sl⟩,ho,hc,n,hd⟩:=id pl.isList
   simp only at hc hd
   subst hc hd
   have hlen:=hi.length
   have hj:ns.idxOf k<ns.length:=c0h.mpr hk
   refine c8Q b8z ⟨_,ho,rfl⟩ PySem.F.entry_list_index (PySem.F.args_list_index_2 _ _)
    (PySem.SeqAt.list_indexAt l its.toArray n dd sl (.int k t) (isInt k) (ns.idxOf k) (by simpa[hlen]using hj) (by omega) ?_ ?_) ⟨ho,fun y hy=>(eq_isInt k t hi y (by simpa using hy)).at _ _,⟨.int _,H,I.tok _,⟨_,rfl⟩,q⟩⟩
   ·show isInt k its[ns.idxOf k]=true
    rw[isInt_at k hi _ (by omega) hj]
    simpa using List.getElem_idxOf hj
   ·intro j hjs hlt
    show isInt k its[j]=false
    rw[isInt_at k hi j (by simpa using hjs) (by omega)]
    exact ne_of_lt_idxOf hlt _
  ·exact h.elim
 ·exact h.elim
def a7N:V->List V->Hp->VK->Prop:=fun x vs H Q=>match x,vs with
 | .ref l,[.ref b]=>match H l,H b with
  | some (.lst xs),some (.lst zs)=>xs.length+zs.length<=u9/\Q .non (upd H l (.lst (xs++zs)))
  | _,_=>False
 | _,_=>False
theorem c1n:MtR X "list.extend" a7N:=fun pins s σ H x xs v us Q I rx rv h=>by
 refine c3o pins s σ H x xs v us Q I rx rv ?_
 unfold a7N at h
 split at h
 ·split at h
  ·exact⟨_,_,_,_,rfl,rfl,by assumption,by assumption,h.1,h.2⟩
  ·exact h.elim
 ·exact h.elim
def c2V:V->List V->Hp->VK->Prop:=fun x vs H Q=>match x,vs with
 | .ref l,[]=>match H l with
  | some (.lst xs)=>∃y,xs[xs.length - 1]? = some y/\Q y (upd H l (.lst xs.dropLast))
  | _=>False
 | _,_=>False
theorem c8k:MtR X "list.pop" c2V:=fun pins s σ H x xs v us Q I rx rv h=>by
 refine d0U pins s σ H x xs v us Q I rx rv ?_
 unfold c2V at h
 split at h
 ·split at h
  ·obtain⟨y,e,q⟩:=h
   exact⟨_,_,y,rfl,rfl,by assumption,e,q⟩
  ·exact h.elim
 ·exact h.elim
def a4n:List V->Hp->VK->Prop:=fun xs H Q=>match xs with
 | [.ref p]=>match H p with
  | some (.dK kvs)=>∀l,H l=none->Q (.ref l) (upd H l (.lst (kvs.map fun kv=>kV kv.1)))
  | _=>False
 | _=>False
theorem c9j{P:D0}{k:Key}(r:(O2 P w).is k u=true):L5 (kV k) u:=by
 rcases a0R (show b5b k u=true from r)with ⟨i,t,rfl,rfl⟩ | ⟨x,t,rfl,rfl⟩
 ·exact⟨t,rfl⟩
 ·exact⟨t,rfl⟩
theorem b7b:∀ {xs:List V} {us:List Value},xs.length=us.length->(∀(i:Nat) x u,xs[i]? = some x->us[i]? = some u->L5 x u)->O6 xs us
 | [],[],_,_=>.nil
 | x::xs,u::us,hl,h=>.cons (h 0 x u rfl rfl) (b7b (by simpa using hl) fun i y v a b=>h (i+1) y v (by simpa using a) (by simpa using b))
 | [],u::us,hl,_=>by cases hl
 | x::xs,[],hl,_=>by cases hl
theorem c6b:∀ {l:List (Key×V)} {la:List (Key×Value)} {i:Nat} {k:Key} {x:Value},KV l la->la[i]? = some (k,x)->∃y,l[i]? = some (k,y)
 | p::l,q::la,0,k,x,h,e=>by
  have h:Paired _ _ _:=h
  cases h with
  | cons h t=>
   cases e
   exact⟨p.2,by rw[c1O];rw[show k=p.1 from h.1.symm]⟩
 | p::l,q::la,i+1,k,x,h,e=>by
  have h:Paired _ _ _:=h
  cases h with
  | cons h t => 
   obtain⟨y,hy⟩:=c6b (i:=i) (show KV l la from t) (by simpa using e)
   exact⟨y,by simpa using hy⟩
 | [],la,i,k,x,h,e=>by
  have h:Paired _ _ _:=h
  cases h
  cases e
 | p::l,[],i,k,x,h,e=>by
  have h:Paired _ _ _:=h
  cases h
theorem b9X(hc:X.calm=true):a0S X (.type "list") a4n:=fun pins s σ H xs us Q I r h=>by
 unfold a4n at h
 split at h
 ·split at h
  ·rename_i p _ kvs hp
   obtain⟨u,rfl,ru⟩:=a8d r
   cases ru
   obtain⟨hz,hS,vs,rk,hD⟩:=c2o I.hok hp
   obtain⟨ep,hat⟩:=hD.dictAt
   have hl:=Paired.length rk
   refine c6H (PySem.W.kdl_dict (knd:=O2 X.prog X.w) (kvs:=vs) (ep:=ep) hS) (I.ok.hd hc) hat (by omega) fun h' tk acc c hk ha hit=>?_
   refine⟨.ref _,_,I.laid (t':=tk) (a:=s.heap.objs.size) (o:=.lst (kvs.map fun kv=>kV kv.1)) hk (j6 _) ?_,rfl,h _ (I.hok.fresh (j6 _))⟩
   refine⟨by rw[b9];exact hz,acc.toList,c,?_,by simpa using ha⟩
   refine b7b (by have:=hit.1;rw[b9];simp;omega) fun i x u a b=>?_
   obtain⟨k,y,e1,e2⟩:=hit.2 i u (by rw[<-a0j];exact b)
   obtain⟨z,e3⟩:=c6b rk e1
   rw[b6,e3]at a
   cases a
   exact c9j e2
  ·exact h.elim
 ·exact h.elim
inductive Dq(K:Fg)(H:Hp):Nat->V->V->Prop
 | flat {n:Nat} {x:V}:X1 x=true->Dq K H n x x
 | tup {n:Nat} {a b:Addr} {xs ys:List V}:SqT K H a xs->SqT K H b ys->xs.length=ys.length->(∀(j:Nat) x y,xs[j]? = some x->ys[j]? = some y->Dq K H n x y)->Dq K H (n+1) (.ref a) (.ref b)
 | lst {n:Nat} {a b:Addr} {xs ys:List V}:SqL K H a xs->SqL K H b ys->xs.length=ys.length->(∀(j:Nat) x y,xs[j]? = some x->ys[j]? = some y->Dq K H n x y)->Dq K H (n+1) (.ref a) (.ref b)
theorem c6o{x:V}(h:X1 x=true):eqV x x=true:=by
 cases x with
 | non=>rfl
 | bl b=>simp[eqV]
 | int i=>simp[eqV]
 | str s=>simp[eqV]
 | byt b=>cases h
 | flt b=>cases h
 | ref a=>cases h
 | ty n=>cases h
theorem b1v{n:Nat}:(t8 n).all (fun _=>true)=true:=by simp
theorem Dq.both(I:Inv X pins σ H s){n:Nat}{x y:V}(d:Dq X.K H n x y):∀ {A:U8} {v u:Value},A.units+n<cLine->L5 x v->L5 y u ->
  SeqAt.EqAt A s v u true/\(∀a b,x=.ref a->y=.ref b->SeqAt.RcAt A s v u true/\SeqAt.RcNeAt A s v u false):=by
 induction d with
 | @flat n x hf=>
  intro A v u hu rv ru
  refine⟨?_,fun a b e=>by subst e;cases hf⟩
  have:=c1A (A:=A) (s:=s) rv ru hf hf
  rwa [c6o hf]at this
 | @tup n a b xs ys ha hb hl hq ih=>
  intro A v u hu rv ru
  cases rv
  cases ru
  obtain⟨us,r1,t1,_⟩:=I.tuple ha
  obtain⟨ws,r2,t2,_⟩:=I.tuple hb
  have l1:=r1.length
  have l2:=r2.length
  have el:∀j (h1:j<us.toArray.size) (h2:j<ws.toArray.size),SeqAt.EqAt A.in1 s us.toArray[j] ws.toArray[j] true:=by
   intro j h1 h2
   have h1':j<xs.length:=by simpa[l1]using h1
   have h2':j<ys.length:=by simpa[l2]using h2
   obtain⟨u1,e1,q1⟩:=r1.get (i:=j) (x:=xs[j]) (by simp)
   obtain⟨u2,e2,q2⟩:=r2.get (i:=j) (x:=ys[j]) (by simp)
   have z1:us.toArray[j]=u1:=by
    have:=(t6.mp e1).2
    simpa using this
   have z2:ws.toArray[j]=u2:=by
    have:=(t6.mp e2).2
    simpa using this
   rw[z1,z2]
   exact(ih j _ _ (by simp) (by simp) (A:=A.in1) (by show A.units+1+n<cLine;omega) q1 q2).1
  have c1:SeqAt.RcAt A s (.ref a) (.ref b) true:=by
   have q:=SeqAt.RcAt.tuples (A:=A) (e:=fun _=>true) t1 t2 (by omega) el
   have e:us.toArray.size=ws.toArray.size:=by simp[<-l1,<-l2,hl]
   rw[b1v,e,beq_self_eq_true]at q
   exact q
  have c2:SeqAt.RcNeAt A s (.ref a) (.ref b) false:=by
   have q:=SeqAt.RcNeAt.tuples (A:=A) (e:=fun _=>true) t1 t2 (by omega) el
   have e:us.toArray.size=ws.toArray.size:=by simp[<-l1,<-l2,hl]
   rw[b1v,e,beq_self_eq_true]at q
   exact q
  refine⟨?_,fun _ _ _ _=>⟨c1,c2⟩⟩
  by_cases e:a=b
  ·subst e;exact SeqAt.EqAt.same _
  ·exact SeqAt.EqAt.of_refs e c1
 | @lst n a b xs ys ha hb hl hq ih=>
  intro A v u hu rv ru
  cases rv
  cases ru
  obtain⟨us,r1,t1,_⟩:=I.list ha
  obtain⟨ws,r2,t2,_⟩:=I.list hb
  have l1:=r1.length
  have l2:=r2.length
  have el:∀j (h1:j<us.toArray.size) (h2:j<ws.toArray.size),SeqAt.EqAt A.in1 s us.toArray[j] ws.toArray[j] true:=by
   intro j h1 h2
   have h1':j<xs.length:=by simpa[l1]using h1
   have h2':j<ys.length:=by simpa[l2]using h2
   obtain⟨u1,e1,q1⟩:=r1.get (i:=j) (x:=xs[j]) (by simp)
   obtain⟨u2,e2,q2⟩:=r2.get (i:=j) (x:=ys[j]) (by simp)
   have z1:us.toArray[j]=u1:=by
    have:=(t6.mp e1).2
    simpa using this
   have z2:ws.toArray[j]=u2:=by
    have:=(t6.mp e2).2
    simpa using this
   rw[z1,z2]
   exact(ih j _ _ (by simp) (by simp) (A:=A.in1) (by show A.units+1+n<cLine;omega) q1 q2).1
  have e:us.toArray.size=ws.toArray.size:=by simp[<-l1,<-l2,hl]
  have c1:SeqAt.RcAt A s (.ref a) (.ref b) true:=by
   have q:=SeqAt.RcAt.lists (A:=A) (e:=fun _=>true) t1.isList t2.isList e (by omega) el
   rw[b1v]at q
   exact q
  have c2:SeqAt.RcNeAt A s (.ref a) (.ref b) false:=by
   have q:=SeqAt.RcNeAt.lists (A:=A) (e:=fun _=>true) t1.isList t2.isList e (by omega) el
   rw[b1v]at q
   exact q
  refine⟨?_,fun _ _ _ _=>⟨c1,c2⟩⟩
  by_cases e:a=b
  ·subst e;exact SeqAt.EqAt.same _
  ·exact SeqAt.EqAt.of_refs e c1
def c2Y(K:Fg):R2:=fun x y H Q=>∃a b n,x=.ref a/\y=.ref b/\n<=20/\Dq K H n x y/\Q (.bl true) H
def c9T(K:Fg):R2:=fun x y H Q=>∃a b n,x=.ref a/\y=.ref b/\n<=20/\Dq K H n x y/\Q (.bl false) H
theorem c7S{k:Nat}(hr:W0 k X.A):OpR X (C3 .Eq) (c2Y X.K):=by
 intro pins s σ H x y v u Q I rx ry ⟨a,b,n,e1,e2,hn,d,q⟩
 have hu:=hr.units
 exact((d.both I (A:=X.A) (by omega) rx ry).2 a b e1 e2).1 _ _ _ _ ⟨.bl true,H,I,rfl,q⟩
theorem c7N{k:Nat}(hr:W0 k X.A):OpR X (C3 .NotEq) (c9T X.K):=by
 intro pins s σ H x y v u Q I rx ry ⟨a,b,n,e1,e2,hn,d,q⟩
 have hu:=hr.units
 exact((d.both I (A:=X.A) (by omega) rx ry).2 a b e1 e2).2 _ _ _ _ ⟨.bl false,H,I,rfl,q⟩
def c2Z(K:Fg):R2:=fun x y H Q=>∃a b xs ys,x=.ref a/\y=.ref b/\SqT K H a xs/\SqT K H b ys/\xs.all X1=true/\ys.all X1=true/\Q (.bl (a1S xs ys)) H
theorem c7T{k:Nat}(hr:W0 k X.A):OpR X (C3 .Eq) (c2Z X.K):=by
 intro pins s σ H x y v u Q I rx ry ⟨a,b,xs,ys,e1,e2,ha,hb,fx,fy,q⟩
 have hu:=hr.units
 subst e1 e2
 cases rx
 cases ry
 obtain⟨us,r1,t1,_⟩:=I.tuple ha
 obtain⟨ws,r2,t2,_⟩:=I.tuple hb
 have l1:=r1.length
 have l2:=r2.length
 have q1:=SeqAt.RcAt.tuples (A:=X.A) t1 t2 (by omega) (a9j r1 r2 fx fy)
 simp only[p9,<-l1,<-l2]at q1
 exact q1 _ _ _ _ ⟨.bl (a1S xs ys),H,I,rfl,q⟩
def c2W(K:Fg):R2:=fun x y H Q=>∃a b xs ys,x=.ref a/\y=.ref b/\SqT K H a xs/\SqT K H b ys/\xs.all X1=true/\ys.all X1=true/\Q (.bl (!a1S xs ys)) H
theorem c7O{k:Nat}(hr:W0 k X.A):OpR X (C3 .NotEq) (c2W X.K):=by
 intro pins s σ H x y v u Q I rx ry ⟨a,b,xs,ys,e1,e2,ha,hb,fx,fy,q⟩
 have hu:=hr.units
 subst e1 e2
 cases rx
 cases ry
 obtain⟨us,r1,t1,_⟩:=I.tuple ha
 obtain⟨ws,r2,t2,_⟩:=I.tuple hb
 have l1:=r1.length
 have l2:=r2.length
 have q1:=SeqAt.RcNeAt.tuples (A:=X.A) t1 t2 (by omega) (a9j r1 r2 fx fy)
 simp only[p9,<-l1,<-l2]at q1
 exact q1 _ _ _ _ ⟨.bl (!a1S xs ys),H,I,rfl,q⟩
def c5l(K:Fg):List V->Hp->VK->Prop:=fun vs H Q=>∃p xs,vs=[.ref p]/\SqT K H p xs/\Q (.int xs.length) H
theorem c1F:a0S X (.builtin "len") (c5l X.K):=b1p.imp fun xs H Q ⟨p,ys,e,h,q⟩=>⟨p,ys,e,.inr h,q⟩
def c9U(K:Fg):R2:=fun x y H Q=>∃p xs,y=.ref p/\SqT K H p xs/\X1 x=true/\xs.all X1=true/\Q (.bl (inV x xs)) H
theorem c7R:OpR X (C3 .In) (c9U X.K):=b6C.imp fun x y H Q ⟨p,xs,e,h1,h2,h3,q⟩=>⟨p,xs,e,.inr h1,h2,h3,q⟩
def b9i(K:Fg):R2:=fun x y H Q=>∃p i xs v,x=.ref p/\y=.int i/\SqT K H p xs/\atI xs i=some v/\Q v H
theorem d2M:IxR X (b9i X.K):=c6e.imp fun x y H Q ⟨p,i,xs,v,e1,e2,h,e,q⟩=>.inr (.inl ⟨p,xs,i,v,e1,e2,h,e,q⟩)
def c5m(K:Fg):List V->Hp->VK->Prop:=fun vs H Q=>∃p xs,vs=[.ref p,.ty "tuple"]/\SqT K H p xs/\Q (.bl true) H
theorem c1G:a0S X (.builtin "isinstance") (c5m X.K):=fun pins s σ H xs us Q I r h=>by
 obtain⟨p,ys,rfl,hp,q⟩:=h
 obtain⟨u,u2,rfl,ru,ru2⟩:=b6q r
 cases ru
 cases ru2
 obtain⟨its,rv,⟨o,h1,h2,_⟩,_⟩:=I.tuple hp
 exact T4 c4a I.kIn ⟨o,h1,h2⟩ (c6c X.K "tuple" (by decide) "tuple" (by decide)) (fun z=>nomatch z) fun tk=>⟨.bl true,H,I.tok _,rfl,q⟩
theorem c5t{e c:Option Expr}:PS X (.Raise e c pos) (fun _ _ _=>False):=fun _ _ _ _ _ _ h=>h.elim
structure a9N(P:D0)(w:World)(K:Fg)(mg:Str->Option Value)(base:Heap)(k:Nat)(x:Str)(C:Addr)(ps:List Str)(sp:Sp):Prop where
 ex:∃f fd,G8 P w K mg base CX0 k f fd ps sp/\mg x=some (.ref C)/\Mk K C f/\a6j K fd ps []
theorem d2y{k:Nat}{x:Str}{C:Addr}{e:Expr}{es:List Expr}{t:TA}{p:Pos}(M:a9N X.prog X.w X.K X.mg X.base k x C ps sp)(hr:W0 j X.A)(hk:k+1<=j)(hg:Gl X x)(ha:PA X (e::es) t)
  (hdb:(x == ("__debug__" : Str))=false:=by decide) (he:j9 (e::es) X.env=(false,eval e X.env)::j9 es X.env:=by rfl) (hpl:(a1y pos (j9 es X.env)).any (·.1)=false:=by rfl) :
  PE X (.Call (.Name x p) (e::es) [] pos) (a3Q C sp [] E0 t):=by
 obtain⟨f,fd,F,hm,hM,hb⟩:=M.ex
 exact c2h hM F (hr.mono hk) hg hm hb .nil b9l ha hdb he hpl
structure W9(P:D0)(w:World)(K:Fg)(mg:Str->Option Value)(base:Heap)(k:Nat)(m:Str)(C:Addr)(ps:List Str)(sp:Sp):Prop where
 ex:∃f fd,G8 P w K mg base CX0 k f fd ps sp/\Cls K C/\c8J K C m f/\a6j K fd ps []
theorem d0q{pl:Sem Bool}{k:Nat}{m:Str}{C:Addr}{o e:Expr}{es:List Expr}{ta:TE}{t:TA}{apos:Pos}(M:W9 X.prog X.w X.K X.mg X.base k m C ps sp)(hr:W0 j X.A)(hk:k<=j)(ho:PE X o ta)(ha:PA X (e::es) t)
  (hst:j9 (e::es) X.env=(false,eval e X.env)::j9 es X.env:=by rfl) (hpl:(a1y pos (j9 es X.env)).any (·.1)=false:=by rfl)
  (ht:eval (.Call (.Attribute o m apos) (e::es) [] pos) X.env=(do
   let ov <-eval o X.env
   b3S apos.atName
   let(f,first) <-a4H [ov] (b0y ov m pl)
   c4h pos f first (a1y pos (j9 (e::es) X.env)) (a9A pos (a4a [] X.env))):=by rfl) :
  PE X (.Call (.Attribute o m apos) (e::es) [] pos) (F7 C m sp [] E0 ta t):=by
 obtain⟨f,fd,F,c,hm,hb⟩:=M.ex
 exact c7F (pl:=pl) ho c hm F (hr.mono hk) hb .nil b9l ha hst hpl ht
theorem c7E{pl:Sem Bool}{k:Nat}{m:Str}{C:Addr}{o:Expr}{ta:TE}{apos:Pos}(M:W9 X.prog X.w X.K X.mg X.base k m C ps sp)(hr:W0 j X.A)(hk:k<=j)(ho:PE X o ta)
  (ht:eval (.Call (.Attribute o m apos) [] [] pos) X.env=(do
   let ov <-eval o X.env
   b3S apos.atName
   let(f,first) <-a4H [ov] (b0y ov m pl)
   c4h pos f first (a1y pos (j9 [] X.env)) (a9A pos (a4a [] X.env))):=by rfl) :
  PE X (.Call (.Attribute o m apos) [] [] pos) (F7 C m sp [] E0 ta g0):=by
 obtain⟨f,fd,F,c,hm,hb⟩:=M.ex
 exact c5z (pl:=pl) ho c hm F (hr.mono hk) hb .nil b9l ht
end
theorem b1a{env:Env}:∀ {names:List (Str×a9C)} {y:Str},names.lookup y=some .free ->
  (names.map fun(n,k)=>if(k == NameKind.free&&env.scope.kind == .function&&env.kindOf n == some .cell)then (n,NameKind.cell)else (n,k)).lookup y=some .cell \/
  (names.map fun(n,k)=>if(k == NameKind.free&&env.scope.kind == .function&&env.kindOf n == some .cell)then (n,NameKind.cell)else (n,k)).lookup y=some .free
 | [],_,h=>by cases h
 | (n,k0)::r,y,h=>by
  have ih := @b1a env r y
  rw[M0]at h
  rw[J0]
  dsimp only
  cases hx:y == n with
  | true=>
   rw[hx]at h
   cases h
   by_cases hc:(NameKind.free == NameKind.free&&env.scope.kind == .function&&env.kindOf n == some .cell)=true
   ·rw[if_pos hc,M0,hx];exact .inl rfl
   ·rw[if_neg hc,M0,hx];exact .inr rfl
  | false=>
   rw[hx]at h
   by_cases hc:(k0 == NameKind.free&&env.scope.kind == .function&&env.kindOf n == some .cell)=true
   ·rw[if_pos hc,M0,hx];exact ih h
   ·rw[if_neg hc,M0,hx];exact ih h
theorem c2l{sc1 sc:Scope}(h:∀y∈sc.names,y.2=.free->sc1.names.lookup y.1=some .free):∀y∈sc.names,y.2=.free->(b1G sc1 env).names.lookup y.1=some .cell\/(b1G sc1 env).names.lookup y.1=some .free:=
 fun y hy e=>b1a (h y hy e)
end L2
namespace PySem
open Sem (wp)
namespace F
theorem lk_list_keys:typeLookup (.type "list") "keys" = pure none:=by rw[typeLookup_type,d1S];kernel_rfl
theorem lk_list_getattr:typeLookup (.type "list") "__getattr__" = pure none:=by rw[typeLookup_type,d1S];kernel_rfl
end F
section
variable {prog:D0}{w:World}{A:U8}{E:Value->k8->Prop}{h:Heap}{g:Array GenState}{d:Drawn}{t:Nat}{os:OsState}{a:Addr}{xs:Array Value}{n:Nat}{sl:Array (Option Value)}
theorem keys_entry_list{tk:Tok}{Q:Fin->k8->Prop}(hh:A.handled=none)(hx:h.get? a=some ⟨.type "list",none,.seq xs n,sl⟩)(he:∀h' t' e,Heap.NewAttrErr h h' e (.ref a) "keys" -> E (.ref e) ⟨h',g,d,t',os⟩) :
  wpAny (model prog w) A (d3i.«object.__getattribute__» ⟨[.ref a,.str "keys" tk],[]⟩) Q E ⟨h,g,d,t,os⟩:=by
 have hT:(⟨h,g,d,t,os⟩:k8).TypeIs (.ref a) "list" := ⟨_,hx,rfl⟩
 have f4:=F.lk_list_keys
 have f5:=F.lk_list_getattr
 repeat (any_goals (first | assumption | wp_step))
 exact wpAny_raiseAttrError hh he (attrMsg_fits (by decide +kernel) (by decide +kernel))
theorem keys_call_list{tk:Tok}{R:c8R->k8->Prop}(hh:A.handled=none)(hx:h.get? a=some ⟨.type "list",none,.seq xs n,sl⟩)(he:∀h' t' e,Heap.NewAttrErr h h' e (.ref a) "keys" -> R (.error (.ref e)) ⟨h',g,d,t',os⟩) :
  a7x (model prog w) A (.call (.builtin "list.__getattribute__") ⟨[.ref a,.str "keys" tk],[]⟩) R ⟨h,g,d,t,os⟩:=
 codeAny_call_builtin F.slot_list_getattribute.plain F.entry_list_ga (F.slot_list_getattribute.check _ _ _ _ _ _ _ _ (show(⟨h,g,d,t,os⟩:k8).TypeIs (.ref a) "list" from⟨_,hx,rfl⟩) (F.args_list_getattribute_2 _ _) (keys_entry_list hh hx he))
theorem keys_attr_list{Q:Option Value->k8->Prop}(hh:A.handled=none)(hx:h.get? a=some ⟨.type "list",none,.seq xs n,sl⟩)(hq:∀h' t',(∀b ob,h.get? b=some ob->h'.get? b=some ob)->Q none ⟨h',g,d,t',os⟩) :
  wpAny (model prog w) A (getAttr? (.ref a) "keys") Q E ⟨h,g,d,t,os⟩:=by
 have hT:(⟨h,g,d,t,os⟩:k8).TypeIs (.ref a) "list" := ⟨_,hx,rfl⟩
 have f2:=F.slot_list_getattribute.lookup
 have f3:=F.slot_list_getattribute.bind (.ref a)
 unfold getAttr? getAttrBy?
 repeat (any_goals (first | assumption | wp_step))
 refine keys_call_list hh hx fun h' t' e ne=>?_
 obtain⟨t'',u',he⟩:=ne.there
 have f1:=sub_AttributeError
 have f5:=F.lk_list_getattr
 show wpAny _ _ (getattributeRaised _ _ _ _ _ _ _) _ _ _
 unfold getattributeRaised
 repeat (any_goals (first | assumption | wp_step))
 exact hq _ _ ne.keeps
end
end PySem
namespace PySem
open Sem (wp)
namespace F
theorem entry_update_loop:entryFor table "dict.update.loop" = some d3i.«dict.update.loop» := entryFor_of_tree (by kernel_rfl)
theorem plain_update_loop:plainId "dict.update.loop" = true:=by decide +kernel
end F
section
variable {prog:D0}{w:World}{K:Type}[DecidableEq K]{knd:KeyKind prog w K}{A:U8}{s:k8}{R:c8R->k8->Prop}
def prsF(ps:List (K×Value)):List (K×Value):=ps.foldl (fun m p=>c8O m p.1 p.2) []
theorem prsF_snoc(ps:List (K×Value))(p:K×Value):prsF (ps++[p])=c8O (prsF ps) p.1 p.2:=by unfold prsF;rw[List.foldl_append];rfl
theorem update_loop{d I l:Addr}{items:Array Value}{ps:List (K×Value)}(hh:A.handled=none)(hdI:d≠I)(hld:l≠d)(hlI:l≠I)(hn:items.size=ps.length)(hsz:ps.length<=u9)(res:Value){h₁:Heap}(hl:h₁.IsList l items)
  (hp:∀(i:Nat) k v,ps[i]? = some (k,v)->∃p key n dd ss,items[i]? = some (.ref p)/\h₁.get? p=some ⟨.type "tuple",dd,.seq #[key,v] n,ss⟩/\knd.is k key=true/\p≠d/\p≠I)
  (hsl:∀qs:List (K×Value),qs.length<=ps.length->(prsF qs).length<=u9)
  (hR:∀h' tk,(∀b o,b≠d->b≠I->h₁.get? b=some o->h'.get? b=some o)->h'.DictOf knd d (prsF ps)->R (.ok (.ret res)) { s with heap:=h',toks:=tk }) :
  ∀(k i:Nat) (h:Heap) (tk:Nat) (u:Tok),ps.length - i=k->i<=ps.length->h.IsListIter I l i->h.DictOf knd d (prsF (ps.take i))->(∀b o,b≠d->b≠I->h₁.get? b=some o->h.get? b=some o) ->
   a7x (model prog w) A (.builtin "dict.update.loop" ⟨[.ref d,.ref I,.int (i:Int) u,res],[]⟩) R { s with heap:=h,toks:=tk }:=by
 intro k
 induction k with
 | zero=>
  intro i h tk u hk hi hit hD hkeep
  have hin:i=ps.length:=by omega
  subst hin
  obtain⟨ol,hol,hcl,nl,hdl⟩:=id hl
  have hl':h.IsList l items:=⟨ol,hkeep _ _ hld hlI hol,hcl,nl,hdl⟩
  refine b3T F.entry_update_loop ?_
  rw[Around.under_plainId F.plain_update_loop _]
  show wpAny _ A.in1 (b8B (.ref I) >>= _) _ _ _
  refine i8 (b3P (s:={ s with heap:=h,toks:=tk }) (A:=A.in1) hh hit hl' (by simp[hn]) fun h' he=>?_)
  refine i8 (u7 (u7 (hR h' tk (fun b o h1 h2 e=>he b o h2 (hkeep b o h1 h2 e)) ?_)))
  rw[G0]at hD
  exact hD.extBut he hdI
 | succ k ih=>
  intro i h tk u hk hi hit hD hkeep
  have hlt:i<ps.length:=by omega
  obtain⟨⟨kk,x⟩,hx⟩:∃p,ps[i]? = some p:=⟨ps[i],c7 hlt⟩
  obtain⟨p,key,n,dd,ss,e1,e2,e3,e4,e5⟩:=hp i kk x hx
  obtain⟨ol,hol,hcl,nl,hdl⟩:=id hl
  have hl':h.IsList l items:=⟨ol,hkeep _ _ hld hlI hol,hcl,nl,hdl⟩
  refine b3T F.entry_update_loop ?_
  rw[Around.under_plainId F.plain_update_loop _]
  show wpAny _ A.in1 (b8B (.ref I) >>= _) _ _ _
  refine i8 (b3f (s:={ s with heap:=h,toks:=tk }) (A:=A.in1) hit hl' e1 fun h' hit' sb=>?_)
  have e2':h'.get? p=some ⟨.type "tuple",dd,.seq #[key,x] n,ss⟩:=(sb.2 p e5).trans (hkeep _ _ e4 e5 e2)
  refine i8 ?_
  refine a3a (i8 ?_)
  refine wpAny_tryCatch ?_
  unfold Builtin.Dict.pairItems
  refine i8 (b3O (show({ s with heap:=h',toks:=tk }:k8).TypeIs (.ref p) "tuple" from⟨_,e2',rfl⟩) ?_)
  rw[if_pos (by decide)]
  refine i8 (wpAny_seqItems e2' rfl (u7 ?_))
  have hD':h'.DictOf knd d (prsF (ps.take i)):=hD.sameBut sb hdI
  show wpAny _ _ (a4H [key,x] (dictSet d key x)) _ _ _
  refine a3a (wpAny_dictSet_pairs (s:={ s with heap:=h',toks:=tk }) e3 hD' (fun h'' hD'' sb2=>?_) (hsl _ (by rw[D8];omega)))
  refine u7 ⟨b8C F.plain_update_loop _,?_⟩
  have tk1:ps.take (i+1)=ps.take i++[(kk,x)]:=by rw[K5,hx];rfl
  refine ih (i+1) h'' _ _ (by omega) hlt ?_ ?_ fun b o h1 h2 e=>?_
  ·obtain⟨oi,g1,g2,g3⟩:=hit'
   exact⟨oi,(sb2.2 I (Ne.symm hdI)).trans g1,g2,g3⟩
  ·rw[tk1,prsF_snoc]
   exact hD''
  ·exact(sb2.2 b h1).trans ((sb.2 b h2).trans (hkeep b o h1 h2 e))
end
section
variable {prog:D0}{w:World}{K:Type}[DecidableEq K]{knd:KeyKind prog w K}{A:U8}{E:Value->k8->Prop}{s:k8}
theorem call_dict_pairs{l:Addr}{items:Array Value}{n:Nat}{sl:Array (Option Value)}{ps:List (K×Value)}{Q:Value->k8->Prop}(hh:A.handled=none)(hl:s.heap.get? l=some ⟨.type "list",none,.seq items n,sl⟩)(hn:items.size=ps.length)(hsz:ps.length<=u9)
  (hp:∀(i:Nat) k v,ps[i]? = some (k,v)->∃p key n dd ss,items[i]? = some (.ref p)/\s.heap.get? p=some ⟨.type "tuple",dd,.seq #[key,v] n,ss⟩/\knd.is k key=true)
  (hsl:∀qs:List (K×Value),qs.length<=ps.length->(prsF qs).length<=u9)
  (h:∀h' tk,(∀b o,s.heap.get? b=some o->h'.get? b=some o)->h'.DictOf knd s.heap.objs.size (prsF ps)->Q (.ref s.heap.objs.size) { s with heap:=h',toks:=tk }) :
  wpAny (model prog w) A (call (.type "dict") [.ref l]) Q E s:=by
 refine callType_codes (Q₁:=fun obj s₁=>obj=.ref s.heap.objs.size/\s₁={ s with heap:=s.heap.push { cls:=.type "dict",data:=.dict #[] } }) F.kt_called_dict (F.kt_typeCall_dict_1 _) F.entry_dict_init (kt_code_dict_new _ ⟨rfl,rfl⟩) ?_
 rintro obj s₁ ⟨rfl,rfl⟩
 have hnew:(s.heap.push { cls:=.type "dict",data:=.dict #[] }).DictOf knd s.heap.objs.size []:=c2C s.heap
 have hl1:(s.heap.push { cls:=.type "dict",data:=.dict #[] }).get? l=some ⟨.type "list",none,.seq items n,sl⟩:=j4 _ hl
 refine⟨hnew.typeIs,F.args_dict_init_2 _ _,?_⟩
 unfold d3i.«dict.__init__»
 refine i8 ?_
 unfold Builtin.Dict.selfAndRest
 refine i8 (b3Q hnew.typeIs ?_)
 show wpAny _ _ (pure (s.heap.objs.size,[Value.ref l])) _ _ _
 refine u7 ?_
 show wpAny _ _ (Builtin.Dict.updateFrom "dict.__init__" s.heap.objs.size (.ref l) [] .none) _ _ _
 unfold Builtin.Dict.updateFrom
 refine i8 (b3O (show({ s with heap:=s.heap.push { cls:=.type "dict",data:=.dict #[] } }:k8).TypeIs (.ref l) "list" from⟨_,hl1,rfl⟩) ?_)
 rw[if_pos (by decide)]
 refine i8 (keys_attr_list (A:=A.in1.in1) hh hl1 fun h2 t2 k2=>?_)
 rw[if_pos (show(none:Option Value).isNone=true from rfl)]
 refine i8 (wpAny_rule ?_)
 have hl2:h2.IsList l items:=⟨_,k2 _ _ hl1,rfl,n,rfl⟩
 refine i8 (a6K (s:={ s with heap:=h2,toks:=t2 }) hl2 ?_)
 have hdlt:s.heap.objs.size<h2.objs.size:=by
  obtain⟨o,es,ep,ho,_⟩:=hnew
  exact l9 (k2 _ _ ho)
 have up:∀b o,s.heap.get? b=some o->h2.get? b=some o:=fun b o e=>k2 _ _ (j4 _ e)
 have ne1:∀b o,s.heap.get? b=some o->b≠s.heap.objs.size/\b≠h2.objs.size:=fun b o e=>⟨z9 (l9 e),z9 (l9 (up b o e))⟩
 refine u7 ⟨b8C F.plain_update_loop _,?_⟩
 have hD2:(h2.push { cls:=.type "list_iterator",data:=.fields #[.ref l,.int 0 0] }).DictOf knd s.heap.objs.size []:=by
  obtain⟨o,es,ep,ho,r⟩:=hnew
  exact⟨o,es,ep,j4 _ (k2 _ _ ho),r⟩
 refine update_loop (s:=s) (A:=A.in1) (knd:=knd) (d:=s.heap.objs.size) (I:=h2.objs.size) (ps:=ps) hh (z9 hdlt) (ne1 l _ hl).1 (ne1 l _ hl).2 hn hsz .none (h₁:=h2.push { cls:=.type "list_iterator",data:=.fields #[.ref l,.int 0 0] }) ?_ (fun i k v e=>?_) hsl (fun h' tk kp hd=>⟨rfl,h h' tk (fun b o e=>kp b o (ne1 b o e).1 (ne1 b o e).2 (j4 _ (up _ _ e))) hd⟩) ps.length 0 _ _ _ (by omega) (Z0 _) ⟨_,A5 _ rfl,rfl,rfl⟩ hD2 fun b o _ _ e=>e
 ·exact⟨_,j4 _ (up _ _ hl),rfl,n,rfl⟩
 ·obtain⟨p,key,m,dd,ss,a1,a2,a3⟩:=hp i k v e
  exact⟨p,key,m,dd,ss,a1,j4 _ (up _ _ a2),a3,(ne1 p _ a2).1,(ne1 p _ a2).2⟩
end
end PySem
namespace L2
open PySem PySem.Spec PyProof.Rows
variable{X:Cx}
section
def b7C:List V->Hp->VK->Prop:=fun xs H Q=>∃a vs kvs,xs=[.ref a]/\H a=some (.lst vs)/\vs.length=(kvs:List (Key×V)).length /\
 (∀(i:Nat) k x,kvs[i]? = some (k,x)->∃p,vs[i]? = some (.ref p)/\H p=some (.tup [kV k,x]))/\(kvs.map (·.1)).Nodup/\∀p,H p=none->Q (.ref p) (upd H p (.dK kvs))
theorem b4I{K:Type}[DecidableEq K](ps:List (K×Value)):(prsF ps).length<=ps.length:=by
 have:∀(ps m:List (K×Value)),(ps.foldl (fun m p=>c8O m p.1 p.2) m).length<=m.length+ps.length:=by
  intro ps
  induction ps with
  | nil=>intro m;simp
  | cons p ps ih=>
   intro m
   have h1:=ih (c8O m p.1 p.2)
   have h2:=stored_length_le m p.1 p.2
   simp only[a1B,D5]
   omega
 have:=this ps []
 simpa[prsF]using this
theorem b4M{P:D0}{w:World}{H:Hp}{h:Heap}(ok:HOk P w H h):∀(kvs:List (Key×V)) (vs:List V) (its:List Value),vs.length=kvs.length->(∀(i:Nat) k x,kvs[i]? = some (k,x)->∃p,vs[i]? = some (.ref p)/\H p=some (.tup [kV k,x]))->O6 vs its ->
  ∃ps:List (Key×Value),KV kvs ps/\∀(i:Nat) k v,ps[i]? = some (k,v)->∃p key n dd ss,its[i]? = some (.ref p)/\h.get? p=some ⟨.type "tuple",dd,.seq #[key,v] n,ss⟩/\(O2 P w).is k key=true
 | [],_,_,_,_,_=>⟨[],.nil,fun i k v e=>by simp at e⟩
 | (k,x)::kvs,[],_,l,_,_=>by cases l
 | (k,x)::kvs,v::vs,its,l,hp,rv=>by
  cases rv with
  | cons r0 rv=>
   rename_i u its
   obtain⟨p,e1,e2⟩:=hp 0 k x rfl
   cases e1
   cases r0
   obtain⟨ps,q1,q2⟩:=b4M ok kvs vs its (by simpa using l) (fun i k x e=>hp (i+1) k x e) rv
   obtain⟨_,js,rj,o,g1,g2,n,g3⟩:=(show a0u P w H h p (.tup [kV k,x])from ok p _ e2)
   obtain⟨u1,u2,rfl,r1,r2⟩:=b6q rj
   refine⟨(k,u2)::ps,.cons ⟨rfl,r2⟩ q1,fun i k' v' e=>?_⟩
   cases i with
   | zero=>
    cases e
    refine⟨p,u1,n,o.dict,o.slots,rfl,?_,b6H r1⟩
    rw[g1]
    cases o
    cases g2
    cases g3
    rfl
   | succ i=>exact q2 i k' v' e
theorem c0a(hc:X.calm=true):a0S X (.type "dict") b7C:=fun pins s σ H xs us Q I r h=>by
 obtain⟨a,vs,kvs,rfl,hl,hn,hp,nd,q⟩:=h
 obtain⟨u,rfl,ru⟩:=a8d r
 cases ru
 obtain⟨hz,its,n,rv,hg⟩:=(show a0u X.prog X.w H s.heap a (.lst vs)from I.hok a _ hl)
 have li:=Paired.length rv
 obtain⟨ps,rel,hps⟩:=b4M I.hok kvs vs its hn hp rv
 have hpl:=rel.length
 have hnd:(ps.map (·.1)).Nodup:=by rw[<-rel.keys];exact nd
 refine call_dict_pairs (knd:=O2 X.prog X.w) (ps:=ps) (I.ok.hd hc) hg (by simp;omega) (by omega) (fun i k v e=>by
  obtain⟨p,key,m,dd,ss,a1,a2,a3⟩:=hps i k v e
  exact⟨p,key,m,dd,ss,by simpa using a1,a2,a3⟩) (fun qs hq=>D4 (b4I qs) (by omega)) fun h' tk kp dd=>?_
 have e:prsF ps=ps:=merged_nil_of_nodup ps hnd
 rw[e]at dd
 exact⟨.ref s.heap.objs.size,_,I.laid (a:=s.heap.objs.size) (o:=.dK kvs) (t':=tk) (fun b o hb=>kp b o hb) (j6 _) (b7Y (by omega) (beq_eq_false_iff_ne.mpr (Ne.symm (z9 I.big))) rel dd),rfl,q _ (I.hok.fresh (j6 _))⟩
end
section
variable {tg:Expr}
end
section
end
section
end
structure IsC(K:Fg)(C:Addr):Prop where
 cl:Cls K C
 ha:u6 K (.ref C) "__class__" = some (some (.builtin "object.__class__"))
 hn:a7b K (.builtin "object.__class__") "__get__" = some (some (.builtin "getset_descriptor.__get__"))
 htk:b5w K (.builtin "object.__class__")=some true
 hm:b8s K C (.type "object")=some true
def c5n(K:Fg):List V->Hp->VK->Prop:=fun vs H Q=>∃a C dx fs,vs=[.ref a,.ref C]/\H a=some (.ins C dx fs)/\IsC K C/\Q (.bl true) H
theorem c1H:a0S X (.builtin "isinstance") (c5n X.K):=fun pins s σ H vs us Q I r h=>by
 obtain⟨a,C,dx,fs,rfl,ha,ic,q⟩:=h
 obtain⟨u,u2,rfl,ru,ru2⟩:=b6q r
 cases ru
 cases ru2
 have e:a9y X.K (.ref C) (.ref C)=some true:=by
  unfold a9y
  rw[if_pos (by simp)]
 exact b6I (x:=.ref a) I rfl (.ins ha ic.cl ic.ha ic.hn ic.htk ic.hm) e fun tk=>⟨.bl true,H,I.tok _,rfl,q⟩
section
variable {P:D0}{w:World}{K:Type}[DecidableEq K]{knd:HeapKind P w K}{A:U8}{E:Value->k8->Prop}{s:k8}
theorem c6C{xs:List (K×Addr×Value)}(nd:(xs.map (·.1)).Nodup){i j:Nat}{k:K}{p q:Addr×Value}(h1:xs[i]? = some (k,p))(h2:xs[j]? = some (k,q)):i=j/\p=q:=by
 have e1:(xs.map (·.1))[i]? = some k:=by rw[b6,h1];rfl
 have e2:(xs.map (·.1))[j]? = some k:=by rw[b6,h2];rfl
 obtain⟨l1,g1⟩:=t6.mp e1
 obtain⟨l2,g2⟩:=t6.mp e2
 have z1:=nd.idxOf_getElem i l1
 have z2:=nd.idxOf_getElem j l2
 rw[g1]at z1
 rw[g2]at z2
 have e:i=j:=z1.symm.trans z2
 subst e
 rw[h1]at h2
 exact⟨rfl,(Prod.ext_iff.mp (Option.some.inj h2)).2⟩
end
section
end
end L2
namespace PySem
open Sem (wp)
section
variable {prog:D0}{w:World}{A:U8}{E:Value->k8->Prop}{s:k8}
def Raw(h:Heap)(d:Addr)(es:Array a3j)(ep:Nat):Prop:=∃o,h.get? d=some o/\o.ExactDict/\o.data=.dict es ep
theorem Raw.at{h h':Heap}{d:Addr}{es:Array a3j}{ep:Nat}(x:Raw h d es ep)(e:∀o,h.get? d=some o->h'.get? d=some o):Raw h' d es ep:=let⟨o,h1,r⟩:=x; ⟨o,e _ h1,r⟩
theorem Raw.typeIs{d:Addr}{es:Array a3j}{ep:Nat}(x:Raw s.heap d es ep):s.TypeIs (.ref d) "dict" := let⟨o,h1,h2,_⟩:=x; ⟨o,h1,h2.1⟩
theorem iter_raw{d:Addr}{es:Array a3j}{ep:Nat}{Q:Value->k8->Prop}(hd:(d == a1U)=false)(hm:Raw s.heap d es ep)
  (hQ:Q (.ref s.heap.objs.size) { s with heap:=s.heap.push { cls:=.type "dict_keyiterator",data:=.fields #[.ref d,.int 0 0,.int es.size 0,.int ep 0] } }):wpAny (model prog w) A (pyIter (.ref d)) Q E s:=by
 have hT:=hm.typeIs
 obtain⟨o,ho,hc,hdat⟩:=id hm
 refine wpAny_pyIter_slot hT F.slot_dict_iter (b2K F.slot_dict_iter hT F.entry_dict_iter ?_ (F.args_dict_iter_1 _))
 unfold d3i.«dict.__iter__» Builtin.Dict.dictSlotNone
 refine i8 (i8 (b3Q hT (u7 ?_)))
 show wpAny _ _ (Builtin.Dict.showsAll d >>= _) _ _ s
 unfold Builtin.Dict.showsAll
 simp only[hd,b3e,if_false]
 refine i8 (u7 (i8 (c0k ho hdat (i8 (c4n ho hdat (i8 (a0J (u7 ⟨_,rfl,"dict_keyiterator",_,⟨_,A5 _ rfl,rfl⟩,F.slot_dict_keyiterator_next.lookup,?_⟩))))))))
 simpa[rawInt]using hQ
theorem next_raw{it d:Addr}{i ep:Nat}{es:Array a3j}{Q:Option Value->k8->Prop}(hit:s.heap.IsKeyIter it d i es.size ep)(hm:Raw s.heap d es ep)(hi:i<es.size)
  (hQ:∀h',h'.IsKeyIter it d (i+1) es.size ep->Heap.SameBut it s.heap h'->Q (some es[i].key) { s with heap:=h' }):wpAny (model prog w) A (b8B (.ref it)) Q E s:=by
 have hT:=hit.typeIs
 obtain⟨o,ho,hc,hd⟩:=id hit
 obtain⟨od,hod,_,hdd⟩:=hm
 have own:Builtin.Dict_items.ownsTuple "dict_keyiterator" = false:=by decide
 unfold b8B
 refine i8 (wpAny_attempt (b1F (name:=Str.ofString "__next__") hT F.slot_dict_keyiterator_next (b2K F.slot_dict_keyiterator_next hT F.entry_dict_keyiterator_next ?_ (F.args_dict_keyiterator_next_1 _))))
 refine i8 (u7 (i8 (i8 (i8 (a3i hT (u7 (i8 (wpAny_fieldsOf ho hd ?_))))))))
 simp only[own,b3e,if_false]
 show wpAny _ _ (if(Value.ref d == Value.none)=true then _ else _) _ _ s
 have nn:¬(Value.ref d == Value.none)=true:=(z7:¬false=true)
 rw[if_neg nn]
 refine i8 (u7 (i8 (c0k hod hdd ?_)))
 rw[if_neg (by simp)]
 refine i8 (u7 (i8 (c4n hod hdd ?_)))
 rw[if_neg (by simp)]
 refine u7 ?_
 simp only[show ¬((i:Int)<0) by omega,if_false,A3,a7u hi]
 refine i8 (i8 (a3i hT (u7 (i8 (d1O hT ?_)))))
 show wpAny _ _ (setField (.ref it) 1 (rawInt ((i:Int)+1)) >>= _) _ _ s
 refine i8 (wpAny_setField ho hd (by simp) ?_)
 have hit':(s.heap.update it (Obj.mapFields (·.setIfInBounds 1 (rawInt ((i:Int)+1))))).IsKeyIter it d (i+1) es.size ep:=
  ⟨_,c4e _ ho (Obj.isFreed_of_fields (Obj.data_mapFields hd _)),(Obj.cls_mapFields ..).trans hc,by rw[Obj.data_mapFields hd];simp[rawInt]⟩
 refine i8 (a3a (i8 (d1O (s:={ s with heap:=s.heap.update it (Obj.mapFields (·.setIfInBounds 1 (rawInt ((i:Int)+1)))) }) hit'.typeIs ?_)))
 show wpAny _ _ (pure es[i].key) _ _ _
 exact u7 (u7 ⟨_,rfl,u7 (hQ _ hit' (b8v ..))⟩)
theorem end_raw{it d:Addr}{i ep:Nat}{es:Array a3j}{Q:Option Value->k8->Prop}(hh:A.handled=none)(hit:s.heap.IsKeyIter it d i es.size ep)(hm:Raw s.heap d es ep)(hi:es.size<=i)
  (hQ:∀h',Heap.ExtBut it s.heap h'->Q none { s with heap:=h' }):wpAny (model prog w) A (b8B (.ref it)) Q E s:=by
 have hT:=hit.typeIs
 obtain⟨o,ho,hc,hd⟩:=id hit
 obtain⟨od,hod,_,hdd⟩:=hm
 have own:Builtin.Dict_items.ownsTuple "dict_keyiterator" = false:=by decide
 unfold b8B
 refine i8 (wpAny_attempt (b1F (name:=Str.ofString "__next__") hT F.slot_dict_keyiterator_next (b2K F.slot_dict_keyiterator_next hT F.entry_dict_keyiterator_next ?_ (F.args_dict_keyiterator_next_1 _))))
 refine i8 (u7 (i8 (i8 (i8 (a3i hT (u7 (i8 (wpAny_fieldsOf ho hd ?_))))))))
 simp only[own,b3e,if_false]
 show wpAny _ _ (if(Value.ref d == Value.none)=true then _ else _) _ _ s
 have nn:¬(Value.ref d == Value.none)=true:=(z7:¬false=true)
 rw[if_neg nn]
 refine i8 (u7 (i8 (c0k hod hdd ?_)))
 rw[if_neg (by simp)]
 refine i8 (u7 (i8 (c4n hod hdd ?_)))
 rw[if_neg (by simp)]
 refine u7 ?_
 simp only[show ¬((i:Int)<0) by omega,if_false,A3,Array.getElem?_eq_none hi]
 refine i8 (i8 (a3i hT (u7 ?_)))
 show wpAny _ _ (setField (.ref it) 0 .none >>= _) _ _ s
 refine i8 (wpAny_setField ho hd (by simp) ?_)
 refine i8 ?_
 simp only[newExc,newTuple]
 refine i8 (a0J ?_ (by size_fits))
 refine i8 (m:=firstArgMember _ _) (wpAny_of_eq (a:=Value.none) (by simp only[firstArgMember];rfl) (a0J ?_ (by size_fits)))
 simp only[raiseNew]
 refine i8 (wpAny_handled ?_)
 rw[show A.in1.handled=none from hh]
 refine i8 (u7 (wpAny_throw ?_))
 refine i8 (wpAny_isInstance (T := "StopIteration") (b:=true) (show Shared.TypeIs _ (.ref _) _ from⟨_,A5 _ rfl,rfl⟩) isSubtype_stop (u7 (hQ _ ?_)))
 exact((b8v ..).extBut.push _).push _
theorem walks_raw(hh:A.handled=none)(I d:Addr)(hne:d≠I)(es:Array a3j)(ep:Nat) :
  Walks prog w A I [I,d] [I] es.size (fun i v=>∃e,es[i]? = some e/\v=e.key) (fun i h=>h.IsKeyIter I d i es.size ep/\Raw h d es ep) where
 sub:=fun b hb=>by simp at hb;simp[hb]
 frame:=fun _ _ _ st hk=>⟨st.1.at fun o e=>hk I (by simp) o e,st.2.at fun o e=>hk d (by simp) o e⟩
 item:=fun i s Q E hi st hQ=>next_raw st.1 st.2 hi fun h' hit' hs'=>hQ _ h' s.toks ⟨_,a7u hi,rfl⟩ ⟨hit',st.2.at fun o e=>hs'.extBut d o hne e⟩ fun b o hb e=>hs'.extBut b o (fun h=>hb (by simp[h])) e
 done:=fun s Q E st hQ=>end_raw hh st.1 st.2 (j6 _) fun h' he'=>hQ h' s.toks fun b o hb e=>he' b o (fun h=>hb (by simp[h])) e
 self:=fun _ _ _ _ st hQ=>wpAny_pyIter_keyiter st.1 hQ
theorem list_raw{d:Addr}{es:Array a3j}{ep:Nat}(lo:(d == a1U)=false):PySem.W.KdlSrc prog w "dict" d d es.size (fun i v=>∃e,es[i]? = some e/\v=e.key) (fun h=>Raw h d es ep) where
 type:=fun s hm=>Raw.typeIs (s:=s) hm
 there:=fun _ ⟨_,h1,_⟩=>⟨l9 h1,l9 h1⟩
 keep:=fun _ _ hm hk=>hm.at fun o e=>hk d (.inl rfl) o e
 notList:=by decide
 notTuple:=by decide
 hint:=fun _ _ _ _ hm hq=>PySem.W.kdl_hint_dict (Raw.typeIs hm) hq
 iter:=fun _ _ hh hm=>⟨_,_,(fun _ _ hq=>iter_raw lo hm hq),walks_raw hh _ d (z9 (let⟨_,h1,_⟩:=hm;l9 h1)) es ep,⟨⟨_,A5 _ rfl,rfl,rfl⟩,hm.at fun _ e=>j4 _ e⟩⟩
end
end PySem
namespace L2
open PySem PySem.Spec PyProof.Rows
section
variable {X:Cx}
end
end L2
namespace PySem
open Sem (wp)
section
variable {prog:D0}{w:World}{K:Type}[DecidableEq K]{knd:HeapKind prog w K}{A:U8}{s:k8}{R:c8R->k8->Prop}
def Lasts(knd:HeapKind prog w K):Prop:=∀(h h':Heap) k a,knd.is h k a->(∀o,h.get? a=some o->h'.get? a=some o)->knd.is h' k a
theorem dofh_move{h h':Heap}{d:Addr}{xs:List (K×Addr×Value)}(L:Lasts knd)(hm:h.DictOfH knd d xs)(hd:∀o,h.get? d=some o->h'.get? d=some o)(hk:∀x∈xs,∀o,h.get? x.2.1=some o->h'.get? x.2.1=some o):h'.DictOfH knd d xs:=by
 obtain⟨o,es,ep,h1,h2,h3,h4,h5,h6⟩:=hm
 exact⟨o,es,ep,hd _ h1,h2,h3,h4,fun x hx=>L _ _ _ _ (h5 x hx) (hk x hx),h6⟩
theorem take_new{ps:List (K×Addr×Value)}(nd:(ps.map (·.1)).Nodup){i:Nat}{k:K}{p:Addr×Value}(h:ps[i]? = some (k,p)):atKey (ps.take i) k=none:=atKey_none_of_get fun j q hj=>by
 have hji:j<i:=by
  have:=(t6.mp hj).1
  rw[D8]at this
  omega
 rw[c0i hji]at hj
 have:=(L2.c6C nd hj h).1
 omega
theorem update_loop_h{d I l:Addr}{items:Array Value}{ps:List (K×Addr×Value)}(L:Lasts knd)(hu:knd.room A.in1)(hh:A.handled=none)(nd:(ps.map (·.1)).Nodup)(hdI:d≠I)(hld:l≠d)(hlI:l≠I)(hn:items.size=ps.length)(hsz:ps.length<=u9)(res:Value){h₁:Heap}(hl:h₁.IsList l items)
  (hp:∀(i:Nat) k c v,ps[i]? = some (k,c,v)->∃p n dd ss,items[i]? = some (.ref p)/\h₁.get? p=some ⟨.type "tuple",dd,.seq #[.ref c,v] n,ss⟩/\knd.is h₁ k c/\p≠d/\p≠I/\c≠d/\c≠I)
  (hR:∀h' tk,(∀b o,b≠d->b≠I->h₁.get? b=some o->h'.get? b=some o)->h'.DictOfH knd d ps->R (.ok (.ret res)) { s with heap:=h',toks:=tk }) :
  ∀(m i:Nat) (h:Heap) (tk:Nat) (u:Tok),ps.length - i=m->i<=ps.length->h.IsListIter I l i->h.DictOfH knd d (ps.take i)->(∀b o,b≠d->b≠I->h₁.get? b=some o->h.get? b=some o) ->
   a7x (model prog w) A (.builtin "dict.update.loop" ⟨[.ref d,.ref I,.int (i:Int) u,res],[]⟩) R { s with heap:=h,toks:=tk }:=by
 intro m
 have cI:∀(i:Nat),∀x∈ps.take i,x.2.1≠I/\x.2.1≠d:=fun i x hx=>by
  obtain⟨j,hj⟩:=C0.mp (c4l hx)
  obtain⟨p,n,dd,ss,_,_,_,_,_,e1,e2⟩:=hp j x.1 x.2.1 x.2.2 hj
  exact⟨e2,e1⟩
 induction m with
 | zero=>
  intro i h tk u hm hi hit hD hkeep
  have hin:i=ps.length:=by omega
  subst hin
  obtain⟨ol,hol,hcl,nl,hdl⟩:=id hl
  have hl':h.IsList l items:=⟨ol,hkeep _ _ hld hlI hol,hcl,nl,hdl⟩
  refine b3T F.entry_update_loop ?_
  rw[Around.under_plainId F.plain_update_loop _]
  show wpAny _ A.in1 (b8B (.ref I) >>= _) _ _ _
  refine i8 (b3P (s:={ s with heap:=h,toks:=tk }) (A:=A.in1) hh hit hl' (by simp[hn]) fun h' he=>?_)
  refine i8 (u7 (u7 (hR h' tk (fun b o h1 h2 e=>he b o h2 (hkeep b o h1 h2 e)) ?_)))
  have c:=cI ps.length
  rw[G0]at hD c
  exact dofh_move L hD (fun o e=>he _ _ hdI e) fun x hx o e=>he _ _ (c x hx).1 e
 | succ m ih=>
  intro i h tk u hm hi hit hD hkeep
  have hlt:i<ps.length:=by omega
  obtain⟨⟨k,c,x⟩,hx⟩:∃p,ps[i]? = some p:=⟨ps[i],c7 hlt⟩
  obtain⟨p,n,dd,ss,e1,e2,e3,e4,e5,e6,e7⟩:=hp i k c x hx
  obtain⟨ol,hol,hcl,nl,hdl⟩:=id hl
  have hl':h.IsList l items:=⟨ol,hkeep _ _ hld hlI hol,hcl,nl,hdl⟩
  refine b3T F.entry_update_loop ?_
  rw[Around.under_plainId F.plain_update_loop _]
  show wpAny _ A.in1 (b8B (.ref I) >>= _) _ _ _
  refine i8 (b3f (s:={ s with heap:=h,toks:=tk }) (A:=A.in1) hit hl' e1 fun h' hit' sb=>?_)
  have e2':h'.get? p=some ⟨.type "tuple",dd,.seq #[.ref c,x] n,ss⟩:=(sb.2 p e5).trans (hkeep _ _ e4 e5 e2)
  have e3':knd.is h' k c:=L _ _ _ _ e3 fun o e=>(sb.2 c e7).trans (hkeep _ _ e6 e7 e)
  refine i8 (a3a (i8 (wpAny_tryCatch ?_)))
  unfold Builtin.Dict.pairItems
  refine i8 (b3O (show({ s with heap:=h',toks:=tk }:k8).TypeIs (.ref p) "tuple" from⟨_,e2',rfl⟩) ?_)
  rw[if_pos (by decide)]
  refine i8 (wpAny_seqItems e2' rfl (u7 ?_))
  have hD':h'.DictOfH knd d (ps.take i):=dofh_move L hD (fun o e=>(sb.2 d hdI).trans e) fun x hx o e=>(sb.2 _ (cI i x hx).1).trans e
  show wpAny _ _ (a4H [.ref c,x] (dictSet d (.ref c) x)) _ _ _
  refine a3a (wpAny_dictSet_heap (s:={ s with heap:=h',toks:=tk }) (hsz:=by rw[D8];omega) hu e3' hD' fun h'' hD'' sb2=>?_)
  refine u7 ⟨b8C F.plain_update_loop _,?_⟩
  have tk1:ps.take (i+1)=ps.take i++[(k,c,x)]:=by rw[K5,hx];rfl
  rw[storedH_new (take_new nd hx)]at hD''
  refine ih (i+1) h'' _ _ (by omega) hlt ?_ (by rw[tk1];exact hD'') fun b o h1 h2 e=>(sb2.2 b h1).trans ((sb.2 b h2).trans (hkeep b o h1 h2 e))
  obtain⟨oi,g1,g2,g3⟩:=hit'
  exact⟨oi,(sb2.2 I (Ne.symm hdI)).trans g1,g2,g3⟩
end
section
variable {prog:D0}{w:World}{K:Type}[DecidableEq K]{knd:HeapKind prog w K}{A:U8}{E:Value->k8->Prop}{s:k8}
theorem call_dict_pairs_h{l:Addr}{items:Array Value}{n:Nat}{sl:Array (Option Value)}{ps:List (K×Addr×Value)}{Q:Value->k8->Prop}(L:Lasts knd)(hu:knd.room A.in1.in1)(hh:A.handled=none)(nd:(ps.map (·.1)).Nodup)(hl:s.heap.get? l=some ⟨.type "list",none,.seq items n,sl⟩)(hn:items.size=ps.length)(hsz:ps.length<=u9)
  (hp:∀(i:Nat) k c v,ps[i]? = some (k,c,v)->∃p n dd ss,items[i]? = some (.ref p)/\s.heap.get? p=some ⟨.type "tuple",dd,.seq #[.ref c,v] n,ss⟩/\knd.is s.heap k c/\∃o,s.heap.get? c=some o)
  (h:∀h' tk,(∀b o,s.heap.get? b=some o->h'.get? b=some o)->h'.DictOfH knd s.heap.objs.size ps->Q (.ref s.heap.objs.size) { s with heap:=h',toks:=tk }) :
  wpAny (model prog w) A (call (.type "dict") [.ref l]) Q E s:=by
 refine callType_codes (Q₁:=fun obj s₁=>obj=.ref s.heap.objs.size/\s₁={ s with heap:=s.heap.push { cls:=.type "dict",data:=.dict #[] } }) F.kt_called_dict (F.kt_typeCall_dict_1 _) F.entry_dict_init (kt_code_dict_new _ ⟨rfl,rfl⟩) ?_
 rintro obj s₁ ⟨rfl,rfl⟩
 have hnew:(s.heap.push { cls:=.type "dict",data:=.dict #[] }).DictOfH knd s.heap.objs.size []:=Heap.DictOfH.new s.heap
 have hT:({ s with heap:=s.heap.push { cls:=.type "dict",data:=.dict #[] } }:k8).TypeIs (.ref s.heap.objs.size) "dict" := ⟨_,A5 _ rfl,rfl⟩
 have hl1:(s.heap.push { cls:=.type "dict",data:=.dict #[] }).get? l=some ⟨.type "list",none,.seq items n,sl⟩:=j4 _ hl
 refine⟨hT,F.args_dict_init_2 _ _,?_⟩
 unfold d3i.«dict.__init__» Builtin.Dict.selfAndRest
 refine i8 (i8 (b3Q hT (u7 ?_)))
 show wpAny _ _ (Builtin.Dict.updateFrom "dict.__init__" s.heap.objs.size (.ref l) [] .none) _ _ _
 unfold Builtin.Dict.updateFrom
 refine i8 (b3O (show({ s with heap:=s.heap.push { cls:=.type "dict",data:=.dict #[] } }:k8).TypeIs (.ref l) "list" from⟨_,hl1,rfl⟩) ?_)
 rw[if_pos (by decide)]
 refine i8 (keys_attr_list (A:=A.in1.in1) hh hl1 fun h2 t2 k2=>?_)
 rw[if_pos (show(none:Option Value).isNone=true from rfl)]
 refine i8 (wpAny_rule ?_)
 have hl2:h2.IsList l items:=⟨_,k2 _ _ hl1,rfl,n,rfl⟩
 refine i8 (a6K (s:={ s with heap:=h2,toks:=t2 }) hl2 ?_)
 have hdlt:s.heap.objs.size<h2.objs.size:=by
  obtain⟨o,es,ep,ho,_⟩:=hnew
  exact l9 (k2 _ _ ho)
 have up:∀b o,s.heap.get? b=some o->(h2.push { cls:=.type "list_iterator",data:=.fields #[.ref l,.int 0 0] }).get? b=some o:=fun b o e=>j4 _ (k2 _ _ (j4 _ e))
 have ne1:∀b o,s.heap.get? b=some o->b≠s.heap.objs.size/\b≠h2.objs.size:=fun b o e=>⟨z9 (l9 e),z9 (l9 (k2 _ _ (j4 _ e)))⟩
 refine u7 ⟨b8C F.plain_update_loop _,?_⟩
 have hD2:(h2.push { cls:=.type "list_iterator",data:=.fields #[.ref l,.int 0 0] }).DictOfH knd s.heap.objs.size (ps.take 0):=dofh_move L hnew (fun o e=>j4 _ (k2 _ _ e)) fun x hx=>nomatch hx
 refine update_loop_h (s:=s) (A:=A.in1) (knd:=knd) (d:=s.heap.objs.size) (I:=h2.objs.size) (ps:=ps) L hu hh nd (z9 hdlt) (ne1 l _ hl).1 (ne1 l _ hl).2 hn hsz .none ?_ (fun i k c v e=>?_) (fun h' tk kp hd=>⟨rfl,h h' tk (fun b o e=>kp b o (ne1 b o e).1 (ne1 b o e).2 (up _ _ e)) hd⟩) ps.length 0 _ _ _ (by omega) (Z0 _) ⟨_,A5 _ rfl,rfl,rfl⟩ hD2 fun b o _ _ e=>e
 ·exact⟨_,up _ _ hl,rfl,n,rfl⟩
 ·obtain⟨p,m,dd,ss,a1,a2,a3,o,a4⟩:=hp i k c v e
  exact⟨p,m,dd,ss,a1,up _ _ a2,L _ _ _ _ a3 fun o e=>up _ _ e,(ne1 p _ a2).1,(ne1 p _ a2).2,(ne1 c _ a4).1,(ne1 c _ a4).2⟩
theorem tuple_lasts{K:Type}[DecidableEq K](kk:KeyKind prog w K):Lasts (a5c kk):=fun h h' k a ⟨o,its,n,h1,r⟩ e=>⟨o,its,n,e _ h1,r⟩
end
end PySem
namespace L2
open PySem PySem.Spec PyProof.Rows
variable{X:Cx}{H:Hp}{a:Addr}{w:World}{h:Heap}{ys:List (List Key×Addr×Value)}{kvs:List (Key×V)}
section
end
section
variable {pins:List (Addr×Obj)}{σ:St}{s:k8}
end
abbrev XE:=List Key×Addr×V
variable{xs:List XE}
def d1y(k:List Key):Prop:=∀y∈k,∃i:Int,y=Sum.inl i
theorem c3C{P P':D0}{w':World}(x:List Key×Addr×Value)(h:d1y x.1):c8P (a5c (O2 P w)) x=c8P (a5c (O2 P' w')) x:=by
 have e:x.1.map (O2 P w).hash=x.1.map (O2 P' w').hash:=a3V fun y hy=>by
  obtain⟨i,rfl⟩:=h y hy
  rfl
 show DictEntry.mk (reduceHash (Builtin.Tuple.tupleHashOf (x.1.map (O2 P w).hash))) _ _=DictEntry.mk (reduceHash (Builtin.Tuple.tupleHashOf (x.1.map (O2 P' w').hash))) _ _
 rw[e]
abbrev XR:List XE->List (List Key×Addr×Value)->Prop:=Paired fun p q=>p.1=q.1/\p.2.1=q.2.1/\L5 p.2.2 q.2.2
def b8q(h:Heap)(a:Addr)(xs:List XE):Prop:=xs.length<=u9/\(a == a1U)=false/\(xs.map (·.1)).Nodup/\(∀x∈xs,d1y x.1)/\∃ys,XR xs ys/\∃(P:D0) (w:World) (o:Obj) (es:Array a3j) (ep:Nat),h.get? a=some o/\o.ExactDict/\o.data=.dict es ep/\es.toList=ys.map (c8P (a5c (O2 P w)))
def dX(a:Addr)(xs:List XE):HO:=.ext fun h=>b8q h a xs
theorem b8q.there(x:b8q h a xs):∃o,h.get? a=some o:=by
 obtain⟨_,_,_,_,_,_,_,_,o,_,_,e,_⟩:=x
 exact⟨o,e⟩
theorem b8q.stay{h':Heap}(x:b8q h a xs)(k:∀o,h.get? a=some o->h'.get? a=some o):b8q h' a xs:=by
 obtain⟨z,y,nd,ik,ys,r,P,w,o,es,ep,e,c⟩:=x
 exact⟨z,y,nd,ik,ys,r,P,w,o,es,ep,k _ e,c⟩
theorem b8q.ok{P:D0}(x:b8q h a xs):a0u P w H h a (dX a xs):=⟨x,x.there,fun _ _ q k=>q.stay k⟩
def b5u(K:Fg)(H:Hp)(xs:List XE):Prop:=∀x∈xs,SqT K H x.2.1 (x.1.map kV)
section
variable {pins:List (Addr×Obj)}{σ:St}{s:k8}{b:Addr}{k:List Key}
theorem b3H(I:Inv X pins σ H s)(h:SqT X.K H b (k.map kV)):(a5c (O2 X.prog X.w)).is s.heap k b:=by
 obtain⟨its,r,⟨o,h1,h2,n,h3⟩,_⟩:=I.tuple h
 exact⟨o,its.toArray,n,h1,h2,h3,by simpa using b2w r⟩
theorem b6Z:∀ {xs:List XE} {ys:List (List Key×Addr×Value)},XR xs ys->xs.map (·.1)=ys.map (·.1)
 | [],_,.nil=>rfl
 | p::xs,_,.cons (b:=q) r t=>by rw[J0,J0,r.1,b6Z t]
theorem c4F:∀ {xs:List XE} {ys:List (List Key×Addr×Value)},XR xs ys->∀y∈ys,∃x∈xs,x.1=y.1/\x.2.1=y.2.1/\L5 x.2.2 y.2.2
 | [],_,.nil,y,h=>by cases h
 | p::xs,_,.cons (b:=q) r t,y,h=>by
  rcases u5.mp h with rfl | h
  ·exact⟨p,X2,r⟩
  ·obtain⟨x,hx,z⟩:=c4F t y h
   exact⟨x,I0 _ hx,z⟩
theorem c6r(I:Inv X pins σ H s)(e:H a=some (dX a xs))(hk:b5u X.K H xs):xs.length<=u9/\(a == a1U)=false/\∃ys,XR xs ys/\s.heap.DictOfH (a5c (O2 X.prog X.w)) a ys:=by
 obtain⟨⟨z,y,nd,ik,ys,r,P,w,o,es,ep,e1,e2,e3,e4⟩,_⟩:=(show a0u X.prog X.w H s.heap a (dX a xs)from I.hok a _ e)
 refine⟨z,y,ys,r,o,es,ep,e1,e2,e3,e4.trans (a3V fun q hq=>c3C q (by obtain⟨x,hx,z,_⟩:=c4F r q hq;rw[<-z];exact ik x hx)),fun y hy=>?_,?_⟩
 ·obtain⟨x,hx,q1,q2,_⟩:=c4F r y hy
  have:=b3H I (hk x hx)
  rw[q1,q2]at this
  exact this
 ·rw[<-b6Z r];exact nd
def b4e(xs:List XE)(k:List Key):Option V:=(xs.find? fun x=>decide (x.1=k)).map (·.2.2)
theorem c0q:∀ {xs:List XE} {ys:List (List Key×Addr×Value)},XR xs ys->∀k,a9v (b4e xs k) ((atKey ys k).map (·.2))
 | [],_,.nil,k=>trivial
 | p::xs,_,.cons (b:=q) r t,k=>by
  have ih:=c0q t k
  unfold b4e atKey at ih ⊢
  rw[a0T,a0T]
  by_cases e:p.1=k
  ·have e':q.1=k:=r.1.symm.trans e
   simp only[e,e',decide_true]
   exact r.2.2
  ·have e':¬q.1=k:=fun z=>e (r.1.trans z)
   simp only[e,e',decide_false]
   exact ih
end
def b5I(K:Fg)(neg:Bool)(ti to:TE):TE:=fun σ H Q=>ti σ H fun y H1=>to σ H1 fun x H2=>∃a b xs k,x=.ref a/\y=.ref b/\H2 a=some (dX a xs)/\b5u K H2 xs/\SqT K H2 b (k.map kV)/\Q (.bl (if neg then !(b4e xs k).isSome else (b4e xs k).isSome)) H2
def b4H(K:Fg):List V->Hp->VK->Prop:=fun vs H Q=>∃a xs,vs=[.ref a]/\H a=some (dX a xs)/\b5u K H xs/\∀l,H l=none->Q (.ref l) (upd H l (.lst (xs.map fun x=>V.ref x.2.1)))
def b7B(K:Fg):List V->Hp->VK->Prop:=fun vs H Q=>∃a us xs,vs=[.ref a]/\H a=some (.lst us)/\us.length=(xs:List XE).length /\
 (∀(i:Nat) x,xs[i]? = some x->∃p,us[i]? = some (.ref p)/\H p=some (.tup [.ref x.2.1,x.2.2]))/\b5u K H xs/\(xs.map (·.1)).Nodup/\(∀x∈xs,d1y x.1)/\∀p,H p=none->Q (.ref p) (upd H p (dX p xs))
section
variable {i o:Expr}{ti to:TE}
theorem b6x{o:Option V}{u:Option Value}(h:a9v o u):o.isSome=u.isSome:=h.isSome_eq
theorem d0x(hu:X.A.units+1<cLine)(hi:PE X i ti)(ho:PE X o to):PC X .In i o (b5I X.K false ti to):=by
 intro pins s σ H Q I h
 refine thn (hi pins s σ H _ I h) fun iv s1 ⟨y,H1,I1,ry,q1⟩=>thn (ho pins s1 σ H1 _ I1 q1) fun u s2 ⟨x,H2,I2,rx,a,b,xs,k,ex,ey,ea,hk,hb,q2⟩=>?_
 subst ex ey
 cases rx
 cases ry
 obtain⟨_,hd,ys,r,dd⟩:=c6r I2 ea hk
 refine wpAny_in_heap (a5J hu) (b3H I2 hb) hd dd ?_
 have q:=b6x (c0q r k)
 rw[a2D]at q
 rw[<-q]
 exact⟨.bl (b4e xs k).isSome,H2,I2.tok _,rfl,q2⟩
theorem c3d(hu:X.A.units+1<cLine)(hi:PE X i ti)(ho:PE X o to):PC X .NotIn i o (b5I X.K true ti to):=by
 intro pins s σ H Q I h
 refine thn (hi pins s σ H _ I h) fun iv s1 ⟨y,H1,I1,ry,q1⟩=>thn (ho pins s1 σ H1 _ I1 q1) fun u s2 ⟨x,H2,I2,rx,a,b,xs,k,ex,ey,ea,hk,hb,q2⟩=>?_
 subst ex ey
 cases rx
 cases ry
 obtain⟨_,hd,ys,r,dd⟩:=c6r I2 ea hk
 refine wpAny_notIn_heap (a5J hu) (b3H I2 hb) hd dd ?_
 have q:=b6x (c0q r k)
 rw[a2D]at q
 rw[<-q]
 exact⟨.bl (!(b4e xs k).isSome),H2,I2.tok _,rfl,q2⟩
theorem c4E(r:XR xs ys):xs.length=ys.length:=Paired.length r
theorem c0r:∀ {xs:List XE} {ys:List (List Key×Addr×Value)} {i:Nat} {y:List Key×Addr×Value},XR xs ys->ys[i]? = some y->∃x,xs[i]? = some x/\x.1=y.1/\x.2.1=y.2.1/\L5 x.2.2 y.2.2
 | [],_,i,y,.nil,e=>by cases e
 | p::xs,_,0,y,.cons (b:=q) r t,e=>by cases e;exact⟨p,rfl,r⟩
 | p::xs,_,i+1,y,.cons (b:=q) r t,e=>c0r (i:=i) t e
theorem b9W(hc:X.calm=true):a0S X (.type "list") (b4H X.K):=fun pins s σ H vs us Q I r h=>by
 obtain⟨a,xs,rfl,ha,hk,q⟩:=h
 obtain⟨u,rfl,ru⟩:=a8d r
 cases ru
 obtain⟨hz,hd,ys,rk,o,es,ep,e1,e2,e3,e4,_⟩:=c6r I ha hk
 have hl:=c4E rk
 have hs:es.size=ys.length:=size_of_entries e4
 refine c6H (list_raw (es:=es) (ep:=ep) hd) (I.ok.hd hc) ⟨o,e1,e2,e3⟩ (by omega) fun h' tk acc c hkp hacc hit=>?_
 refine⟨.ref _,_,I.laid (t':=tk) (a:=s.heap.objs.size) (o:=.lst (xs.map fun x=>V.ref x.2.1)) hkp (j6 _) ?_,rfl,q _ (I.hok.fresh (j6 _))⟩
 refine⟨by rw[b9];omega,acc.toList,c,?_,by simpa using hacc⟩
 refine b7b (by have:=hit.1;rw[b9];simp;omega) fun i x u a b=>?_
 obtain⟨en,g1,g2⟩:=hit.2 i u (by rw[<-a0j];exact b)
 rw[<-a0j,e4,b6]at g1
 obtain⟨y,hy,rfl⟩:=z8.mp g1
 obtain⟨z,hz1,_,hz3,_⟩:=c0r rk hy
 rw[b6,hz1]at a
 cases a
 rw[g2]
 show Value.ref y.2.1=Value.ref z.2.1
 rw[hz3]
theorem b4L{P:D0}(ok:HOk P w H h):∀(xs:List XE) (us:List V) (its:List Value),us.length=xs.length->(∀(i:Nat) x,xs[i]? = some x->∃p,us[i]? = some (.ref p)/\H p=some (.tup [.ref x.2.1,x.2.2]))->O6 us its ->
  ∃ps,XR xs ps/\∀(i:Nat) k c v,ps[i]? = some (k,c,v)->∃p n dd ss,its[i]? = some (.ref p)/\h.get? p=some ⟨.type "tuple",dd,.seq #[.ref c,v] n,ss⟩
 | [],_,_,_,_,_=>⟨[],.nil,fun i k c v e=>by simp at e⟩
 | x::xs,[],_,l,_,_=>by cases l
 | x::xs,v::vs,its,l,hp,rv=>by
  cases rv with
  | cons r0 rv=>
   rename_i u its
   obtain⟨p,e1,e2⟩:=hp 0 x rfl
   cases e1
   cases r0
   obtain⟨ps,q1,q2⟩:=b4L ok xs vs its (by simpa using l) (fun i k e=>hp (i+1) k e) rv
   obtain⟨_,js,rj,o,g1,g2,n,g3⟩:=(show a0u P w H h p (.tup [.ref x.2.1,x.2.2])from ok p _ e2)
   obtain⟨u1,u2,rfl,r1,r2⟩:=b6q rj
   cases r1
   refine⟨(x.1,x.2.1,u2)::ps,.cons ⟨rfl,rfl,r2⟩ q1,fun i k' c' v' e=>?_⟩
   cases i with
   | zero=>
    cases e
    refine⟨p,n,o.dict,o.slots,rfl,?_⟩
    rw[g1]
    cases o
    cases g2
    cases g3
    rfl
   | succ i=>exact q2 i k' c' v' e
theorem b3b(hc:X.calm=true)(hr:X.A.units+2<cLine):a0S X (.type "dict") (b7B X.K):=fun pins s σ H vs us Q I r h=>by
 obtain⟨a,ws,xs,rfl,hl,hn,hp,hk,nd,ik,q⟩:=h
 obtain⟨u,rfl,ru⟩:=a8d r
 cases ru
 obtain⟨hz,its,n,rv,hg⟩:=(show a0u X.prog X.w H s.heap a (.lst ws)from I.hok a _ hl)
 have li:=Paired.length rv
 obtain⟨ps,rel,hps⟩:=b4L I.hok xs ws its hn hp rv
 have hpl:=c4E rel
 have hnd:(ps.map (·.1)).Nodup:=by rw[<-b6Z rel];exact nd
 refine call_dict_pairs_h (knd:=a5c (O2 X.prog X.w)) (ps:=ps) (tuple_lasts _) (show X.A.units+1+1<cLine by omega) (I.ok.hd hc) hnd hg (by simp;omega) (by omega) (fun i k c v e=>by
  obtain⟨p,m,dd,ss,a1,a2⟩:=hps i k c v e
  obtain⟨x,hx,z1,z2,_⟩:=c0r rel e
  have ky:=b3H I (hk x (a1G hx))
  rw[z1,z2]at ky
  exact⟨p,m,dd,ss,by simpa using a1,a2,ky,let⟨o,_,_,z,_⟩:=ky; ⟨o,z⟩⟩) fun h' tk kp dd=>?_
 have hf:=I.hok.fresh (j6 s.heap.objs.size)
 obtain⟨o,es,ep,d1,d2,d3,d4,_,d6⟩:=dd
 have dx:b8q h' s.heap.objs.size xs:=⟨by omega,beq_eq_false_iff_ne.mpr (Ne.symm (z9 I.big)),nd,ik,ps,rel,X.prog,X.w,o,es,ep,d1,d2,d3,d4⟩
 exact⟨.ref s.heap.objs.size,_,I.laid (a:=s.heap.objs.size) (o:=dX s.heap.objs.size xs) (t':=tk) (fun b o hb=>kp b o hb) (j6 _) dx.ok,rfl,q _ hf⟩
end
section
end
section
variable {pins:List (Addr×Obj)}{σ:St}{s:k8}
theorem Inv.thawK{o:Obj}(I:Inv X pins σ H s)(e:H a=some (.frz o (.dK kvs)))(nf:∀o u,X.H₀ a≠some (.frz o u)):Inv X pins σ (upd H a (.dK kvs)) s:=by
 have no:∀b,H b=none->(upd H a (.dK kvs)) b=none:=fun b q=>by rw[i9 (c8 e q).symm];exact q
 refine⟨I.ok,I.os,I.bare,⟨I.base.keep,I.base.slot,fun b o q n x=>no b (I.base.free b o q n x),I.base.there,fun b xs q=>?_,fun b o u q=>?_,fun b ps q=>?_⟩,I.loc,I.cell,no _ I.free,fun x c q=>no _ (I.freeC x c q),fun p hp=>?_,fun b u q=>?_,I.len⟩
 ·have:=I.base.tups b xs q
  rw[i9 (K0 this e (by intro z;cases z))];exact this
 ·have:b≠a:=fun z=>nf o u (z ▸ q)
  rw[i9 this];exact I.base.frzs b o u q
 ·obtain⟨m,r⟩:=I.base.tbls b ps q
  exact⟨m,by rw[i9 (K0 r e (by intro z;cases z))];exact r⟩
 ·obtain⟨h1,h2,r⟩:=I.pin p hp
  exact⟨h1,no _ h2,r⟩
 ·have st:∀ {c:Addr} {v:HO},a0u X.prog X.w H s.heap c v->a0u X.prog X.w (upd H a (.dK kvs)) s.heap c v:=fun {c v} x=>x.stay (fun _ _ _ r=>r) (fun d r=>by rw[i9 (K0 r e (by intro z;cases z))];exact r) fun d xs r=>by rw[i9 (K0 r e (by intro z;cases z))];exact r
  by_cases hb:b=a
  ·subst hb
   rw[c9]at q
   cases q
   exact st (I.hok b _ e).2
  ·rw[i9 hb]at q
   exact st (I.hok b u q)
theorem b6B{P:D0}:∀ {es:List a3j} {kvs:List (Key×Value)},Pairs (O2 P w) es kvs->es.length=kvs.length/\∀(i:Nat) en,es[i]? = some en->∃k,kvs[i]? = some k/\(O2 P w).is k.1 en.key=true
 | _,_,.nil=>⟨rfl,fun i en h=>by cases h⟩
 | _,_,.cons h1 h2 r=>by
  obtain⟨l,g⟩:=b6B r
  refine⟨by rw[D5,D5,l],fun i en h=>?_⟩
  cases i with
  | zero=>cases h;exact⟨_,rfl,h1⟩
  | succ i=>exact g i en h
theorem d2i{P:D0}(ok:HOk P w H h)(e:H a=some (.dK kvs)):(a == a1U)=false/\∃es ep,Raw h a es ep/\es.size=kvs.length/\∀(i:Nat) en,es[i]? = some en->∃k,kvs[i]? = some k/\L5 (kV k.1) en.key:=by
 obtain⟨_,hd,vs,r,o,es,ep,h1,h2,h3,h4,h5,_⟩:=c2o ok e
 obtain⟨l,g⟩:=b6B h5
 have hl:=Paired.length r
 refine⟨hd,es,ep,⟨o,h1,h2,h3⟩,by rw[<-a3L,l];exact hl.symm,fun i en he=>?_⟩
 obtain⟨k,q1,q2⟩:=g i en (by rw[a0j];exact he)
 obtain⟨y,hy⟩:=c6b (k:=k.1) (x:=k.2) r q1
 exact⟨_,hy,c9j q2⟩
def Itk(ob:Obj)(a:Addr)(kvs:List (Key×V)):It:=
 ⟨fun i H=>i<kvs.length/\H a=some (.frz ob (.dK kvs)),fun i H x H'=>H'=H/\∃k,kvs[i]? = some k/\x=kV k.1,fun i H=>kvs.length<=i/\H a=some (.frz ob (.dK kvs))⟩
def c6i(P:Addr->Prop)(ta:TE):TI:=fun σ H R=>ta σ H fun x H1=>∃a kvs,x=.ref a/\H1 a=some (.dK kvs)/\(P a->∀ob,R (Itk ob a kvs) (upd H1 a (.frz ob (.dK kvs))))
theorem c0v{P:D0}{K:Fg}{tg:Expr}{ob:Obj}{it:Addr}{es:Array a3j}{ep:Nat}(h2:ob.ExactDict)(h3:ob.data=.dict es ep)(hl:es.size=kvs.length)(hk:∀(i:Nat) en,es[i]? = some en->∃k,kvs[i]? = some k/\L5 (kV k.1) en.key) :
  b6h P w K tg (Itk ob a kvs) [it] it (fun i h=>h.IsKeyIter it a i es.size ep) where
 mem:=by simp
 obj:=fun i h st b hb=>by
  have e:b=it:=by simpa using hb
  subst e
  obtain⟨o,e,c,d⟩:=st
  exact⟨o,e,fun v z=>by rw[d]at z;cases z⟩
 keep:=fun i h h' st k=>st.at fun o e=>k it (by simp) o e
 item:=by
  intro X hP hw hK hc i pins s σ H E I hf st hg
  subst hP hw hK
  obtain⟨hi,e⟩:=hg
  obtain⟨f0,f1,f2,f3,f4,f5⟩:=hf it (by simp)
  have hr:Raw s.heap a es ep:=⟨ob,(I.hok a _ e).1,h2,h3⟩
  have hi':i<es.size:=by omega
  obtain⟨k,hb,kb⟩:=hk i es[i] (a7u hi')
  refine next_raw st hr hi' fun h' st' sb=>?_
  have I1:Inv X pins σ H { s with heap:=h' }:=I.turned (t':=s.toks) (fun b o hb e=>(sb.2 b hb).trans e) f0 f1 f3 f4 f5
  obtain⟨o,e,c,d⟩:=id st'
  exact⟨_,rfl,b9H (s:={ s with heap:=h' }) e c d (by decide) ⟨kV k.1,H,I1,kb,⟨rfl,k,hb,rfl⟩,st',fun b hb=>(hf b hb).1⟩⟩
 done:=by
  intro X hP hw hK hc i pins s σ H E I hf st hg
  subst hP hw hK
  obtain⟨hi,e⟩:=hg
  obtain⟨f0,f1,f2,f3,f4,f5⟩:=hf it (by simp)
  exact end_raw (I.ok.hd hc) st ⟨ob,(I.hok a _ e).1,h2,h3⟩ (by omega) fun h' eb=>⟨rfl,I.turned (t':=s.toks) (fun b o hb e=>eb b o hb e) f0 f1 f3 f4 f5⟩
 self:=fun _ _ _ _ _ st h=>wpAny_pyIter_keyiter st h
theorem c5w{tg l:Expr}{tl:TE}(hl:PE X l tl):PI X tg l (c6i (fun a=>∀o u,X.H₀ a≠some (.frz o u)) tl):=by
 intro pins s σ H R I h
 refine thn (hl pins s σ H _ I h) fun v s1 ⟨x,H1,I1,r1,q1⟩=>?_
 obtain⟨a,kvs,e,hq,q⟩:=q1
 subst e
 cases r1
 obtain⟨hd,es,ep,⟨ob,o1,o2,o3⟩,hs,hk⟩:=d2i I1.hok hq
 have nf:∀o u,X.H₀ a≠some (.frz o u):=fun o u z=>by
  have:=I1.base.frzs a o u z
  rw[hq]at this
  cases this
 refine iter_raw hd ⟨ob,o1,o2,o3⟩ ?_
 have nt:∀d ys,H1 d=some (.tup ys)->(upd H1 a (.frz ob (.dK kvs))) d=some (.tup ys):=fun d ys r=>by rw[i9 (K0 r hq (by intro z;cases z))];exact r
 have I2:Inv X pins σ (upd H1 a (.frz ob (.dK kvs))) s1:=I1.write (x:=a) (e:=a) (h':=s1.heap) (t':=s1.toks) (by rw[hq];exact True.intro) (.inl rfl) (fun _ _ _ e=>e) ⟨ob,o1⟩
  ⟨o1,(I1.hok a _ hq).stay (fun _ _ _ r=>r) (fun d r=>by rw[i9 (K0 r hq (by intro z;cases z))];exact r) nt⟩
 refine⟨s1.heap.objs.size,[s1.heap.objs.size],_,_,_,rfl,I2.kept (t':=s1.toks) fun b o e=>j4 _ e,c0v (es:=es) (ep:=ep) o2 o3 hs hk,⟨_,A5 _ rfl,rfl,rfl⟩,fun b hb=>?_,q nf ob⟩
 have e:b=s1.heap.objs.size:=by simpa using hb
 subst e
 exact I2.fpOk (j6 _) (I2.hok.fresh (j6 _))
def c0y(ta:TE)(tt:TT)(te:TE):TE:=fun σ H Q=>∀P:Addr->Prop,V6 (c6i P ta) tt te σ H fun v H'=>∃a o kvs,H' a=some (.frz o (.dK kvs))/\P a/\Q v (upd H' a (.dK kvs))
theorem c5C{elt iter:Expr}{x:Str}{px pos:Pos}{ifs:List Expr}{scope:Scope}{tl:TE}{tt:TT}{te:TE}(hc:O7 X.N X.env.scope scope x)(hcalm:X.calm=true)(hi:PE X iter tl)
  (ht:∀cl C fp s3 H3,PTs (a0t X scope cl C x fp s3 H3) ifs tt) (he:∀cl C fp s3 H3,PE (a0t X scope cl C x fp s3 H3) elt te)
  (hs:∀x,T1 iter X.env x=pure x:=by intro _;rfl):PE X (.ListComp elt [⟨.Name x px,iter,ifs,0⟩] scope pos) (c0y tl tt te):=by
 intro pins s σ H Q I h
 refine thn (c2i hc hcalm (c5w hi) ht he hs pins s σ H _ I (h _)) fun u s' ⟨v,H',I',r,a,o,kvs,e,nf,q⟩=>?_
 exact⟨v,_,I'.thawK e nf,r,q⟩
end
section
def c8l(kvs:List (Key×V)):List (Key×V):=kvs.foldl (fun m p=>a2P m p.1 p.2) []
theorem d0V:∀ {kvs:List (Key×V)} {ps:List (Key×Value)},KV kvs ps->∀ {m:List (Key×V)} {n:List (Key×Value)},KV m n->KV (kvs.foldl (fun m p=>a2P m p.1 p.2) m) (ps.foldl (fun m p=>c8O m p.1 p.2) n):=by
 intro kvs ps h
 unfold KV at h
 induction h with
 | nil=>intro m n r;exact r
 | @cons p q l1 l2 h hr ih=>
  intro m n r
  rw[a1B,a1B,<-h.1]
  exact ih (KV.put r _ h.2)
def c5o:List V->Hp->VK->Prop:=fun xs H Q=>∃a vs kvs,xs=[.ref a]/\H a=some (.lst vs)/\vs.length=(kvs:List (Key×V)).length /\
 (∀(i:Nat) k x,kvs[i]? = some (k,x)->∃p,vs[i]? = some (.ref p)/\H p=some (.tup [kV k,x]))/\∀p,H p=none->Q (.ref p) (upd H p (.dK (c8l kvs)))
theorem b9Z(hc:X.calm=true):a0S X (.type "dict") c5o:=fun pins s σ H xs us Q I r h=>by
 obtain⟨a,vs,kvs,rfl,hl,hn,hp,q⟩:=h
 obtain⟨u,rfl,ru⟩:=a8d r
 cases ru
 obtain⟨hz,its,n,rv,hg⟩:=(show a0u X.prog X.w H s.heap a (.lst vs)from I.hok a _ hl)
 have li:=Paired.length rv
 obtain⟨ps,rel,hps⟩:=b4M I.hok kvs vs its hn hp rv
 have hpl:=rel.length
 refine call_dict_pairs (knd:=O2 X.prog X.w) (ps:=ps) (I.ok.hd hc) hg (by simp;omega) (by omega) (fun i k v e=>by
  obtain⟨p,key,m,dd,ss,a1,a2,a3⟩:=hps i k v e
  exact⟨p,key,m,dd,ss,by simpa using a1,a2,a3⟩) (fun qs hq=>D4 (b4I qs) (by omega)) fun h' tk kp dd=>?_
 have rel2:KV (c8l kvs) (prsF ps):=d0V rel .nil
 have ll:=rel2.length
 have l2:=b4I ps
 exact⟨.ref s.heap.objs.size,_,I.laid (a:=s.heap.objs.size) (o:=.dK (c8l kvs)) (t':=tk) (fun b o hb=>kp b o hb) (j6 _) (b7Y (by omega) (beq_eq_false_iff_ne.mpr (Ne.symm (z9 I.big))) rel2 dd),rfl,q _ (I.hok.fresh (j6 _))⟩
def c0U(K:Fg):List V->Hp->VK->Prop:=fun xs H Q=>c5o xs H Q\/b7B K xs H Q
theorem b9Y(hc:X.calm=true)(hr:X.A.units+2<cLine):a0S X (.type "dict") (c0U X.K):=(b9Z hc).or (b3b hc hr)
end
structure c0d(K:Fg)(x qual:Str)(st:Stmt)(T f:Addr)(fd:a1g):Prop where
 ex:∃(oc:Value) (od:Option Addr) (kV doc pm:Value) (an:Option Addr) (cdv ct:Value) (osl:Array (Option Value)),
  fd=Z3 x qual (a2k st) (a0y st) (f6 st) (.ref T) kV doc pm an cdv ct/\K.lookup f=some ⟨oc,od,.func fd,osl⟩/\a4C K cdv qual=true
section
variable {P:D0}{K:Fg}{mg:Str->Option Value}{base:Heap}{x qual:Str}{st:Stmt}{T f:Addr}{fd:a1g}
theorem c0d.ok{N ps:List Str}{k:Nat}{sp:Sp}(F:c0d K x qual st T f fd)(S:v0 N ps (f6 st))(len:∀vs H Q E,sp vs H Q E->vs.length=ps.length)
  (hbody:∀(cdv:Value) (A:U8) (outer:List Env) (s:k8) (H:Hp) (vs:List V) (Q:VK) (E:XK),W0 k (A.deeper (b2L qual (f6 st) s.heap.objs.size f cdv))->sp vs H Q E ->
   ∃t,PSs (b5h CX0 P w K mg base N qual (f6 st) f cdv A outer s H E).nox (a0y st) t/\t { nx:=fun _ H'=>Q .non H',rt:=Q } (a8D N vs) H):G8 P w K mg base CX0 (k+1) f fd ps sp:=by
 obtain⟨oc,od,kV,doc,pm,an,cdv,ct,osl,rfl,lk,hcd⟩:=F.ex
 refine c9k lk hcd S len fun A outer s H vs Q E hr hsp=>?_
 obtain⟨t,h,q⟩:=hbody cdv A outer s H vs Q E hr hsp
 exact⟨t,h.nox,q⟩
theorem c0d.binds{ps:List Str}{ds:List Value}{o:Obj}{items:Array Value}{n:Nat}(F:c0d K x qual st T f fd)(hT:K.lookup T=some o)(ho:o.data=.seq items n)
  (h:∀(kV doc pm:Value) (an:Option Addr) (cdv ct:Value) (us:List Value),(us++ds).length=ps.length->∃k,bindArgs (Z3 x qual (a2k st) (a0y st) (f6 st) (.ref T) kV doc pm an cdv ct) ⟨us,[]⟩=(seqItems? (.ref T) >>= k)/\k (some items)=pure (ps.zip (us++ds))):a6j K fd ps ds:=by
 obtain⟨oc,od,kV,doc,pm,an,cdv,ct,osl,rfl,lk,hcd⟩:=F.ex
 intro s us KX hl
 obtain⟨k,h1,h2⟩:=h kV doc pm an cdv ct us hl
 exact .of_defaults (T:=T) rfl (KX _ _ hT) ho h1 h2
structure b8o(P:D0)(w:World)(K:Fg)(mg:Str->Option Value)(base:Heap)(k:Nat)(x:Str)(C:Addr)(ps:List Str)(dvs:List V)(sp:Sp):Prop where
 ex:∃f fd ds,G8 P w K mg base CX0 k f fd ps sp/\mg x=some (.ref C)/\Mk K C f/\a6j K fd ps ds/\O6 dvs ds
theorem d0r{k j:Nat}{C:Addr}{ps:List Str}{sp:Sp}{dvs:List V}{e:Expr}{es:List Expr}{t:TA}{p pos:Pos}(M:b8o X.prog X.w X.K X.mg X.base k x C ps dvs sp)(hr:W0 j X.A)(hk:k+1<=j)(hg:Gl X x)(ha:PA X (e::es) t)
  (hdb:(x == ("__debug__" : Str))=false:=by decide) (he:j9 (e::es) X.env=(false,eval e X.env)::j9 es X.env:=by rfl) (hpl:(a1y pos (j9 es X.env)).any (·.1)=false:=by rfl) :
  PE X (.Call (.Name x p) (e::es) [] pos) (a3Q C sp dvs E0 t):=by
 obtain⟨f,fd,ds,F,hm,hM,hb,hd⟩:=M.ex
 exact c2h hM F (hr.mono hk) hg hm hb hd b9l ha hdb he hpl
end
end L2
namespace Y
open PySem PySem.Spec PyProof.Rows L2
structure y'E(X:Cx)(e:Expr)(t:TE):Prop where h:PE X e t
structure y'A(X:Cx)(e:List Expr)(t:TA):Prop where h:PA X e t
structure y'S(X:Cx)(e:Stmt)(t:TS):Prop where h:PS X e t
structure b3g(X:Cx)(e:List Stmt)(t:TS):Prop where h:PSs X e t
structure y'T(X:Cx)(e:Expr)(t:TT):Prop where h:PT X e t
structure y'W(X:Cx)(e:Expr)(t:TT):Prop where h:PW X e t
structure c0o(X:Cx)(e:List Expr)(t:TT):Prop where h:PTs X e t
structure b4c(X:Cx)(tg e:Expr)(t:TI):Prop where h:PI X tg e t
structure y'G(X:Cx)(e:Expr)(t:TG):Prop where h:PG X e t
structure c6U(X:Cx)(e:List Expr)(t:TGs):Prop where h:PGs X e t
structure y'O(X:Cx)(e:Option Expr)(t:TO):Prop where h:PO X e t
structure a1z(X:Cx)(f:Value->Value->Sem Value)(r:R2):Prop where h:OpR X f r
structure c8U(X:Cx)(f:Value->Sem Value)(r:V->Hp->VK->Prop):Prop where h:UnR X f r
structure a1c(X:Cx)(f:Value)(r:List V->Hp->VK->Prop):Prop where h:a0S X f r
structure b4b(X:Cx)(id:String)(r:V->List V->Hp->VK->Prop):Prop where h:MtR X id r
structure c4B(X:Cx)(r:R2):Prop where h:IxR X r
structure c4A(X:Cx)(r:V->Option Int->Option Int->Hp->VK->Prop):Prop where h:SlR X r
structure c0p(X:Cx)(t:b6i):Prop where h:c6D X t
structure c4D(X:Cx)(t:V->V->Hp->VK->Prop):Prop where h:d1x X t
structure c4C(X:Cx)(op:b5A)(t:TIp):Prop where h:PIp X op t
section
variable {X:Cx}{st:Stmt}{a9q:List Stmt}{t u:TS}{e a b c o i:Expr}{es more:List Expr}{te ta tb tc to ti:TE}{tt tu:TT}{tr:TA}{pos p pos':Pos}{x:Str}
theorem p8:b3g X [] E9:=⟨L2.c7u⟩
theorem b5(h1:y'S X st t)(h2:b3g X a9q u):b3g X (st::a9q) (w4 t u):=⟨L2.c5r h1.h h2.h⟩
theorem c5(h1:y'S X st t):b3g X [st] t:=⟨L2.c7t h1.h⟩
theorem c4s{n:Nat}(hN:X.N.Nodup)(hi:X.N[n]? = some x)(hx:Loc X.env.scope x)(he:y'E X e te)(hs:a3Z e (some (.Name x pos')) pos.line X.env=pure false:=by rfl)(hf:X.fn x=true\/X.env.scope.names.lookup x=some .local:=by first | exact .inl rfl | exact .inr rfl) :
  y'S X (.Assign [.Name x pos'] e pos) (L3 te (v7 n)):=⟨L2.c9Z hN hi hx he.h hs hf⟩
theorem b0A{tg:Expr}{g:TG}(he:y'E X e te)(hg:y'G X tg g)(hs:swapsWithSole [tg] e pos.line X.env=pure false:=by rfl)(hw:swappedStores [tg] e X.env=pure none:=by rfl)
  (h1:(a4B [tg] X.env).map (·.2)=[a9B tg X.env]:=by rfl):y'S X (.Assign [tg] e pos) (L3 te g):=⟨L2.d0e he.h hg.h hs hw h1⟩
theorem c2E{tget:V->V->Hp->VK->Prop}{tip:TIp}{tset:b6i}{op:b5A}(ho:y'E X o to)(hi:y'E X i ti)(hg:c4D X tget)(he:y'E X e te)(hp:c4C X op tip)(hs:c0p X tset)
  (ha:∀ov iv new,augStore i ov iv new=(do a4H [new,ov,iv] (c9u ov iv new);release [new,ov,iv] [];pure .next):=by intros;rfl):y'S X (.AugAssign (.Subscript o i p) op e pos) (c1Y to ti te tget tip tset):=⟨L2.c7x ho.h hi.h hg.h he.h hp.h hs.h ha⟩
theorem b0z{n:Nat}{op:b5A}{tip:TIp}(hN:X.N.Nodup)(hi:X.N[n]? = some x)(hx:Loc X.env.scope x)(he:y'E X e te)(ho:c4C X op tip)(hf:X.fn x=true\/X.env.scope.names.lookup x=some .local:=by first | exact .inl rfl | exact .inr rfl) :
  y'S X (.AugAssign (.Name x pos') op e pos) (c0z n te tip):=⟨L2.d0d hN hi hx he.h ho.h hf⟩
theorem A4{la lb:List Stmt}(hc:y'T X c tt)(ha:b3g X la t)(hb:b3g X lb u):y'S X (.If c la lb pos) (Q9 tt t u):=⟨L2.d2u hc.h ha.h hb.h⟩
theorem j7(he:y'E X e te):y'S X (.Return (some e) pos) (G6 te):=⟨L2.d0a he.h⟩
theorem G7(he:y'E X e te)(hs:a3Z e none pos.line X.env=pure false:=by rfl):y'S X (.Expr e pos) (a0o te):=⟨L2.c7v he.h hs⟩
theorem L6{tg:Expr}{wi:TI}{g:TG}{body:List Stmt}(hp:d1T (model X.prog X.w) X.A X.env X.xe)(hc:X.calm=true)(hi:b4c X tg e wi)(hg:y'G X tg g)(hb:b3g X body t)
  (hs:∀x,T1 e X.env x=pure x:=by intro _;rfl):y'S X (.For tg e body [] pos) (a3e wi g t):=⟨L2.d0b hp hc hi.h hg.h hb.h hs⟩
theorem c2F{n:Nat}(hN:X.N.Nodup)(hi:X.N[n]? = some x)(hx:Loc X.env.scope x)(hf:X.fn x=true\/X.env.scope.names.lookup x=some .local:=by first | exact .inl rfl | exact .inr rfl):y'G X (.Name x pos) (v7 n):=⟨L2.b7F hN hi hx hf⟩
theorem a3O:c6U X [] b3r:=⟨L2.c2g⟩
theorem R3{g:TG}{gs:TGs}(h1:y'G X e g)(h2:c6U X es gs)(h:(a4B (e::es) X.env).map (·.2)=a9B e X.env::(a4B es X.env).map (·.2):=by rfl):c6U X (e::es) (a2A g gs):=⟨L2.b4J h1.h h2.h h⟩
theorem a5d{k n:Nat}{gs:TGs}(hc:X.calm=true)(h:c6U X es gs)(hn:(a4B es X.env).length=n:=by rfl)(hst:(a4B es X.env).findIdx? (·.1)=none:=by rfl):y'G X (.Tuple es k pos) (b3q X.K n gs):=⟨L2.c5x hc h.h hn hst⟩
theorem b3W{ts:b6i}(ho:y'E X o to)(hi:y'E X i ti)(hs:c0p X ts)
  (ha:∀v,a9B (.Subscript o i pos) X.env v=(do
   let ov <-a4H [v] (eval o X.env)
   let iv <-a4H [v,ov] (eval i X.env)
   b3S pos
   a4H [v,ov,iv] (c9u ov iv v)
   release [v,ov,iv] []):=by intro _;rfl):y'G X (.Subscript o i pos) (c3B to ti ts):=⟨L2.d0i ho.h hi.h hs.h ha⟩
theorem N3{tg:Expr}(hg:Gl X "range")(hm:X.mg "range" = none)(ha:y'A X [a] tr)(hs:j9 [a] X.env=[(false,eval a X.env)]:=by rfl):b4c X tg (.Call (.Name "range" p) [a] [] pos) (a2Z tr):=⟨L2.c3b hg hm ha.h hs⟩
theorem E8{tg:Expr}(h:y'E X e te):b4c X tg e (W8 X.K te):=⟨L2.c7C h.h⟩
theorem c4t{tg:Expr}(h:y'E X e te):b4c X tg e (c8t X.K te):=⟨L2.d0g h.h⟩
theorem a0m:y'A X [] g0:=⟨L2.d0y⟩
theorem Z2(ha:y'E X e te)(hr:y'A X es tr)(hs:j9 (e::es) X.env=(false,eval e X.env)::j9 es X.env:=by rfl):y'A X (e::es) (a9 te tr):=⟨L2.c7L ha.h hr.h hs⟩
theorem N8:c0o X [] a0Q:=⟨L2.c7r⟩
theorem a1Z(h:y'T X e tt):c0o X [e] tt:=⟨L2.c7q h.h⟩
theorem M7{elt iter:Expr}{px:Pos}{ifs:List Expr}{scope:Scope}{wi:TI}(hc:O7 X.N X.env.scope scope x)(hcalm:X.calm=true)(hi:b4c X (.Name x px) iter wi)
  (ht:∀cl C fp s3 H3,c0o (a0t X scope cl C x fp s3 H3) ifs tt) (he:∀cl C fp s3 H3,y'E (a0t X scope cl C x fp s3 H3) elt te)
  (hs:∀x,T1 iter X.env x=pure x:=by intro _;rfl):y'E X (.ListComp elt [⟨.Name x px,iter,ifs,0⟩] scope pos) (V6 wi tt te):=
 ⟨L2.c2i hc hcalm hi.h (fun cl C fp s3 H3=>(ht cl C fp s3 H3).h) (fun cl C fp s3 H3=>(he cl C fp s3 H3).h) hs⟩
theorem a4c{elt iter:Expr}{px py spos:Pos}{ifs:List Expr}{scope:Scope}{wi:TI}{n:Nat}{y:Str}(hN:X.N.Nodup)(hiy:X.N[n]? = some y)(hy:X.env.scope.names.lookup y=some .local)(hc:O7 X.N X.env.scope scope x)(hcalm:X.calm=true)(hi:b4c X (.Name x px) iter wi)
  (ht:∀cl C fp s3 H3,c0o (a0t X scope cl C x fp s3 H3) ifs tt) (he:∀cl C fp s3 H3,y'E (a0t X scope cl C x fp s3 H3) elt te)
  (hsw:a3Z (.ListComp elt [⟨.Name x px,iter,ifs,0⟩] scope pos) (some (.Name y py)) spos.line X.env=pure true:=by rfl)
  (hs:∀x,T1 iter X.env x=pure x:=by intro _;rfl) :
  y'S X (.Assign [.Name y py] (.ListComp elt [⟨.Name x px,iter,ifs,0⟩] scope pos) spos) (fun D σ H=>V6 wi tt te σ H fun v H1=>D.nx (σ.set n (some v)) H1):=
 ⟨L2.c0X hN hiy hy hc hcalm hi.h (fun cl C fp s3 H3=>(ht cl C fp s3 H3).h) (fun cl C fp s3 H3=>(he cl C fp s3 H3).h) hsw hs⟩
theorem c6{n:Int}{j}:y'E X (.Constant (.int n) j pos) (tC (.int n)):=⟨L2.d0t⟩
theorem T8{v:Bool}{j}:y'E X (.Constant (.bool v) j pos) (tC (.bl v)):=⟨L2.d2B⟩
theorem a8u{j}:y'E X (.Constant .none j pos) (tC .non):=⟨L2.d0p⟩
theorem G5{j}:y'E X (.Constant (.str x) j pos) (tC (.str x)):=⟨L2.d0l⟩
theorem b8(n:Nat)(hN:X.N[n]? = some x:=by rfl)(hv:Vis X.env.scope x:=by first | exact Or.inl rfl | exact Or.inr (Or.inl rfl) | exact Or.inr (Or.inr rfl))(hd:(x == ("__debug__" : Str))=false:=by decide)
  (hcd:(x == ("__classdict__" : Str))=false:=by decide):y'E X (.Name x pos) (b4 n):=⟨L2.d0j hN hv hd hcd⟩
theorem a0U{v:V}{u:Value}(hg:Gl X x)(hm:X.mg x=none)(hv:a4b x=some u)(r:L5 v u)(hn:x ≠ "__name__" := by decide)(hd:(x == ("__debug__" : Str))=false:=by decide):y'E X (.Name x pos) (tC v):=⟨L2.c7K hg hm hv r hn hd⟩
theorem R6{v:V}(hm:∃u,X.mg x=some u/\L5 v u)(hg:Gl X x)(hd:(x == ("__debug__" : Str))=false:=by decide):y'E X (.Name x pos) (tC v):=by
 obtain⟨u,h1,h2⟩:=hm
 exact⟨L2.c7G hg h1 h2 hd⟩
theorem N6{op:b5A}{r:R2}(ho:a1z X (a2o op) r)(ha:y'E X a ta)(hb:y'E X b tb):y'E X (.BinOp a op b pos) (tOp r ta tb):=⟨L2.d2x ho.h ha.h hb.h⟩
theorem c6P{op:UnaryOp}{r:V->Hp->VK->Prop}(ho:c8U X (unaryOp op) r)(ha:y'E X a ta):y'E X (.UnaryOp op a pos) (tUn r ta):=⟨L2.d2v ho.h ha.h⟩
theorem a8t(ha:y'E X a ta):y'E X (.UnaryOp .Not a pos) (a9L ta):=⟨L2.d0o ha.h⟩
theorem a1i{op:CmpOp}{r:R2}(ho:a1z X (C3 op) r)(ha:y'E X a ta)(hb:y'E X b tb)(hm:U3 op b=false):y'E X (.Compare a [op] [b] pos) (tOp r ta tb):=⟨L2.c7I ho.h ha.h hb.h hm⟩
theorem a3M{op:CmpOp}{r:R2}(ho:a1z X (C3 op) r)(ha:y'E X a ta)(hb:y'E X b tb)(hm:U3 op b=false):y'T X (.Compare a [op] [b] pos) (F9 (tOp r ta tb)):=⟨L2.c7s ho.h ha.h hb.h hm⟩
theorem b3Y{op op':CmpOp}{r r':R2}(ho:a1z X (C3 op) r)(ho':a1z X (C3 op') r')(ha:y'E X a ta)(hb:y'E X b tb)(hc:y'E X c tc)
  (hm:d1Q [op,op'] [b,c]=false:=by with_unfolding_all rfl):y'E X (.Compare a [op,op'] [b,c] pos) (a8C r r' ta tb tc):=⟨L2.c5F ho.h ho'.h ha.h hb.h hc.h hm⟩
theorem c0l{op op':CmpOp}{r r':R2}(ho:a1z X (C3 op) r)(ho':a1z X (C3 op') r')(ha:y'E X a ta)(hb:y'E X b tb)(hc:y'E X c tc)
  (hm:d1Q [op,op'] [b,c]=false:=by with_unfolding_all rfl):y'T X (.Compare a [op,op'] [b,c] pos) (F9 (a8C r r' ta tb tc)):=⟨L2.c5q ho.h ho'.h ha.h hb.h hc.h hm⟩
theorem Q4{op}(h:y'E X a te):y'E X (.BoolOp op [a] pos) te:=⟨L2.d0n h.h⟩
theorem P6(ha:y'E X a ta)(hb:y'E X (.BoolOp .And (b::more) pos) tb):y'E X (.BoolOp .And (a::b::more) pos) (a1n ta tb):=⟨L2.d0w ha.h hb.h⟩
theorem b3x(ha:y'E X a ta)(hb:y'E X (.BoolOp .Or (b::more) pos) tb):y'E X (.BoolOp .Or (a::b::more) pos) (b7d ta tb):=⟨L2.d2w ha.h hb.h⟩
theorem a5N(hc:y'T X c tt)(ha:y'E X a ta)(hb:y'E X b tb):y'E X (.IfExp c a b pos) (tIf tt ta tb):=⟨L2.c5A hc.h ha.h hb.h⟩
theorem O0{k}(h:y'A X es tr):y'E X (.Tuple es k pos) (a3c tr):=⟨L2.d0k h.h⟩
theorem K9(h:y'A X es tr):y'E X (.List es pos) (a2t tr):=⟨L2.d0s h.h⟩
theorem a7g:y'O X none a4R:=⟨L2.c7A⟩
theorem a7f(h:y'E X e te):y'O X (some e) (a9K te):=⟨L2.c7z h.h⟩
theorem a5M{lo hi:Option Expr}{tl th:TO}{r:V->Option Int->Option Int->Hp->VK->Prop}(hr:c4A X r)(he:y'E X e te)(hl:y'O X lo tl)(hu:y'O X hi th):y'E X (.Subscript e (.Slice lo hi none p) pos) (tSl r te tl th):=⟨L2.c5y hr.h he.h hl.h hu.h⟩
theorem a7y{r:R2}(hr:c4B X r)(ha:y'E X a ta)(hb:y'E X b tb)(hs:b8n b):y'E X (.Subscript a b pos) (tOp r ta tb):=⟨L2.d2z hr.h ha.h hb.h hs⟩
theorem c4v{k j:Nat}{ps:List Str}{sp:Sp}(C:F4 X.prog X.w X.K X.mg X.base k x ps sp)(hr:W0 j X.A)(hk:k<=j)(hg:Gl X x)(ha:y'A X (e::es) tr)
  (hdb:(x == ("__debug__" : Str))=false:=by decide) (he:j9 (e::es) X.env=(false,eval e X.env)::j9 es X.env:=by rfl) (hpl:(a1y pos (j9 es X.env)).any (·.1)=false:=by rfl) :
  y'E X (.Call (.Name x p) (e::es) [] pos) (z4 sp [] E0 tr):=⟨L2.d0m C hr hk hg ha.h hdb he hpl⟩
theorem l5{id:String}{r:List V->Hp->VK->Prop}(hc:a1c X (.builtin id) r)(hg:Gl X x)(hm:X.mg x=none)(hv:a4b x=some (.builtin id))(ha:y'A X (e::es) tr)(hn:x ≠ "__name__" := by decide)(hdb:(x == ("__debug__" : Str))=false:=by decide)
  (he:j9 (e::es) X.env=(false,eval e X.env)::j9 es X.env:=by rfl) (hpl:(a1y pos (j9 es X.env)).any (·.1)=false:=by rfl):y'E X (.Call (.Name x p) (e::es) [] pos) (tCB r tr):=⟨L2.c5G hc.h hg hm hv ha.h hn hdb he hpl⟩
theorem L7{id:String}{r:List V->Hp->VK->Prop}(hc:a1c X (.type id) r)(hg:Gl X x)(hm:X.mg x=none)(hv:a4b x=some (.type id))(ha:y'A X (e::es) tr)(hn:x ≠ "__name__" := by decide)(hdb:(x == ("__debug__" : Str))=false:=by decide)
  (he:j9 (e::es) X.env=(false,eval e X.env)::j9 es X.env:=by rfl) (hpl:(a1y pos (j9 es X.env)).any (·.1)=false:=by rfl):y'E X (.Call (.Name x p) (e::es) [] pos) (tCB r tr):=⟨L2.c3c hc.h hg hm hv ha.h hn hdb he hpl⟩
theorem a0w{ty id:String}{name:Str}{r:V->List V->Hp->VK->Prop}{apos:Pos}(pa:c8S ty)(slot:Slot ty name id)(hty:typeOf (.builtin id)=pure (.type "method_descriptor"))(hm:b4b X id r)(ho:y'E X o to)(ha:y'A X (e::es) tr)
  (hbase:a3b o name X.env (eval o X.env)=eval o X.env:=by rfl)
  (hfew:((a1y pos (j9 (e::es) X.env)).all (fun x => !x.1)&&(a9A pos (a4a [] X.env)).all (fun x=>x.1.isSome)
   && decide ((e::es).length+([]:List b6T).length+(if([]:List b6T).isEmpty then 0 else 1)<30))=true:=by rfl)
  (hline:(apos.endLine == pos.line)=true:=by rfl) (hs:j9 (e::es) X.env=(false,eval e X.env)::j9 es X.env:=by rfl) (hplain:(a1y pos (j9 es X.env)).any (·.1)=false:=by rfl) :
  y'E X (.Call (.Attribute o name apos) (e::es) [] pos) (tBM X.K ty r to tr):=⟨L2.d2A pa slot hty hm.h ho.h ha.h hbase hfew hline hs hplain⟩
theorem K8(ha:y'T X a tt):y'T X (.UnaryOp .Not a pos) (a3d tt):=⟨L2.c9Y ha.h⟩
theorem a2I(ha:y'T X a tt):y'W X (.BoolOp .And [a] pos) tt:=⟨L2.c7o ha.h⟩
theorem X9(ha:y'T X a tt):y'W X (.BoolOp .Or [a] pos) tt:=⟨L2.c9V ha.h⟩
theorem a2q(ha:y'T X a tt)(hb:y'W X (.BoolOp .And (b::more) pos) tu):y'W X (.BoolOp .And (a::b::more) pos) (b0N tt tu):=⟨L2.c9W ha.h hb.h⟩
theorem a0f(ha:y'T X a tt)(hb:y'W X (.BoolOp .Or (b::more) pos) tu):y'W X (.BoolOp .Or (a::b::more) pos) (tOr tt tu):=⟨L2.d2t ha.h hb.h⟩
theorem R0(h:y'W X e tt):y'T X e tt:=⟨PW.pt h.h⟩
theorem D3(h:y'E X e te)(he:∀whole,isTrue e X.env whole=(do let v <-whole;b3S e.pos;a4H [v] (truthy v)):=by intro _;rfl):y'T X e (tB te):=⟨L2.c9X h.h he⟩
theorem a0b:a1z X (a2o .Add) a6m:=⟨L2.c7V⟩
theorem b1I:a1z X (a2o .Sub) c5j:=⟨L2.c7M⟩
theorem a7h:a1z X (a2o .Mult) c0S:=⟨L2.c7P⟩
theorem a3P:a1z X (a2o .Mod) b5S:=⟨L2.c7Q⟩
theorem b6p:a1z X (a2o .FloorDiv) c7n:=⟨L2.c7U⟩
theorem D6{k:Nat}(hr:W0 k X.A):a1z X (C3 .Eq) qEq:=⟨L2.d0I hr.units0⟩
theorem a8w{k:Nat}(hr:W0 k X.A):a1z X (C3 .NotEq) qNe:=⟨L2.d0B hr.units0⟩
theorem a1m:a1c X (.type "list") a6B:=⟨L2.c1E⟩
theorem a1H:a1z X (C3 .Lt) qLt:=⟨L2.d0C⟩
theorem b0B:a1z X (C3 .LtE) qLe:=⟨L2.d0D⟩
theorem a5e:a1z X (C3 .Gt) qGt:=⟨L2.d0G⟩
theorem c4z:a1z X (C3 .GtE) qGe:=⟨L2.d0H⟩
theorem a7i:a1z X (C3 .In) (qIn false):=⟨L2.d0F⟩
theorem c4y:a1z X (C3 .Is) qIs:=⟨L2.d0E⟩
theorem b8F:a1z X (C3 .IsNot) c0T:=⟨L2.c3e⟩
theorem a7z:y'E X (.Dict [] [] pos) a9O:=⟨L2.c5B⟩
theorem c4w{k:Nat}(hr:W0 k X.A)(hi:y'E X i ti)(ho:y'E X o to)(h1:U3 .In o=false):y'E X (.Compare i [.In] [o] pos) (b5J ti to):=⟨L2.c5E (L2.c5H (b5e hr) hi.h ho.h) h1⟩
theorem b3U{k:Nat}(hr:W0 k X.A)(hi:y'E X i ti)(ho:y'E X o to)(h1:U3 .In o=false):y'T X (.Compare i [.In] [o] pos) (tB (b5J ti to)):=⟨L2.b7D (L2.c5H (b5e hr) hi.h ho.h) h1⟩
theorem a2J{k:Nat}(hr:W0 k X.A)(ho:y'E X o to)(hi:y'E X i ti)(hv:y'E X e te)(hs:a3Z e (some (.Subscript o i pos')) pos.line X.env=pure false:=by rfl):y'S X (.Assign [.Subscript o i pos'] e pos) (a4m to ti te):=⟨L2.c7w (b5e hr) ho.h hi.h hv.h hs⟩
theorem c4u{tg:Expr}(h:y'E X e te):b4c X tg e (c8u te):=⟨L2.d0h h.h⟩
theorem a8y(hc:X.calm=true):a1c X (.builtin "all") b5T:=⟨L2.c3S hc⟩
theorem c4q:c8U X (unaryOp .USub) (rU fun i=>.int (-i)):=⟨L2.c9y⟩
theorem c9x:c4B X qIx:=⟨L2.d3y⟩
theorem b6V:c4A X qSl:=⟨L2.d3j⟩
theorem c2D:c4A X (c9P X.K):=⟨L2.c2a⟩
theorem b3w:c0p X b7A:=⟨L2.d1W⟩
theorem c6S:c4D X c2X:=⟨L2.d2N⟩
theorem a8x:c4C X .Add (ipI fun i j=>i+j):=⟨L2.d1j⟩
theorem u8:a1c X (.builtin "len") a0r:=⟨L2.c3P⟩
theorem b8K:a1c X (.builtin "abs") c5p:=⟨L2.c3T⟩
theorem Z5:a1c X (.builtin "isinstance") a8m:=⟨L2.c3Q⟩
theorem N7:b4b X "list.append" V3:=⟨L2.c1o⟩
theorem c0n:b4b X "str.join" b6z:=⟨L2.c5T⟩
end
theorem b8H{P:D0}{w:World}{K:Fg}{mg:Str->Option Value}{base:Heap}{x qual:Str}{st:Stmt}{f:Addr}{fd:a1g}{N ps:List Str}{k:Nat}{sp:Sp}(F:Fun K x qual st f fd)(y'S:v0 N ps (f6 st))(len:∀vs H Q y'E,sp vs H Q y'E->vs.length=ps.length)
  (hbody:∀(cdv:Value) (y'A:U8) (outer:List Env) (s:k8) (H:Hp) (vs:List V) (Q:VK) (y'E:XK),W0 k (y'A.deeper (b2L qual (f6 st) s.heap.objs.size f cdv))->sp vs H Q y'E ->
   ∃t,b3g (b5h CX0 P w K mg base N qual (f6 st) f cdv y'A outer s H y'E).nox (a0y st) t/\t { nx:=fun _ H'=>Q .non H',rt:=Q } (a8D N vs) H):G8 P w K mg base CX0 (k+1) f fd ps sp:=
 F.ok y'S len fun cdv y'A outer s H vs Q y'E hr h=>let⟨t,a,b⟩:=hbody cdv y'A outer s H vs Q y'E hr h; ⟨t,a.h,b⟩
end Y
namespace Y
open PySem PySem.Spec PyProof.Rows L2
section
variable {X:Cx}{st:Stmt}{a9q:List Stmt}{t u:TS}{e a b c o i:Expr}{es more:List Expr}{te ta tb tc to ti:TE}{tt tu:TT}{tr:TA}{pos p pos':Pos}{x y:Str}
theorem a3N{elts:List Expr}{x1}{tp:Pos}(hg:Gl X "enumerate")(hm:X.mg "enumerate" = none)(ha:y'A X [a] tr)(hs:j9 [a] X.env=[(false,eval a X.env)]:=by rfl) :
  b4c X (.Tuple elts x1 tp) (.Call (.Name "enumerate" p) [a] [] pos) (a8j X.K tr):=⟨L2.c7D hg hm ha.h hs⟩
theorem b8D{elts:List Expr}{x1}{tp:Pos}(hg:Gl X "zip")(hm:X.mg "zip" = none)(ha:y'A X [a,b] tr)(hs:j9 [a,b] X.env=[(false,eval a X.env),(false,eval b X.env)]:=by rfl)(hs2:j9 [b] X.env=[(false,eval b X.env)]:=by rfl) :
  b4c X (.Tuple elts x1 tp) (.Call (.Name "zip" p) [a,b] [] pos) (c6h X.K tr):=⟨L2.d0f hg hm ha.h hs hs2⟩
theorem b3X{elt iter:Expr}{px py pt:Pos}{kt}{ifs:List Expr}{scope:Scope}{wi:TI}(hc:a4Y X.N X.env.scope scope x y)(hcalm:X.calm=true)(hi:b4c X (.Tuple [.Name x px,.Name y py] kt pt) iter wi)
  (ht:∀cl C fp s3 H3,c0o (Y3 X scope cl C x y fp s3 H3) ifs tt) (he:∀cl C fp s3 H3,y'E (Y3 X scope cl C x y fp s3 H3) elt te)
  (hs:∀x,T1 iter X.env x=pure x:=by intro _;rfl):y'E X (.ListComp elt [⟨.Tuple [.Name x px,.Name y py] kt pt,iter,ifs,0⟩] scope pos) (a7D X.K wi tt te):=
 ⟨L2.c5D hc hcalm hi.h (fun cl C fp s3 H3=>(ht cl C fp s3 H3).h) (fun cl C fp s3 H3=>(he cl C fp s3 H3).h) hs⟩
theorem a5L{body:List Stmt}(hp:d1T (model X.prog X.w) X.A X.env X.xe)(hc:y'T X c tt)(hb:b3g X body t):y'S X (.While c body [] pos) (a8B tt t):=⟨L2.c5s hp hc.h hb.h⟩
theorem a3z{e c:Option Expr}:y'S X (.Raise e c pos) (fun _ _ _=>False):=⟨L2.c5t⟩
theorem C5{f:Str}(he:y'E X e te)(hb:a3b e f X.env (eval e X.env)=eval e X.env:=by rfl):y'E X (.Attribute e f pos) (a0n X.K te f):=⟨L2.d0u he.h hb⟩
theorem U9{f:Str}(ha:y'E X o to)(hv:y'E X e te)(hs:a3Z e (some (.Attribute o f pos')) pos.line X.env=pure false:=by rfl):y'S X (.Assign [.Attribute o f pos'] e pos) (a5E X.K to te f):=⟨L2.d0c ha.h hv.h hs⟩
theorem c6Q{k j:Nat}{C:Addr}{ps:List Str}{sp:Sp}(M:a9N X.prog X.w X.K X.mg X.base k x C ps sp)(hr:W0 j X.A)(hk:k+1<=j)(hg:Gl X x)(ha:y'A X (e::es) tr)
  (hdb:(x == ("__debug__" : Str))=false:=by decide) (he:j9 (e::es) X.env=(false,eval e X.env)::j9 es X.env:=by rfl) (hpl:(a1y pos (j9 es X.env)).any (·.1)=false:=by rfl) :
  y'E X (.Call (.Name x p) (e::es) [] pos) (a3Q C sp [] E0 tr):=⟨L2.d2y M hr hk hg ha.h hdb he hpl⟩
theorem P3{pl:Sem Bool}{k j:Nat}{m:Str}{C:Addr}{ps:List Str}{sp:Sp}{apos:Pos}(M:W9 X.prog X.w X.K X.mg X.base k m C ps sp)(hr:W0 j X.A)(hk:k<=j)(ho:y'E X o to)(ha:y'A X (e::es) tr)
  (hst:j9 (e::es) X.env=(false,eval e X.env)::j9 es X.env:=by rfl) (hpl:(a1y pos (j9 es X.env)).any (·.1)=false:=by rfl)
  (ht:eval (.Call (.Attribute o m apos) (e::es) [] pos) X.env=(do
   let ov <-eval o X.env
   b3S apos.atName
   let(f,first) <-a4H [ov] (b0y ov m pl)
   c4h pos f first (a1y pos (j9 (e::es) X.env)) (a9A pos (a4a [] X.env))):=by rfl) :
  y'E X (.Call (.Attribute o m apos) (e::es) [] pos) (F7 C m sp [] E0 to tr):=⟨L2.d0q (pl:=pl) M hr hk ho.h ha.h hst hpl ht⟩
theorem K6{pl:Sem Bool}{k j:Nat}{m:Str}{C:Addr}{ps:List Str}{sp:Sp}{apos:Pos}(M:W9 X.prog X.w X.K X.mg X.base k m C ps sp)(hr:W0 j X.A)(hk:k<=j)(ho:y'E X o to)
  (ht:eval (.Call (.Attribute o m apos) [] [] pos) X.env=(do
   let ov <-eval o X.env
   b3S apos.atName
   let(f,first) <-a4H [ov] (b0y ov m pl)
   c4h pos f first (a1y pos (j9 [] X.env)) (a9A pos (a4a [] X.env))):=by rfl) :
  y'E X (.Call (.Attribute o m apos) [] [] pos) (F7 C m sp [] E0 to g0):=⟨L2.c7E (pl:=pl) M hr hk ho.h ht⟩
theorem c4x{ty id:String}{name:Str}{r:V->List V->Hp->VK->Prop}{apos:Pos}(pa:c8S ty)(slot:Slot ty name id)(hty:typeOf (.builtin id)=pure (.type "method_descriptor"))(hm:b4b X id r)(ho:y'E X o to)
  (hbase:a3b o name X.env (eval o X.env)=eval o X.env:=by rfl) (hline:(apos.endLine == pos.line)=true:=by rfl):y'E X (.Call (.Attribute o name apos) [] [] pos) (c6W X.K ty r to):=⟨L2.d0v pa slot hty hm.h ho.h hbase hline⟩
structure c6T(X:Cx)(pos:Pos)(ks:List (Option Expr))(vs:List Expr)(trs:List (TE×TE)):Prop where h:PPs X pos ks vs trs
theorem b6n:c6T X pos [] [] []:=⟨L2.c7y⟩
theorem b3V{ks:List (Option Expr)}{vs:List Expr}{trs:List (TE×TE)}(hk:y'E X a ta)(hv:y'E X b tb)(hr:c6T X pos ks vs trs):c6T X pos (some a::ks) (b::vs) ((ta,tb)::trs):=⟨L2.c5u hk.h hv.h hr.h⟩
theorem b6o{keys:List (Option Expr)}{values:List Expr}{trs:List (TE×TE)}(h:c6T X pos keys values trs)(hall:keys.all (·.isSome)=true:=by rfl)(hl:keys.length=values.length:=by rfl)(h0:keys≠[]:=by intro z;cases z)
  (h15:keys.length<=15:=by decide):y'E X (.Dict keys values pos) (b8Q trs):=⟨L2.c7H h.h hall hl h0 h15⟩
theorem a8v{k:Nat}(hr:W0 k X.A)(hi:y'E X i ti)(ho:y'E X o to)(h1:U3 .NotIn o=false):y'E X (.Compare i [.NotIn] [o] pos) (a1C ti to):=⟨L2.c5E (L2.b6A (b5e hr) hi.h ho.h) h1⟩
theorem a1M{k:Nat}(hr:W0 k X.A)(hi:y'E X i ti)(ho:y'E X o to)(h1:U3 .NotIn o=false):y'T X (.Compare i [.NotIn] [o] pos) (tB (a1C ti to)):=⟨L2.b7D (L2.b6A (b5e hr) hi.h ho.h) h1⟩
theorem b8I(hc:X.calm=true):a1c X (.builtin "min") c5k:=⟨L2.c3O hc⟩
theorem b8J(hc:X.calm=true):a1c X (.builtin "any") c0V:=⟨L2.c3R hc⟩
theorem b4a:a1c X (.builtin "sorted") a9i:=⟨L2.b8d⟩
theorem a2a(hc:X.calm=true):a1c X (.type "list") a4n:=⟨L2.b9X hc⟩
theorem b6X:a1c X (.builtin "isinstance") (c5m X.K):=⟨L2.c1G⟩
theorem b8G:b4b X "list.index" b2g:=⟨L2.c3n⟩
theorem b0C:b4b X "list.extend" a7N:=⟨L2.c1n⟩
theorem c2I:b4b X "list.pop" c2V:=⟨L2.c8k⟩
theorem b1J{k:Nat}(hr:W0 k X.A):a1z X (C3 .Eq) (c2Y X.K):=⟨L2.c7S hr⟩
theorem c2G{k:Nat}(hr:W0 k X.A):a1z X (C3 .NotEq) (c9T X.K):=⟨L2.c7N hr⟩
theorem b1K{k:Nat}(hr:W0 k X.A):a1z X (C3 .Eq) (c2Z X.K):=⟨L2.c7T hr⟩
theorem a9a{k:Nat}(hr:W0 k X.A):a1z X (C3 .NotEq) (c2W X.K):=⟨L2.c7O hr⟩
theorem b6W:a1c X (.builtin "len") (c5l X.K):=⟨L2.c1F⟩
theorem c2H:a1z X (C3 .In) (c9U X.K):=⟨L2.c7R⟩
theorem a9b:c4B X (b9i X.K):=⟨L2.d2M⟩
end
end Y
namespace Y
open PySem PySem.Spec PyProof.Rows L2
theorem b5E{X:Cx}{elt iter:Expr}{px py2 pt py spos pos:Pos}{kt:Nat}{ifs:List Expr}{scope:Scope}{x x2:Str}{wi:TI}{tt:TT}{te:TE}{n:Nat}{y:Str}(hN:X.N.Nodup)(hiy:X.N[n]? = some y)(hy:X.env.scope.names.lookup y=some .local)(hc:a4Y X.N X.env.scope scope x x2)(hcalm:X.calm=true)(hi:b4c X (.Tuple [.Name x px,.Name x2 py2] kt pt) iter wi)
  (ht:∀cl C fp s3 H3,c0o (Y3 X scope cl C x x2 fp s3 H3) ifs tt) (he:∀cl C fp s3 H3,y'E (Y3 X scope cl C x x2 fp s3 H3) elt te)
  (hsw:a3Z (.ListComp elt [⟨.Tuple [.Name x px,.Name x2 py2] kt pt,iter,ifs,0⟩] scope pos) (some (.Name y py)) spos.line X.env=pure true:=by rfl)
  (hs:∀x,T1 iter X.env x=pure x:=by intro _;rfl) :
  y'S X (.Assign [.Name y py] (.ListComp elt [⟨.Tuple [.Name x px,.Name x2 py2] kt pt,iter,ifs,0⟩] scope pos) spos) (fun D σ H=>a7D X.K wi tt te σ H fun v H1=>D.nx (σ.set n (some v)) H1):=
 ⟨L2.b9k hN hiy hy hc hcalm hi.h (fun cl C fp s3 H3=>(ht cl C fp s3 H3).h) (fun cl C fp s3 H3=>(he cl C fp s3 H3).h) hsw hs⟩
end Y
namespace Y
open PySem PySem.Spec PyProof.Rows L2
theorem b5H{X:Cx}(hc:X.calm=true):a1c X (.type "dict") b7C:=⟨L2.c0a hc⟩
end Y
namespace Y
open PySem PySem.Spec PyProof.Rows L2
end Y
namespace Y
open PySem PySem.Spec PyProof.Rows L2
end Y
namespace Y
open PySem PySem.Spec PyProof.Rows L2
end Y
namespace Y
open PySem PySem.Spec PyProof.Rows L2
section
variable {X:Cx}{e0 e1 e2 e3 e4:Expr}{t0 t1 t2 t3 t4:TE}
theorem j8(h0:y'E X e0 t0)(s0:j9 [e0] X.env=(false,eval e0 X.env)::j9 [] X.env:=by rfl):y'A X [e0] (a9 t0 g0):=(Z2 h0 a0m s0)
theorem A9(h0:y'E X e0 t0)(h1:y'E X e1 t1)(s0:j9 [e0,e1] X.env=(false,eval e0 X.env)::j9 [e1] X.env:=by rfl)(s1:j9 [e1] X.env=(false,eval e1 X.env)::j9 [] X.env:=by rfl):y'A X [e0,e1] (a9 t0 (a9 t1 g0)):=(Z2 h0 (Z2 h1 a0m s1) s0)
theorem a5z(h0:y'E X e0 t0)(h1:y'E X e1 t1)(h2:y'E X e2 t2)(s0:j9 [e0,e1,e2] X.env=(false,eval e0 X.env)::j9 [e1,e2] X.env:=by rfl)(s1:j9 [e1,e2] X.env=(false,eval e1 X.env)::j9 [e2] X.env:=by rfl)(s2:j9 [e2] X.env=(false,eval e2 X.env)::j9 [] X.env:=by rfl):y'A X [e0,e1,e2] (a9 t0 (a9 t1 (a9 t2 g0))):=(Z2 h0 (Z2 h1 (Z2 h2 a0m s2) s1) s0)
theorem b8E(h0:y'E X e0 t0)(h1:y'E X e1 t1)(h2:y'E X e2 t2)(h3:y'E X e3 t3)(s0:j9 [e0,e1,e2,e3] X.env=(false,eval e0 X.env)::j9 [e1,e2,e3] X.env:=by rfl)(s1:j9 [e1,e2,e3] X.env=(false,eval e1 X.env)::j9 [e2,e3] X.env:=by rfl)(s2:j9 [e2,e3] X.env=(false,eval e2 X.env)::j9 [e3] X.env:=by rfl)(s3:j9 [e3] X.env=(false,eval e3 X.env)::j9 [] X.env:=by rfl):y'A X [e0,e1,e2,e3] (a9 t0 (a9 t1 (a9 t2 (a9 t3 g0)))):=(Z2 h0 (Z2 h1 (Z2 h2 (Z2 h3 a0m s3) s2) s1) s0)
theorem b3Z(h0:y'E X e0 t0)(h1:y'E X e1 t1)(h2:y'E X e2 t2)(h3:y'E X e3 t3)(h4:y'E X e4 t4)(s0:j9 [e0,e1,e2,e3,e4] X.env=(false,eval e0 X.env)::j9 [e1,e2,e3,e4] X.env:=by rfl)(s1:j9 [e1,e2,e3,e4] X.env=(false,eval e1 X.env)::j9 [e2,e3,e4] X.env:=by rfl)(s2:j9 [e2,e3,e4] X.env=(false,eval e2 X.env)::j9 [e3,e4] X.env:=by rfl)(s3:j9 [e3,e4] X.env=(false,eval e3 X.env)::j9 [e4] X.env:=by rfl)(s4:j9 [e4] X.env=(false,eval e4 X.env)::j9 [] X.env:=by rfl):y'A X [e0,e1,e2,e3,e4] (a9 t0 (a9 t1 (a9 t2 (a9 t3 (a9 t4 g0))))):=(Z2 h0 (Z2 h1 (Z2 h2 (Z2 h3 (Z2 h4 a0m s4) s3) s2) s1) s0)
end
end Y
local macro_rules | `(tactic| walk_at "sc") => `(tactic| exact ⟨rfl, rfl, rfl, by decide +kernel, rfl, by decide +kernel, by decide +kernel⟩)
namespace Y
open PySem PySem.Spec PyProof.Rows L2
section
variable {X:Cx}{e a b o:Expr}{es:List Expr}{te ta tb to:TE}{tr:TA}{pos p pos':Pos}{x:Str}
theorem A6(n:Nat)(hN:X.N.Nodup)(he:y'E X e te)(hi:X.N[n]? = some x:=by rfl)(hx:Loc X.env.scope x:=by first | exact Or.inl rfl | exact Or.inr rfl)(hs:a3Z e (some (.Name x pos')) pos.line X.env=pure false:=by rfl)(hf:X.fn x=true\/X.env.scope.names.lookup x=some .local:=by first | exact .inl rfl | exact .inr rfl) :
  y'S X (.Assign [.Name x pos'] e pos) (L3 te (v7 n)):=c4s hN hi hx he hs hf
theorem O4(n:Nat)(hN:X.N.Nodup)(hi:X.N[n]? = some x:=by rfl)(hx:Loc X.env.scope x:=by first | exact Or.inl rfl | exact Or.inr rfl)(hf:X.fn x=true\/X.env.scope.names.lookup x=some .local:=by first | exact .inl rfl | exact .inr rfl):y'G X (.Name x pos) (v7 n):=c2F hN hi hx hf
theorem p5{k j:Nat}{ps:List Str}{sp:Sp}(C:F4 X.prog X.w X.K X.mg X.base k x ps sp)(hr:W0 j X.A)(ha:y'A X (e::es) tr)(hk:k<=j:=by decide)(hg:Gl X x:=by rfl)
  (hdb:(x == ("__debug__" : Str))=false:=by decide) (he:j9 (e::es) X.env=(false,eval e X.env)::j9 es X.env:=by rfl) (hpl:(a1y pos (j9 es X.env)).any (·.1)=false:=by rfl) :
  y'E X (.Call (.Name x p) (e::es) [] pos) (z4 sp [] E0 tr):=c4v C hr hk hg ha hdb he hpl
theorem b1H{k j:Nat}{C:Addr}{ps:List Str}{sp:Sp}(M:a9N X.prog X.w X.K X.mg X.base k x C ps sp)(hr:W0 j X.A)(ha:y'A X (e::es) tr)(hk:k+1<=j:=by decide)(hg:Gl X x:=by rfl)
  (hdb:(x == ("__debug__" : Str))=false:=by decide) (he:j9 (e::es) X.env=(false,eval e X.env)::j9 es X.env:=by rfl) (hpl:(a1y pos (j9 es X.env)).any (·.1)=false:=by rfl) :
  y'E X (.Call (.Name x p) (e::es) [] pos) (a3Q C sp [] E0 tr):=c6Q M hr hk hg ha hdb he hpl
theorem z6(ha:y'E X a ta)(hb:y'E X b tb)(hs:b8n b:=by exact fun _ _=>rfl):y'E X (.Subscript a b pos) (tOp qIx ta tb):=a7y c9x ha hb hs
theorem a2r{op:CmpOp}{r:R2}(ho:a1z X (C3 op) r)(ha:y'E X a ta)(hb:y'E X b tb)(hm:U3 op b=false:=by exact a4O _):y'E X (.Compare a [op] [b] pos) (tOp r ta tb):=a1i ho ha hb hm
theorem F6{op:CmpOp}{r:R2}(ho:a1z X (C3 op) r)(ha:y'E X a ta)(hb:y'E X b tb)(hm:U3 op b=false:=by exact a4O _):y'T X (.Compare a [op] [b] pos) (F9 (tOp r ta tb)):=a3M ho ha hb hm
end
end Y
namespace Y
open PySem PySem.Spec PyProof.Rows L2
section
variable {X:Cx}{e o i:Expr}{te to ti:TE}{t:TS}{pos p:Pos}{k:Nat}
end
end Y
namespace Y
open PySem PySem.Spec PyProof.Rows L2
theorem b6Y{X:Cx}:a1c X (.builtin "isinstance") (c5n X.K):=⟨L2.c1H⟩
end Y
namespace Y
open PySem PySem.Spec PyProof.Rows L2
section
variable {X:Cx}{i o:Expr}{ti to:TE}{pos:Pos}{k:Nat}
theorem c4r(hr:W0 k X.A)(hi:y'E X i ti)(ho:y'E X o to)(h1:U3 .In o=false):y'T X (.Compare i [.In] [o] pos) (tB (b5I X.K false ti to)):=⟨L2.b7D (L2.d0x (b5e hr) hi.h ho.h) h1⟩
theorem a8s(hr:W0 k X.A)(hi:y'E X i ti)(ho:y'E X o to)(h1:U3 .NotIn o=false):y'T X (.Compare i [.NotIn] [o] pos) (tB (b5I X.K true ti to)):=⟨L2.b7D (L2.c3d (b5e hr) hi.h ho.h) h1⟩
theorem a9D(hc:X.calm=true):a1c X (.type "list") (b4H X.K):=⟨L2.b9W hc⟩
theorem b5F(hc:X.calm=true)(hr:W0 k X.A):a1c X (.type "dict") (b7B X.K):=⟨L2.b3b hc (by have:=hr.un;omega)⟩
end
end Y
namespace Y
open PySem PySem.Spec PyProof.Rows L2
theorem c0m{X:Cx}{elt iter:Expr}{x:Str}{px pos:Pos}{ifs:List Expr}{scope:Scope}{te tl:TE}{tt:TT}(hc:O7 X.N X.env.scope scope x)(hcalm:X.calm=true)(hi:y'E X iter tl)
  (ht:∀cl C fp s3 H3,c0o (a0t X scope cl C x fp s3 H3) ifs tt) (he:∀cl C fp s3 H3,y'E (a0t X scope cl C x fp s3 H3) elt te)
  (hs:∀x,T1 iter X.env x=pure x:=by intro _;rfl):y'E X (.ListComp elt [⟨.Name x px,iter,ifs,0⟩] scope pos) (c0y tl tt te):=
 ⟨L2.c5C hc hcalm hi.h (fun cl C fp s3 H3=>(ht cl C fp s3 H3).h) (fun cl C fp s3 H3=>(he cl C fp s3 H3).h) hs⟩
end Y
namespace Y
open PySem PySem.Spec PyProof.Rows L2
theorem b5G{X:Cx}{k:Nat}(hc:X.calm=true)(hr:W0 k X.A):a1c X (.type "dict") (c0U X.K):=⟨L2.b9Y hc (by have:=hr.un;omega)⟩
end Y
namespace Y
open PySem PySem.Spec PyProof.Rows L2
theorem c6R{X:Cx}{k j:Nat}{x:Str}{C:Addr}{ps:List Str}{sp:Sp}{dvs:List V}{e:Expr}{es:List Expr}{tr:TA}{p pos:Pos}(M:b8o X.prog X.w X.K X.mg X.base k x C ps dvs sp)(hr:W0 j X.A)(ha:y'A X (e::es) tr)(hk:k+1<=j:=by decide)(hg:Gl X x:=by rfl)
  (hdb:(x == ("__debug__" : Str))=false:=by decide) (he:j9 (e::es) X.env=(false,eval e X.env)::j9 es X.env:=by rfl) (hpl:(a1y pos (j9 es X.env)).any (·.1)=false:=by rfl) :
  y'E X (.Call (.Name x p) (e::es) [] pos) (a3Q C sp dvs E0 tr):=⟨L2.d0r M hr hk hg ha.h hdb he hpl⟩
theorem c2J{P:D0}{w:World}{K:Fg}{mg:Str->Option Value}{base:Heap}{x qual:Str}{st:Stmt}{y'T f:Addr}{fd:a1g}{N ps:List Str}{k:Nat}{sp:Sp}(F:c0d K x qual st y'T f fd)(y'S:v0 N ps (f6 st))(len:∀vs H Q y'E,sp vs H Q y'E->vs.length=ps.length)
  (hbody:∀(cdv:Value) (y'A:U8) (outer:List Env) (s:k8) (H:Hp) (vs:List V) (Q:VK) (y'E:XK),W0 k (y'A.deeper (b2L qual (f6 st) s.heap.objs.size f cdv))->sp vs H Q y'E ->
   ∃t,b3g (b5h CX0 P w K mg base N qual (f6 st) f cdv y'A outer s H y'E).nox (a0y st) t/\t { nx:=fun _ H'=>Q .non H',rt:=Q } (a8D N vs) H):G8 P w K mg base CX0 (k+1) f fd ps sp:=
 F.ok y'S len fun cdv y'A outer s H vs Q y'E hr h=>let⟨t,a,b⟩:=hbody cdv y'A outer s H vs Q y'E hr h; ⟨t,a.h,b⟩
end Y
namespace RD
open PySem PySem.Spec L2
variable{C a b cx d dd dx la na p ra rx wx z:Addr}{H H' H0 H1:Hp}{o:HO}{ds xs ys:List V}{D:b1z}{σ:St}{ta te ti to:TE}{tt:TT}{Q:VK}{v:V}{i j m n t:Nat}{L Y ks l:List Nat}{QD:Hp->Prop}{R:It->Hp->Prop}{M N:Nt}{ns:List Int}{as rs:List Addr}{Z:Addr->Prop}{Do f:Nat->Bool}{kvs:List (Key×V)}
def E3(b:Addr)(H H':Hp):Prop:=(∀a o,H a=some o->a≠b->H' a=some o)/\∀o,H b=some o->∃o',H' b=some o'
theorem E3.refl(b:Addr)(H:Hp):E3 b H H:=⟨fun _ _ h _=>h,fun o h=>⟨o,h⟩⟩
theorem E3.trans{H2:Hp}(x:E3 b H H1)(y:E3 b H1 H2):E3 b H H2:=
 ⟨fun a o h n=>y.1 a o (x.1 a o h n) n,fun o h=>let⟨o',h'⟩:=x.2 o h;y.2 o' h'⟩
theorem E3.upd(b:Addr)(H:Hp)(o:HO):E3 b H (upd H b o):=⟨fun a u h n=>by rw[i9 n];exact h,fun _ _=>⟨o,c9⟩⟩
theorem E3.new(h:H p=none):E3 b H (L2.upd H p o):=
 ⟨fun a u e _=>by rw[i9 (c8 e h)];exact e,fun u e=>⟨u,by rw[i9 (c8 e h)];exact e⟩⟩
theorem E3.of_same(s:j5 H H'):E3 b H H':=⟨fun a o h _=>s a o h,fun o h=>⟨o,s _ _ h⟩⟩
theorem A0(h:H p=none):j5 H (L2.upd H p o):=fun a u e=>by rw[i9 (c8 e h)];exact e
theorem E3.none(k:E3 b H H')(h:H' p=Option.none):H p=Option.none:=by
 cases e:H p with
 | none=>rfl
 | some o=>
  by_cases z:p=b
  ·subst z
   obtain⟨o',h'⟩:=k.2 o e
   rw[h]at h'
   cases h'
  ·rw[k.1 p o e z]at h
   cases h
theorem E3.tup{b a:Addr}{H H':Hp}{xs ys:List V}(k:E3 b H H')(hb:H b=some (.lst ys))(h:H a=some (.tup xs)):H' a=some (.tup xs):=
 k.1 a _ h (K0 h hb (by intro z;cases z))
structure Bag(H:Hp)(b c:Addr):Prop where
 ex:∃(i0 i1 i2:Int) (ns:List Int),H b=some (.lst [.int i0,.int i1,.int i2,.ref c])/\H c=some (.lst (ns.map V.int))/\0<=i0/\0<=i1/\i1<2147483647/\0<=i2/\∀x∈ns,0<=x
theorem Bag.lst{H:Hp}{b c:Addr}(h:Bag H b c):∃xs,H b=some (.lst xs):=by
 obtain⟨i0,i1,i2,ns,h,_⟩:=h.ex
 exact⟨_,h⟩
theorem Bag.same{c:Addr}(h:Bag H b c)(s:j5 H H'):Bag H' b c:=by
 obtain⟨i0,i1,i2,ns,h1,h2,r⟩:=h.ex
 exact⟨i0,i1,i2,ns,s _ _ h1,s _ _ h2,r⟩
theorem Bag.new{c:Addr}(h:Bag H b c)(n:H p=none):Bag (L2.upd H p o) b c:=h.same (A0 n)
theorem Bag.put{c:Addr}(h:Bag H b c)(n1:p≠b)(n2:p≠c):Bag (L2.upd H p o) b c:=by
 obtain⟨i0,i1,i2,ns,h1,h2,r⟩:=h.ex
 exact⟨i0,i1,i2,ns,by rw[i9 n1.symm];exact h1,by rw[i9 n2.symm];exact h2,r⟩
theorem Bag.nb{c:Addr}(h:Bag H b c)(n:H p=none):p≠b/\p≠c:=by
 obtain⟨i0,i1,i2,ns,h1,h2,r⟩:=h.ex
 exact⟨(c8 h1 n).symm,(c8 h2 n).symm⟩
theorem E3.put(k:E3 b H H')(n:H p=Option.none):E3 b H (L2.upd H' p o):=
 ⟨fun a u e z=>by rw[i9 (c8 e n)];exact k.1 a u e z,fun u e=>by
  obtain⟨o',h⟩:=k.2 u e
  exact⟨o',by rw[i9 (c8 e n)];exact h⟩⟩
theorem a3g{α:Type}(a:α)(r:List α):atI (a::r) 0=some a:=by
 have := @a0z α (a::r) 0 a rfl
 simpa using this
theorem b0s{α:Type}(a b:α)(r:List α):atI (a::b::r) 1=some b := @a0z α (a::b::r) 1 b rfl
theorem c3X{α:Type}(a b c:α)(r:List α):atI (a::b::c::r) 2=some c := @a0z α (a::b::c::r) 2 c rfl
theorem d2S{α:Type}(a b c d:α)(r:List α):atI (a::b::c::d::r) 3=some d := @a0z α (a::b::c::d::r) 3 d rfl
theorem a8b{α:Type}{xs:List α}{i:Int}(h0:0<=i)(h1:i<xs.length):∃v,atI xs i=some v/\xs[i.toNat]? = some v:=by
 have hl:i.toNat<xs.length:=by omega
 have e:xs[i.toNat]? = some (xs[i.toNat]'hl):=by simp[hl]
 refine⟨_,?_,e⟩
 have:=a0z e
 rwa [Int.toNat_of_nonneg h0]at this
section
variable {t u:TS}{tb tc:TE}{tu:TT}{tr:TA}{QB:Bool->Hp->Prop}{QA:List V->Hp->Prop}{QO:Option Int->Hp->Prop}{x y:V}{i j:Int}{r r':R2}{K:Fg}
theorem M9(h:t { D with nx:=u D } σ H):w4 t u D σ H:=h
theorem a6x{P:St->Hp->Prop}(tail:∀σ H,P σ H->u D σ H)(main:∀nx:St->Hp->Prop,(∀σ H,P σ H->nx σ H)->t { D with nx:=nx } σ H):w4 t u D σ H:=main _ tail
theorem b9e{g:TG}(h:te σ H fun x H1=>g x σ H1 D.nx):L3 te g D σ H:=h
theorem b7t{QS:St->Hp->Prop}(h:QS (σ.set n (some v)) H):v7 n v σ H QS:=h
theorem c9L{QS:St->Hp->Prop}{ts:b6i}(h:to σ H fun o H1=>ti σ H1 fun i H2=>ts o i v H2 fun H3=>QS σ H3):c3B to ti ts v σ H QS:=h
theorem b4B(h:te σ H D.rt):G6 te D σ H:=h
theorem b7v(h:te σ H fun _ H1=>D.nx σ H1):a0o te D σ H:=h
theorem d2e(h:tt σ H fun b H1=>if b=true then t D σ H1 else u D σ H1):Q9 tt t u D σ H:=h
theorem a8G(h:D.nx σ H):E9 D σ H:=h
theorem c4Y(h:te σ H fun x H'=>∃k,x=.bl k/\QB k H'):F9 te σ H QB:=h
theorem c9G(h:te σ H fun x H'=>∃k,x=.bl k/\QB k H'):tB te σ H QB:=h
theorem d2b(h:tt σ H fun c H1=>QB (!c) H1):a3d tt σ H QB:=h
theorem d2h(h:tt σ H fun c H1=>if c=true then tu σ H1 QB else QB false H1):b0N tt tu σ H QB:=h
theorem d3n(h:tt σ H fun c H1=>if c=true then QB true H1 else tu σ H1 QB):tOr tt tu σ H QB:=h
theorem b4F(h:ta σ H fun x H1=>∃c,x=.bl c/\if c=true then tb σ H1 Q else Q (.bl false) H1):a1n ta tb σ H Q:=h
theorem d2a(h:ta σ H fun x H1=>∃c,x=.bl c/\if c=true then Q (.bl true) H1 else tb σ H1 Q):b7d ta tb σ H Q:=h
theorem c9I(h:ta σ H fun x H1=>∃c,x=.bl c/\Q (.bl (!c)) H1):a9L ta σ H Q:=h
theorem c9a(h:tt σ H fun c H1=>if c=true then ta σ H1 Q else tb σ H1 Q):tIf tt ta tb σ H Q:=h
theorem b9c(h:ta σ H fun x H1=>tb σ H1 fun y H2=>r x y H2 Q):tOp r ta tb σ H Q:=h
theorem c7j(h:ta σ H fun x H1=>tb σ H1 fun y H2=>r x y H2 fun z H3=>∃k,z=.bl k/\(if k=true then tc σ H3 fun w' H4=>r' y w' H4 Q else Q (.bl false) H3)):a8C r r' ta tb tc σ H Q:=h
theorem d3l{f:V->Hp->VK->Prop}(h:ta σ H fun x H1=>f x H1 Q):tUn f ta σ H Q:=h
theorem d2c(h:Q (.int (-i)) H):rU (fun i=>.int (-i)) (.int i) H Q:=⟨i,rfl,h⟩
theorem U5(e:σ[n]? = some (some v))(h:Q v H):b4 n σ H Q:=⟨v,e,h⟩
theorem s_c(h:Q v H):tC v σ H Q:=h
theorem a0p(h:te σ H fun x H1=>tr σ H1 fun xs H2=>QA (x::xs) H2):a9 te tr σ H QA:=h
theorem a2Y(h:QA [] H):g0 σ H QA:=h
theorem b4E{sp:Sp}{E:XK}(h:tr σ H fun vs H1=>sp (vs++[]) H1 Q E):z4 sp [] E tr σ H Q:=h
theorem c7k{f:List V->Hp->VK->Prop}(h:tr σ H fun vs H1=>f vs H1 Q):tCB f tr σ H Q:=h
def New(o:HO)(n:Nat)(H:Hp)(Q:VK):Prop:=n<=u9/\∀p,H p=none->Q (.ref p) (upd H p o)
theorem G9(hl:n<=100000)(h:∀p H',H p=none->H' p=some o->j5 H H'->Q (.ref p) H'):New o n H Q:=
 ⟨D4 hl (by rw[a7v];decide),fun p hp=>h p _ hp c9 (A0 hp)⟩
theorem c8Z(h:tr σ H fun xs H1=>New (.tup xs) xs.length H1 Q):a3c tr σ H Q:=h
theorem d2d(h:tr σ H fun xs H1=>New (.lst xs) xs.length H1 Q):a2t tr σ H Q:=h
theorem d3m{f:V->Option Int->Option Int->Hp->VK->Prop}{tl th:TO}(h:te σ H fun x H1=>tl σ H1 fun l H2=>th σ H2 fun u H3=>f x l u H3 Q):tSl f te tl th σ H Q:=h
theorem c9H(h:te σ H fun x H1=>∃i,x=.int i/\QO (some i) H1):a9K te σ H QO:=h
theorem c5a(h:QO none H):a4R σ H QO:=h
theorem c0L(h:QB true H):a0Q σ H QB:=h
theorem a7o{f:V->List V->Hp->VK->Prop}(h:to σ H fun x H1=>tyV K "list" x H1/\tr σ H1 fun xs H2=>f x xs H2 Q):tBM K "list" f to tr σ H Q:=h
theorem d2f{s:Str}{f:V->List V->Hp->VK->Prop}(h:tr σ H fun xs H2=>f (.str s) xs H2 Q):tBM K "str" f (tC (.str s)) tr σ H Q:=⟨rfl,h⟩
theorem c9M{tget:V->V->Hp->VK->Prop}{tip:TIp}{tset:b6i}(h:to σ H fun o H1=>ti σ H1 fun i H2=>tget o i H2 fun x H3=>te σ H3 fun y H4=>tip x y H4 fun z H5=>tset o i z H5 fun H6=>D.nx σ H6):c1Y to ti te tget tip tset D σ H:=h
theorem d2r(h:Q (.int (i+j)) H):a6m (.int i) (.int j) H Q:=h
theorem c5i{a b:Str}(hl:a.length+b.length<=u9)(h:Q (.str (a++b)) H):a6m (.str a) (.str b) H Q:=⟨hl,h⟩
theorem b7z(ha:H a=some (.lst xs))(hb:H b=some (.lst ys))(h:New (.lst (xs++ys)) (xs.length+ys.length) H Q):a6m (.ref a) (.ref b) H Q:=by
 unfold a6m
 simp only[ha,hb]
 exact h
theorem c9S{g:Int->Int->V}(h:Q (g i j) H):b9j g (.int i) (.int j) H Q:=h
theorem a7p{C:Int->Int->Prop}{g:Int->Int->V}(hc:C i j)(h:Q (g i j) H):q2I C g (.int i) (.int j) H Q:=⟨hc,h⟩
theorem d3s{f:Int->Int->Int}(h:Q (.int (f i j)) H):ipI f (.int i) (.int j) H Q:=⟨i,j,rfl,rfl,h⟩
theorem O1(hp:H p=some (.lst xs))(he:atI xs i=some v)(h:Q v H):qIx (.ref p) (.int i) H Q:=by
 unfold qIx
 simp only[hp]
 exact⟨v,he,h⟩
theorem a0e(hp:H p=some (.tup xs))(he:atI xs i=some v)(h:Q v H):qIx (.ref p) (.int i) H Q:=by
 unfold qIx
 simp only[hp]
 exact⟨v,he,h⟩
theorem c5h{z:Str}{c:Nat}(hz:z.length<=u9)(he:atI z.cps.toList i=some c)(h:Q (.str ⟨#[c]⟩) H):qIx (.str z) (.int i) H Q:=⟨hz,c,he,h⟩
theorem c2e{QH:Hp->Prop}{k:Nat}(hp:H p=some (.lst xs))(he:ixN xs.length i=some k)(h:QH (upd H p (.lst (xs.set k v)))):b7A (.ref p) (.int i) v H QH:=by
 unfold b7A
 simp only[hp]
 exact⟨k,he,h⟩
theorem d2p(hp:H p=some (.lst xs))(h0:0<=i)(he:xs[i.toNat]? = some v)(h:Q v H):c2X (.ref p) (.int i) H Q:=by
 unfold c2X
 simp only[hp]
 exact⟨h0,v,he,h⟩
theorem O5(hp:H p=some (.lst xs))(h:Q (.int xs.length) H):a0r [.ref p] H Q:=by
 unfold a0r
 simp only[hp]
 exact h
theorem a8H(hp:H p=some (.tup xs))(h:Q (.int xs.length) H):a0r [.ref p] H Q:=by
 unfold a0r
 simp only[hp]
 exact h
theorem c9Q{z:Str}(hz:z.length<=u9)(h:Q (.int z.length) H):a0r [.str z] H Q:=⟨hz,h⟩
theorem d2s(h:Q (.int (if i<0 then -i else i)) H):c5p [.int i] H Q:=h
theorem d3t(hs:b8U x y=true)(h:Q (.bl (decide (x=y))) H):qEq x y H Q:=⟨_,if_pos hs,h⟩
theorem d3r(hs:b8U x y=true)(h:Q (.bl (!decide (x=y))) H):qNe x y H Q:=⟨_,if_pos hs,h⟩
theorem c2m(ha:H a=some (.tup xs))(hb:H b=some (.tup ys))(fx:xs.all X1=true)(fy:ys.all X1=true):eqO (.ref a) (.ref b) H=some (a1S xs ys):=by
 unfold eqO
 rw[if_neg (by intro z;cases z)]
 simp only[ha,hb]
 rw[if_pos ⟨fx,fy⟩]
theorem c2n(ha:H a=some (.lst xs))(hb:H b=some (.lst ys))(fx:xs.all X1=true)(fy:ys.all X1=true):eqO (.ref a) (.ref b) H=some (a1S xs ys):=by
 unfold eqO
 rw[if_neg (by intro z;cases z)]
 simp only[ha,hb]
 rw[if_pos ⟨fx,fy⟩]
theorem d1n(hb:H b=some (.tup ys)):eqO .non (.ref b) H=some false:=by
 unfold eqO
 rw[if_neg (by intro z;cases z)]
 simp only[hb]
theorem c6n(v:V)(h:X1 v=true):eqV v v=true:=by
 cases v with
 | non=>rfl
 | bl b=>simp[eqV]
 | int i=>simp[eqV]
 | str s=>simp[eqV]
 | byt b=>cases h
 | flt b=>cases h
 | ref a=>cases h
 | ty n=>cases h
theorem b9J(xs:List V)(h:xs.all X1=true):a1S xs xs=true:=by
 unfold a1S
 rw[b5y,beq_self_eq_true,d2T,X5]
 intro j hj
 have hl:j<xs.length:=by simpa using hj
 have e:xs.getD j .non=xs[j]:=by simp[Q1,hl]
 rw[e]
 exact c6n _ (X5.mp h _ (M3 _))
theorem b6y(hp:H p=some (.tup xs))(hx:X1 x=true)(ha:xs.all X1=true)(h:Q (.bl (inV x xs)) H):qIn false x (.ref p) H Q:=by
 unfold qIn
 cases x <;> first | (simp only[hp];exact⟨hx,ha,h⟩) | cases hx
theorem a0q{l:Addr}(hp:H l=some (.lst xs))(hl:xs.length<u9)(h:Q .non (upd H l (.lst (xs++[y])))):V3 (.ref l) [y] H Q:=by
 unfold V3
 simp only[hp]
 exact⟨hl,h⟩
theorem c9d{lo hi:Option Int}(ha:H a=some (.tup xs))(hw:¬(HT.sIx xs.length 0 lo=0/\HT.sIx xs.length xs.length hi=xs.length))(h:∀p H',H p=none->H' p=some (.tup (a8U xs lo hi))->j5 H H'->Q (.ref p) H'):qSl (.ref a) lo hi H Q:=by
 unfold qSl
 simp only[ha]
 exact⟨hw,fun p hp=>h p _ hp c9 (A0 hp)⟩
theorem c9e{lo hi:Option Int}(ha:H a=some (.lst xs))(h:∀p H',H p=none->H' p=some (.lst (a8U xs lo hi))->j5 H H'->Q (.ref p) H'):qSl (.ref a) lo hi H Q:=by
 unfold qSl
 simp only[ha]
 exact fun p hp=>h p _ hp c9 (A0 hp)
theorem a6A{s c:String}(e:a5n x H=some s)(hc:c∈b2u)(h:Q (.bl (c1u s c)) H):a8m [x,.ty c] H Q:=⟨s,e,hc,h⟩
theorem c9R{s:Str}{l:Addr}{ss:List Str}(hp:H l=some (.lst xs))(e:a6N xs=some ss)(hl:(ss.map (·.length)).sum+ss.length * s.length<=16777216)(h:Q (.str (Txt.join s ss)) H):b6z (.str s) [.ref l] H Q:=by
 unfold b6z
 simp only[hp]
 exact⟨ss,e,hl,h⟩
end
section
variable {D:Addr}{K:Fg}
theorem a8V{lo:Int}(Pv:Nat->List V->Hp->Prop)(h0:Pv 0 [] (upd H1 D (.lst [])))(hP:∀i ys H,Pv i ys H->H D=some (.lst ys))
  (step:∀i ys H2,i<n->Pv i ys H2->∀R:VK,(∀y H5,H5 D=some (.lst ys)->ys.length<u9->Pv (i+1) (ys++[y]) (upd H5 D (.lst (ys++[y])))->R y H5)->te (some (.int (lo+i))::σ) H2 R)
  (done:∀ys H2,Pv n ys H2->QD H2) :
  ∃W:Nat->Nat->List V->Hp->Prop,(∃m,W 0 m [] (upd H1 D (.lst [])))/\∀i m ys H2,W i m ys H2->H2 D=some (.lst ys) /\
   (((Itr lo n).stop i H2 /\ QD H2) \/ ((Itr lo n).go i H2 /\ ∀ x H3,(Itr lo n).yld i H2 x H3 -> a0Q (some x :: σ) H3 fun ok H4 => if ok = true then
     te (some x::σ) H4 (fun y H5=>H5 D=some (.lst ys)/\ys.length<u9/\∃m',m'<m/\W (i+1) m' (ys++[y]) (upd H5 D (.lst (ys++[y]))))
     else ∃m',m'<m/\W (i+1) m' ys H4)):=by
 refine⟨fun i m ys H=>m=n - i/\i<=n/\Pv i ys H,⟨n,rfl,Z0 _,h0⟩,?_⟩
 rintro i m ys H2 ⟨rfl,hi,p⟩
 refine⟨hP i ys H2 p,?_⟩
 by_cases hlt:i<n
 ·refine .inr ⟨hlt,fun x H3 y=>?_⟩
  obtain⟨e,y⟩:=y
  subst e y
  refine c0L ?_
  rw[if_pos rfl]
  exact step i ys _ hlt p _ fun y H5 h1 h2 h3=>⟨h1,h2,n - (i+1),by omega,rfl,hlt,h3⟩
 ·have e:i=n:=by omega
  subst e
  exact .inl ⟨j6 _,done ys H2 p⟩
theorem a0G(Pv:Nat->List V->Hp->Prop)(h0:Pv 0 [] (upd H1 D (.lst [])))(hP:∀i ys H,Pv i ys H->H D=some (.lst ys))(hl:∀i ys H,i<=xs.length->Pv i ys H->SqL K H a xs)
  (step:∀i x ys H2,xs[i]? = some x->Pv i ys H2->∀R:VK,(∀y H5,H5 D=some (.lst ys)->ys.length<u9->Pv (i+1) (ys++[y]) (upd H5 D (.lst (ys++[y])))->R y H5)->te (some x::σ) H2 R)
  (done:∀ys H2,Pv xs.length ys H2->QD H2) :
  ∃W:Nat->Nat->List V->Hp->Prop,(∃m,W 0 m [] (upd H1 D (.lst [])))/\∀i m ys H2,W i m ys H2->H2 D=some (.lst ys) /\
   (((Itl K a).stop i H2 /\ QD H2) \/ ((Itl K a).go i H2 /\ ∀ x H3,(Itl K a).yld i H2 x H3 -> a0Q (some x :: σ) H3 fun ok H4 => if ok = true then
     te (some x::σ) H4 (fun y H5=>H5 D=some (.lst ys)/\ys.length<u9/\∃m',m'<m/\W (i+1) m' (ys++[y]) (upd H5 D (.lst (ys++[y]))))
     else ∃m',m'<m/\W (i+1) m' ys H4)):=by
 refine⟨fun i m ys H=>m=xs.length - i/\i<=xs.length/\Pv i ys H,⟨xs.length,rfl,Z0 _,h0⟩,?_⟩
 rintro i m ys H2 ⟨rfl,hi,p⟩
 refine⟨hP i ys H2 p,?_⟩
 have q:=hl i ys H2 hi p
 by_cases hlt:i<xs.length
 ·refine .inr ⟨⟨xs,xs[i],q,by simp[hlt]⟩,fun x H3 y=>?_⟩
  obtain⟨e,y⟩:=y
  subst e
  refine c0L ?_
  rw[if_pos rfl]
  exact step i x ys _ (y xs q) p _ fun y H5 h1 h2 h3=>⟨h1,h2,xs.length - (i+1),by omega,rfl,hlt,h3⟩
 ·have e:i=xs.length:=by omega
  subst e
  exact .inl ⟨⟨xs,q,j6 _⟩,done ys H2 p⟩
theorem a0c{wi:TI}(h:wi σ H1 fun J H1=>∀D,H1 D=none->∃W:Nat->Nat->List V->Hp->Prop,
 (∃m,W 0 m [] (upd H1 D (.lst [])))/\∀i m ys H2,W i m ys H2->H2 D=some (.lst ys) /\
  ((J.stop i H2 /\ Q (.ref D) H2) \/ (J.go i H2 /\ ∀ x H3,J.yld i H2 x H3 -> tt (some x :: σ) H3 fun ok H4 => if ok = true then
    te (some x::σ) H4 (fun y H5=>H5 D=some (.lst ys)/\ys.length<u9/\∃m',m'<m/\W (i+1) m' (ys++[y]) (upd H5 D (.lst (ys++[y]))))
    else ∃m',m'<m/\W (i+1) m' ys H4))):V6 wi tt te σ H1 Q:=h
theorem a2e{ta:TA}(h:ta σ H1 fun vs H2=>∃j:Int,vs=[.int j] /\ -(2 ^ 62)<=j/\j<2 ^ 62/\R (Itr 0 j.toNat) H2):a2Z ta σ H1 R:=h
theorem Z6(h:ta σ H1 fun x H2=>∃a,x=.ref a/\(∃xs,SqL K H2 a xs)/\R (Itl K a) H2):W8 K ta σ H1 R:=h
theorem a1o{wi:TI}{g:TG}{tb:TS}{D:b1z}(h:wi σ H1 fun J H1=>∃W:Nat->Nat->St->Hp->Prop,(∃m,W 0 m σ H1)/\∀i m σ H,W i m σ H ->
 (J.stop i H/\D.nx σ H)\/(J.go i H/\∃N:St->Hp->Prop,(∀σ' H',N σ' H'->∃m',m'<m/\W (i+1) m' σ' H')/\∀x H',J.yld i H x H'->g x σ H' fun σ2 H2=>tb { D with nx:=N,ct:=N,bk:=D.nx } σ2 H2)):a3e wi g tb D σ H1:=h
end
def D9(H H':Hp):Prop:=∀a xs,H a=some (.tup xs)->H' a=some (.tup xs)
theorem D9.refl(H:Hp):D9 H H:=fun _ _ h=>h
theorem D9.new(h:H p=none):D9 H (upd H p o):=fun a xs e=>by rw[i9 (c8 e h)];exact e
theorem D9.put(h:H p=some (.lst ys)):D9 H (upd H p o):=fun a xs e=>by
 rw[i9 (K0 e h (by intro z;cases z))];exact e
theorem j5.ts(s:j5 H H'):D9 H H':=fun a xs h=>s a _ h
theorem E3.ts{c:Addr}(k:E3 b H H')(hB:Bag H b c):D9 H H':=fun a xs h=>by
 obtain⟨ys,hb⟩:=hB.lst
 exact k.tup hb h
def OpV(v:V):Prop:=(∃s,v=.str s)\/∃n:Int,v=.int n/\0<=n/\n<1000000000000
def d1A(H:Hp)(p:Addr):Prop:=∃k v1 v2,H p=some (.tup [.str k,v1,v2])/\OpV v1/\OpV v2/\k∈(["plus","minus","times","less","same"]:List Str)
inductive b6P(H:Hp):List V->Prop
 | set (n:Str) (p:Addr):d1A H p->b6P H [.str "set",.str n,.ref p]
 | copy (n:Str) (v:V):OpV v->b6P H [.str "copy",.str n,v]
 | take (n:Str):b6P H [.str "take",.str n]
 | tell (v:V):OpV v->b6P H [.str "tell",v]
 | ask (v:V):OpV v->b6P H [.str "ask",v]
 | skip:b6P H [.str "skip"]
structure d3I(H:Hp)(a:Addr):Prop where
 ex:∃ss:List Str,H a=some (.lst (ss.map V.str))/\ss≠[]/\ss.length<=8
theorem small(h:n<=100000):n<=u9:=D4 h (by rw[a7v];decide)
theorem F8(h:n<100000):n<u9:=D7 h (by rw[a7v];decide)
theorem C6{c:Bool}{A B:Prop}(hc:c=true)(h:A):if c=true then A else B:=by rw[if_pos hc];exact h
theorem v9{c:Bool}{A B:Prop}(hc:c=false)(h:B):if c=true then A else B:=by rw[hc];exact L2.d1i h
section
variable {t u:TS}{tb tc:TE}{tu:TT}{tr:TA}{QB:Bool->Hp->Prop}{QA:List V->Hp->Prop}{x y:V}{i j:Int}{K:Fg}
theorem b7w(h:∀p H',H p=none->H' p=some (.dK [])->j5 H H'->Q (.ref p) H'):a9O σ H Q:=fun p hp=>h p _ hp c9 (A0 hp)
theorem c2b(h:ti σ H fun y H1=>to σ H1 fun x H2=>∃a o,x=.ref a/\b1A H2 a y o/\Q (.bl o.isSome) H2):b5J ti to σ H Q:=h
theorem a2x(h:ti σ H fun y H1=>to σ H1 fun x H2=>∃a o,x=.ref a/\b1A H2 a y o/\Q (.bl (!o.isSome)) H2):a1C ti to σ H Q:=h
theorem a7J(h:te σ H fun v H1=>to σ H1 fun x H2=>ti σ H2 fun y H3=>∃a H4,x=.ref a/\b6k H3 a y v H4/\D.nx σ H4):a4m to ti te D σ H:=h
theorem T3{f:Str}(h:ta σ H fun x H1=>∃a C dx fs v,x=.ref a/\H1 a=some (.ins C dx fs)/\Cls K C/\Y9 K C f/\fs.lookup f=some v/\Q v H1):a0n K ta f σ H Q:=h
theorem a1t{f:Str}(h:te σ H fun y H1=>ta σ H1 fun x H2=>∃a C dx fs,x=.ref a/\H2 a=some (.ins C dx fs)/\Cls K C/\Y9 K C f/\fs.length<1000/\D.nx σ (upd H2 a (.ins C dx (Q0 f y fs)))):a5E K ta te f D σ H:=h
theorem M6{m:Str}{sp:Sp}{E:XK}(h:ta σ H fun x H1=>∃a dx fs,x=.ref a/\H1 a=some (.ins C dx fs)/\fs.lookup m=none/\tr σ H1 fun vs H2=>sp (x::(vs++[])) H2 Q E):F7 C m sp [] E ta tr σ H Q:=h
theorem b4C{sp:Sp}{E:XK}(h:tr σ H fun vs H1=>∀x dx,H1 x=none->H1 dx=none->dx≠x ->
 sp (.ref x::(vs++[])) (upd (upd H1 dx (.own x)) x (.ins C dx [])) (fun v H2=>v=.non/\Q (.ref x) H2) E):a3Q C sp [] E tr σ H Q:=h
theorem d2g{f:V->List V->Hp->VK->Prop}(h:to σ H fun x H1=>tyV K "list" x H1/\f x [] H1 Q):c6W K "list" f to σ H Q:=h
theorem a0g(h:H p=some (.lst xs)):tyV K "list" (.ref p) H:=.inl ⟨rfl,xs,SqL.of h⟩
theorem a7I{a b:Nat}{QS:St->Hp->Prop}(hp:SqT K H p [x,y])(h:QS ((σ.set a (some x)).set b (some y)) H):b3q K 2 (a2A (v7 a) (a2A (v7 b) b3r)) (.ref p) σ H QS:=
 ⟨p,_,rfl,hp,rfl,_,_,rfl,_,_,rfl,rfl,h⟩
theorem a6w(h:tr σ H fun vs H1=>∃a,vs=[.ref a]/\(∃xs,SqL K H1 a xs)/\R (Ite K a) H1):a8j K tr σ H R:=h
theorem c5c(h:tr σ H fun vs H1=>∃a b,vs=[.ref a,.ref b]/\(∃xs,SqL K H1 a xs)/\(∃xs,SqL K H1 b xs)/\R (Itz K a b) H1):c6h K tr σ H R:=h
theorem b0X(h:∃W:Nat->St->Hp->Prop,(∃m,W m σ H)/\∀m σ H,W m σ H ->
 tt σ H fun b H1=>if b=true then ∃N:St->Hp->Prop,(∀σ' H',N σ' H'->∃m',m'<m/\W m' σ' H')/\t { D with nx:=N,ct:=N,bk:=D.nx } σ H1 else D.nx σ H1):a8B tt t D σ H:=h
theorem b4z(h:te σ H fun v H1=>D.nx (σ.set n (some v)) H1):(fun D σ H=>te σ H fun v H1=>(D:b1z).nx (σ.set n (some v)) H1:TS) D σ H:=h
theorem b7x{wi:TI}(h:wi σ H1 fun J H1=>∀D,H1 D=none->∃W:Nat->Nat->List V->Hp->Prop,
 (∃m,W 0 m [] (upd H1 D (.lst [])))/\∀i m ys H2,W i m ys H2->H2 D=some (.lst ys) /\
  ((J.stop i H2 /\ Q (.ref D) H2) \/ (J.go i H2 /\ ∀ x H3,J.yld i H2 x H3 -> ∃ a u v,x = .ref a /\ SqT K H3 a [u,v] /\ tt (some u :: some v :: σ) H3 fun ok H4 => if ok = true then
    te (some u::some v::σ) H4 (fun y H5=>H5 D=some (.lst ys)/\ys.length<u9/\∃m',m'<m/\W (i+1) m' (ys++[y]) (upd H5 D (.lst (ys++[y]))))
    else ∃m',m'<m/\W (i+1) m' ys H4))):a7D K wi tt te σ H1 Q:=h
theorem b5i{J:It}{D:Addr}(n:Nat)(Pv:Nat->List V->Hp->Prop)(h0:Pv 0 [] (upd H1 D (.lst [])))(hP:∀i ys H,Pv i ys H->H D=some (.lst ys))(stop:∀ys H,Pv n ys H->J.stop n H/\QD H)(go:∀i ys H,i<n->Pv i ys H->J.go i H)
  (step:∀i ys H2,i<n->Pv i ys H2->∀x H3,J.yld i H2 x H3->∀(R:VK) (S:Hp->Prop),(∀y H5,H5 D=some (.lst ys)->ys.length<u9->Pv (i+1) (ys++[y]) (upd H5 D (.lst (ys++[y])))->R y H5)->(∀H4,Pv (i+1) ys H4->S H4) ->
   tt (some x::σ) H3 fun ok H4=>if ok=true then te (some x::σ) H4 R else S H4) :
  ∃W:Nat->Nat->List V->Hp->Prop,(∃m,W 0 m [] (upd H1 D (.lst [])))/\∀i m ys H2,W i m ys H2->H2 D=some (.lst ys) /\
   ((J.stop i H2 /\ QD H2) \/ (J.go i H2 /\ ∀ x H3,J.yld i H2 x H3 -> tt (some x :: σ) H3 fun ok H4 => if ok = true then
     te (some x::σ) H4 (fun y H5=>H5 D=some (.lst ys)/\ys.length<u9/\∃m',m'<m/\W (i+1) m' (ys++[y]) (upd H5 D (.lst (ys++[y]))))
     else ∃m',m'<m/\W (i+1) m' ys H4)):=by
 refine⟨fun i m ys H=>m=n - i/\i<=n/\Pv i ys H,⟨n,rfl,Z0 _,h0⟩,?_⟩
 rintro i m ys H2 ⟨rfl,hi,p⟩
 refine⟨hP i ys H2 p,?_⟩
 by_cases hlt:i<n
 ·exact .inr ⟨go i ys H2 hlt p,fun x H3 hy=>step i ys H2 hlt p x H3 hy _ _ (fun y H5 h1 h2 h3=>⟨h1,h2,n - (i+1),by omega,rfl,hlt,h3⟩) fun H4 h4=>⟨n - (i+1),by omega,rfl,hlt,h4⟩⟩
 ·have e:i=n:=by omega
  subst e
  exact .inl (stop ys H2 p)
theorem c1B{J:It}{D:Addr}(n:Nat)(Pv:Nat->List V->Hp->Prop)(h0:Pv 0 [] (upd H1 D (.lst [])))(hP:∀i ys H,Pv i ys H->H D=some (.lst ys))(stop:∀ys H,Pv n ys H->J.stop n H/\QD H)(go:∀i ys H,i<n->Pv i ys H->J.go i H)
  (step:∀i ys H2,i<n->Pv i ys H2->∀x H3,J.yld i H2 x H3->∃a u v,x=.ref a/\SqT K H3 a [u,v]/\∀(R:VK) (S:Hp->Prop),(∀y H5,H5 D=some (.lst ys)->ys.length<u9->Pv (i+1) (ys++[y]) (upd H5 D (.lst (ys++[y])))->R y H5)->(∀H4,Pv (i+1) ys H4->S H4) ->
   tt (some u::some v::σ) H3 fun ok H4=>if ok=true then te (some u::some v::σ) H4 R else S H4) :
  ∃W:Nat->Nat->List V->Hp->Prop,(∃m,W 0 m [] (upd H1 D (.lst [])))/\∀i m ys H2,W i m ys H2->H2 D=some (.lst ys) /\
   ((J.stop i H2 /\ QD H2) \/ (J.go i H2 /\ ∀ x H3,J.yld i H2 x H3 -> ∃ a u v,x = .ref a /\ SqT K H3 a [u,v] /\ tt (some u :: some v :: σ) H3 fun ok H4 => if ok = true then
     te (some u::some v::σ) H4 (fun y H5=>H5 D=some (.lst ys)/\ys.length<u9/\∃m',m'<m/\W (i+1) m' (ys++[y]) (upd H5 D (.lst (ys++[y]))))
     else ∃m',m'<m/\W (i+1) m' ys H4)):=by
 refine⟨fun i m ys H=>m=n - i/\i<=n/\Pv i ys H,⟨n,rfl,Z0 _,h0⟩,?_⟩
 rintro i m ys H2 ⟨rfl,hi,p⟩
 refine⟨hP i ys H2 p,?_⟩
 by_cases hlt:i<n
 ·refine .inr ⟨go i ys H2 hlt p,fun x H3 hy=>?_⟩
  obtain⟨a,u,v,e,hs,st⟩:=step i ys H2 hlt p x H3 hy
  exact⟨a,u,v,e,hs,st _ _ (fun y H5 h1 h2 h3=>⟨h1,h2,n - (i+1),by omega,rfl,hlt,h3⟩) fun H4 h4=>⟨n - (i+1),by omega,rfl,hlt,h4⟩⟩
 ·have e:i=n:=by omega
  subst e
  exact .inl (stop ys H2 p)
theorem b2X{J:It}{g:TG}{tb:TS}(n:Nat)(Pv:Nat->St->Hp->Prop)(h0:Pv 0 σ H)(stop:∀σ H,Pv n σ H->J.stop n H/\D.nx σ H)(go:∀i σ H,i<n->Pv i σ H->J.go i H)
  (hs:∀i σ H,i<n->Pv i σ H->∀x H',J.yld i H x H'->g x σ H' fun σ2 H2=>tb { D with nx:=Pv (i+1),ct:=Pv (i+1),bk:=D.nx } σ2 H2) :
  ∃W:Nat->Nat->St->Hp->Prop,(∃m,W 0 m σ H)/\∀i m σ H,W i m σ H ->
   (J.stop i H/\D.nx σ H)\/(J.go i H/\∃N:St->Hp->Prop,(∀σ' H',N σ' H'->∃m',m'<m/\W (i+1) m' σ' H')/\∀x H',J.yld i H x H'->g x σ H' fun σ2 H2=>tb { D with nx:=N,ct:=N,bk:=D.nx } σ2 H2):=by
 refine⟨fun i m σ H=>m=n - i/\i<=n/\Pv i σ H,⟨n,rfl,Z0 _,h0⟩,?_⟩
 rintro i m σ H ⟨rfl,hi,p⟩
 by_cases hlt:i<n
 ·exact .inr ⟨go i σ H hlt p,Pv (i+1),fun σ' H' p'=>⟨n - (i+1),by omega,rfl,hlt,p'⟩,fun x H' hy=>hs i σ H hlt p x H' hy⟩
 ·have e:i=n:=by omega
  subst e
  exact .inl (stop σ H p)
theorem d2o(h:Q (.int (if j<i then j else i)) H):c5k [.int i,.int j] H Q:=h
theorem b3d(bs:List Bool):a1q (bs.map V.bl)=some bs:=by
 induction bs with
 | nil=>rfl
 | cons s r ih=>simp[a1q,ih]
theorem d2q{l:Addr}{bs:List Bool}(hl:H l=some (.lst (bs.map V.bl)))(h:Q (.bl (bs.any id)) H):c0V [.ref l] H Q:=by
 unfold c0V
 simp only[hl]
 exact⟨bs,b3d bs,h⟩
theorem c9g{l:Addr}{bs:List Bool}(hl:H l=some (.lst (bs.map V.bl)))(h:Q (.bl (bs.all id)) H):b5T [.ref l] H Q:=by
 unfold b5T
 simp only[hl]
 exact⟨bs,b3d bs,h⟩
theorem b9h{l:Addr}{zs:List V}(hl:H l=some (.lst xs))(hb:H b=some (.lst zs))(hz:xs.length+zs.length<=u9)(h:Q .non (upd H l (.lst (xs++zs)))):a7N (.ref l) [.ref b] H Q:=by
 unfold a7N
 simp only[hl,hb]
 exact⟨hz,h⟩
theorem d2n{l:Addr}(hl:H l=some (.lst (xs++[y])))(h:Q y (upd H l (.lst xs))):c2V (.ref l) [] H Q:=by
 unfold c2V
 simp only[hl]
 refine⟨y,by simp,?_⟩
 simpa using h
theorem a6z(hp:H p=some (.lst ys))(h:∀l H',H l=none->H' l=some (.lst ys)->j5 H H'->Q (.ref l) H'):a6B [.ref p] H Q:=by
 unfold a6B
 simp only[hp]
 exact fun l hl=>h l _ hl c9 (A0 hl)
end
def IL(l:List Nat):List V:=l.map fun(n:Nat)=>V.int (n:Int)
theorem F3(l:List Nat):(IL l).length=l.length:=by simp[IL]
theorem b3M(l:List Nat):(IL l).all X1=true:=by
 rw[X5]
 intro x hx
 obtain⟨s,_,rfl⟩:=E7.mp hx
 rfl
def KS(ks:List Nat):List (Key×V):=ks.map fun(k:Nat)=>(Sum.inl (k:Int),V.bl true)
theorem c1K(ks:List Nat)(k:Nat):(a7B (KS ks) (Sum.inl (k:Int))).isSome=decide (k∈ks):=by
 induction ks with
 | nil=>rfl
 | cons a r ih=>
  by_cases e:a=k
  ·subst e
   rw[show KS (a::r)=(Sum.inl (a:Int),V.bl true)::KS r from rfl,b0E rfl]
   simp
  ·rw[show KS (a::r)=(Sum.inl (a:Int),V.bl true)::KS r from rfl,b0F (by intro z;have:=Sum.inl.inj z;exact e (by omega)),ih]
   have:(k∈a::r)↔k∈r:=by
    rw[u5]
    exact⟨fun h=>h.elim (fun z=>absurd z.symm e) id,.inr⟩
   simp[this]
def a4o(ks:List Nat)(k:Nat):List Nat:=if k∈ks then ks else ks++[k]
theorem c6E(ks:List Nat)(k:Nat):a2P (KS ks) (Sum.inl (k:Int)) (V.bl true)=KS (a4o ks k):=by
 unfold a2P a4o
 rw[a5O,c1K]
 by_cases h:k∈ks
 ·rw[if_pos (d5l h),if_pos h]
  unfold KS
  rw[X0]
  apply a3V
  intro a _
  show(if(Sum.inl (a:Int):Key)=Sum.inl (k:Int)then ((Sum.inl (a:Int):Key),V.bl true)else ((Sum.inl (a:Int):Key),V.bl true))=_
  split <;> rfl
 ·rw[if_neg (by simpa using h),if_neg h]
  simp[KS]
theorem a0s{k:Nat}:j∈a4o ks k↔j∈ks\/j=k:=by
 unfold a4o
 split
 ·rename_i h
  exact⟨.inl,fun q=>q.elim id fun z=>z ▸ h⟩
 ·simp
theorem a6C{k:Nat}(h:ks.Nodup):(a4o ks k).Nodup:=by
 unfold a4o
 split
 ·exact h
 ·rename_i hk
  rw[a2U]
  exact⟨h,by simp,fun a ha b hb=>by rw[l6.mp hb];intro z;exact hk (z ▸ ha)⟩
theorem b8p(ks:List Nat):(KS ks).length=ks.length:=by simp[KS]
theorem a4t:∀(n:Nat) (ks:List Nat),ks.Nodup->(∀k∈ks,k<n)->ks.length<=n:=by
 intro n
 induction n with
 | zero=>
  intro ks _ h
  cases ks with
  | nil=>exact j6 _
  | cons a r=>exact absurd (h a X2) (Nat.not_lt_zero _)
 | succ n ih=>
  intro ks nd h
  by_cases hn:n∈ks
  ·have:=ih (ks.erase n) (nd.erase n) fun k hk=>by
    have h1:=(List.Nodup.mem_erase_iff nd).mp hk
    have:=h k h1.2
    have:=h1.1
    omega
   rw[c0g hn]at this
   omega
  ·have:=ih ks nd fun k hk=>by
    have:=h k hk
    have:k≠n:=fun z=>hn (z ▸ hk)
    omega
   omega
theorem a4W(h:H d=some (.dK (KS ks)))(k:Nat):∃o,b1A H d (.int (k:Int)) o/\o.isSome=decide (k∈ks):=⟨_,b1A.k (k:=Sum.inl (k:Int)) h,c1K ks k⟩
theorem a9k(h:H d=some (.dK (KS ks)))(hl:ks.length<100000)(k:Nat):b6k H d (.int (k:Int)) (.bl true) (upd H d (.dK (KS (a4o ks k)))):=by
 rw[<-c6E]
 exact b6k.k (k:=Sum.inl (k:Int)) h (F8 (by rw[b8p];exact hl))
end RD
namespace RD
variable{C a b cx d dd dx la na p ra rx wx z:Addr}{H H' H0 H1:Hp}{o:HO}{ds xs ys:List V}{D:b1z}{σ:St}{ta te ti to:TE}{tt:TT}{Q:VK}{v:V}{i j m n t:Nat}{L Y ks l:List Nat}{QD:Hp->Prop}{R:It->Hp->Prop}{M N:Nt}{ns:List Int}{as rs:List Addr}{Z:Addr->Prop}{Do f:Nat->Bool}{kvs:List (Key×V)}
theorem c5R:∀(l m:List Nat),l.Nodup->(∀x∈l,x∈m)->l.length<=m.length
 | [],_,_,_=>Z0 _
 | a::r,m,nd,h=>by
  have ha:=h a X2
  have:=c5R r (m.erase a) (a1A.mp nd).2 fun x hx=>(List.mem_erase_of_ne (show x≠a from fun z=>(a1A.mp nd).1 (z ▸ hx))).mpr (h x (I0 _ hx))
  rw[c0g ha]at this
  have:=a9m ha
  rw[D5]
  omega
inductive Gd(N:Nt):Nat->Prop
 | stop {k:Nat}:N[k]? = some []->Gd N k
 | step {k t:Nat} {l:List Nat}:N[k]? = some l->t∈l->Gd N t->Gd N k
inductive Rc(N:Nt):Nat->Prop
 | zero:Rc N 0
 | step {k t:Nat} {l:List Nat}:Rc N k->N[k]? = some l->t∈l->Rc N t
structure a1a(N:Nt):Prop where
 pos:0<N.length
 le:N.length<=400
 two:∀l∈N,l.length<=2
 lt:∀l∈N,∀t∈l,t<N.length
 rc:∀k,k<N.length->Rc N k
 gd:∀k,k<N.length->Gd N k
def a6D(N:Nt)(G:List Nat):List (List Nat):=(t8 N.length).map fun k=>if k∈G then N.getD k [] else (N.length - 1)::(N.getD k []).drop 1
theorem b6E(N:Nt)(G:List Nat):(a6D N G).length=N.length:=by simp[a6D]
theorem b4Y{G:List Nat}{k:Nat}(h:k<N.length):(a6D N G)[k]? = some (if k∈G then N.getD k [] else (N.length - 1)::(N.getD k []).drop 1):=by
 unfold a6D
 rw[b6,b1D h]
 rfl
theorem b1h{G:List Nat}{k:Nat}(h:N[k]? = some l)(hk:k∈G):(a6D N G)[k]? = some l:=by
 have hl:=(t6.mp h).1
 rw[b4Y hl,if_pos hk]
 simp[Q1,h]
theorem b6D{G:List Nat}{k:Nat}(h:N[k]? = some l)(hk:¬k∈G):(a6D N G)[k]? = some ((N.length - 1)::l.drop 1):=by
 have hl:=(t6.mp h).1
 rw[b4Y hl,if_neg hk]
 simp[Q1,h]
theorem c8y{G:List Nat}(hG:∀k∈G,Gd N k)(hl:N[N.length - 1]? = some [])(hm:N.length - 1∈G):∀k,k<N.length->Gd (a6D N G) k:=by
 have last:Gd (a6D N G) (N.length - 1):=.stop (b1h hl hm)
 have out:∀k,k<N.length->¬k∈G->Gd (a6D N G) k:=fun k hk h=>.step (b6D (l:=N[k]) (by simp) h) X2 last
 have go:∀k,Gd N k->Gd (a6D N G) k:=by
  intro k h
  induction h with
  | @stop k h=>
   by_cases hk:k∈G
   ·exact .stop (b1h h hk)
   ·exact out k (t6.mp h).1 hk
  | @step k t l h ht _ ih=>
   by_cases hk:k∈G
   ·exact .step (b1h h hk) ht ih
   ·exact out k (t6.mp h).1 hk
 intro k hk
 by_cases h:k∈G
 ·exact go k (hG k h)
 ·exact out k hk h
theorem b9z{G:List Nat}(hp:0<N.length)(hs:∀l∈N,l.length<=2/\∀t∈l,t<N.length)(hl:N[N.length - 1]? = some [])(hm:N.length - 1∈G):∀l∈a6D N G,l.length<=2/\∀t∈l,t<N.length:=by
 intro l hl'
 obtain⟨k,hk⟩:=C0.mp hl'
 have hkl:k<N.length:=by have:=(t6.mp hk).1;rwa [b6E]at this
 rw[b4Y hkl]at hk
 have e:N.getD k []=N[k]:=by simp[Q1,hkl]
 rw[e]at hk
 obtain⟨h1,h2⟩:=hs N[k] (M3 _)
 by_cases hg:k∈G
 ·rw[if_pos hg]at hk
  cases hk
  exact⟨h1,h2⟩
 ·rw[if_neg hg]at hk
  cases hk
  refine⟨?_,fun t ht=>?_⟩
  ·rw[D5,b5D];omega
  ·rcases u5.mp ht with z | z
   ·omega
   ·exact h2 t (List.drop_subset _ _ z)
def a9P(N:Nt)(O:List Nat):List (List Nat):=O.map fun k=>(N.getD k []).map fun t=>O.idxOf t
theorem c6f{O:List Nat}(h:t∈O):O.idxOf t<O.length:=c0h.mpr h
theorem b7e{O:List Nat}{k:Nat}(hk:k∈O)(h:N[k]? = some l):(a9P N O)[O.idxOf k]? = some (l.map fun t=>O.idxOf t):=by
 unfold a9P
 have:O[O.idxOf k]? = some k:=by
  rw[c7 (c6f hk)]
  simp
 rw[b6,this]
 simp[Q1,h]
theorem c1x{O:List Nat}(h0:0∈O)(hs:O.Pairwise (· <= ·)):O.idxOf 0=0:=by
 cases O with
 | nil=>cases h0
 | cons a r=>
  have:a=0:=by
   rcases u5.mp h0 with z | z
   ·exact z.symm
   ·have:=(List.pairwise_cons.mp hs).1 0 z
    omega
  subst this
  simp
theorem c2K{O:List Nat}(h0:0∈O)(hs:O.Pairwise (· <= ·))(hnd:O.Nodup)(hlt:∀k∈O,k<N.length)(hN:N.length<=400)(hcl:∀k∈O,∀l,N[k]? = some l->∀t∈l,t∈O)(hrc:∀k∈O,Rc N k)
  (hsm:∀l∈N,l.length<=2) (hgd:∀k,k<N.length->Gd N k):a1a (a9P N O):=by
 have hlen:(a9P N O).length=O.length:=by simp[a9P]
 have rc:∀k,Rc N k->k∈O/\Rc (a9P N O) (O.idxOf k):=by
  intro k h
  induction h with
  | zero=>
   refine⟨h0,?_⟩
   rw[c1x h0 hs]
   exact .zero
  | @step k t l _ hl ht ih=>
   obtain⟨i1,i2⟩:=ih
   exact⟨hcl k i1 l hl t ht,.step i2 (b7e i1 hl) (E7.mpr ⟨t,ht,rfl⟩)⟩
 have gd:∀k,Gd N k->k∈O->Gd (a9P N O) (O.idxOf k):=by
  intro k h
  induction h with
  | @stop k h=>
   intro hk
   exact .stop (by rw[b7e hk h];rfl)
  | @step k t l h ht _ ih=>
   intro hk
   exact .step (b7e hk h) (E7.mpr ⟨t,ht,rfl⟩) (ih (hcl k hk l h t ht))
 have at_:∀i,i<O.length->∃k∈O,O.idxOf k=i:=fun i hi=>⟨O[i],M3 _,hnd.idxOf_getElem i hi⟩
 have mem:∀l∈a9P N O,∃k∈O,∃l',N[k]? = some l'/\l=l'.map fun t=>O.idxOf t:=by
  intro l hl
  obtain⟨k,hk,rfl⟩:=E7.mp hl
  refine⟨k,hk,N[k]'(hlt k hk),by simp[hlt k hk],?_⟩
  simp[Q1,hlt k hk]
 refine⟨?_,?_,fun l hl=>?_,fun l hl t ht=>?_,fun i hi=>?_,fun i hi=>?_⟩
 ·rw[hlen]
  exact a9m h0
 ·rw[hlen]
  exact D4 (a4t _ _ hnd hlt) hN
 ·obtain⟨k,hk,l',e,rfl⟩:=mem l hl
  rw[b9]
  exact hsm l' (a1G e)
 ·obtain⟨k,hk,l',e,rfl⟩:=mem l hl
  obtain⟨t',ht',rfl⟩:=E7.mp ht
  rw[hlen]
  exact c6f (hcl k hk l' e t' ht')
 ·rw[hlen]at hi
  obtain⟨k,hk,rfl⟩:=at_ i hi
  exact(rc k (hrc k hk)).2
 ·rw[hlen]at hi
  obtain⟨k,hk,rfl⟩:=at_ i hi
  exact gd k (hgd k (hlt k hk)) hk
end RD
namespace RD
open PySem PySem.Spec PyProof.Rows L2
variable{C a b cx d dd dx la na p ra rx wx z:Addr}{H H' H0 H1:Hp}{o:HO}{ds xs ys:List V}{D:b1z}{σ:L2.St}{ta te ti to:TE}{tt:TT}{Q:VK}{v:V}{i j m n t:Nat}{L Y ks l:List Nat}{QD:Hp->Prop}{R:It->Hp->Prop}{M N:Nt}{ns:List Int}{as rs:List Addr}{Z:Addr->Prop}{Do f:Nat->Bool}{kvs:List (Key×V)}
structure Cn where
 F5:Addr
 o4:Addr
 P0:Addr
 a0B:Addr
 V2:Addr
 a8c:Addr
 O9:Addr
variable{c:Cn}
structure a0v(K:Fg)(c:Cn):Prop where
 Z1:Cls K c.F5
 a4A:Y9 K c.F5 "deed"
 a3y:Y9 K c.F5 "found"
 a4z:Y9 K c.F5 "plan"
 a3x:Y9 K c.F5 "ready"
 a1L:Y9 K c.F5 "wanted"
 E2:Cls K c.o4
 a1K:Y9 K c.o4 "brinks"
 a4y:Y9 K c.o4 "deed"
 a2X:Y9 K c.o4 "fallen"
 a0A:Y9 K c.o4 "left_in"
 a1b:Y9 K c.o4 "left_out"
 a2W:Y9 K c.o4 "living"
 a2G:Y9 K c.o4 "plan"
 a1J:Y9 K c.o4 "put_in"
 Q2:Cls K c.P0
 a1Y:Y9 K c.P0 "entries"
 X6:Y9 K c.P0 "nexts"
 U2:Y9 K c.P0 "rows"
 a2d:Cls K c.a0B
 a2V:Y9 K c.a0B "come_by"
 a3o:Y9 K c.a0B "deed"
 a5b:Y9 K c.a0B "plan"
 a2H:Cls K c.V2
 a2m:Y9 K c.V2 "goes_by"
 a2F:Y9 K c.V2 "plan"
 b8w:∀H,SqT K H c.a8c [.str "plus",.str "minus",.str "times",.str "less",.str "same"]
 a0k:∀H,SqT K H c.O9 [.int (-1),.int (0)]
 c8M:IsC K c.P0
def spD(n m:Nat)(t:TS):Sp:=fun vs H Q _=>vs.length=n/\t { nx:=fun _ H'=>Q .non H',rt:=Q } (vs.map some++E5 (m - vs.length) none) H
def c8Y(K:Fg):TS:=G6 (a2t (a9 (tC (.int 0)) (a9 (tC (.int 1234567891)) (a9 (tC (.int 0)) (a9 (V6 (W8 K (tSl (c9P K) (b4 0) a4R (a9K (tC (.int 63))))) a0Q (tCB c5p (a9 (b4 0) g0))) g0)))))
def b7k(K:Fg):Sp:=spD 1 1 (c8Y K)
def c4L(K:Fg):TS:=w4 (Q9 (F9 (tOp qEq (tOp qIx (b4 0) (tC (.int 0))) (tC (.int 0)))) (w4 (L3 (tC (.int 12345)) (v7 2)) (w4 (Q9 (F9 (tOp qLt (tOp qIx (b4 0) (tC (.int 2))) (tCB a0r (a9 (tOp qIx (b4 0) (tC (.int 3))) g0)))) (w4 (L3 (tOp qIx (tOp qIx (b4 0) (tC (.int 3))) (tOp qIx (b4 0) (tC (.int 2)))) (v7 3)) (w4 (c1Y (b4 0) (tC (.int 2)) (tC (.int 1)) c2X (ipI fun i j=>i+j) b7A) (w4 (Q9 (F9 (tOp qGe (b4 3) (tC (.int 1000000000000000000)))) (L3 (b4 3) (c3B (b4 0) (tC (.int 0)) b7A)) E9) (L3 (tOp a6m (tOp b5S (b4 3) (tC (.int 2147483647))) (tC (.int 1))) (v7 2))))) E9) (L3 (tOp b5S (tOp a6m (tOp c0S (tOp qIx (b4 0) (tC (.int 1))) (tC (.int 48271))) (b4 2)) (tC (.int 2147483647))) (c3B (b4 0) (tC (.int 1)) b7A)))) E9) (w4 (Q9 (F9 (tOp qGt (tOp qIx (b4 0) (tC (.int 0))) (tC (.int 0)))) (w4 (L3 (tOp b5S (tOp qIx (b4 0) (tC (.int 0))) (b4 1)) (v7 4)) (w4 (L3 (tOp c7n (tOp qIx (b4 0) (tC (.int 0))) (b4 1)) (c3B (b4 0) (tC (.int 0)) b7A)) (G6 (b4 4)))) E9) (w4 (L3 (tOp b5S (tOp c0S (tOp qIx (b4 0) (tC (.int 1))) (tC (.int 39373))) (tC (.int 1000000007))) (v7 5)) (w4 (L3 (tOp b5S (tOp c0S (b4 5) (tC (.int 30011))) (tC (.int 998244353))) (v7 6)) (w4 (Q9 (F9 (tOp qGt (b4 1) (tC (.int 1000000)))) (G6 (tOp b5S (tOp a6m (tOp c0S (b4 6) (tC (.int 1000000000))) (b4 5)) (b4 1))) E9) (G6 (tOp b5S (tOp c7n (b4 6) (tC (.int 3))) (b4 1)))))))
def M8(K:Fg):Sp:=spD 2 7 (c4L K)
def c8W(K:Fg):TS:=w4 (L3 (a2t g0) (v7 2)) (w4 (a3e (a2Z (a9 (b4 1) g0)) (v7 3) (w4 (L3 (tCB c5k (a9 (tOp a6m (b4 3) (tC (.int 1))) (a9 (tOp c5j (b4 1) (tC (.int 1))) g0))) (v7 4)) (w4 (L3 (a2t (a9 (b4 4) (a9 (z4 (M8 K) [] E0 (a9 (b4 0) (a9 (b4 1) g0))) g0))) (v7 5)) (w4 (L3 (z4 (M8 K) [] E0 (a9 (b4 0) (a9 (tC (.int 8)) g0))) (v7 6)) (w4 (Q9 (F9 (tOp qLt (b4 6) (tC (.int 3)))) (L3 (a2t (a9 (tOp qIx (b4 5) (tC (.int 1))) (a9 (b4 4) g0))) (v7 5)) E9) (w4 (Q9 (F9 (tOp qEq (b4 6) (tC (.int 3)))) (L3 (a2t (a9 (tOp qIx (b4 5) (tC (.int 1))) (a9 (z4 (M8 K) [] E0 (a9 (b4 0) (a9 (b4 1) g0))) g0))) (v7 5)) E9) (w4 (Q9 (tOr (b0N (F9 (tOp qGt (b4 6) (tC (.int 3)))) (F9 (tOp qLt (b4 6) (tC (.int 7))))) (F9 (tOp qEq (b4 1) (tC (.int 1))))) (L3 (a2t (a9 (b4 4) g0)) (v7 5)) E9) (w4 (Q9 (b0N (F9 (tOp qEq (b4 6) (tC (.int 7)))) (F9 (tOp qGt (b4 1) (tC (.int 1))))) (L3 (a2t (a9 (tOp qIx (b4 5) (tC (.int 1))) g0)) (v7 5)) E9) (w4 (Q9 (tOr (F9 (tOp qEq (b4 3) (tOp c5j (b4 1) (tC (.int 1))))) (b0N (F9 (tOp qEq (b4 6) (tC (.int 6)))) (F9 (tOp qEq (z4 (M8 K) [] E0 (a9 (b4 0) (a9 (tC (.int 4)) g0))) (tC (.int 0)))))) (L3 (a2t g0) (v7 5)) E9) (a0o (tBM K "list" V3 (b4 2) (a9 (b4 5) g0)))))))))))) (G6 (b4 2)))
def b7j(K:Fg):Sp:=spD 2 7 (c8W K)
def b8O(K:Fg):TS:=w4 (L3 a9O (v7 1)) (w4 (a3e (a2Z (a9 (tCB a0r (a9 (b4 0) g0)) g0)) (v7 2) (a3e (a2Z (a9 (tCB a0r (a9 (b4 0) g0)) g0)) (v7 3) (Q9 (tOr (F9 (tOp qEq (tOp qIx (b4 0) (b4 3)) (a2t g0))) (tB (tCB c0V (a9 (V6 (W8 K (tOp qIx (b4 0) (b4 3))) a0Q (b5J (b4 0) (b4 2))) g0)))) (a4m (b4 1) (b4 3) (tC (.bl true))) E9))) (w4 (L3 (V6 (a2Z (a9 (tCB a0r (a9 (b4 0) g0)) g0)) a0Q (tIf (tB (b5J (b4 0) (b4 2))) (tOp qIx (b4 1) (b4 0)) (tOp a6m (a2t (a9 (tOp c5j (tCB a0r (a9 (b4 1) g0)) (tC (.int 1))) g0)) (tSl qSl (tOp qIx (b4 1) (b4 0)) (a9K (tC (.int 1))) a4R)))) (v7 0)) (w4 (L3 (b8Q ((tC (.int 0),tC (.bl true))::[])) (v7 4)) (w4 (a3e (a2Z (a9 (tCB a0r (a9 (b4 0) g0)) g0)) (v7 2) (a3e (a2Z (a9 (tCB a0r (a9 (b4 0) g0)) g0)) (v7 3) (Q9 (tB (b5J (b4 3) (b4 4))) (a3e (W8 K (tOp qIx (b4 0) (b4 3))) (v7 5) (a4m (b4 4) (b4 5) (tC (.bl true)))) E9))) (w4 (L3 (tCB a9i (a9 (tCB a4n (a9 (b4 4) g0)) g0)) (v7 6)) (G6 (V6 (W8 K (b4 6)) a0Q (V6 (W8 K (tOp qIx (b4 1) (b4 0))) a0Q (tBM K "list" b2g (b4 8) (a9 (b4 0) g0))))))))))
def a9f(K:Fg):Sp:=spD 1 7 (b8O K)
def c4N(K:Fg):TS:=w4 (Q9 (F9 (tOp qEq (z4 (M8 K) [] E0 (a9 (b4 0) (a9 (tC (.int 5)) g0))) (tC (.int 0)))) (G6 (tOp qIx (a2t (a9 (tC (.str "k0")) (a9 (tC (.str "set")) (a9 (tC (.str "ask")) (a9 (tC (.str "k1")) (a9 (tC (.str "a")) (a9 (tC (.str "copy")) g0))))))) (z4 (M8 K) [] E0 (a9 (b4 0) (a9 (tC (.int 6)) g0))))) E9) (w4 (L3 (tOp a6m (tOp c0S (z4 (M8 K) [] E0 (a9 (b4 0) (a9 (tC (.int 4)) g0))) (tC (.int 2))) (tOp b5S (b4 1) (tC (.int 2)))) (v7 2)) (w4 (L3 (tC (.str "abcdefghijklmnopqrstuvwxyz0123456789")) (v7 3)) (G6 (tOp a6m (tOp qIx (b4 3) (z4 (M8 K) [] E0 (a9 (b4 0) (a9 (tC (.int 26)) g0)))) (tBM K "str" b6z (tC (.str "")) (a9 (V6 (a2Z (a9 (b4 2) g0)) a0Q (tOp qIx (b4 4) (z4 (M8 K) [] E0 (a9 (b4 1) (a9 (tC (.int 36)) g0))))) g0))))))
def b3A(K:Fg):Sp:=spD 2 4 (c4N K)
def c1V(K:Fg):TS:=w4 (L3 a9O (v7 1)) (w4 (a3e (a2Z (a9 (tOp a6m (tC (.int 3)) (z4 (M8 K) [] E0 (a9 (b4 0) (a9 (tC (.int 3)) g0)))) g0)) (v7 2) (a4m (b4 1) (z4 (b3A K) [] E0 (a9 (b4 0) (a9 (b4 2) g0))) (tC (.bl true)))) (G6 (tCB a4n (a9 (b4 1) g0))))
def b0R(K:Fg):Sp:=spD 1 3 (c1V K)
def b6t(K:Fg):TS:=w4 (Q9 (F9 (tOp qGt (z4 (M8 K) [] E0 (a9 (b4 0) (a9 (tC (.int 4)) g0))) (tC (.int 0)))) (G6 (tOp qIx (b4 1) (z4 (M8 K) [] E0 (a9 (b4 0) (a9 (tCB a0r (a9 (b4 1) g0)) g0))))) E9) (w4 (L3 (z4 (M8 K) [] E0 (a9 (b4 0) (a9 (tC (.int 4)) g0))) (v7 2)) (w4 (Q9 (F9 (tOp qLt (b4 2) (tC (.int 2)))) (G6 (b4 2)) E9) (w4 (Q9 (F9 (tOp qEq (b4 2) (tC (.int 2)))) (G6 (tC (.int 999999999999))) E9) (G6 (z4 (M8 K) [] E0 (a9 (b4 0) (a9 (tC (.int 1000000000000)) g0)))))))
def a2u(K:Fg):Sp:=spD 2 3 (b6t K)
def c4R(K:Fg):TS:=w4 (L3 (tOp qIx (a2t (a9 (tC (.str "plus")) (a9 (tC (.str "minus")) (a9 (tC (.str "times")) (a9 (tC (.str "less")) (a9 (tC (.str "same")) g0)))))) (z4 (M8 K) [] E0 (a9 (b4 0) (a9 (tC (.int 5)) g0)))) (v7 2)) (G6 (a3c (a9 (b4 2) (a9 (z4 (a2u K) [] E0 (a9 (b4 0) (a9 (b4 1) g0))) (a9 (z4 (a2u K) [] E0 (a9 (b4 0) (a9 (b4 1) g0))) g0)))))
def b0T(K:Fg):Sp:=spD 2 3 (c4R K)
def c8V(K:Fg):TS:=w4 (L3 (z4 (M8 K) [] E0 (a9 (b4 0) (a9 (tC (.int 8)) g0))) (v7 3)) (w4 (L3 (tOp qIx (b4 1) (z4 (M8 K) [] E0 (a9 (b4 0) (a9 (tCB a0r (a9 (b4 1) g0)) g0)))) (v7 4)) (w4 (Q9 (F9 (tOp qLt (b4 3) (tC (.int 5)))) (G6 (a3c (a9 (tC (.str "set")) (a9 (b4 4) (a9 (tOp qIx (b4 2) (z4 (M8 K) [] E0 (a9 (b4 0) (a9 (tCB a0r (a9 (b4 2) g0)) g0)))) g0))))) E9) (w4 (Q9 (F9 (tOp qEq (b4 3) (tC (.int 5)))) (G6 (a3c (a9 (tC (.str "copy")) (a9 (b4 4) (a9 (z4 (a2u K) [] E0 (a9 (b4 0) (a9 (b4 1) g0))) g0))))) E9) (w4 (Q9 (F9 (tOp qEq (b4 3) (tC (.int 6)))) (G6 (a3c (a9 (tC (.str "take")) (a9 (b4 4) g0)))) E9) (G6 (tOp qIx (a2t (a9 (a3c (a9 (tC (.str "tell")) (a9 (z4 (a2u K) [] E0 (a9 (b4 0) (a9 (b4 1) g0))) g0))) (a9 (a3c (a9 (tC (.str "skip")) g0)) g0))) (z4 (M8 K) [] E0 (a9 (b4 0) (a9 (tC (.int 2)) g0)))))))))
def b7i(K:Fg):Sp:=spD 3 5 (c8V K)
def c4M(K:Fg):TS:=w4 (L3 (tOp qEq (z4 (M8 K) [] E0 (a9 (b4 0) (a9 (tC (.int 8)) g0))) (tC (.int 0))) (v7 1)) (w4 (L3 (tOp a6m (tC (.int 1)) (z4 (M8 K) [] E0 (a9 (b4 0) (a9 (tC (.int 9)) g0)))) (v7 2)) (w4 (Q9 (tB (b4 1)) (L3 (tOp a6m (tC (.int 15)) (z4 (M8 K) [] E0 (a9 (b4 0) (a9 (tC (.int 10)) g0)))) (v7 2)) E9) (w4 (L3 (z4 (a9f K) [] E0 (a9 (z4 (b7j K) [] E0 (a9 (b4 0) (a9 (b4 2) g0))) g0)) (v7 3)) (w4 (L3 (z4 (b0R K) [] E0 (a9 (b4 0) g0)) (v7 4)) (w4 (L3 (a2t g0) (v7 5)) (w4 (a3e (a2Z (a9 (tOp a6m (tC (.int 1)) (z4 (M8 K) [] E0 (a9 (b4 0) (a9 (tC (.int 3)) g0)))) g0)) (v7 6) (a0o (tBM K "list" V3 (b4 5) (a9 (z4 (b0T K) [] E0 (a9 (b4 0) (a9 (tSl qSl (b4 4) a4R (a9K (tC (.int 2)))) g0))) g0)))) (w4 (L3 (a2t g0) (v7 7)) (w4 (a3e (W8 K (b4 3)) (v7 8) (Q9 (F9 (tOp qEq (tCB a0r (a9 (b4 8) g0)) (tC (.int 2)))) (a0o (tBM K "list" V3 (b4 7) (a9 (a3c (a9 (tC (.str "ask")) (a9 (z4 (a2u K) [] E0 (a9 (b4 0) (a9 (b4 4) g0))) g0))) g0))) (a0o (tBM K "list" V3 (b4 7) (a9 (z4 (b7i K) [] E0 (a9 (b4 0) (a9 (b4 4) (a9 (b4 5) g0)))) g0))))) (G6 (a3c (a9 (b4 7) (a9 (b4 3) (a9 (b4 5) g0)))))))))))))
def b3z(K:Fg):Sp:=spD 1 9 (c4M K)
def c4P(K:Fg):TS:=w4 (Q9 (F9 (tOp qEq (z4 (M8 K) [] E0 (a9 (b4 0) (a9 (tC (.int 4)) g0))) (tC (.int 0)))) (G6 (V6 (a2Z (a9 (b4 1) g0)) a0Q (b4 0))) E9) (G6 (V6 (a2Z (a9 (z4 (M8 K) [] E0 (a9 (b4 0) (a9 (tC (.int 7)) g0))) g0)) a0Q (z4 (M8 K) [] E0 (a9 (b4 1) (a9 (b4 2) g0)))))
def b3B(K:Fg):Sp:=spD 2 2 (c4P K)
def c1U(K:Fg):TS:=w4 (L3 (a2t (a9 (a3c (a9 (tUn (rU fun i=>.int (-i)) (tC (.int 1))) (a9 (tC (.int 0)) g0))) g0)) (v7 1)) (w4 (a3e (a2Z (a9 (tCB a0r (a9 (b4 0) g0)) g0)) (v7 2) (a3e (a2Z (a9 (tCB a0r (a9 (tOp qIx (b4 0) (b4 2)) g0)) g0)) (v7 3) (a0o (tBM K "list" V3 (b4 1) (a9 (a3c (a9 (b4 2) (a9 (b4 3) g0))) g0))))) (G6 (b4 1)))
def b0Q(K:Fg):Sp:=spD 1 4 (c1U K)
def d1V(K:Fg):TS:=w4 (Q9 (F9 (tOp qLt (tOp (b9i K) (b4 1) (tC (.int 0))) (tC (.int 0)))) (G6 (tC (.int 0))) E9) (G6 (tOp qIx (tOp qIx (b4 0) (tOp (b9i K) (b4 1) (tC (.int 0)))) (tOp (b9i K) (b4 1) (tC (.int 1)))))
def c1Z(K:Fg):Sp:=spD 2 2 (d1V K)
def b4j(K:Fg):TS:=G6 (a1n (tOp qEq (tOp qIx (b4 0) (tC (.int 0))) (tC (.str "set"))) (tOp qEq (tOp qIx (b4 0) (tC (.int 2))) (b4 1)))
def a6u(K:Fg):Sp:=spD 2 2 (b4j K)
def a9G(K:Fg):TS:=G6 (tCB (b4H K) (a9 (a0n K (b4 0) "put_in") g0))
def R8(K:Fg):Sp:=spD 1 1 (a9G K)
def a9H(K:Fg):TS:=G6 (tCB a4n (a9 (a0n K (b4 0) "left_out") g0))
def S0(K:Fg):Sp:=spD 1 1 (a9H K)
def a8z(K:Fg):TS:=G6 (tCB a4n (a9 (a0n K (b4 0) "left_in") g0))
def P7(K:Fg):Sp:=spD 1 1 (a8z K)
def c1W(K:Fg)(c:Cn):TS:=w4 (Q9 (F9 (tOp qEq (z4 (M8 K) [] E0 (a9 (b4 0) (a9 (tC (.int 2)) g0))) (tC (.int 0)))) (w4 (L3 (F7 c.o4 "puts" (R8 K) [] E0 (b4 1) g0) (v7 2)) (w4 (L3 (F7 c.o4 "outs" (S0 K) [] E0 (b4 1) g0) (v7 3)) (w4 (L3 (F7 c.o4 "stays" (P7 K) [] E0 (b4 1) g0) (v7 4)) (G6 (a3c (a9 (b4 2) (a9 (b4 3) (a9 (b4 4) g0)))))))) E9) (w4 (L3 (F7 c.o4 "stays" (P7 K) [] E0 (b4 1) g0) (v7 4)) (w4 (L3 (F7 c.o4 "outs" (S0 K) [] E0 (b4 1) g0) (v7 3)) (w4 (L3 (F7 c.o4 "puts" (R8 K) [] E0 (b4 1) g0) (v7 2)) (G6 (a3c (a9 (b4 2) (a9 (b4 3) (a9 (b4 4) g0))))))))
def b0S(K:Fg)(c:Cn):Sp:=spD 2 5 (c1W K c)
def c8X(K:Fg):TS:=G6 (a1n (tCB a8m (a9 (b4 0) (a9 (tC (.ty "int")) g0))) (a9L (tCB a8m (a9 (b4 0) (a9 (tC (.ty "bool")) g0)))))
def b1T(K:Fg):Sp:=spD 1 1 (c8X K)
def b2N(K:Fg):TS:=w4 (Q9 (a3d (tB (tCB a8m (a9 (b4 0) (a9 (tC (.ty "list")) g0))))) (G6 (tC (.bl false))) E9) (w4 (a3e (W8 K (b4 0)) (v7 1) (Q9 (tOr (a3d (tB (tCB (c5m K) (a9 (b4 1) (a9 (tC (.ty "tuple")) g0))))) (tOr (F9 (tOp qNe (tCB (c5l K) (a9 (b4 1) g0)) (tC (.int 2)))) (tOr (a3d (tB (z4 (b1T K) [] E0 (a9 (tOp (b9i K) (b4 1) (tC (.int 0))) g0)))) (a3d (tB (z4 (b1T K) [] E0 (a9 (tOp (b9i K) (b4 1) (tC (.int 1))) g0))))))) (G6 (tC (.bl false))) E9)) (G6 (tC (.bl true))))
def a5A(K:Fg):Sp:=spD 1 2 (b2N K)
def b4m(K:Fg):TS:=w4 (Q9 (tOr (a3d (tB (tCB a8m (a9 (b4 0) (a9 (tC (.ty "list")) g0))))) (F9 (tOp qNe (tCB a0r (a9 (b4 0) g0)) (tCB a0r (a9 (b4 1) g0))))) (G6 (tC (.bl false))) E9) (w4 (a3e (c6h K (a9 (b4 0) (a9 (b4 1) g0))) (b3q K 2 (a2A (v7 2) (a2A (v7 3) (b3r)))) (Q9 (tOr (a3d (tB (z4 (b1T K) [] E0 (a9 (b4 2) g0)))) (F9 (tOp qNe (b4 2) (b4 3)))) (G6 (tC (.bl false))) E9)) (G6 (tC (.bl true))))
def a5k(K:Fg):Sp:=spD 2 4 (b4m K)
def b6v(K:Fg):TS:=G6 (tIf (F9 (tOp qEq (tOp qIx (b4 0) (tC (.int 0))) (tC (.str "set")))) (tOp qIx (b4 0) (tC (.int 2))) (tC .non))
def a9Q(K:Fg):Sp:=spD 1 1 (b6v K)
def c4Q(K:Fg):TS:=G6 (tOp qEq (z4 (a9Q K) [] E0 (a9 (b4 0) g0)) (b4 1))
def a4f(K:Fg):Sp:=spD 2 2 (c4Q K)
def a6r(K:Fg):TS:=G6 (a1C (b4 1) (a0n K (b4 0) "fallen"))
def M5(K:Fg):Sp:=spD 2 2 (a6r K)
def a6q(K:Fg)(c:Cn):TS:=w4 (Q9 (tB (b5I K false (b4 1) (a0n K (b4 0) "brinks"))) (G6 (tC (.bl true))) E9) (G6 (a1n (tOp (c2W K) (b4 1) (tC (.ref c.O9))) (a1n (F7 c.o4 "waits_at" (M5 K) [] E0 (b4 0) (a9 (tOp qIx (b4 1) (tC (.int 0))) g0)) (a9L (z4 (a4f K) [] E0 (a9 (tOp qIx (a0n K (a0n K (b4 0) "plan") "rows") (tOp qIx (b4 1) (tC (.int 0)))) (a9 (a0n K (b4 0) "deed") g0)))))))
def a0W(K:Fg)(c:Cn):Sp:=spD 2 2 (a6q K c)
def c4K(K:Fg)(c:Cn):TS:=w4 (L3 (a2t g0) (v7 5)) (w4 (a3e (W8 K (z4 (b0Q K) [] E0 (a9 (b4 3) g0))) (v7 6) (Q9 (b0N (tB (F7 c.o4 "waits_on" (a0W K c) [] E0 (b4 1) (a9 (b4 6) g0))) (a3d (tB (F7 c.o4 "waits_at" (M5 K) [] E0 (b4 1) (a9 (z4 (c1Z K) [] E0 (a9 (b4 3) (a9 (b4 6) g0))) g0))))) (a0o (tBM K "list" V3 (b4 5) (a9 (b4 6) g0))) E9)) (w4 (fun D σ H=>(V6 (a2Z (a9 (tCB a0r (a9 (b4 2) g0)) g0)) (tB (z4 (a6u K) [] E0 (a9 (tOp qIx (b4 3) (b4 0)) (a9 (b4 5) g0)))) (b4 0)) σ H fun v H1=>D.nx (σ.set 7 (some v)) H1) (w4 (fun D σ H=>(V6 (W8 K (b4 7)) (a3d (tB (F7 c.o4 "waits_at" (M5 K) [] E0 (b4 2) (a9 (b4 0) g0)))) (b4 0)) σ H fun v H1=>D.nx (σ.set 8 (some v)) H1) (w4 (fun D σ H=>(V6 (W8 K (b4 7)) (tB (F7 c.o4 "waits_at" (M5 K) [] E0 (b4 2) (a9 (b4 0) g0))) (b4 0)) σ H fun v H1=>D.nx (σ.set 9 (some v)) H1) (w4 (L3 (a2t g0) (v7 10)) (w4 (a3e (a2Z (a9 (tC (.int 2)) g0)) (v7 11) (w4 (L3 (z4 (b0S K c) [] E0 (a9 (b4 0) (a9 (b4 1) g0))) (v7 12)) (w4 (Q9 (tOr (a3d (tB (z4 (a5A K) [] E0 (a9 (tOp qIx (b4 12) (tC (.int 0))) g0)))) (F9 (tOp (c9T K) (tOp qIx (b4 12) (tC (.int 0))) (b4 5)))) (G6 (tC (.bl false))) E9) (w4 (Q9 (tOr (a3d (tB (z4 (a5k K) [] E0 (a9 (tOp qIx (b4 12) (tC (.int 1))) (a9 (b4 8) g0))))) (a3d (tB (z4 (a5k K) [] E0 (a9 (tOp qIx (b4 12) (tC (.int 2))) (a9 (b4 9) g0)))))) (G6 (tC (.bl false))) E9) (w4 (a3e (c8t K (b4 12)) (v7 13) (a0o (tBM K "list" V3 (b4 13) (a9 (a3c (a9 (tC (.int 0)) (a9 (tC (.int 0)) g0))) g0)))) (a0o (tBM K "list" V3 (b4 10) (a9 (b4 12) g0)))))))) (G6 (tOp (c2Y K) (tOp qIx (b4 10) (tC (.int 0))) (a3c (a9 (tOp a6m (b4 5) (a2t (a9 (a3c (a9 (tC (.int 0)) (a9 (tC (.int 0)) g0))) g0))) (a9 (tOp a6m (b4 8) (a2t (a9 (a3c (a9 (tC (.int 0)) (a9 (tC (.int 0)) g0))) g0))) (a9 (tOp a6m (b4 9) (a2t (a9 (a3c (a9 (tC (.int 0)) (a9 (tC (.int 0)) g0))) g0))) g0))))))))))))
def a9e(K:Fg)(c:Cn):Sp:=spD 5 14 (c4K K c)
def a8h(K:Fg):TS:=G6 (c0y (a0n K (b4 0) "left_in") (tB (b5J (b4 0) (a0n K (b4 1) "living"))) (b4 0))
def U0(K:Fg):Sp:=spD 1 1 (a8h K)
def b1Q(K:Fg):TS:=w4 (Q9 (tOr (a3d (tB (tCB a8m (a9 (b4 0) (a9 (tC (.ty "str")) g0))))) (a3d (F9 (a8C qLe qLe (tC (.int 1)) (tCB a0r (a9 (b4 0) g0)) (tC (.int 8)))))) (G6 (tC (.bl false))) E9) (G6 (a1n (tOp (qIn false) (tOp qIx (b4 0) (tC (.int 0))) (tC (.str "abcdefghijklmnopqrstuvwxyz"))) (tCB b5T (a9 (V6 (c8u (b4 0)) a0Q (tOp (qIn false) (b4 0) (tOp a6m (tC (.str "abcdefghijklmnopqrstuvwxyz")) (tC (.str "0123456789"))))) g0))))
def a1P(K:Fg):Sp:=spD 1 1 (b1Q K)
def c0w(K:Fg):TS:=G6 (a1n (tCB a8m (a9 (b4 0) (a9 (tC (.ty "int")) g0))) (a9L (tCB a8m (a9 (b4 0) (a9 (tC (.ty "bool")) g0)))))
def a5i(K:Fg):Sp:=spD 1 1 (c0w K)
def b4k(K:Fg):TS:=G6 (a1n (z4 (a5i K) [] E0 (a9 (b4 0) g0)) (a8C qLe qLt (tC (.int 0)) (b4 0) (tC (.int 1000000000000))))
def a6v(K:Fg):Sp:=spD 1 1 (b4k K)
def b0I(K:Fg):TS:=G6 (b7d (z4 (a1P K) [] E0 (a9 (b4 0) g0)) (z4 (a6v K) [] E0 (a9 (b4 0) g0)))
def a1s(K:Fg):Sp:=spD 1 1 (b0I K)
def b6u(K:Fg)(c:Cn):TS:=w4 (Q9 (tOr (a3d (tB (tCB a8m (a9 (b4 0) (a9 (tC (.ty "tuple")) g0))))) (F9 (tOp qNe (tCB a0r (a9 (b4 0) g0)) (tC (.int 3))))) (G6 (tC (.bl false))) E9) (G6 (a1n (tOp (c9U K) (tOp qIx (b4 0) (tC (.int 0))) (tC (.ref c.a8c))) (a1n (z4 (a1s K) [] E0 (a9 (tOp qIx (b4 0) (tC (.int 1))) g0)) (z4 (a1s K) [] E0 (a9 (tOp qIx (b4 0) (tC (.int 2))) g0)))))
def a5V(K:Fg)(c:Cn):Sp:=spD 1 1 (b6u K c)
def a5Q(K:Fg):TS:=w4 (Q9 (tOr (a3d (tB (tCB a8m (a9 (b4 0) (a9 (tC (.ty "list")) g0))))) (F9 (tOp qLt (tCB a0r (a9 (b4 0) g0)) (b4 2)))) (fun _ _ _=>False) E9) (Q9 (F9 (tOp qGt (tCB a0r (a9 (b4 0) g0)) (tC (.int 400)))) (fun _ _ _=>False) E9)
def a1j(K:Fg):Sp:=spD 3 3 (a5Q K)
def b4l(K:Fg):TS:=G6 (a1n (z4 (a5i K) [] E0 (a9 (b4 0) g0)) (a8C qLe qLt (tC (.int 0)) (b4 0) (b4 1)))
def a5j(K:Fg):Sp:=spD 2 2 (b4l K)
def b0K(K:Fg):TS:=a3e (a8j K (a9 (b4 0) g0)) (b3q K 2 (a2A (v7 1) (a2A (v7 2) (b3r)))) (Q9 (a3d (tB (b4 2))) (fun _ _ _=>False) E9)
def a2b(K:Fg):Sp:=spD 1 3 (b0K K)
def a7C(K:Fg):TS:=Q9 (F9 (tOp c0T (b4 1) (tC .non))) (w4 (a0o (z4 (a1j K) [] E0 (a9 (b4 1) (a9 (b4 2) (a9 (tC (.int 0)) g0))))) (a0o (z4 (a2b K) [] E0 (a9 (V6 (W8 K (b4 1)) a0Q (z4 (a5j K) [] E0 (a9 (b4 0) (a9 (tCB a0r (a9 (a0n K (b4 1) "rows") g0)) g0)))) g0)))) E9
def a3l(K:Fg):Sp:=spD 3 3 (a7C K)
def b4i(K:Fg):TS:=G6 (tCB (c0U K) (a9 (V6 (W8 K (b4 0)) a0Q (a3c (a9 (b4 0) (a9 (tC (.bl true)) g0)))) g0))
def a2M(K:Fg):Sp:=spD 1 1 (b4i K)
def b4h(K:Fg)(c:Cn):TS:=w4 (L3 (a2t (a9 (tC (.ref c.O9)) g0)) (v7 1)) (w4 (a3e (a8j K (a9 (b4 0) g0)) (b3q K 2 (a2A (v7 2) (a2A (v7 3) (b3r)))) (a0o (tBM K "list" a7N (b4 1) (a9 (V6 (a2Z (a9 (tCB a0r (a9 (b4 3) g0)) g0)) a0Q (a3c (a9 (b4 3) (a9 (b4 0) g0)))) g0)))) (G6 (b4 1)))
def a5h(K:Fg)(c:Cn):Sp:=spD 1 4 (b4h K c)
def b0M(K:Fg)(c:Cn):TS:=G6 (z4 (a5h K c) [] E0 (a9 (a0n K (b4 0) "nexts") g0))
def a2c(K:Fg)(c:Cn):Sp:=spD 1 1 (b0M K c)
def a8g(K:Fg)(c:Cn):TS:=w4 (Q9 (F9 (tOp (c2Z K) (b4 1) (tC (.ref c.O9)))) (G6 (tC (.int 0))) E9) (G6 (tOp qIx (tOp qIx (a0n K (b4 0) "nexts") (tOp qIx (b4 1) (tC (.int 0)))) (tOp qIx (b4 1) (tC (.int 1)))))
def W3(K:Fg)(c:Cn):Sp:=spD 2 2 (a8g K c)
def a5P(K:Fg)(c:Cn):TS:=w4 (L3 (z4 (a2M K) [] E0 (a9 (b4 3) g0)) (v7 4)) (w4 (a3e (W8 K (F7 c.P0 "steps" (a2c K c) [] E0 (b4 0) g0)) (v7 5) (Q9 (b0N (tB (b5I K true (b4 5) (b4 2))) (tOr (F9 (tOp (c2Z K) (b4 5) (tC (.ref c.O9)))) (tB (z4 (a4f K) [] E0 (a9 (tOp qIx (a0n K (b4 0) "rows") (tOp qIx (b4 5) (tC (.int 0)))) (a9 (b4 1) g0)))))) (a4m (b4 4) (F7 c.P0 "leads_to" (W3 K c) [] E0 (b4 0) (a9 (b4 5) g0)) (tC (.bl true))) E9)) (w4 (L3 (tCB a4n (a9 (b4 4) g0)) (v7 6)) (w4 (L3 (tC (.int 0)) (v7 7)) (w4 (a8B (F9 (tOp qLt (b4 7) (tCB a0r (a9 (b4 6) g0)))) (w4 (L3 (tOp qIx (b4 6) (b4 7)) (v7 8)) (w4 (c0z 7 (tC (.int 1)) (ipI fun i j=>i+j)) (a3e (a8j K (a9 (tOp qIx (a0n K (b4 0) "nexts") (b4 8)) g0)) (b3q K 2 (a2A (v7 9) (a2A (v7 10) (b3r)))) (Q9 (b0N (tB (b5I K true (a3c (a9 (b4 8) (a9 (b4 9) g0))) (b4 2))) (tB (a1C (b4 10) (b4 4)))) (w4 (a4m (b4 4) (b4 10) (tC (.bl true))) (a0o (tBM K "list" V3 (b4 6) (a9 (b4 10) g0)))) E9))))) (G6 (b4 4))))))
def a1D(K:Fg)(c:Cn):Sp:=spD 4 11 (a5P K c)
def a6p(K:Fg):TS:=G6 (tCB a6B (a9 (tOp qIx (a0n K (b4 0) "entries") (b4 1)) g0))
def a0V(K:Fg):Sp:=spD 2 2 (a6p K)
def a4E(K:Fg)(c:Cn):TS:=w4 (L3 a9O (v7 4)) (w4 (L3 (tCB a4n (a9 (b4 2) g0)) (v7 5)) (w4 (L3 (tC (.int 0)) (v7 6)) (w4 (a8B (F9 (tOp qLt (b4 6) (tCB a0r (a9 (b4 5) g0)))) (w4 (L3 (tOp qIx (b4 5) (b4 6)) (v7 7)) (w4 (c0z 6 (tC (.int 1)) (ipI fun i j=>i+j)) (a3e (W8 K (F7 c.P0 "steps_into" (a0V K) [] E0 (b4 0) (a9 (b4 7) g0))) (v7 8) (w4 (L3 (tOp (b9i K) (b4 8) (tC (.int 0))) (v7 9)) (Q9 (b0N (F9 (tOp (c2W K) (b4 8) (tC (.ref c.O9)))) (b0N (tB (b5I K true (b4 8) (b4 1))) (tB (a1C (b4 9) (b4 4))))) (w4 (a4m (b4 4) (b4 9) (tC (.bl true))) (Q9 (tB (a1C (b4 9) (b4 3))) (a0o (tBM K "list" V3 (b4 5) (a9 (b4 9) g0))) E9)) E9)))))) (G6 (b4 4)))))
def a0K(K:Fg)(c:Cn):Sp:=spD 4 10 (a4E K c)
def a8A(K:Fg):TS:=G6 (tCB (b4H K) (a9 (a0n K (b4 0) "found") g0))
def a3r(K:Fg):Sp:=spD 1 1 (a8A K)
def a8i(K:Fg)(c:Cn):TS:=G6 (a1n (F7 c.o4 "waits_on" (a0W K c) [] E0 (b4 0) (a9 (b4 1) g0)) (a9L (F7 c.o4 "waits_at" (M5 K) [] E0 (b4 0) (a9 (F7 c.P0 "leads_to" (W3 K c) [] E0 (a0n K (b4 0) "plan") (a9 (b4 1) g0)) g0))))
def a2N(K:Fg)(c:Cn):Sp:=spD 2 2 (a8i K c)
def a5S(K:Fg):TS:=G6 (a1C (b4 1) (a0n K (b4 0) "goes_by"))
def a0F(K:Fg):Sp:=spD 2 2 (a5S K)
def a5R(K:Fg)(c:Cn):TS:=G6 (F7 c.V2 "wanted_at" (a0F K) [] E0 (b4 0) (a9 (F7 c.P0 "leads_to" (W3 K c) [] E0 (a0n K (b4 0) "plan") (a9 (b4 1) g0)) g0))
def a1E(K:Fg)(c:Cn):Sp:=spD 2 2 (a5R K c)
def b8N(K:Fg):TS:=G6 (tIf (F9 (tOp (qIn false) (tOp qIx (b4 0) (tC (.int 0))) (a3c (a9 (tC (.str "set")) (a9 (tC (.str "copy")) (a9 (tC (.str "take")) g0)))))) (tOp qIx (b4 0) (tC (.int 1))) (tC .non))
def b1S(K:Fg):Sp:=spD 1 1 (b8N K)
def b8M(K:Fg):TS:=G6 (tOp (qIn false) (z4 (b1S K) [] E0 (a9 (b4 0) g0)) (tSl qSl (b4 1) (a9K (tC (.int 1))) a4R))
def a4I(K:Fg):Sp:=spD 2 2 (b8M K)
def a7l(K:Fg):TS:=G6 (a1C (b4 1) (a0n K (b4 0) "come_by"))
def a2j(K:Fg):Sp:=spD 2 2 (a7l K)
def a5f(K:Fg)(c:Cn):TS:=w4 (L3 (tOp qIx (a0n K (a0n K (b4 0) "plan") "rows") (b4 1)) (v7 2)) (w4 (Q9 (tB (z4 (a4I K) [] E0 (a9 (b4 2) (a9 (a0n K (b4 0) "deed") g0)))) (G6 (tC (.bl false))) E9) (G6 (b7d (z4 (a4f K) [] E0 (a9 (b4 2) (a9 (a0n K (b4 0) "deed") g0))) (F7 c.a0B "ready_at" (a2j K) [] E0 (b4 0) (a9 (b4 1) g0)))))
def a1d(K:Fg)(c:Cn):Sp:=spD 2 3 (a5f K c)
def a7k(K:Fg)(c:Cn):TS:=G6 (a1n (tOp (c2W K) (b4 1) (tC (.ref c.O9))) (F7 c.a0B "ready_behind" (a1d K c) [] E0 (b4 0) (a9 (tOp qIx (b4 1) (tC (.int 0))) g0)))
def a2i(K:Fg)(c:Cn):Sp:=spD 2 2 (a7k K c)
def a3k(K:Fg):TS:=G6 (z4 (a4I K) [] E0 (a9 (tOp qIx (a0n K (a0n K (b4 0) "plan") "rows") (tOp qIx (b4 1) (tC (.int 0)))) (a9 (a0n K (b4 0) "deed") g0)))
def U4(K:Fg):Sp:=spD 2 2 (a3k K)
def a4d(K:Fg)(c:Cn):TS:=w4 (L3 (tOp qIx (a0n K (a0n K (b4 0) "plan") "nexts") (b4 1)) (v7 2)) (G6 (a1n (tOp qGt (tCB a0r (a9 (b4 2) g0)) (tC (.int 0))) (tCB b5T (a9 (V6 (W8 K (b4 2)) a0Q (F7 c.V2 "wanted_at" (a0F K) [] E0 (b4 1) (a9 (b4 0) g0))) g0))))
def W1(K:Fg)(c:Cn):Sp:=spD 2 3 (a4d K c)
def a6s(K:Fg)(c:Cn):TS:=w4 (Q9 (tOr (a3d (tB (F7 c.V2 "wanted_on" (a1E K c) [] E0 (a0n K (b4 0) "wanted") (a9 (b4 1) g0)))) (tB (F7 c.a0B "ready_on" (a2i K c) [] E0 (a0n K (b4 0) "ready") (a9 (b4 1) g0)))) (G6 (tC (.bl false))) E9) (G6 (b7d (tOp (c2Z K) (b4 1) (tC (.ref c.O9))) (b7d (F7 c.F5 "is_spoilt_ahead" (U4 K) [] E0 (b4 0) (a9 (b4 1) g0)) (a9L (F7 c.V2 "wanted_behind" (W1 K c) [] E0 (a0n K (b4 0) "wanted") (a9 (tOp qIx (b4 1) (tC (.int 0))) g0))))))
def a1Q(K:Fg)(c:Cn):Sp:=spD 2 2 (a6s K c)
def b6s(K:Fg):TS:=a3e (a8j K (a9 (tOp qIx (a0n K (b4 0) "nexts") (b4 1)) g0)) (b3q K 2 (a2A (v7 4) (a2A (v7 5) (b3r)))) (Q9 (tB (a1C (b4 5) (b4 2))) (w4 (a4m (b4 2) (b4 5) (a3c (a9 (b4 1) (a9 (b4 4) g0)))) (a0o (tBM K "list" V3 (b4 3) (a9 (b4 5) g0)))) E9)
def a5U(K:Fg):Sp:=spD 4 6 (b6s K)
def a8f(K:Fg)(c:Cn):TS:=w4 (L3 (b8Q ((tC (.int 0),tC (.ref c.O9))::[])) (v7 3)) (w4 (L3 (a2t (a9 (tC (.int 0)) g0)) (v7 4)) (w4 (a3e (a2Z (a9 (tCB a0r (a9 (a0n K (b4 0) "rows") g0)) g0)) (v7 5) (Q9 (tB (tOp qIx (b4 2) (b4 5))) (a0o (z4 (a5U K) [] E0 (a9 (b4 0) (a9 (b4 5) (a9 (b4 3) (a9 (b4 4) g0)))))) E9)) (w4 (L3 (tC (.int 0)) (v7 6)) (w4 (a8B (F9 (tOp qLt (b4 6) (tCB a0r (a9 (b4 4) g0)))) (w4 (L3 (tOp qIx (b4 4) (b4 6)) (v7 5)) (w4 (c0z 6 (tC (.int 1)) (ipI fun i j=>i+j)) (Q9 (a3d (tB (tOp qIx (b4 1) (b4 5)))) (a0o (z4 (a5U K) [] E0 (a9 (b4 0) (a9 (b4 5) (a9 (b4 3) (a9 (b4 4) g0)))))) E9)))) (G6 (b4 3))))))
def a2L(K:Fg)(c:Cn):Sp:=spD 3 7 (a8f K c)
def b0L(K:Fg)(c:Cn):TS:=w4 (a5E K (b4 0) (b4 1) "plan") (w4 (a5E K (b4 0) (b4 2) "deed") (w4 (fun D σ H=>(V6 (W8 K (a0n K (b4 1) "rows")) a0Q (z4 (a4f K) [] E0 (a9 (b4 0) (a9 (b4 3) g0)))) σ H fun v H1=>D.nx (σ.set 3 (some v)) H1) (a5E K (b4 0) (z4 (a2L K c) [] E0 (a9 (b4 1) (a9 (b4 3) (a9 (V6 (W8 K (a0n K (b4 1) "rows")) a0Q (z4 (a4I K) [] E0 (a9 (b4 0) (a9 (b4 3) g0)))) g0)))) "come_by")))
def a3m(K:Fg)(c:Cn):Sp:=spD 3 4 (b0L K c)
def a8e(K:Fg):TS:=w4 (L3 (a2t g0) (v7 2)) (w4 (a3e (a8j K (a9 (a0n K (b4 0) "rows") g0)) (b3q K 2 (a2A (v7 3) (a2A (v7 4) (b3r)))) (Q9 (b0N (a3d (tB (z4 (a4f K) [] E0 (a9 (b4 4) (a9 (b4 1) g0))))) (tOr (tB (z4 (a4I K) [] E0 (a9 (b4 4) (a9 (b4 1) g0)))) (F9 (tOp qEq (tCB a0r (a9 (tOp qIx (a0n K (b4 0) "nexts") (b4 3)) g0)) (tC (.int 0)))))) (a0o (tBM K "list" V3 (b4 2) (a9 (b4 3) g0))) E9)) (G6 (b4 2)))
def a2K(K:Fg):Sp:=spD 2 5 (a8e K)
def a7j(K:Fg)(c:Cn):TS:=w4 (L3 (z4 (a2K K) [] E0 (a9 (b4 0) (a9 (b4 1) g0))) (v7 2)) (w4 (L3 (tCB b7C (a9 (V6 (W8 K (b4 2)) a0Q (a3c (a9 (b4 0) (a9 (tC .non) g0)))) g0)) (v7 3)) (w4 (L3 (tC (.int 0)) (v7 4)) (w4 (a8B (F9 (tOp qLt (b4 4) (tCB a0r (a9 (b4 2) g0)))) (w4 (L3 (tOp qIx (b4 2) (b4 4)) (v7 5)) (w4 (c0z 4 (tC (.int 1)) (ipI fun i j=>i+j)) (a3e (W8 K (F7 c.P0 "steps_into" (a0V K) [] E0 (b4 0) (a9 (b4 5) g0))) (v7 6) (Q9 (b0N (F9 (tOp (c2W K) (b4 6) (tC (.ref c.O9)))) (b0N (tB (a1C (tOp qIx (b4 6) (tC (.int 0))) (b4 3))) (a3d (tB (z4 (a4f K) [] E0 (a9 (tOp qIx (a0n K (b4 0) "rows") (tOp qIx (b4 6) (tC (.int 0)))) (a9 (b4 1) g0))))))) (w4 (a4m (b4 3) (tOp qIx (b4 6) (tC (.int 0))) (b4 6)) (a0o (tBM K "list" V3 (b4 2) (a9 (tOp qIx (b4 6) (tC (.int 0))) g0)))) E9))))) (G6 (b4 3)))))
def a2h(K:Fg)(c:Cn):Sp:=spD 2 7 (a7j K c)
def a9F(K:Fg)(c:Cn):TS:=w4 (a5E K (b4 0) (b4 1) "plan") (a5E K (b4 0) (z4 (a2h K c) [] E0 (a9 (b4 1) (a9 (b4 2) g0))) "goes_by")
def a2v(K:Fg)(c:Cn):Sp:=spD 3 3 (a9F K c)
def a9J(K:Fg)(c:Cn):TS:=w4 (a5E K (b4 0) (b4 1) "plan") (w4 (a5E K (b4 0) (b4 2) "deed") (w4 (a5E K (b4 0) (a3Q c.a0B (a3m K c) [] E0 (a9 (b4 1) (a9 (b4 2) g0))) "ready") (w4 (a5E K (b4 0) (a3Q c.V2 (a2v K c) [] E0 (a9 (b4 1) (a9 (b4 2) g0))) "wanted") (a5E K (b4 0) (tCB (b7B K) (a9 (V6 (W8 K (F7 c.P0 "steps" (a2c K c) [] E0 (b4 1) g0)) (tB (F7 c.F5 "is_brink" (a1Q K c) [] E0 (b4 1) (a9 (b4 0) g0))) (a3c (a9 (b4 0) (a9 (tC (.bl true)) g0)))) g0)) "found"))))
def a2w(K:Fg)(c:Cn):Sp:=spD 3 3 (a9J K c)
def a9I(K:Fg)(c:Cn):TS:=w4 (Q9 (a3d (tB (tCB (c5n K) (a9 (b4 1) (a9 (tC (.ref c.P0)) g0))))) (fun _ _ _=>False) E9) (w4 (Q9 (a3d (tB (z4 (a5V K c) [] E0 (a9 (b4 2) g0)))) (fun _ _ _=>False) E9) (w4 (a0o (z4 (a3l K) [] E0 (a9 (b4 1) (a9 (b4 3) (a9 (tC (.int 2)) g0))))) (w4 (a5E K (b4 0) (b4 1) "plan") (w4 (a5E K (b4 0) (b4 2) "deed") (w4 (a5E K (b4 0) (z4 (a2M K) [] E0 (a9 (F7 c.F5 "steps" (a3r K) [] E0 (a3Q c.F5 (a2w K c) [] E0 (a9 (b4 1) (a9 (b4 2) g0))) g0) g0)) "brinks") (w4 (a5E K (b4 0) (z4 (a1D K c) [] E0 (a9 (b4 1) (a9 (b4 2) (a9 (a0n K (b4 0) "brinks") (a9 (tIf (F9 (tOp qIs (b4 3) (tC .non))) (a2t g0) (b4 3)) g0))))) "fallen") (w4 (fun D σ H=>(a7D K (a8j K (a9 (a0n K (b4 1) "rows") g0)) (tB (z4 (a4f K) [] E0 (a9 (b4 1) (a9 (b4 4) g0)))) (b4 0)) σ H fun v H1=>D.nx (σ.set 4 (some v)) H1) (w4 (a5E K (b4 0) (z4 (a2M K) [] E0 (a9 (V6 (W8 K (F7 c.P0 "steps" (a2c K c) [] E0 (b4 1) g0)) (tB (F7 c.o4 "is_put" (a2N K c) [] E0 (b4 1) (a9 (b4 0) g0))) (b4 0)) g0)) "put_in") (w4 (a5E K (b4 0) (z4 (a2M K) [] E0 (a9 (V6 (W8 K (b4 4)) (a3d (tB (F7 c.o4 "waits_at" (M5 K) [] E0 (b4 1) (a9 (b4 0) g0)))) (b4 0)) g0)) "left_out") (w4 (a5E K (b4 0) (z4 (a2M K) [] E0 (a9 (V6 (W8 K (b4 4)) (tB (F7 c.o4 "waits_at" (M5 K) [] E0 (b4 1) (a9 (b4 0) g0))) (b4 0)) g0)) "left_in") (a5E K (b4 0) (z4 (a0K K c) [] E0 (a9 (b4 1) (a9 (a0n K (b4 0) "put_in") (a9 (a0n K (b4 0) "left_out") (a9 (a0n K (b4 0) "left_in") g0))))) "living")))))))))))
def Y0(K:Fg)(c:Cn):Sp:=spD 4 5 (a9I K c)
def c1X(K:Fg)(c:Cn):TS:=w4 (L3 (a3Q c.o4 (Y0 K c) [] E0 (a9 (b4 1) (a9 (b4 2) (a9 (tCB a6B (a9 (b4 3) g0)) g0)))) (v7 5)) (w4 (L3 (z4 (M8 K) [] E0 (a9 (b4 0) (a9 (tC (.int 4)) g0))) (v7 6)) (w4 (Q9 (F9 (tOp qEq (b4 6) (tC (.int 0)))) (G6 (a1n (tOp qEq (F7 c.o4 "outs" (S0 K) [] E0 (b4 5) g0) (F7 c.o4 "outs" (S0 K) [] E0 (b4 4) g0)) (tOp qEq (F7 c.o4 "stays" (P7 K) [] E0 (b4 5) g0) (F7 c.o4 "stays" (P7 K) [] E0 (b4 4) g0)))) E9) (w4 (Q9 (F9 (tOp qEq (b4 6) (tC (.int 1)))) (G6 (a1n (tOp qEq (F7 c.o4 "stays" (P7 K) [] E0 (b4 5) g0) (F7 c.o4 "stays" (P7 K) [] E0 (b4 4) g0)) (tOp (c2Y K) (F7 c.o4 "puts" (R8 K) [] E0 (b4 5) g0) (F7 c.o4 "puts" (R8 K) [] E0 (b4 4) g0)))) E9) (w4 (Q9 (F9 (tOp qEq (b4 6) (tC (.int 2)))) (G6 (a1n (tOp qEq (F7 c.o4 "stores" (U0 K) [] E0 (b4 5) g0) (F7 c.o4 "stores" (U0 K) [] E0 (b4 4) g0)) (tOp qEq (F7 c.o4 "outs" (S0 K) [] E0 (b4 5) g0) (F7 c.o4 "outs" (S0 K) [] E0 (b4 4) g0)))) E9) (G6 (a1n (tOp (c2Y K) (F7 c.o4 "puts" (R8 K) [] E0 (b4 5) g0) (F7 c.o4 "puts" (R8 K) [] E0 (b4 4) g0)) (tOp qEq (F7 c.o4 "stores" (U0 K) [] E0 (b4 5) g0) (F7 c.o4 "stores" (U0 K) [] E0 (b4 4) g0))))))))
def a8E(K:Fg)(c:Cn):Sp:=spD 5 7 (c1X K c)
def b8P(K:Fg)(c:Cn):TS:=w4 (Q9 (tOr (a3d (tB (tCB a8m (a9 (b4 0) (a9 (tC (.ty "tuple")) g0))))) (F9 (tOp qEq (tCB a0r (a9 (b4 0) g0)) (tC (.int 0))))) (G6 (tC (.bl false))) E9) (w4 (L3 (tOp qIx (b4 0) (tC (.int 0))) (v7 1)) (w4 (L3 (tSl qSl (b4 0) (a9K (tC (.int 1))) a4R) (v7 2)) (w4 (Q9 (F9 (tOp qEq (b4 1) (tC (.str "set")))) (G6 (a1n (tOp qEq (tCB a0r (a9 (b4 2) g0)) (tC (.int 2))) (a1n (z4 (a1P K) [] E0 (a9 (tOp qIx (b4 2) (tC (.int 0))) g0)) (z4 (a5V K c) [] E0 (a9 (tOp qIx (b4 2) (tC (.int 1))) g0))))) E9) (w4 (Q9 (F9 (tOp qEq (b4 1) (tC (.str "copy")))) (G6 (a1n (tOp qEq (tCB a0r (a9 (b4 2) g0)) (tC (.int 2))) (a1n (z4 (a1P K) [] E0 (a9 (tOp qIx (b4 2) (tC (.int 0))) g0)) (z4 (a1s K) [] E0 (a9 (tOp qIx (b4 2) (tC (.int 1))) g0))))) E9) (w4 (Q9 (F9 (tOp qEq (b4 1) (tC (.str "take")))) (G6 (a1n (tOp qEq (tCB a0r (a9 (b4 2) g0)) (tC (.int 1))) (z4 (a1P K) [] E0 (a9 (tOp qIx (b4 2) (tC (.int 0))) g0)))) E9) (w4 (Q9 (F9 (tOp (qIn false) (b4 1) (a3c (a9 (tC (.str "tell")) (a9 (tC (.str "ask")) g0))))) (G6 (a1n (tOp qEq (tCB a0r (a9 (b4 2) g0)) (tC (.int 1))) (z4 (a1s K) [] E0 (a9 (tOp qIx (b4 2) (tC (.int 0))) g0)))) E9) (G6 (a1n (tOp qEq (b4 1) (tC (.str "skip"))) (tOp qEq (tCB a0r (a9 (b4 2) g0)) (tC (.int 0)))))))))))
def a9g(K:Fg)(c:Cn):Sp:=spD 1 3 (b8P K c)
def b2O(K:Fg):TS:=w4 (Q9 (a3d (tB (tCB a8m (a9 (b4 1) (a9 (tC (.ty "list")) g0))))) (G6 (tC (.bl false))) E9) (w4 (L3 (tIf (F9 (tOp qEq (tOp qIx (b4 0) (tC (.int 0))) (tC (.str "ask")))) (a3c (a9 (tC (.int 2)) g0)) (a3c (a9 (tC (.int 0)) (a9 (tC (.int 1)) g0)))) (v7 3)) (G6 (a1n (tOp (qIn false) (tCB a0r (a9 (b4 1) g0)) (b4 3)) (tCB b5T (a9 (V6 (W8 K (b4 1)) a0Q (z4 (a5j K) [] E0 (a9 (b4 0) (a9 (b4 3) g0)))) g0)))))
def a5B(K:Fg):Sp:=spD 3 4 (b2O K)
def a9E(K:Fg):TS:=w4 (Q9 (tOr (a3d (tB (tCB a8m (a9 (b4 1) (a9 (tC (.ty "list")) g0))))) (F9 (tOp qNe (tCB a0r (a9 (b4 1) g0)) (tCB a0r (a9 (b4 0) g0))))) (fun _ _ _=>False) E9) (a0o (z4 (a2b K) [] E0 (a9 (a7D K (c6h K (a9 (b4 0) (a9 (b4 1) g0))) a0Q (z4 (a5B K) [] E0 (a9 (b4 0) (a9 (b4 1) (a9 (tCB a0r (a9 (b4 2) g0)) g0))))) g0)))
def a4g(K:Fg):Sp:=spD 2 2 (a9E K)
def b6r(K:Fg):TS:=w4 (L3 a9O (v7 2)) (w4 (L3 (tCB a6B (a9 (b4 0) g0)) (v7 3)) (w4 (a8B (F9 (tOp qGt (tCB a0r (a9 (b4 3) g0)) (tC (.int 0)))) (w4 (L3 (c6W K "list" c2V (b4 3)) (v7 4)) (Q9 (tB (a1C (b4 4) (b4 2))) (w4 (a4m (b4 2) (b4 4) (tC (.bl true))) (a0o (tBM K "list" a7N (b4 3) (a9 (tOp qIx (b4 1) (b4 4)) g0)))) E9))) (G6 (b4 2))))
def a5T(K:Fg):Sp:=spD 2 5 (b6r K)
def b8L(K:Fg):TS:=w4 (fun D σ H=>(V6 (W8 K (b4 0)) a0Q (a2t g0)) σ H fun v H1=>D.nx (σ.set 1 (some v)) H1) (w4 (a3e (a8j K (a9 (b4 0) g0)) (b3q K 2 (a2A (v7 2) (a2A (v7 3) (b3r)))) (a3e (W8 K (b4 3)) (v7 4) (a0o (tBM K "list" V3 (tOp qIx (b4 1) (b4 4)) (a9 (b4 2) g0))))) (G6 (b4 1)))
def a9d(K:Fg):Sp:=spD 1 5 (b8L K)
def b4g(K:Fg):TS:=G6 (a7D K (a8j K (a9 (b4 0) g0)) (F9 (tOp qEq (tCB a0r (a9 (b4 1) g0)) (tC (.int 0)))) (b4 0))
def a6t(K:Fg):Sp:=spD 1 1 (b4g K)
def b0J(K:Fg):TS:=w4 (L3 (z4 (a5T K) [] E0 (a9 (a2t (a9 (tC (.int 0)) g0)) (a9 (b4 0) g0))) (v7 1)) (w4 (L3 (z4 (a5T K) [] E0 (a9 (z4 (a6t K) [] E0 (a9 (b4 0) g0)) (a9 (z4 (a9d K) [] E0 (a9 (b4 0) g0)) g0))) (v7 2)) (a3e (a2Z (a9 (tCB a0r (a9 (b4 0) g0)) g0)) (v7 3) (Q9 (tOr (tB (a1C (b4 3) (b4 1))) (tB (a1C (b4 3) (b4 2)))) (fun _ _ _=>False) E9)))
def a4S(K:Fg):Sp:=spD 1 4 (b0J K)
def b2P(K:Fg)(c:Cn):TS:=w4 (a0o (z4 (a1j K) [] E0 (a9 (b4 1) (a9 (tC (.int 0)) (a9 (tC (.int 1)) g0))))) (w4 (a0o (z4 (a2b K) [] E0 (a9 (V6 (W8 K (b4 1)) a0Q (z4 (a9g K c) [] E0 (a9 (b4 0) g0))) g0))) (w4 (a0o (z4 (a4g K) [] E0 (a9 (b4 1) (a9 (b4 2) g0)))) (w4 (a0o (z4 (a4S K) [] E0 (a9 (b4 2) g0))) (w4 (a5E K (b4 0) (tCB a6B (a9 (b4 1) g0)) "rows") (w4 (a5E K (b4 0) (V6 (W8 K (b4 2)) a0Q (tCB a6B (a9 (b4 0) g0))) "nexts") (w4 (a5E K (b4 0) (V6 (W8 K (b4 1)) a0Q (a2t g0)) "entries") (a3e (W8 K (z4 (a5h K c) [] E0 (a9 (a0n K (b4 0) "nexts") g0))) (v7 3) (a0o (tBM K "list" V3 (tOp qIx (a0n K (b4 0) "entries") (F7 c.P0 "leads_to" (W3 K c) [] E0 (b4 0) (a9 (b4 3) g0))) (a9 (b4 3) g0))))))))))
def a5C(K:Fg)(c:Cn):Sp:=spD 3 4 (b2P K c)
def c4O(K:Fg)(c:Cn):TS:=w4 (L3 (z4 (b7k K) [] E0 (a9 (b4 0) g0)) (v7 1)) (w4 (L3 (z4 (b3z K) [] E0 (a9 (b4 1) g0)) (b3q K 3 (a2A (v7 2) (a2A (v7 3) (a2A (v7 4) (b3r)))))) (w4 (a0o (tBM K "list" V3 (b4 4) (a9 (z4 (b0T K) [] E0 (a9 (b4 1) (a9 (a2t (a9 (tC (.str "a")) (a9 (tC (.str "k0")) g0))) g0))) g0))) (w4 (L3 (tOp qIx (b4 4) (z4 (M8 K) [] E0 (a9 (b4 1) (a9 (tCB a0r (a9 (b4 4) g0)) g0)))) (v7 5)) (w4 (L3 (tOp qIx (b4 4) (z4 (M8 K) [] E0 (a9 (b4 1) (a9 (tCB a0r (a9 (b4 4) g0)) g0)))) (v7 6)) (w4 (L3 (a3Q c.P0 (a5C K c) [] E0 (a9 (tCB a6B (a9 (b4 2) g0)) (a9 (V6 (W8 K (b4 3)) a0Q (tCB a6B (a9 (b4 0) g0))) g0))) (v7 7)) (w4 (L3 (z4 (b3B K) [] E0 (a9 (b4 1) (a9 (tCB a0r (a9 (b4 2) g0)) g0))) (v7 8)) (w4 (L3 (a3Q c.o4 (Y0 K c) [] E0 (a9 (b4 7) (a9 (b4 5) (a9 (tCB a6B (a9 (b4 8) g0)) g0)))) (v7 9)) (w4 (L3 (a3Q c.o4 (Y0 K c) [.non] E0 (a9 (b4 7) (a9 (b4 6) g0))) (v7 10)) (w4 (Q9 (tOr (a3d (tB (z4 (a9e K c) [] E0 (a9 (b4 1) (a9 (b4 9) (a9 (b4 2) (a9 (b4 3) (a9 (b4 5) g0)))))))) (a3d (tB (z4 (a9e K c) [] E0 (a9 (b4 1) (a9 (b4 10) (a9 (b4 2) (a9 (b4 3) (a9 (b4 6) g0))))))))) (G6 (tC (.bl false))) E9) (w4 (Q9 (tOr (a3d (tB (z4 (a8E K c) [] E0 (a9 (b4 1) (a9 (b4 7) (a9 (b4 5) (a9 (b4 8) (a9 (b4 9) g0)))))))) (a3d (tB (z4 (a8E K c) [] E0 (a9 (b4 1) (a9 (b4 7) (a9 (b4 6) (a9 (a2t g0) (a9 (b4 10) g0))))))))) (G6 (tC (.bl false))) E9) (G6 (z4 (a9e K c) [] E0 (a9 (b4 1) (a9 (b4 9) (a9 (b4 2) (a9 (b4 3) (a9 (b4 5) g0)))))))))))))))))
def b4p(K:Fg):Sp:=fun vs H Q _=>vs.length=1/\∀c,a0v K c->c4O K c { nx:=fun _ H'=>Q .non H',rt:=Q } (vs.map some++E5 (11 - vs.length) none) H
end RD
local macro_rules | `(tactic| walk_at "st") => `(tactic| (with_reducible first
 | refine RD.b9e ?_ | refine RD.b7t ?_ | refine RD.c9L ?_ | refine RD.b4B ?_ | refine RD.b7v ?_ | refine RD.d2e ?_ | refine RD.a8G ?_ | refine RD.c4Y ?_ | refine RD.c9G ?_ | refine RD.d2b ?_ | refine RD.d2h ?_ | refine RD.d3n ?_ | refine RD.b4F ?_ | refine RD.d2a ?_ | refine RD.c9I ?_ | refine RD.c9a ?_ | refine RD.b9c ?_ | refine RD.c7j ?_ | refine RD.d3l ?_ | refine RD.d2c ?_ | refine RD.s_c ?_ | refine RD.a0p ?_ | refine RD.a2Y ?_ | refine RD.b4E ?_ | refine RD.c7k ?_ | refine RD.c8Z ?_ | refine RD.d2d ?_ | refine RD.d3m ?_ | refine RD.c9H ?_ | refine RD.c5a ?_ | refine RD.s_rev ?_ | refine RD.c0L ?_ | refine RD.c9M ?_ | refine RD.d2f ?_
 | refine RD.U5 (by with_unfolding_all rfl) ?_ | refine Exists.intro _ (And.intro (Eq.refl (L2.V.bl _)) ?_) | refine Exists.intro _ (And.intro (Eq.refl (L2.V.int _)) ?_)
 | refine RD.d2r ?_ | refine RD.c9S ?_ | refine RD.d3s ?_ | refine RD.d2s ?_ | refine RD.d3t rfl ?_ | refine RD.d3r rfl ?_))
local macro_rules | `(tactic| walk_at "ev") => `(tactic| repeat walk_at "st")
local macro_rules | `(tactic| walk_at "go") => `(tactic| repeat (first | with_reducible refine RD.M9 ?_ | walk_at "st"))
local macro_rules | `(tactic| ext) => `(tactic| walk_at "ev")
local macro_rules | `(tactic| exists $t:term) => `(tactic| (refine $t; walk_at "ev"))
local macro_rules | `(tactic| specialize $t:term) => `(tactic| (with_reducible refine $t; walk_at "ev"))
local macro_rules | `(tactic| exact_mod_cast $t:term) => `(tactic| with_reducible refine $t)
local macro_rules | `(tactic| nofun) => `(tactic| (with_reducible refine RD.M9 ?_; walk_at "ev"))
namespace RD
open PySem PySem.Spec L2
variable{C a b cx d dd dx la na p ra rx wx z:Addr}{H H' H0 H1:Hp}{o:HO}{ds xs ys:List V}{D:b1z}{σ:St}{ta te ti to:TE}{tt:TT}{Q:VK}{v:V}{i j m n t:Nat}{L Y ks l:List Nat}{QD:Hp->Prop}{R:It->Hp->Prop}{M N:Nt}{ns:List Int}{as rs:List Addr}{Z:Addr->Prop}{Do f:Nat->Bool}{kvs:List (Key×V)}{c:Cn}
section
variable {D:Addr}
theorem c9K(h:ta σ H fun v H2=>∃x,v=.str x/\R (Its x) H2):c8u ta σ H R:=h
theorem c6v{x:Str}(Pv:Nat->List V->Hp->Prop)(h0:Pv 0 [] (upd H1 D (.lst [])))(hP:∀i ys H,Pv i ys H->H D=some (.lst ys))
  (step:∀i c ys H2,x.cps[i]? = some c->Pv i ys H2->∀(R:VK) (R':Hp->Prop),(∀y H5,H5 D=some (.lst ys)->ys.length<u9->Pv (i+1) (ys++[y]) (upd H5 D (.lst (ys++[y])))->R y H5)->(∀H4,Pv (i+1) ys H4->R' H4) ->
   tt (some (.str ⟨#[c]⟩)::σ) H2 fun ok H4=>if ok=true then te (some (.str ⟨#[c]⟩)::σ) H4 R else R' H4)
  (done:∀ys H2,Pv x.length ys H2->QD H2) :
  ∃W:Nat->Nat->List V->Hp->Prop,(∃m,W 0 m [] (upd H1 D (.lst [])))/\∀i m ys H2,W i m ys H2->H2 D=some (.lst ys) /\
   (((Its x).stop i H2 /\ QD H2) \/ ((Its x).go i H2 /\ ∀ v H3,(Its x).yld i H2 v H3 -> tt (some v :: σ) H3 fun ok H4 => if ok = true then
     te (some v::σ) H4 (fun y H5=>H5 D=some (.lst ys)/\ys.length<u9/\∃m',m'<m/\W (i+1) m' (ys++[y]) (upd H5 D (.lst (ys++[y]))))
     else ∃m',m'<m/\W (i+1) m' ys H4)):=by
 refine⟨fun i m ys H=>m=x.length - i/\i<=x.length/\Pv i ys H,⟨x.length,rfl,Z0 _,h0⟩,?_⟩
 rintro i m ys H2 ⟨rfl,hi,p⟩
 refine⟨hP i ys H2 p,?_⟩
 by_cases hlt:i<x.length
 ·refine .inr ⟨hlt,fun v H3 y=>?_⟩
  obtain⟨e,c,hc,ev⟩:=y
  subst e ev
  exact step i c ys _ hc p _ _ (fun y H5 h1 h2 h3=>⟨h1,h2,x.length - (i+1),by omega,rfl,hlt,h3⟩) fun H4 h=>⟨x.length - (i+1),by omega,rfl,hlt,h⟩
 ·have e:i=x.length:=by omega
  subst e
  exact .inl ⟨j6 _,done ys H2 p⟩
end
def sgn(S:Str)(c:Nat):Bool := !(Builtin.Str.occurrences S ⟨#[c]⟩ 0 S.length 1).isEmpty
theorem c9f{S:Str}{c:Nat}(h:Q (.bl (sgn S c)) H):qIn false (.str ⟨#[c]⟩) (.str S) H Q:=h
abbrev LET:Str := "abcdefghijklmnopqrstuvwxyz"
abbrev SGN:Str := "abcdefghijklmnopqrstuvwxyz0123456789"
theorem c9A:LET++("0123456789" : Str)=SGN:=by decide +kernel
def a8N(z:Str):Bool:=decide (1<=z.length)&&decide (z.length<=8)&&(match z.cps[0]? with | some c=>sgn LET c | none=>false)&&z.cps.toList.all (sgn SGN)
theorem b9E{K:Fg}{z:Str}{E:XK}(hz:z.length<=100)(k:∀H',j5 H H'->Q (.bl (a8N z)) H'):a1P K [.str z] H Q E:=by
 refine⟨rfl,?_⟩
 unfold b1Q
 have hz':=small (show z.length<=100000 by omega)
 nofun
 exists a6A (s := "str") rfl (by decide) ?_
 exists v9 (by decide) ?_
 exists c9Q hz' ?_
 by_cases h1:1<=z.length
 case neg=>
  exists v9 (d5k (by omega)) ?_
  exists C6 rfl ?_
  have e:a8N z=false:=by unfold a8N;rw[d5k h1];simp
  rw[<-e]
  exact k H (j5.refl _)
 exists C6 (d5l (by omega)) ?_
 by_cases h8:z.length<=8
 case neg=>
  rw[d5k (show ¬((z.length:Int)<=8) by omega)]
  exists C6 rfl ?_
  have e:a8N z=false:=by unfold a8N;rw[d5k h8];simp
  rw[<-e]
  exact k H (j5.refl _)
 rw[d5l (show(z.length:Int)<=8 by omega)]
 exists v9 rfl ?_
 have hl:z.cps.toList.length=z.length:=a3L
 obtain⟨c0,hc0,hc1⟩:=a8b (xs:=z.cps.toList) (i:=0) (by decide) (by omega)
 have hc2:z.cps[0]? = some c0:=by rw[<-a0j];exact hc1
 exists c5h hz' hc0 ?_
 have en:a8N z=(sgn LET c0&&z.cps.toList.all (sgn SGN)):=by
  unfold a8N
  rw[d5l h1,d5l h8,hc2]
  simp
 refine c9f (S:=LET) ?_
 refine⟨_,rfl,?_⟩
 cases hs:sgn LET c0 with
 | false=>
  refine d1i ?_
  have e:a8N z=false:=by rw[en,hs];rfl
  rw[<-e]
  exact k H (j5.refl _)
 | true=>
  exists b9D ?_
  specialize a0c (c9K ?_)
  refine⟨z,rfl,fun D hD=>?_⟩
  refine c6v (fun i ys H2=>ys=(z.cps.toList.take i).map (fun c=>V.bl (sgn SGN c))/\H2=upd H D (.lst ys)) ⟨by simp,rfl⟩ ?_ ?_ ?_
  ·rintro i ys _ ⟨_,rfl⟩
   exact c9
  ·rintro i c ys _ hc ⟨rfl,rfl⟩ R R' hR hR'
   have hc':z.cps.toList[i]? = some c:=by rw[a0j];exact hc
   ext
   exists b9D ?_
   refine c5i (small (by decide +kernel)) ?_
   have e:(("abcdefghijklmnopqrstuvwxyz" : Str)++("0123456789" : Str))=SGN:=c9A
   rw[e]
   refine c9f (S:=SGN) ?_
   refine hR (.bl (sgn SGN c)) _ c9 (F8 ?_) ⟨?_,?_⟩
   ·rw[b9,D8];omega
   ·rw[K5,hc'];simp
   ·rw[b3y]
  ·rintro ys _ ⟨rfl,rfl⟩
   ext
   have eb:a1q ((z.cps.toList.take z.length).map (fun c=>V.bl (sgn SGN c)))=some ((z.cps.toList.take z.length).map (sgn SGN)):=by
    generalize z.cps.toList.take z.length=l
    induction l with
    | nil=>rfl
    | cons a r ih=>simp[a1q,ih]
   have ea:((z.cps.toList.take z.length).map (sgn SGN)).all id=a8N z:=by
    rw[en,hs,a5H,a1e (by omega),d3d]
    rfl
   refine(show b5T [.ref D] _ _ from ?_)
   unfold b5T
   simp only[c9]
   refine⟨_,eb,?_⟩
   rw[ea]
   exact k _ (A0 hD)
def NmS(s:Str):Prop:=a8N s=true/\s.length<=8
def OpN(v:V):Prop:=(∃s,v=.str s/\NmS s)\/∃n:Int,v=.int n/\0<=n/\n<1000000000000
theorem OpN.flat{v:V}(h:OpN v):X1 v=true:=by
 rcases h with ⟨s,rfl,_⟩ | ⟨n,rfl,_⟩ <;> rfl
abbrev c6F:List Str:=["plus","minus","times","less","same"]
def a6i(H:Hp)(p:Addr):Prop:=∃k v1 v2,H p=some (.tup [.str k,v1,v2])/\OpN v1/\OpN v2/\k∈c6F
theorem a6i.ts(h:a6i H p)(t:D9 H H'):a6i H' p:=by
 obtain⟨k,v1,v2,h,a,b,c⟩:=h
 exact⟨k,v1,v2,t _ _ h,a,b,c⟩
inductive b1x(H:Hp):List V->Prop
 | set (n:Str) (p:Addr):NmS n->a6i H p->b1x H [.str "set",.str n,.ref p]
 | copy (n:Str) (v:V):NmS n->OpN v->b1x H [.str "copy",.str n,v]
 | take (n:Str):NmS n->b1x H [.str "take",.str n]
 | tell (v:V):OpN v->b1x H [.str "tell",v]
 | ask (v:V):OpN v->b1x H [.str "ask",v]
 | skip:b1x H [.str "skip"]
theorem b1x.ts(h:b1x H xs)(t:D9 H H'):b1x H' xs:=by
 cases h with
 | set n p a d=>exact .set n p a (d.ts t)
 | copy n v a o=>exact .copy n v a o
 | take n a=>exact .take n a
 | tell v o=>exact .tell v o
 | ask v o=>exact .ask v o
 | skip=>exact .skip
def b5t(H:Hp)(v:V)(ask:Bool):Prop:=∃p xs,v=.ref p/\H p=some (.tup xs)/\b1x H xs/\(∃k r,xs=.str k::r/\decide ((k:Str) = "ask")=ask)
theorem b5t.ts{a:Bool}(h:b5t H v a)(t:D9 H H'):b5t H' v a:=by
 obtain⟨p,xs,rfl,h,r,q⟩:=h
 exact⟨p,xs,rfl,t _ _ h,r.ts t,q⟩
theorem d1k{n:Int}(k:Q (.bl true) H) :
  G6 (a1n (tCB a8m (a9 (b4 0) (a9 (tC (.ty "int")) g0))) (a9L (tCB a8m (a9 (b4 0) (a9 (tC (.ty "bool")) g0))))) { nx:=fun _ H'=>Q .non H',rt:=Q } [some (.int n)] H:=by
 ext
 exists a6A (s := "int") rfl (by decide) ?_
 exists C6 (by decide) ?_
 exists a6A (s := "int") rfl (by decide) ?_
 exact k
theorem b1l{K:Fg}{n:Int}{E:XK}(k:Q (.bl true) H):a5i K [.int n] H Q E:=⟨rfl,d1k k⟩
theorem b7U{K:Fg}{n:Int}{E:XK}(h0:0<=n)(h1:n<1000000000000)(k:Q (.bl true) H):a6v K [.int n] H Q E:=by
 refine⟨rfl,?_⟩
 unfold b4k
 ext
 refine b1l ?_
 exists ⟨_,rfl,b9D ?_⟩
 exists C6 (d5l h0) ?_
 show Q (.bl (decide (n<1000000000000))) H
 rw[d5l h1]
 exact k
theorem b1m{K:Fg}{n m:Int}{E:XK}(h0:0<=n)(h1:n<m)(k:Q (.bl true) H):a5j K [.int n,.int m] H Q E:=by
 refine⟨rfl,?_⟩
 unfold b4l
 ext
 refine b1l ?_
 exists ⟨_,rfl,b9D ?_⟩
 exists C6 (d5l h0) ?_
 show Q (.bl (decide (n<m))) H
 rw[d5l h1]
 exact k
theorem a7V{K:Fg}{z:Str}{E:XK}(h:NmS z)(k:∀H',j5 H H'->Q (.bl true) H'):a1P K [.str z] H Q E:=by
 refine b9E (by have:=h.2;omega) fun H' s=>?_
 rw[h.1]
 exact k H' s
theorem b9F{K:Fg}{n:Int}{E:XK}(k:Q (.bl false) H):a1P K [.int n] H Q E:=by
 refine⟨rfl,?_⟩
 unfold b1Q
 nofun
 exists a6A (s := "int") rfl (by decide) ?_
 refine C6 (by decide) ?_
 exists C6 rfl ?_
 exact k
theorem a3n{K:Fg}{E:XK}(h:OpN v)(k:∀H',j5 H H'->Q (.bl true) H'):a1s K [v] H Q E:=by
 refine⟨rfl,?_⟩
 unfold b0I
 ext
 rcases h with ⟨s,rfl,hs⟩ | ⟨n,rfl,h0,h1⟩
 ·refine a7V hs fun G s=>?_
  exact⟨_,rfl,b9D (k G s)⟩
 ·refine b9F ?_
  exists ⟨_,rfl,d1i ?_⟩
  exact b7U h0 h1 (k H (j5.refl _))
theorem c6d{k:Str}(h:k∈c6F):inV (.str k) [.str "plus",.str "minus",.str "times",.str "less",.str "same"]=true:=by
 simp only[c6F,u5,Q7,or_false]at h
 rcases h with rfl | rfl | rfl | rfl | rfl <;> decide +kernel
theorem b5c{K:Fg}{E:XK}(ck:a0v K c)(h:a6i H p)(k:∀H',j5 H H'->Q (.bl true) H'):a5V K c [.ref p] H Q E:=by
 obtain⟨kd,v1,v2,hp,o1,o2,hk⟩:=h
 refine⟨rfl,?_⟩
 unfold b6u
 nofun
 exists a6A (s := "tuple") (by simp only[a5n,hp]) (by decide) ?_
 exists v9 (by decide) ?_
 exists a8H hp ?_
 exists v9 (by simp) ?_
 exists a0e hp (a3g _ _) ?_
 refine⟨_,_,rfl,ck.b8w H,rfl,rfl,?_⟩
 exists ⟨_,rfl,C6 (c6d hk) ?_⟩
 exists a0e hp (b0s _ _ _) ?_
 refine a3n o1 fun G1 s1=>?_
 exists ⟨_,rfl,b9D ?_⟩
 exists a0e (s1 _ _ hp) (c3X _ _ _ _) ?_
 exact a3n o2 fun G2 s2=>k G2 (s1.trans s2)
theorem d1o(a:V)(r:List V):a8U (a::r) (some 1) none=r:=by
 unfold a8U
 have e:HT.sIx (a::r).length 0 (some 1)=1:=by
  have:=HT.b7y (a::r).length 0 1
  rw[show((1:Nat):Int)=1 from rfl]at this
  rw[this,D5]
  omega
 rw[e]
 show List.take ((a::r).length - 1) r=r
 rw[a1e (by simp)]
theorem b9t(a:V)(r:List V):¬(HT.sIx (a::r).length 0 (some 1)=0/\HT.sIx (a::r).length (a::r).length none=(a::r).length):=by
 intro h
 have e:HT.sIx (a::r).length 0 (some 1)=1:=by
  have:=HT.b7y (a::r).length 0 1
  rw[show((1:Nat):Int)=1 from rfl]at this
  rw[this,D5]
  omega
 omega
theorem c3w{K:Fg}{a:Bool}{E:XK}(ck:a0v K c)(h:b5t H v a)(k:∀H',j5 H H'->Q (.bl true) H'):a9g K c [v] H Q E:=by
 obtain⟨p,xs,rfl,hp,hr,kd,r,rfl,_⟩:=h
 refine⟨rfl,?_⟩
 unfold b8P
 nofun
 exists a6A (s := "tuple") (by simp only[a5n,hp]) (by decide) ?_
 exists v9 (by decide) ?_
 exists a8H hp ?_
 exists v9 (d5k (by intro z;have:=V.int.inj z;rw[D5]at this;omega)) ?_
 nofun
 exists a0e hp (a3g _ _) ?_
 nofun
 refine c9d hp (b9t _ _) fun q G hq e s=>?_
 rw[d1o]at e
 ext
 have hr:=hr.ts (j5.ts s)
 cases hr with
 | set n d hn hd=>
  nofun
  exists C6 (by decide) ?_
  exists a8H e ?_
  exists C6 (by simp) ?_
  exists a0e e (a3g _ _) ?_
  refine a7V hn fun G1 s1=>?_
  exists ⟨_,rfl,b9D ?_⟩
  exists a0e (s1 _ _ e) (b0s _ _ _) ?_
  exact b5c ck (hd.ts (j5.ts s1)) fun G2 s2=>k G2 ((s.trans s1).trans s2)
 | copy n v hn ho=>
  nofun
  exists v9 (by decide) ?_
  nofun
  exists C6 (by decide) ?_
  exists a8H e ?_
  exists C6 (by simp) ?_
  exists a0e e (a3g _ _) ?_
  refine a7V hn fun G1 s1=>?_
  exists ⟨_,rfl,b9D ?_⟩
  exists a0e (s1 _ _ e) (b0s _ _ _) ?_
  exact a3n ho fun G2 s2=>k G2 ((s.trans s1).trans s2)
 | take n hn=>
  nofun
  exists v9 (by decide) ?_
  nofun
  exists v9 (by decide) ?_
  nofun
  exists C6 (by decide) ?_
  exists a8H e ?_
  exists C6 (by simp) ?_
  exists a0e e (a3g _ _) ?_
  exact a7V hn fun G1 s1=>k G1 (s.trans s1)
 | tell v ho=>
  nofun
  exists v9 (by decide) ?_
  nofun
  exists v9 (by decide) ?_
  nofun
  exists v9 (by decide) ?_
  nofun
  refine G9 (by simp) fun q2 G2 hq2 e2 s2=>?_
  exists b6y e2 rfl rfl ?_
  exists C6 (by decide +kernel) ?_
  exists a8H (s2 _ _ e) ?_
  exists C6 (by simp) ?_
  exists a0e (s2 _ _ e) (a3g _ _) ?_
  exact a3n ho fun G1 s1=>k G1 ((s.trans s2).trans s1)
 | ask v ho=>
  nofun
  exists v9 (by decide) ?_
  nofun
  exists v9 (by decide) ?_
  nofun
  exists v9 (by decide) ?_
  nofun
  refine G9 (by simp) fun q2 G2 hq2 e2 s2=>?_
  exists b6y e2 rfl rfl ?_
  exists C6 (by decide +kernel) ?_
  exists a8H (s2 _ _ e) ?_
  exists C6 (by simp) ?_
  exists a0e (s2 _ _ e) (a3g _ _) ?_
  exact a3n ho fun G1 s1=>k G1 ((s.trans s2).trans s1)
 | skip=>
  nofun
  exists v9 (by decide) ?_
  nofun
  exists v9 (by decide) ?_
  nofun
  exists v9 (by decide) ?_
  nofun
  refine G9 (by simp) fun q2 G2 hq2 e2 s2=>?_
  exists b6y e2 rfl rfl ?_
  exists v9 (by decide +kernel) ?_
  exists C6 (by decide) ?_
  exists a8H (s2 _ _ e) ?_
  have e0:decide (V.int ((([]:List V).length:Nat):Int)=V.int 0)=true:=by decide
  rw[e0]
  exact k G2 (s.trans s2)
theorem ix0{α:Type}(a b c d:α):ixN [a,b,c,d].length 0=some 0:=by
 show ixN 4 0=some 0
 decide
theorem ix1{α:Type}(a b c d:α):ixN [a,b,c,d].length 1=some 1:=by
 show ixN 4 1=some 1
 decide
theorem ix2{α:Type}(a b c d:α):ixN [a,b,c,d].length 2=some 2:=by
 show ixN 4 2=some 2
 decide
structure b5v(H:Hp)(b:Addr)(i0 i1 i2:Int)(c:Addr)(ns:List Int):Prop where
 hb:H b=some (.lst [.int i0,.int i1,.int i2,.ref c])
 hc:H c=some (.lst (ns.map V.int))
 p0:0<=i0
 p1:0<=i1
 p1':i1<2147483647
 p2:0<=i2
 pn:∀x∈ns,0<=x
theorem b5v.bag{i0 i1 i2:Int}{c:Addr}(h:b5v H b i0 i1 i2 c ns):Bag H b c:=⟨i0,i1,i2,ns,h.hb,h.hc,h.p0,h.p1,h.p1',h.p2,h.pn⟩
theorem Bag.parts{c:Addr}(h:Bag H b c):∃i0 i1 i2 ns,b5v H b i0 i1 i2 c ns:=by
 obtain⟨i0,i1,i2,ns,h1,h2,h3,h4,h5,h6,h7⟩:=h.ex
 exact⟨i0,i1,i2,ns,h1,h2,h3,h4,h5,h6,h7⟩
theorem b5v.ne{i0 i1 i2:Int}{c:Addr}(h:b5v H b i0 i1 i2 c ns):c≠b:=K0 h.hc h.hb (by
  intro z
  have z:=HO.lst.inj z
  cases ns with
  | nil=>cases z
  | cons a r=>cases r with
   | nil=>cases z
   | cons a2 r=>cases r with
    | nil=>cases z
    | cons a3 r=>cases r with
     | nil=>cases z
     | cons a4 r=>simp at z)
theorem b5v.put{i0 i1 i2 j0 j1 j2:Int}{c:Addr}(h:b5v H b i0 i1 i2 c ns)(q0:0<=j0)(q1:0<=j1)(q1':j1<2147483647)(q2:0<=j2) :
  b5v (upd H b (.lst [.int j0,.int j1,.int j2,.ref c])) b j0 j1 j2 c ns:=⟨c9,by rw[i9 h.ne];exact h.hc,q0,q1,q1',q2,h.pn⟩
theorem Q5{K:Fg}{c:Addr}{many:Int}{E:XK}(hB:Bag H b c)(h0:0<many)(h1:many<2 ^ 64)
  (k:∀n H',0<=n->n<many->Bag H' b c->E3 b H H'->Q (.int n) H'):M8 K [.ref b,.int many] H Q E:=by
 obtain⟨i0,i1,i2,ns,B⟩:=hB.parts
 refine⟨rfl,?_⟩
 unfold c4L
 refine a6x (P:=fun σ H1=>∃x2 x3 j0 j1 j2,σ=[some (.ref b),some (.int many),x2,x3,none,none,none]/\b5v H1 b j0 j1 j2 c ns/\E3 b H H1) ?_ ?_
 ·-- the second part
  rintro _ H1 ⟨x2,x3,j0,j1,j2,rfl,B1,k1⟩
  refine a6x (P:=fun σ H2=>H2=H1/\σ=[some (.ref b),some (.int many),x2,x3,none,none,none]) ?_ ?_
  ·rintro _ _ ⟨rfl,rfl⟩
   walk_at "go"
   refine O1 B1.hb (b0s _ _ _) ?_
   walk_at "go"
   refine a7p (.inr (by omega)) ?_
   walk_at "go"
   refine a7p (by omega) ?_
   walk_at "go"
   have g1:=a2E (j1 * 39373) (show(1000000007:Int)≠0 by decide)
   have g2:=a2n (j1 * 39373) (show(0:Int)<1000000007 by decide)
   refine a7p (.inr (by omega)) ?_
   walk_at "go"
   refine a7p (by omega) ?_
   walk_at "go"
   have g3:=a2E (j1 * 39373 % 1000000007 * 30011) (show(998244353:Int)≠0 by decide)
   have g4:=a2n (j1 * 39373 % 1000000007 * 30011) (show(0:Int)<998244353 by decide)
   refine a3f (fun _=>?_) (fun _=>?_)
   ·walk_at "go"
    refine a7p (.inr (by omega)) ?_
    walk_at "go"
    refine a7p h0 ?_
    exact k _ _ (a2E _ (by omega)) (a2n _ h0) B1.bag k1
   ·walk_at "go"
    refine a7p (by omega) ?_
    walk_at "go"
    refine a7p h0 ?_
    exact k _ _ (a2E _ (by omega)) (a2n _ h0) B1.bag k1
  ·intro nx hnx
   walk_at "go"
   refine O1 B1.hb (a3g _ _) ?_
   walk_at "go"
   refine a3f (fun _=>?_) (fun _=>?_)
   ·walk_at "go"
    refine O1 B1.hb (a3g _ _) ?_
    walk_at "go"
    refine a7p h0 ?_
    walk_at "go"
    refine O1 B1.hb (a3g _ _) ?_
    walk_at "go"
    refine a7p ⟨h0,h1⟩ ?_
    walk_at "go"
    refine c2e B1.hb (ix0 _ _ _ _) ?_
    walk_at "go"
    refine k _ _ (a2E _ (by omega)) (a2n _ h0) (B1.put (Int.ediv_nonneg B1.p0 (by omega)) B1.p1 B1.p1' B1.p2).bag (k1.trans (E3.upd _ _ _))
   ·walk_at "go"
    exact hnx _ _ ⟨rfl,rfl⟩
 ·intro nx hnx
  walk_at "go"
  refine O1 B.hb (a3g _ _) ?_
  walk_at "go"
  refine a3f (fun e=>?_) (fun _=>?_)
  ·have e:i0=0:=by simpa using e
   subst e
   nofun
   exact_mod_cast a6x (P:=fun σ H1=>∃m x3 j0 j2,σ=[some (.ref b),some (.int many),some (.int m),x3,none,none,none]/\b5v H1 b j0 i1 j2 c ns/\E3 b H H1/\0<=m) ?_ ?_
   ·rintro _ H1 ⟨m,x3,j0,j2,rfl,B1,k1,hm⟩
    walk_at "go"
    refine O1 B1.hb (b0s _ _ _) ?_
    walk_at "go"
    refine a7p (.inr (by omega)) ?_
    walk_at "go"
    refine a7p (by omega) ?_
    walk_at "go"
    refine c2e B1.hb (ix1 _ _ _ _) ?_
    have g1:=a2E (i1 * 48271+m) (show(2147483647:Int)≠0 by decide)
    have g2:=a2n (i1 * 48271+m) (show(0:Int)<2147483647 by decide)
    exact hnx _ _ ⟨_,x3,j0,_,j2,rfl,B1.put B1.p0 g1 g2 B1.p2,k1.trans (E3.upd _ _ _)⟩
   ·intro nx2 hnx2
    walk_at "go"
    refine O1 B.hb (c3X _ _ _ _) ?_
    walk_at "go"
    refine O1 B.hb (d2S _ _ _ _ _) ?_
    walk_at "go"
    refine O5 B.hc ?_
    walk_at "go"
    refine a3f (fun e=>?_) (fun _=>?_)
    ·have e:i2<(ns.length:Int):=by simpa using e
     obtain⟨v,ev,ev2⟩:=a8b (xs:=ns.map V.int) B.p2 (by simpa using e)
     obtain⟨z,ez,rfl⟩:∃z,ns[i2.toNat]? = some z/\v=V.int z:=by
      rw[b6]at ev2
      cases q:ns[i2.toNat]? with
      | none=>rw[q]at ev2;cases ev2
      | some z=>rw[q]at ev2;exact⟨z,rfl,(Option.some.inj ev2).symm⟩
     have hz:0<=z:=B.pn z (mI ez)
     walk_at "go"
     refine O1 B.hb (d2S _ _ _ _ _) ?_
     walk_at "go"
     refine O1 B.hb (c3X _ _ _ _) ?_
     walk_at "go"
     refine O1 B.hc ev ?_
     walk_at "go"
     exists d2p B.hb (by decide) rfl ?_
     refine c2e B.hb (ix2 _ _ _ _) ?_
     have B2:=B.put (j0:=0) (j1:=i1) (j2:=i2+1) (Int.le_refl _) B.p1 B.p1' (by have:=B.p2;omega)
     exact_mod_cast a6x (P:=fun σ H1=>∃j0,σ=[some (.ref b),some (.int many),some (.int 12345),some (.int z),none,none,none]/\b5v H1 b j0 i1 (i2+1) c ns/\E3 b H H1) ?_ ?_
     ·rintro _ H1 ⟨j0,rfl,B1,k1⟩
      walk_at "go"
      refine a7p (by omega) ?_
      walk_at "go"
      have g1:=a2E z (show(2147483647:Int)≠0 by decide)
      exact hnx2 _ _ ⟨_,_,j0,_,rfl,B1,k1,by omega⟩
     ·intro nx3 hnx3
      walk_at "go"
      refine a3f (fun _=>?_) (fun _=>?_)
      ·walk_at "go"
       refine c2e B2.hb (ix0 _ _ _ _) ?_
       refine hnx3 _ _ ⟨z,rfl,?_,(E3.upd _ _ _).trans (E3.upd _ _ _)⟩
       exact B2.put hz B.p1 B.p1' (by have:=B.p2;omega)
      ·walk_at "go"
       exact hnx3 _ _ ⟨0,rfl,B2,E3.upd _ _ _⟩
    ·walk_at "go"
     exact hnx2 _ _ ⟨_,_,0,i2,rfl,B,E3.refl _ _,by decide⟩
  ·walk_at "go"
   exact hnx _ _ ⟨_,_,i0,i1,i2,rfl,B,E3.refl _ _⟩
theorem d1r{K:Fg}{E:XK}(hS:SqL K H a (ns.map V.int))(hl:ns.length<=63)
  (k:∀b c H',Bag H' b c->j5 H H'->H b=none->Q (.ref b) H'):b7k K [.ref a] H Q E:=by
 refine⟨rfl,?_⟩
 unfold c8Y
 walk_at "go"
 exact_mod_cast a0c (Z6 ?_)
 walk_at "go"
 refine⟨a,_,rfl,hS,fun p hp=>⟨p,rfl,⟨_,SqL.of c9⟩,fun D hD=>?_⟩⟩
 have hcut:a8U (ns.map V.int) none (some 63)=ns.map V.int:=by
  unfold a8U
  have e:HT.sIx (ns.map V.int).length 0 none=0:=rfl
  have e2:HT.sIx (ns.map V.int).length (ns.map V.int).length (some 63)=ns.length:=by
   have:=HT.b7y (ns.map V.int).length (ns.map V.int).length 63
   rw[b9]at this ⊢
   rw[show((63:Nat):Int)=63 from rfl]at this
   rw[this];omega
  rw[e,e2,d1K,Nat.sub_zero,a1e (by simp)]
 rw[hcut]at hD ⊢
 have s1:j5 H (upd H p (.lst (ns.map V.int))):=A0 hp
 refine a0G (xs:=ns.map V.int) (fun i ys H2=>ys=(ns.take i).map (fun x=>V.int (if x<0 then -x else x))/\H2=upd (upd H p (.lst (ns.map V.int))) D (.lst ys)) ⟨by simp,rfl⟩ ?_ ?_ ?_ ?_
 ·rintro i ys _ ⟨_,rfl⟩
  exact c9
 ·rintro i ys _ _ ⟨_,rfl⟩
  refine SqL.of ?_
  rw[i9 (c8 c9 hD),c9]
 ·rintro i x ys _ hx ⟨rfl,rfl⟩ R hR
  rw[b6]at hx
  cases e:ns[i]? with
  | none=>rw[e]at hx;cases hx
  | some z=>
   rw[e]at hx
   cases hx
   ext
   refine hR _ _ c9 (F8 ?_) ⟨?_,?_⟩
   ·rw[b9,D8];omega
   ·rw[K5,e];simp
   ·rw[b3y]
 ·rintro ys _ ⟨rfl,rfl⟩
  ext
  refine G9 (by simp) fun b H4 hb hb4 s4=>?_
  rw[b9,a1e (j6 _)]at hb s4
  refine k b D _ ⟨0,1234567891,0,ns.map (fun x=>if x<0 then -x else x),hb4,?_,by decide,by decide,by decide,by decide,?_⟩ ?_ ?_
  ·rw[s4 D _ c9,X0];rfl
  ·intro x hx
   obtain⟨y,_,rfl⟩:=E7.mp hx
   split <;> omega
  ·exact(s1.trans (A0 hD)).trans s4
  ·exact(s1.trans (A0 hD)).free hb
structure a6Z(H:Hp)(a:Addr):Prop where
 ex:∃ss:List Str,H a=some (.lst (ss.map V.str))/\ss≠[]/\ss.length<=8/\∀s∈ss,NmS s
theorem a6Z.kept{c:Addr}(h:a6Z H a)(hB:Bag H b c)(k:E3 b H H'):a6Z H' a/\a≠b:=by
 obtain⟨ss,h1,h2,h3,h4⟩:=h.ex
 obtain⟨i0,i1,i2,ns,hb,_⟩:=hB.ex
 have ne:a≠b:=K0 h1 hb (by
  intro z
  have z:=HO.lst.inj z
  cases ss with
  | nil=>exact h2 rfl
  | cons s r=>cases z)
 exact⟨⟨ss,k.1 a _ h1 ne,h2,h3,h4⟩,ne⟩
theorem c6Y:∀c∈LET.cps.toList,sgn LET c=true:=by decide +kernel
theorem c6X:∀c∈SGN.cps.toList,sgn SGN c=true:=by decide +kernel
theorem c8m:∀c∈LET.cps.toList,sgn SGN c=true:=by decide +kernel
theorem c1t(cs:List Nat):Txt.join (Str.ofString "") (cs.map fun k=>(⟨#[k]⟩:Str))=⟨cs.toArray⟩:=by
 show Builtin.Str.glued ("") _=_
 rw[StrLaws.glued_eq_join]
 exact PyProof.Rows.join_ones cs
theorem d2K{ch:Nat}{cs:List Nat}(h1:ch∈LET.cps.toList)(h2:∀c∈cs,c∈SGN.cps.toList)(hl:cs.length<=7):NmS ((⟨#[ch]⟩:Str)++⟨cs.toArray⟩):=by
 have hlen:((⟨#[ch]⟩:Str)++⟨cs.toArray⟩).length=cs.length+1:=by
  rw[Str.length_append]
  show 1+cs.toArray.size=_
  rw[p9];omega
 have hc:((⟨#[ch]⟩:Str)++⟨cs.toArray⟩).cps=(ch::cs).toArray:=by
  rw[Str.cps_append]
  show #[ch]++cs.toArray=_
  simp
 refine⟨?_,by omega⟩
 unfold a8N
 rw[hlen,hc]
 have e0:(ch::cs).toArray[0]? = some ch:=by simp
 rw[e0]
 simp only[a3w,decide_eq_true_eq,X5]
 refine⟨⟨⟨by omega,by omega⟩,c6Y ch h1⟩,?_⟩
 intro c hcc
 have hcc:c∈ch::cs:=by simpa using hcc
 rcases u5.mp hcc with q | q
 ·subst q;exact c8m _ h1
 ·exact c6X c (h2 c q)
structure b1y(H:Hp)(a:Addr):Prop where
 ex:∃ps:List Addr,H a=some (.lst (ps.map V.ref))/\ps≠[]/\ps.length<=8/\∀p∈ps,a6i H p
theorem a0x{c:Addr}(hB:Bag H b c)(h:H a=some (.lst (as.map V.ref))):a≠b:=by
 obtain⟨i0,i1,i2,ns,hb,_⟩:=hB.ex
 refine K0 h hb ?_
 intro z
 have z:=HO.lst.inj z
 cases as with
 | nil=>cases z
 | cons s r=>cases z
theorem b4r{c:Addr}(hB:Bag H b c)(h:H a=some (.lst xs))(hl:xs.length<=3):a≠b:=by
 obtain⟨i0,i1,i2,ns,hb,_⟩:=hB.ex
 refine K0 h hb ?_
 intro z
 have z:=HO.lst.inj z
 rw[z]at hl
 simp at hl
theorem b1y.kept{c:Addr}(h:b1y H a)(hB:Bag H b c)(k:E3 b H H'):b1y H' a:=by
 obtain⟨ps,h1,h2,h3,h4⟩:=h.ex
 exact⟨ps,k.1 a _ h1 (a0x hB h1),h2,h3,fun p hp=>(h4 p hp).ts (E3.ts k hB)⟩
theorem b1y.same(h:b1y H a)(k:j5 H H'):b1y H' a:=by
 obtain⟨ps,h1,h2,h3,h4⟩:=h.ex
 exact⟨ps,k a _ h1,h2,h3,fun p hp=>(h4 p hp).ts (j5.ts k)⟩
structure L8(H:Hp)(a:Addr)(N:Nt):Prop where
 ex:∃as:List Addr,H a=some (.lst (as.map V.ref))/\as.length=N.length/\∀(i:Nat) x l,as[i]? = some x->N[i]? = some l->H x=some (.lst (IL l))
theorem L8.same(h:L8 H a N)(k:j5 H H'):L8 H' a N:=by
 obtain⟨as,h1,h2,h3⟩:=h.ex
 exact⟨as,k a _ h1,h2,fun i x l e1 e2=>k _ _ (h3 i x l e1 e2)⟩
theorem L8.kept{c:Addr}(h:L8 H a N)(hB:Bag H b c)(hN:∀l∈N,l.length<=2)(k:E3 b H H'):L8 H' a N:=by
 obtain⟨as,h1,h2,h3⟩:=h.ex
 refine⟨as,k.1 a _ h1 (a0x hB h1),h2,fun i x l e1 e2=>?_⟩
 have q:=h3 i x l e1 e2
 refine k.1 _ _ q (b4r hB q ?_)
 rw[F3]
 have:=hN l (mI e2)
 omega
theorem L8.at(h:L8 H a N){k:Nat}(e:N[k]? = some l):∃(xs:List V) (x:Addr),H a=some (.lst xs)/\atI xs (k:Int)=some (.ref x)/\H x=some (.lst (IL l))/\xs.length=N.length:=by
 obtain⟨as,h1,h2,h3⟩:=h.ex
 have hk:k<as.length:=by rw[h2];exact(gI e)
 have e1:as[k]? = some as[k]:=by simp
 refine⟨_,as[k],h1,?_,h3 k _ l e1 e,by rw[b9,h2]⟩
 exact a0z (by rw[b6,e1];rfl)
theorem L8.len(h:L8 H a N):∃xs,H a=some (.lst xs)/\xs.length=N.length:=by
 obtain⟨as,h1,h2,h3⟩:=h.ex
 exact⟨_,h1,by rw[b9,h2]⟩
theorem b6Q(e:l[j]? = some t):atI (IL l) (j:Int)=some (.int (t:Int)):=a0z (by unfold IL;rw[b6,e];rfl)
theorem c2f{K:Fg}{c:Addr}{E:XK}(hB:Bag H b c)(ha:H a=some (.lst xs))(na:a≠b)(h0:xs≠[])(hl:xs.length<=100)
  (k:∀(n:Int) v H',atI xs n=some v->v∈xs->H' a=some (.lst xs)->Bag H' b c->E3 b H H'->Q (.int n) H'):M8 K [.ref b,.int xs.length] H Q E:=by
 have hp:0<xs.length:=b1C.mpr h0
 refine Q5 hB (by omega) (by omega) fun n H1 n0 n1 B1 k1=>?_
 obtain⟨v,hv,hv2⟩:=a8b (xs:=xs) n0 n1
 exact k n v H1 hv (mI hv2) (k1.1 _ _ ha na) B1 k1
theorem c0D{α:Type}(l:List α):l=[]\/∃r a,l=r++[a]:=by
 cases h:l.reverse with
 | nil=>left;simpa using h
 | cons a r=>
  right
  refine⟨r.reverse,a,?_⟩
  have:=congrArg List.reverse h
  simpa using this
structure b6j(H0 H:Hp)(b c D:Addr)(m:Nat)(as:List Addr)(N:Nt):Prop where
 bag:Bag H b c
 kept:E3 b H0 H
 hD:H D=some (.lst (as.map V.ref))
 nb:D≠b
 nc:D≠c
 len:as.length=N.length
 at_:∀(i:Nat) x l,as[i]? = some x->N[i]? = some l->H x=some (.lst (IL l))/\x≠D/\x≠b
 small:∀l∈N,l.length<=2/\∀t∈l,t<m
theorem b6j.next{c D:Addr}(h:b6j H0 H b c D m as N)(B:Bag H' b c)(k:E3 b H H'):b6j H0 H' b c D m as N:=
 ⟨B,h.kept.trans k,k.1 _ _ h.hD h.nb,h.nb,h.nc,h.len,fun i x l e1 e2=>let⟨q1,q2,q3⟩:=h.at_ i x l e1 e2; ⟨k.1 _ _ q1 q3,q2,q3⟩,h.small⟩
structure b1w(H:Hp)(b D q:Addr)(m:Nat)(l:List Nat):Prop where
 h:H q=some (.lst (IL l))
 nD:q≠D
 nb:q≠b
 len:l.length<=2
 lt:∀t∈l,t<m
theorem b1w.next{D q:Addr}(h:b1w H b D q m l)(k:E3 b H H'):b1w H' b D q m l:=⟨k.1 _ _ h.h h.nb,h.nD,h.nb,h.len,h.lt⟩
theorem a0C{α:Type}{xs:List α}{x y:α}(h:(xs++[x])[i]? = some y):(i<xs.length/\xs[i]? = some y)\/(i=xs.length/\y=x):=by
 by_cases hi:i<xs.length
 ·left
  rw[o0 hi]at h
  exact⟨hi,h⟩
 ·right
  rw[K7 (by omega)]at h
  have:i - xs.length=0:=by
   have:=(gI h)
   simp at this
   omega
  rw[this]at h
  simp at h
  exact⟨by omega,h.symm⟩
theorem b9M{a b:Int}:decide (V.int a=V.int b)=decide (a=b):=by
 by_cases h:a=b
 ·subst h;simp
 ·rw[d5k h,d5k (fun z=>h (V.int.inj z))]
theorem d0T{K:Fg}{c:Addr}{E:XK}(hB:Bag H b c)(m0:0<m)(m1:m<=24)
  (k:∀a N H',L8 H' a N->N.length=m->(∀l∈N,l.length<=2/\∀t∈l,t<m)->N[m - 1]? = some []->Bag H' b c->E3 b H H'->Q (.ref a) H'):b7j K [.ref b,.int (m:Int)] H Q E:=by
 refine⟨rfl,?_⟩
 unfold c8W
 nofun
 exists G9 (by simp) fun D H1 hD e1 s1=>?_
 obtain⟨nb,nc⟩:=hB.nb hD
 have B1:=hB.same s1
 exact_mod_cast M9 ?_
 specialize a1o (a2e ?_)
 refine⟨m,rfl,by omega,by omega,?_⟩
 rw[A3]
 refine a1k (fun i σ H2=>∃x3 x4 x5 x6 as N,σ=[some (.ref b),some (.int (m:Int)),some (.ref D),x3,x4,x5,x6]/\b6j H H2 b c D m as N/\N.length=i/\(i=m->N[m - 1]? = some [])) ?_ ?_ ?_
 ·exact⟨_,_,_,_,[],[],rfl,⟨B1,E3.of_same s1,e1,nb,nc,rfl,fun i x l e=>by simp at e,fun l h=>by simp at h⟩,rfl,fun z=>by omega⟩
 ·rintro i _ H2 hi ⟨x3,x4,x5,x6,as,N,rfl,I2,hlen,_⟩
  ext
  rw[a0a]
  nofun
  exists d2o ?_
  obtain⟨r,hr,hrm⟩:∃r:Nat,(if(m:Int) - 1<(i:Int)+1 then (m:Int) - 1 else (i:Int)+1)=(r:Int)/\r<m:=by
   by_cases h:(m:Int) - 1<(i:Int)+1
   ·exact⟨m - 1,by rw[if_pos h];omega,by omega⟩
   ·exact⟨i+1,by rw[if_neg h];omega,by omega⟩
  rw[hr]
  nofun
  refine Q5 I2.bag (by omega) (by omega) fun j H3 j0 j1 B3 k3=>?_
  obtain⟨j,rfl⟩:=a4F j0
  ext
  exists G9 (by simp) fun q H4 hq e4 s4=>?_
  have I3:=I2.next B3 k3
  have I4:=I3.next (B3.same s4) (E3.of_same s4)
  have S4:b1w H4 b D q m [r,j]:=⟨e4,(c8 I3.hD hq).symm,(B3.nb hq).1,by simp,fun t ht=>by
   simp only[u5,Q7,or_false]at ht
   rcases ht with rfl | rfl
   ·exact hrm
   ·omega⟩
  nofun
  exists Q5 I4.bag (by decide) (by decide) fun w H5 w0 w1 B5 k5=>?_
  have I5:=I4.next B5 k5
  have S5:=S4.next k5
  exact_mod_cast a6x (P:=fun σ H6=>∃q l,σ=[some (.ref b),some (.int (m:Int)),some (.ref D),some (.int (i:Int)),some (.int (r:Int)),some (.ref q),some (.int w)]/\b6j H H6 b c D m as N/\b1w H6 b D q m l/\l.length=2) ?_ ?_
  rotate_left
  ·intro nx hnx
   ext
   refine a3f (fun _=>?_) (fun _=>?_)
   ·ext
    exists O1 S5.h (b0s _ _ _) ?_
    refine G9 (by simp) fun q6 H6 hq6 e6 s6=>?_
    exact hnx _ _ ⟨q6,[j,r],rfl,I5.next (B5.same s6) (E3.of_same s6),⟨e6,(c8 I5.hD hq6).symm,(B5.nb hq6).1,by simp,fun t ht=>by
     simp only[u5,Q7,or_false]at ht
     rcases ht with rfl | rfl
     ·exact S5.lt _ (by simp)
     ·exact S5.lt _ (by simp)⟩,rfl⟩
   ·ext
    exact hnx _ _ ⟨q,[r,j],rfl,I5,S5,rfl⟩
  rintro _ H6 ⟨q,l,rfl,I6,S6,hl6⟩
  obtain⟨l0,l1,rfl⟩:∃l0 l1,l=[l0,l1]:=by
   match l,hl6 with
   | [a,b],_=>exact⟨a,b,rfl⟩
  exact_mod_cast a6x (P:=fun σ H6=>∃q l,σ=[some (.ref b),some (.int (m:Int)),some (.ref D),some (.int (i:Int)),some (.int (r:Int)),some (.ref q),some (.int w)]/\b6j H H6 b c D m as N/\b1w H6 b D q m l/\l.length=2) ?_ ?_
  rotate_left
  ·intro nx hnx
   ext
   refine a3f (fun _=>?_) (fun _=>?_)
   ·ext
    exists O1 S6.h (b0s _ _ _) ?_
    refine Q5 I6.bag (by omega) (by omega) fun j2 H7 z0 z1 B7 k7=>?_
    obtain⟨j2,rfl⟩:=a4F z0
    ext
    have I7:=I6.next B7 k7
    refine G9 (by simp) fun q8 H8 hq8 e8 s8=>?_
    exact hnx _ _ ⟨q8,[l1,j2],rfl,I7.next (B7.same s8) (E3.of_same s8),⟨e8,(c8 I7.hD hq8).symm,(B7.nb hq8).1,by simp,fun t ht=>by
     simp only[u5,Q7,or_false]at ht
     rcases ht with rfl | rfl
     ·exact S6.lt _ (by simp)
     ·omega⟩,rfl⟩
   ·ext
    exact hnx _ _ ⟨q,_,rfl,I6,S6,rfl⟩
  clear S6 I6 l0 l1 hl6 S5 I5 S4 I4 I3 B3 k3 B5 k5 s4 e4 hq
  rintro _ H6 ⟨q,l,rfl,I6,S6,hl6⟩
  obtain⟨l0,l1,rfl⟩:∃l0 l1,l=[l0,l1]:=by
   match l,hl6 with
   | [a,b],_=>exact⟨a,b,rfl⟩
  exact_mod_cast a6x (P:=fun σ H6=>∃q l,σ=[some (.ref b),some (.int (m:Int)),some (.ref D),some (.int (i:Int)),some (.int (r:Int)),some (.ref q),some (.int w)]/\b6j H H6 b c D m as N/\b1w H6 b D q m l/\(w=7->1<m->l.length=2)) ?_ ?_
  rotate_left
  ·intro nx hnx
   have one:∀H7,H7=H6->((w=7/\1<m)->False)->New (.lst [V.int (r:Int)]) 1 H7 fun v H1=>nx [some (.ref b),some (.int (m:Int)),some (.ref D),some (.int (i:Int)),some (.int (r:Int)),some v,some (.int w)] H1:=by
    rintro _ rfl hw
    refine G9 (by simp) fun q8 H8 hq8 e8 s8=>?_
    exact hnx _ _ ⟨q8,[r],rfl,I6.next (I6.bag.same s8) (E3.of_same s8),⟨e8,(c8 I6.hD hq8).symm,(I6.bag.nb hq8).1,by simp,fun t ht=>by rw[l6.mp ht];exact hrm⟩,fun h1 h2=>(hw ⟨h1,h2⟩).elim⟩
   ext
   refine a3f (fun a3=>?_) (fun a3=>?_)
   ·ext
    refine a3f (fun a7=>?_) (fun a7=>?_)
    ·exists C6 rfl ?_
     exact one _ rfl fun⟨z,_⟩=>by have:=of_decide_eq_true a7;omega
    ·ext
     refine a3f (fun a1=>?_) (fun a1=>?_)
     ·ext
      rw[b9M]at a1
      exact one _ rfl fun⟨_,z⟩=>by have:=of_decide_eq_true a1;omega
     ·ext
      exact hnx _ _ ⟨q,_,rfl,I6,S6,fun _ _=>rfl⟩
   ·ext
    exists v9 rfl ?_
    refine a3f (fun a1=>?_) (fun a1=>?_)
    ·ext
     rw[b9M]at a1
     exact one _ rfl fun⟨_,z⟩=>by have:=of_decide_eq_true a1;omega
    ·ext
     exact hnx _ _ ⟨q,_,rfl,I6,S6,fun _ _=>rfl⟩
  clear S6 I6 l0 l1 hl6
  rintro _ H6 ⟨q,l,rfl,I6,S6,hl6⟩
  exact_mod_cast a6x (P:=fun σ H6=>∃q l,σ=[some (.ref b),some (.int (m:Int)),some (.ref D),some (.int (i:Int)),some (.int (r:Int)),some (.ref q),some (.int w)]/\b6j H H6 b c D m as N/\b1w H6 b D q m l) ?_ ?_
  rotate_left
  ·intro nx hnx
   ext
   refine a3f (fun a7=>?_) (fun a7=>?_)
   ·ext
    refine a3f (fun a1=>?_) (fun a1=>?_)
    ·rw[b9M]at a7
     have a7:=of_decide_eq_true a7
     have a1:=of_decide_eq_true a1
     have hl:=hl6 a7 (by omega)
     obtain⟨l0,l1,rfl⟩:∃l0 l1,l=[l0,l1]:=by
      match l,hl with
      | [a,b],_=>exact⟨a,b,rfl⟩
     ext
     exists O1 S6.h (b0s _ _ _) ?_
     refine G9 (by simp) fun q8 H8 hq8 e8 s8=>?_
     exact hnx _ _ ⟨q8,[l1],rfl,I6.next (I6.bag.same s8) (E3.of_same s8),⟨e8,(c8 I6.hD hq8).symm,(I6.bag.nb hq8).1,by simp,fun t ht=>by rw[l6.mp ht];exact S6.lt _ (by simp)⟩⟩
    ·ext
     exact hnx _ _ ⟨q,_,rfl,I6,S6⟩
   ·exists v9 rfl ?_
    exact hnx _ _ ⟨q,_,rfl,I6,S6⟩
  clear S6 I6 hl6 l
  rintro _ H6 ⟨q,l,rfl,I6,S6⟩
  exact_mod_cast a6x (P:=fun σ H6=>∃q l,σ=[some (.ref b),some (.int (m:Int)),some (.ref D),some (.int (i:Int)),some (.int (r:Int)),some (.ref q),some (.int w)]/\b6j H H6 b c D m as N/\b1w H6 b D q m l/\(i+1=m->l=[])) ?_ ?_
  rotate_left
  ·intro nx hnx
   have none:∀H7,b6j H H7 b c D m as N->New (.lst []) 0 H7 fun v H1=>nx [some (.ref b),some (.int (m:Int)),some (.ref D),some (.int (i:Int)),some (.int (r:Int)),some v,some (.int w)] H1:=by
    intro H7 I7
    refine G9 (by simp) fun q8 H8 hq8 e8 s8=>?_
    exact hnx _ _ ⟨q8,[],rfl,I7.next (I7.bag.same s8) (E3.of_same s8),⟨e8,(c8 I7.hD hq8).symm,(I7.bag.nb hq8).1,by simp,fun t ht=>by simp at ht⟩,fun _=>rfl⟩
   ext
   refine a3f (fun a1=>?_) (fun a1=>?_)
   ·exists C6 rfl ?_
    exact none _ I6
   ·rw[b9M]at a1
    have a1:¬((i:Int)=(m:Int) - 1):=fun z=>a1 (d5l z)
    ext
    refine a3f (fun a6=>?_) (fun a6=>?_)
    ·ext
     exists Q5 I6.bag (by decide) (by decide) fun z H7 z0 z1 B7 k7=>?_
     refine a3f (fun a0=>?_) (fun a0=>?_)
     ·ext
      exact none _ (I6.next B7 k7)
     ·ext
      exact hnx _ _ ⟨q,l,rfl,I6.next B7 k7,S6.next k7,fun z=>by omega⟩
    ·exists v9 rfl ?_
     exact hnx _ _ ⟨q,l,rfl,I6,S6,fun z=>by omega⟩
  clear S6 I6 l
  rintro _ H6 ⟨q,l,rfl,I6,S6,hlast⟩
  ext
  specialize a7o ?_
  exists ⟨a0g I6.hD,?_⟩
  refine a0q I6.hD (F8 (by rw[b9,I6.len];omega)) ?_
  have nqc:D≠c:=I6.nc
  refine⟨_,_,_,_,as++[q],N++[l],rfl,⟨I6.bag.put I6.nb nqc,I6.kept.put hD,by rw[c9];simp,I6.nb,I6.nc,by simp[I6.len],?_,?_⟩,by simp[hlen],?_⟩
  ·intro i' x' l' e1' e2'
   rcases a0C e1' with ⟨hi1,f1⟩ | ⟨hi1,f1⟩
   ·rcases a0C e2' with ⟨hi2,f2⟩ | ⟨hi2,f2⟩
    ·obtain⟨g1,g2,g3⟩:=I6.at_ i' x' l' f1 f2
     exact⟨by rw[i9 g2];exact g1,g2,g3⟩
    ·have:=I6.len;omega
   ·rcases a0C e2' with ⟨hi2,f2⟩ | ⟨hi2,f2⟩
    ·have:=I6.len;omega
    ·subst f1 f2
     exact⟨by rw[i9 S6.nD];exact S6.h,S6.nD,S6.nb⟩
  ·intro l' hl'
   rcases u4.mp hl' with z | z
   ·exact I6.small l' z
   ·rw[l6.mp z];exact⟨S6.len,S6.lt⟩
  ·intro z
   rw[hlast z]
   have:m - 1=N.length:=by omega
   rw[this];simp
 ·rintro _ H2 ⟨x3,x4,x5,x6,as,N,rfl,I2,hlen,hlast⟩
  ext
  exact k D N H2 ⟨as,I2.hD,I2.len,fun i x l e1 e2=>(I2.at_ i x l e1 e2).1⟩ hlen I2.small (hlast rfl) I2.bag I2.kept
theorem d2R(xs:List V):a8U xs (some 1) none=xs.drop 1:=by
 cases xs with
 | nil=>rfl
 | cons a r=>rw[d1o];rfl
theorem c8K(l:List Nat)(n:Nat):(IL l).drop n=IL (l.drop n):=by unfold IL;rw[List.map_drop]
theorem c1w(xs:List V):a1S xs []=decide (xs.length=0):=by
 unfold a1S
 rw[show min xs.length ([]:List V).length=0 by simp]
 simp only[List.range_zero,d3c,a5H,a6k]
 by_cases h:xs.length=0
 ·rw[h];rfl
 ·rw[d5k h]
  simpa using h
theorem d1s{G:List Nat}(h:(l.map fun t=>decide (t∈G)).any id=true):∃t∈l,t∈G:=by
 obtain⟨x,hx,e⟩:=c9q.mp h
 obtain⟨t,ht,rfl⟩:=E7.mp hx
 exact⟨t,ht,of_decide_eq_true e⟩
theorem c2k{α:Type}(l:List Nat)(f:Nat->α)(i:Nat)(e:l[i]? = some t):(l.take (i+1)).map f=(l.take i).map f++[f t]:=by
 rw[K5,e];simp
structure a8k(H0 H:Hp)(d:Addr)(N:Nt)(G:List Nat):Prop where
 same:j5 H0 H
 hd:H d=some (.dK (KS G))
 nd:G.Nodup
 lt:∀k∈G,k<N.length
 gd:∀k∈G,Gd N k
theorem a8k.next{G:List Nat}(h:a8k H0 H d N G)(s:j5 H H'):a8k H0 H' d N G:=⟨h.same.trans s,s _ _ h.hd,h.nd,h.lt,h.gd⟩
theorem a8k.put{G:List Nat}(h:a8k H0 H d N G)(n:H0 d=none){k:Nat}(hk:k<N.length)(g:Gd N k):a8k H0 (upd H d (.dK (KS (a4o G k)))) d N (a4o G k):=
 ⟨fun b o e=>by rw[i9 (c8 e n)];exact h.same b o e,c9,a6C h.nd,fun j hj=>(a0s.mp hj).elim (h.lt j) fun z=>z ▸ hk,fun j hj=>(a0s.mp hj).elim (h.gd j) fun z=>z ▸ g⟩
theorem c8w{K:Fg}{x2 x4 x5 x6:Option V}{G:List Nat}(n0:H0 d=none)(hn:L8 H a N)(hN:N.length<=24)(hl:N[i]? = some l)(hl2:l.length<=2)(hG:a8k H0 H d N G)
  (k:∀H' G',a8k H0 H' d N G'->(∀j∈G,j∈G')->(l=[]->i∈G')->L8 H' a N->D.nx [some (.ref a),some (.ref d),x2,some (.int (i:Int)),x4,x5,x6] H') :
  Q9 (tOr (F9 (tOp qEq (tOp qIx (b4 0) (b4 3)) (a2t (g0)))) (tB (tCB c0V (a9 (V6 (W8 K (tOp qIx (b4 0) (b4 3))) (a0Q) (b5J (b4 0) (b4 2))) (g0))))) (a4m (b4 1) (b4 3) (tC (.bl true))) (E9) D
   [some (.ref a),some (.ref d),x2,some (.int (i:Int)),x4,x5,x6] H:=by
 have hi:i<N.length:=(gI hl)
 have hGl:G.length<100000:=by
  have:=a4t _ _ hG.nd hG.lt
  omega
 have put:∀H1,L8 H1 a N->a8k H0 H1 d N G->a≠d->(∀x,H1 x=some (.dK (KS G))->True)->Gd N i->a4m (b4 1) (b4 3) (tC (.bl true)) D [some (.ref a),some (.ref d),x2,some (.int (i:Int)),x4,x5,x6] H1:=by
  intro H1 n1 g1 nad _ gd
  specialize a7J ?_
  refine⟨d,_,rfl,a9k g1.hd hGl i,?_⟩
  refine k _ (a4o G i) (g1.put n0 hi gd) (fun j hj=>a0s.mpr (.inl hj)) (fun _=>a0s.mpr (.inr rfl)) ?_
  obtain⟨as,q1,q2,q3⟩:=n1.ex
  refine⟨as,by rw[i9 nad];exact q1,q2,fun j x l' e1 e2=>?_⟩
  have q:=q3 j x l' e1 e2
  rw[i9 (K0 q g1.hd (by intro z;cases z))]
  exact q
 obtain⟨xs,x,h1,h2,h3,_⟩:=hn.at hl
 have nad:a≠d:=K0 h1 hG.hd (by intro z;cases z)
 ext
 exists O1 h1 h2 ?_
 refine G9 (by simp) fun p H1 hp e1 s1=>?_
 refine⟨_,c2n (s1 _ _ h3) e1 (b3M l) rfl,?_⟩
 rw[c1w,F3]
 ext
 by_cases hz:l=[]
 ·refine C6 (d5l (by rw[hz];rfl)) ?_
  refine C6 rfl ?_
  exact put H1 (hn.same s1) (hG.next s1) nad (fun _ _=>trivial) (.stop (hz ▸ hl))
 exists v9 (d5k fun z=>hz (a4D.mp z)) ?_
 specialize a0c (Z6 ?_)
 refine O1 (s1 _ _ h1) h2 ?_
 refine⟨x,rfl,⟨_,SqL.of (s1 _ _ h3)⟩,fun E hE=>?_⟩
 have G1:=hG.next s1
 refine a0G (xs:=IL l) (fun j ys H2=>ys=(l.take j).map (fun t=>V.bl (decide (t∈G)))/\H2 E=some (.lst ys)/\j5 H1 H2) ⟨by simp,c9,A0 hE⟩ ?_ ?_ ?_ ?_
 ·rintro j ys H2 ⟨_,h,_⟩
  exact h
 ·rintro j ys H2 _ ⟨_,_,s2⟩
  exact SqL.of (s2 _ _ (s1 _ _ h3))
 ·rintro j y ys H2 hy ⟨rfl,hE2,s2⟩ R hR
  have hy:(l.map fun(n:Nat)=>V.int (n:Int))[j]? = some y:=hy
  rw[b6]at hy
  cases ht:l[j]? with
  | none=>rw[ht]at hy;cases hy
  | some t=>
   rw[ht]at hy
   cases hy
   have hj:=(gI ht)
   specialize c2b ?_
   obtain⟨o,g1,g2⟩:=a4W (s2 _ _ G1.hd) t
   refine⟨d,o,rfl,g1,?_⟩
   rw[g2]
   refine hR _ _ hE2 (F8 ?_) ⟨?_,c9,fun b o e=>?_⟩
   ·rw[b9,D8]
    omega
   ·rw[c2k l _ j ht]
   ·rw[i9 (c8 e hE)];exact s2 b o e
 ·rintro ys H2 ⟨rfl,hE2,s2⟩
  rw[F3,G0]at hE2
  have he:l.map (fun t=>V.bl (decide (t∈G)))=(l.map fun t=>decide (t∈G)).map V.bl:=by rw[X0];rfl
  rw[he]at hE2
  ext
  exists d2q hE2 ?_
  refine a3f (fun c=>?_) (fun c=>?_)
  ·obtain⟨t,t1,t2⟩:=d1s c
   exact put H2 ((hn.same s1).same s2) (G1.next s2) nad (fun _ _=>trivial) (.step hl t1 (hG.gd t t2))
  ·ext
   exact k H2 G (G1.next s2) (fun j hj=>hj) (fun z=>(hz z).elim) ((hn.same s1).same s2)
structure b8m(H0 H:Hp)(d:Addr)(N:Nt)(S:List Nat):Prop where
 same:j5 H0 H
 hd:H d=some (.dK (KS S))
 nd:S.Nodup
 lt:∀k∈S,k<N.length
 rc:∀k∈S,Rc N k
 zero:0∈S
theorem b8m.put{S:List Nat}(h:b8m H0 H d N S)(n:H0 d=none){k:Nat}(hk:k<N.length)(g:Rc N k):b8m H0 (upd H d (.dK (KS (a4o S k)))) d N (a4o S k):=
 ⟨fun b o e=>by rw[i9 (c8 e n)];exact h.same b o e,c9,a6C h.nd,fun j hj=>(a0s.mp hj).elim (h.lt j) fun z=>z ▸ hk,fun j hj=>(a0s.mp hj).elim (h.rc j) fun z=>z ▸ g,a0s.mpr (.inl h.zero)⟩
def b0u(N:Nt)(S:List Nat):Prop:=∀k∈S,∀l,N[k]? = some l->∀t∈l,t∈S
theorem c7p{S:List Nat}{k:Nat}(h:k∈S):a4o S k=S:=by unfold a4o;rw[if_pos h]
theorem L8.dput{ks:List (Key×V)}(h:L8 H a N)(hd:H d=some (.dK ks)):L8 (upd H d o) a N:=by
 obtain⟨as,q1,q2,q3⟩:=h.ex
 exact⟨as,by rw[i9 (K0 q1 hd (by intro z;cases z))];exact q1,q2,fun j x l e1 e2=>by
  have q:=q3 j x l e1 e2
  rw[i9 (K0 q hd (by intro z;cases z))];exact q⟩
theorem c5f{K:Fg}{x1 x2 x5 x6:Option V}{S:List Nat}(n0:H0 d=none)(hn:L8 H a N)(hN:N.length<=24)(hl:N[i]? = some l)(hlt:∀t∈l,t<N.length)(hS:b8m H0 H d N S)
  (k:∀H' S' x5,b8m H0 H' d N S'->(∀j∈S,j∈S')->(i∈S->∀t∈l,t∈S')->(b0u N S->S'=S)->L8 H' a N->D.nx [some (.ref a),x1,x2,some (.int (i:Int)),some (.ref d),x5,x6] H') :
  Q9 (tB (b5J (b4 3) (b4 4))) (a3e (W8 K (tOp qIx (b4 0) (b4 3))) (v7 5) (a4m (b4 4) (b4 5) (tC (.bl true)))) (E9) D [some (.ref a),x1,x2,some (.int (i:Int)),some (.ref d),x5,x6] H:=by
 ext
 specialize c2b ?_
 obtain⟨o,g1,g2⟩:=a4W hS.hd i
 refine⟨d,o,rfl,g1,?_⟩
 rw[g2]
 ext
 refine a3f (fun c=>?_) (fun c=>?_)
 ·have hi:i∈S:=of_decide_eq_true c
  obtain⟨xs,x,h1,h2,h3,_⟩:=hn.at hl
  specialize a1o (Z6 ?_)
  refine O1 h1 h2 ?_
  refine⟨x,rfl,⟨_,SqL.of h3⟩,a4u (xs:=IL l) (fun j σ H2=>∃S' x5,σ=[some (.ref a),x1,x2,some (.int (i:Int)),some (.ref d),x5,x6]/\b8m H0 H2 d N S'/\(∀j∈S,j∈S')/\(∀t∈l.take j,t∈S')/\(b0u N S->S'=S)/\L8 H2 a N/\H2 x=some (.lst (IL l))) ?_ ?_ ?_ ?_⟩
  ·exact⟨S,x5,rfl,hS,fun _ h=>h,by simp,fun _=>rfl,hn,h3⟩
  ·rintro j σ H2 _ ⟨_,_,_,_,_,_,_,_,h⟩
   exact SqL.of h
  ·rintro j y _ H2 hy ⟨S',x5,rfl,I2,i1,i2,i3,n2,hx2⟩
   have hy:(l.map fun(n:Nat)=>V.int (n:Int))[j]? = some y:=hy
   rw[b6]at hy
   cases ht:l[j]? with
   | none=>rw[ht]at hy;cases hy
   | some t=>
    rw[ht]at hy
    cases hy
    have tm:=mI ht
    ext
    specialize a7J ?_
    refine⟨d,_,rfl,a9k I2.hd (by have:=a4t _ _ I2.nd I2.lt;omega) t,?_⟩
    refine⟨a4o S' t,_,rfl,I2.put n0 (hlt t tm) (.step (hS.rc i hi) hl tm),fun j hj=>a0s.mpr (.inl (i1 j hj)),fun z hz=>?_,fun hc=>?_,n2.dput I2.hd,?_⟩
    ·rw[K5,ht]at hz
     rcases u4.mp hz with q | q
     ·exact a0s.mpr (.inl (i2 z q))
     ·exact a0s.mpr (.inr (by simpa using q))
    ·rw[i3 hc]
     exact c7p (hc i hi l hl t tm)
    ·rw[i9 (K0 hx2 I2.hd (by intro z;cases z))];exact hx2
  ·rintro _ H2 ⟨S',x5,rfl,I2,i1,i2,i3,n2,hx2⟩
   refine k H2 S' x5 I2 i1 (fun _ t ht=>i2 t ?_) i3 n2
   rw[F3,G0];exact ht
 ·ext
  exact k H S x5 hS (fun _ h=>h) (fun h=>(c (d5l h)).elim) (fun _=>rfl) hn
theorem b9w{ms:List Int}{S:List Nat}(h:ms.Perm (S.map fun(n:Nat)=>(n:Int))):∃O:List Nat,O.Perm S/\ms=O.map fun(n:Nat)=>(n:Int):=by
 refine⟨ms.map c2A,?_,?_⟩
 ·have:=h.map c2A
  rw[X0]at this
  have e:(c2A ∘ fun(n:Nat)=>(n:Int))=id:=by funext n;simp
  rw[e,List.map_id]at this
  exact this
 ·rw[X0]
  have:∀x∈ms,((fun(n:Nat)=>(n:Int)) ∘ c2A) x=id x:=by
   intro x hx
   obtain⟨n,_,rfl⟩:=E7.mp (h.subset hx)
   simp
  rw[a3V this,List.map_id]
theorem c0C{O:List Nat}(h:(O.map fun(n:Nat)=>(n:Int)).Pairwise (· <= ·)):O.Pairwise (· <= ·):=by
 rw[List.pairwise_map]at h
 exact h.imp fun q=>by omega
theorem c6g(O:List Nat)(t:Nat):(O.map fun(n:Nat)=>(n:Int)).idxOf (t:Int)=O.idxOf t:=by
 induction O with
 | nil=>rfl
 | cons a r ih=>
  rw[J0,d1D,d1D]
  by_cases e:a=t
  ·subst e;simp
  ·have:((a:Int) == (t:Int))=false:=by simp;omega
   have e2:(a == t)=false:=by simpa using e
   rw[this,e2,ih]
theorem Q3(h:i<N.length):N[i]? = some N[i]:=by simp
theorem c3p{K:Fg}{E:XK}(hn:L8 H a N)(hp:0<N.length)(hN:N.length<=24)(hs:∀l∈N,l.length<=2/\∀t∈l,t<N.length)(hl:N[N.length - 1]? = some [])
  (k:∀a' N' H',L8 H' a' N'->a1a N'->N'.length<=24->j5 H H'->Q (.ref a') H'):a9f K [.ref a] H Q E:=by
 refine⟨rfl,?_⟩
 unfold b8O
 nofun
 exists b7w fun d H1 hd e1 s1=>?_
 have n1:=hn.same s1
 obtain⟨xs0,hx0,lx0⟩:=hn.len
 exact_mod_cast a6x (P:=fun σ H2=>∃x2 x3 G,σ=[some (.ref a),some (.ref d),x2,x3,none,none,none]/\a8k H H2 d N G/\N.length - 1∈G/\L8 H2 a N) ?_ ?_
 rotate_left
 ·intro nx hnx
  specialize a1o (a2e ?_)
  refine O5 (s1 _ _ hx0) ?_
  refine⟨N.length,by rw[lx0],by omega,by omega,?_⟩
  rw[A3]
  refine a1k (fun i σ H2=>∃x2 x3 G,σ=[some (.ref a),some (.ref d),x2,x3,none,none,none]/\a8k H H2 d N G/\(0<i->N.length - 1∈G)/\L8 H2 a N) ?_ ?_ ?_
  ·exact⟨_,_,[],rfl,⟨s1,e1,by simp,by simp,by simp⟩,by omega,n1⟩
  ·rintro i _ H2 hi ⟨x2,x3,G,rfl,I2,g2,n2⟩
   ext
   obtain⟨xs2,hx2,lx2⟩:=n2.len
   specialize a1o (a2e ?_)
   refine O5 hx2 ?_
   refine⟨N.length,by rw[lx2],by omega,by omega,?_⟩
   rw[A3]
   refine a1k (fun j σ H3=>∃x3 G,σ=[some (.ref a),some (.ref d),some (.int (0+(i:Int))),x3,none,none,none]/\a8k H H3 d N G/\(j=N.length->N.length - 1∈G)/\L8 H3 a N) ?_ ?_ ?_
   ·exact⟨_,G,rfl,I2,by omega,n2⟩
   ·rintro j _ H3 hj ⟨x3,G3,rfl,I3,g3,n3⟩
    exact_mod_cast b7t ?_
    rw[a0a (j:Int)]
    refine c8w hd n3 hN (Q3 hj) (hs _ (M3 _)).1 I3 fun H4 G4 I4 sub4 h4 n4=>?_
    refine⟨_,G4,rfl,I4,fun z=>?_,n4⟩
    have e:N.length - 1=j:=by omega
    rw[e]at hl ⊢
    refine h4 ?_
    rw[Q3 hj]at hl
    exact Option.some.inj hl
   ·rintro _ H3 ⟨x3,G3,rfl,I3,g3,n3⟩
    exact⟨_,_,G3,rfl,I3,fun _=>g3 rfl,n3⟩
  ·rintro _ H2 ⟨x2,x3,G,rfl,I2,g2,n2⟩
   exact hnx _ _ ⟨x2,x3,G,rfl,I2,g2 hp,n2⟩
 rintro _ H2 ⟨x2,x3,G,rfl,I2,hlast,n2⟩
 nofun
 exact_mod_cast a0c (a2e ?_)
 obtain⟨xs2,hx2,lx2⟩:=n2.len
 ext
 refine O5 hx2 ?_
 refine⟨N.length,by rw[lx2],by omega,by omega,fun A hA=>?_⟩
 rw[A3]
 refine a8V (fun i ys H3=>∃as:List Addr,ys=as.map V.ref/\as.length=i/\(∀(j:Nat) x l,as[j]? = some x->(a6D N G)[j]? = some l->H3 x=some (.lst (IL l))/\x≠A)/\H3 A=some (.lst ys)/\j5 H2 H3) ?_ ?_ ?_ ?_
 ·exact⟨[],rfl,rfl,by simp,c9,A0 hA⟩
 ·rintro i ys H3 ⟨_,_,_,_,h,_⟩
  exact h
 ·rintro i ys H3 hi ⟨as,rfl,la,at3,hA3,s3⟩ R hR
  rw[a0a]
  obtain⟨ys0,x,f1,f2,f3,f4⟩:=(n2.same s3).at (Q3 hi)
  have more:∀q H4,j5 H3 H4->(∀l,(a6D N G)[i]? = some l->H4 q=some (.lst (IL l)))->q≠A->R (.ref q) H4:=by
   intro q H4 s4 hq nq
   refine hR _ _ (s4 _ _ hA3) (F8 (by rw[b9];omega)) ⟨as++[q],by simp,by simp[la],?_,c9,fun b o e=>?_⟩
   ·intro j y l' h1 h2
    rcases a0C h1 with ⟨_,g1⟩ | ⟨hj,g1⟩
    ·obtain⟨g2,g3⟩:=at3 j y l' g1 h2
     exact⟨by rw[i9 g3];exact s4 _ _ g2,g3⟩
    ·rw[hj,la]at h2
     subst g1
     exact⟨by rw[i9 nq];exact hq l' h2,nq⟩
   ·rw[i9 (c8 e hA)]
    exact s4 _ _ (s3 _ _ e)
  ext
  specialize c2b ?_
  obtain⟨o,g1,g2⟩:=a4W (s3 _ _ I2.hd) i
  refine⟨d,o,rfl,g1,?_⟩
  rw[g2]
  ext
  refine a3f (fun c=>?_) (fun c=>?_)
  ·ext
   refine O1 f1 f2 ?_
   refine more x H3 (j5.refl _) (fun l hl'=>?_) ?_
   ·rw[b1h (Q3 hi) (of_decide_eq_true c)]at hl'
    cases hl'
    exact f3
   ·refine(c8 (H:=H2) (a:=x) (b:=A) (o:=.lst (IL N[i])) ?_ hA)
    obtain⟨ys1,x',f1',f2',f3',_⟩:=n2.at (Q3 hi)
    have e1:=s3 _ _ f1'
    rw[f1]at e1
    cases e1
    rw[f2]at f2'
    cases f2'
    exact f3'
  ·ext
   exists O5 f1 ?_
   exists G9 (by simp) fun p1 H4 hp1 e4 s4=>?_
   exists O1 (s4 _ _ f1) f2 ?_
   refine c9e (s4 _ _ f3) fun p2 H5 hp2 e5 s5=>?_
   rw[d2R,c8K]at e5
   have hl2:=(hs _ (M3 (l:=N) (h:=hi))).1
   refine b7z (s5 _ _ e4) e5 (G9 (by simp[F3];omega) fun p3 H6 hp3 e6 s6=>?_)
   refine more p3 H6 ((s4.trans s5).trans s6) (fun l hl'=>?_) ?_
   ·rw[b6D (Q3 hi) (fun z=>c (d5l z))]at hl'
    cases hl'
    rw[e6,f4]
    have:((N.length:Int) - 1)=((N.length - 1:Nat):Int):=by omega
    rw[this]
    rfl
   ·exact(c8 ((s4.trans s5) _ _ hA3) hp3).symm
 rintro ys H3 ⟨as,rfl,la,at3,hA3,s3⟩
 obtain⟨N2,hN2⟩:∃N2,N2=a6D N G:=⟨_,rfl⟩
 have len2:N2.length=N.length:=by rw[hN2,b6E]
 have n3:L8 H3 A N2:=⟨as,hA3,by rw[len2,la],fun i x l h1 h2=>(at3 i x l h1 (hN2 ▸ h2)).1⟩
 have small2:∀l∈N2,l.length<=2/\∀t∈l,t<N2.length:=by
  rw[len2,hN2]
  exact b9z hp hs hl hlast
 have gd2:∀k,k<N2.length->Gd N2 k:=by
  rw[len2,hN2]
  exact c8y I2.gd hl hlast
 have s03:j5 H H3:=I2.same.trans s3
 clear at3 hN2 la
 ext
 nofun
 intro r hr
 refine⟨c9,[(Sum.inl 0,V.bl true)],rfl,by simp,?_⟩
 have e4:(upd (upd H3 r (.dK [])) r (.dK (b0n [] [(Sum.inl 0,V.bl true)])))=upd H3 r (.dK (KS [0])):=by
  rw[b3y];rfl
 rw[e4]
 ext
 obtain⟨H4,hH4⟩:∃H4,H4=upd H3 r (.dK (KS [0])):=⟨_,rfl⟩
 rw[<-hH4]
 have s4:j5 H3 H4:=hH4 ▸ A0 hr
 have er:H4 r=some (.dK (KS [0])):=hH4 ▸ c9
 have n4:=n3.same s4
 clear hH4 e4
 have hp2:0<N2.length:=by omega
 exact_mod_cast a6x (P:=fun σ H5=>∃x2 x3 x5 S,σ=[some (.ref A),some (.ref d),x2,x3,some (.ref r),x5,none]/\b8m H3 H5 r N2 S/\b0u N2 S/\L8 H5 A N2) ?_ ?_
 rotate_left
 ·intro nx hnx
  obtain⟨ys4,hy4,ly4⟩:=n4.len
  specialize a1o (a2e ?_)
  refine O5 hy4 ?_
  refine⟨N2.length,by rw[ly4],by omega,by omega,?_⟩
  rw[A3]
  refine a1k (fun i σ H5=>∃x2 x3 x5 S,σ=[some (.ref A),some (.ref d),x2,x3,some (.ref r),x5,none]/\b8m H3 H5 r N2 S/\(b0u N2 S\/i+1<=S.length)/\L8 H5 A N2) ?_ ?_ ?_
  ·exact⟨_,_,_,[0],rfl,⟨s4,er,by simp,by simpa using hp2,by simpa using Rc.zero,by simp⟩,.inr (by simp),n4⟩
  ·rintro i _ H5 hi ⟨x2,x3,x5,S,rfl,I5,g5,n5⟩
   ext
   obtain⟨ys5,hy5,ly5⟩:=n5.len
   specialize a1o (a2e ?_)
   refine O5 hy5 ?_
   refine⟨N2.length,by rw[ly5],by omega,by omega,?_⟩
   rw[A3]
   refine a1k (fun j σ H6=>∃x3 x5 S',σ=[some (.ref A),some (.ref d),some (.int (0+(i:Int))),x3,some (.ref r),x5,none]/\b8m H3 H6 r N2 S'/\(∀k∈S,k∈S')/\(∀k∈S,k<j->∀l,N2[k]? = some l->∀t∈l,t∈S')/\(b0u N2 S->S'=S)/\L8 H6 A N2) ?_ ?_ ?_
   ·exact⟨_,_,S,rfl,I5,fun _ h=>h,by omega,fun _=>rfl,n5⟩
   ·rintro j _ H6 hj ⟨x3,x5,S',rfl,I6,b1,b2,b3,n6⟩
    exact_mod_cast b7t ?_
    rw[a0a (j:Int)]
    refine c5f hr n6 (by omega) (Q3 hj) (small2 _ (M3 _)).2 I6 fun H7 S7 x5 I7 c1 c2 c3 n7=>?_
    refine⟨_,x5,S7,rfl,I7,fun k hk=>c1 k (b1 k hk),fun k hk hkj l hl' t ht=>?_,fun hc=>?_,n7⟩
    ·by_cases e:k=j
     ·subst e
      rw[Q3 hj]at hl'
      cases hl'
      exact c2 (b1 k hk) t ht
     ·exact c1 t (b2 k hk (by omega) l hl' t ht)
    ·have:=b3 hc
     rw[this]at c3
     exact c3 hc
   ·rintro _ H6 ⟨x3,x5,S',rfl,I6,b1,b2,b3,n6⟩
    refine⟨_,x3,x5,S',rfl,I6,?_,n6⟩
    rcases g5 with hc | hc
    ·exact .inl (by rw[b3 hc];exact hc)
    ·by_cases hcl:b0u N2 S
     ·exact .inl (by rw[b3 hcl];exact hcl)
     ·right
      obtain⟨t,t1,t2⟩:∃t,t∈S'/\¬t∈S:=by
       refine Classical.byContradiction fun hno=>hcl fun k hk l hl' t ht=>?_
       refine Classical.byContradiction fun hts=>hno ⟨t,b2 k hk (I5.lt k hk) l hl' t ht,hts⟩
      have:(t::S).length<=S'.length:=by
       have nd:(t::S).Nodup:=a1A.mpr ⟨t2,I5.nd⟩
       have sub:∀k∈t::S,k∈S':=fun k hk=>(u5.mp hk).elim (fun z=>z ▸ t1) (b1 k)
       exact c5R _ _ nd sub
      rw[D5]at this
      omega
  ·rintro _ H5 ⟨x2,x3,x5,S,rfl,I5,g5,n5⟩
   refine hnx _ _ ⟨x2,x3,x5,S,rfl,I5,g5.elim id fun h=>?_,n5⟩
   have:=a4t _ _ I5.nd I5.lt
   omega
 rintro _ H5 ⟨y2,y3,y5,S,rfl,I5,hcl,n5⟩
 have hSl:=a4t _ _ I5.nd I5.lt
 nofun
 have ek:(KS S).map (fun kv=>kV kv.1)=(S.map fun(n:Nat)=>(n:Int)).map V.int:=by
  unfold KS;rw[X0,X0];rfl
 have ld:a4n [.ref r] H5=fun Q=>∀l,H5 l=none->Q (.ref l) (upd H5 l (.lst ((KS S).map fun kv=>kV kv.1))):=by
  unfold a4n
  simp only[I5.hd]
 rw[ld]
 intro p6 hp6
 rw[ek]
 obtain⟨H6,hH6⟩:∃H6,H6=upd H5 p6 (.lst ((S.map fun(n:Nat)=>(n:Int)).map V.int)):=⟨_,rfl⟩
 rw[<-hH6]
 have s6:j5 H5 H6:=hH6 ▸ A0 hp6
 have e6:H6 p6=some (.lst ((S.map fun(n:Nat)=>(n:Int)).map V.int)):=hH6 ▸ c9
 clear hH6 ld
 ext
 have so:a9i [.ref p6] H6=fun Q=>∃ns,a5x ((S.map fun(n:Nat)=>(n:Int)).map V.int)=some ns/\ns.length<64/\∀(p:Addr) (ms:List Int),ms.Perm ns->ms.Pairwise (· <= ·)->H6 p=none->Q (.ref p) (upd H6 p (.lst (ms.map V.int))):=by
  unfold a9i
  simp only[e6]
 rw[so]
 refine⟨_,b5d _,by rw[b9];omega,fun p7 ms hperm hsort hp7=>?_⟩
 obtain⟨O,hO,rfl⟩:=b9w hperm
 have hsO:=c0C hsort
 have ndO:O.Nodup:=hO.nodup_iff.mpr I5.nd
 have memO:∀k,k∈O↔k∈S:=fun k=>hO.mem_iff
 obtain⟨H7,hH7⟩:∃H7,H7=upd H6 p7 (.lst ((O.map fun(n:Nat)=>(n:Int)).map V.int)):=⟨_,rfl⟩
 rw[<-hH7]
 have s7:j5 H6 H7:=hH7 ▸ A0 hp7
 have e7:H7 p7=some (.lst ((O.map fun(n:Nat)=>(n:Int)).map V.int)):=hH7 ▸ c9
 clear hH7 so
 have hOl:O.length<=24:=by rw[hO.length_eq];omega
 ext
 have n7:=(n5.same s6).same s7
 have s07:j5 H H7:=((s03.trans I5.same).trans s6).trans s7
 have valid:a1a (a9P N2 O):=c2K ((memO 0).mpr I5.zero) hsO ndO (fun k hk=>I5.lt k ((memO k).mp hk)) (by omega) (fun k hk l hl' t ht=>(memO t).mpr (hcl k ((memO k).mp hk) l hl' t ht)) (fun k hk=>I5.rc k ((memO k).mp hk))
  (fun l hl'=>(small2 l hl').1) gd2
 specialize a0c (Z6 ?_)
 refine⟨p7,rfl,⟨_,SqL.of e7⟩,fun B hB=>?_⟩
 refine a0G (xs:=(O.map fun(n:Nat)=>(n:Int)).map V.int) (fun i ys H8=>∃bs:List Addr,ys=bs.map V.ref/\bs.length=i/\(∀(j:Nat) x l,bs[j]? = some x->(a9P N2 O)[j]? = some l->H8 x=some (.lst (IL l))/\x≠B)/\H8 B=some (.lst ys)/\j5 H7 H8) ?_ ?_ ?_ ?_ ?_
 ·exact⟨[],rfl,rfl,by simp,c9,A0 hB⟩
 ·rintro i ys H8 ⟨_,_,_,_,h,_⟩
  exact h
 ·rintro i ys H8 _ ⟨_,_,_,_,_,s8⟩
  exact SqL.of (s8 _ _ e7)
 ·rintro i x ys H8 hx ⟨bs,rfl,lb,at8,hB8,s8⟩ R hR
  rw[b6,b6]at hx
  cases ho:O[i]? with
  | none=>rw[ho]at hx;cases hx
  | some kk=>
   rw[ho]at hx
   cases hx
   have hko:=mI ho
   have hks:=(memO kk).mp hko
   have hkl:=I5.lt kk hks
   obtain⟨ys8,x8,f1,f2,f3,_⟩:=(n7.same s8).at (Q3 hkl)
   obtain⟨l8,hl8⟩:∃l8,l8=N2[kk]:=⟨_,rfl⟩
   rw[<-hl8]at f3
   have hN8:N2[kk]? = some l8:=by rw[hl8];exact Q3 hkl
   specialize a0c (Z6 ?_)
   refine O1 f1 f2 ?_
   refine⟨x8,rfl,⟨_,SqL.of f3⟩,fun C hC=>?_⟩
   refine a0G (xs:=IL l8) (fun j zs H9=>zs=IL ((l8.take j).map fun t=>O.idxOf t)/\H9 C=some (.lst zs)/\j5 H8 H9) ⟨rfl,c9,A0 hC⟩ ?_ ?_ ?_ ?_
   ·rintro j zs H9 ⟨_,h,_⟩
    exact h
   ·rintro j zs H9 _ ⟨_,_,s9⟩
    exact SqL.of (s9 _ _ f3)
   ·rintro j y zs H9 hy ⟨rfl,hC9,s9⟩ R' hR'
    have hy:(l8.map fun(n:Nat)=>V.int (n:Int))[j]? = some y:=hy
    rw[b6]at hy
    cases ht:l8[j]? with
    | none=>rw[ht]at hy;cases hy
    | some t=>
     rw[ht]at hy
     cases hy
     have htO:t∈O:=(memO t).mpr (hcl kk hks l8 hN8 t (mI ht))
     specialize a7o ?_
     have e9:H9 p7=_:=s9 _ _ (s8 _ _ e7)
     exists ⟨a0g e9,?_⟩
     have ix:b2g (.ref p7) [.int (t:Int)] H9=fun Q=>∃ns,a5x ((O.map fun(n:Nat)=>(n:Int)).map V.int)=some ns/\ns.length<10000/\(t:Int)∈ns/\Q (.int (ns.idxOf (t:Int):Nat)) H9:=by
      unfold b2g
      simp only[e9]
     rw[ix]
     refine⟨_,b5d _,by rw[b9];omega,E7.mpr ⟨t,htO,rfl⟩,?_⟩
     rw[c6g]
     have hl2:=(small2 l8 (mI hN8)).1
     refine hR' _ _ hC9 (F8 ?_) ⟨?_,c9,fun b o e=>?_⟩
     ·rw[F3,b9,D8];omega
     ·unfold IL
      rw[c2k l8 (fun t=>O.idxOf t) j ht]
      simp
     ·rw[i9 (c8 e hC)];exact s9 _ _ e
   ·rintro zs H9 ⟨rfl,hC9,s9⟩
    rw[F3,G0]at hC9
    refine hR _ _ (s9 _ _ hB8) (F8 (by rw[b9];have:=(gI ho);omega)) ⟨bs++[C],by simp,by simp[lb],?_,c9,fun b o e=>?_⟩
    ·have nCB:C≠B:=(c8 hB8 hC).symm
     intro j y l' h1 h2
     rcases a0C h1 with ⟨_,g1⟩ | ⟨hj,g1⟩
     ·obtain⟨g2,g3⟩:=at8 j y l' g1 h2
      exact⟨by rw[i9 g3];exact s9 _ _ g2,g3⟩
     ·rw[hj,lb]at h2
      subst g1
      refine⟨?_,nCB⟩
      rw[i9 nCB,hC9]
      have h2':(a9P N2 O)[i]? = some (l8.map fun t=>O.idxOf t):=by
       unfold a9P
       rw[b6,ho]
       simp[Q1,hN8]
      rw[h2']at h2
      cases h2
      rfl
    ·rw[i9 (c8 e hB)]
     exact s9 _ _ (s8 _ _ e)
 ·rintro ys H8 ⟨bs,rfl,lb,at8,hB8,s8⟩
  rw[b9,b9]at lb
  have hlen:(a9P N2 O).length=O.length:=by simp[a9P]
  exact k B (a9P N2 O) H8 ⟨bs,hB8,by rw[lb,hlen],fun i x l h1 h2=>(at8 i x l h1 h2).1⟩ valid (by rw[hlen];exact hOl) (s07.trans s8)
structure a0E(H:Hp)(a:Addr)(N:Nt):Prop where
 ex:∃rs:List Addr,H a=some (.lst (rs.map V.ref))/\rs.length=N.length/\∀(i:Nat) x l,rs[i]? = some x->N[i]? = some l->b5t H (.ref x) (l.length == 2)
theorem a0E.same(h:a0E H a N)(k:j5 H H'):a0E H' a N:=by
 obtain⟨rs,h1,h2,h3⟩:=h.ex
 exact⟨rs,k a _ h1,h2,fun i x l e1 e2=>(h3 i x l e1 e2).ts (j5.ts k)⟩
theorem a0E.kept{c:Addr}(h:a0E H a N)(hB:Bag H b c)(k:E3 b H H'):a0E H' a N:=by
 obtain⟨rs,h1,h2,h3⟩:=h.ex
 exact⟨rs,k.1 a _ h1 (a0x hB h1),h2,fun i x l e1 e2=>(h3 i x l e1 e2).ts (E3.ts k hB)⟩
theorem c5U:∀s∈(["k0","set","ask","k1","a","copy"]:List Str),NmS s:=by
 intro s hs
 simp only[u5,Q7,or_false]at hs
 rcases hs with rfl | rfl | rfl | rfl | rfl | rfl <;> exact⟨by decide +kernel,by decide +kernel⟩
theorem d3w:∀i,i<26->∀c,(("abcdefghijklmnopqrstuvwxyz0123456789" : Str).cps.toList)[i]? = some c->c∈LET.cps.toList:=by decide +kernel
theorem d3k:∀c∈("abcdefghijklmnopqrstuvwxyz0123456789" : Str).cps.toList,c∈SGN.cps.toList:=by decide +kernel
theorem c8j{K:Fg}{c:Addr}{E:XK}(hB:Bag H b c)(k:∀s H',NmS s->Bag H' b c->E3 b H H'->Q (.str s) H'):b3A K [.ref b,.int (n:Int)] H Q E:=by
 refine⟨rfl,?_⟩
 unfold c4N
 nofun
 exists Q5 hB (by decide) (by decide) fun n1 H1 a0 a1 B1 k1=>?_
 refine a3f (fun _=>?_) (fun _=>?_)
 ·ext
  exists G9 (by simp) fun p G hp e s=>?_
  refine Q5 (B1.same s) (by decide) (by decide) fun n2 H2 b0 b1 B2 k2=>?_
  have hp2:=k2.1 p _ e (B1.nb hp).1
  obtain⟨v,hv,hv2⟩:=a8b (xs:=(["k0","set","ask","k1","a","copy"]:List Str).map V.str) b0 (by simpa using b1)
  refine O1 hp2 hv ?_
  obtain⟨t,ht,rfl⟩:=E7.mp (mI hv2)
  exact k _ _ (c5U t ht) B2 (k1.trans ((E3.of_same s).trans k2))
 ext
 nofun
 exists Q5 B1 (by decide) (by decide) fun n2 H2 b0 b1 B2 k2=>?_
 have k02:=k1.trans k2
 exists ⟨.inl ⟨by omega,by omega⟩,?_⟩
 exists ⟨(show(0:Int)<2 by decide),?_⟩
 obtain⟨m,hm⟩:∃m:Nat,n2 * 2+(n:Int) % 2=(m:Int):=⟨(n2 * 2+(n:Int) % 2).toNat,by omega⟩
 have hm7:m<=7:=by omega
 rw[hm]
 nofun
 refine Q5 B2 (by decide) (by decide) fun n3 H3 c0 c1 B3 k3=>?_
 have k03:=k02.trans k3
 have l36:(("abcdefghijklmnopqrstuvwxyz0123456789" : Str).cps.toList).length=36:=by decide +kernel
 obtain⟨ch,hc,hc2⟩:=a8b (xs:=("abcdefghijklmnopqrstuvwxyz0123456789" : Str).cps.toList) c0 (by omega)
 exists c5h (small (by decide +kernel)) hc ?_
 specialize a0c (a2e ?_)
 refine⟨(m:Int),rfl,by omega,by omega,fun D hD=>?_⟩
 rw[A3]
 obtain⟨nb,nc⟩:=B3.nb hD
 refine a8V (fun i ys H4=>∃cs:List Nat,ys=cs.map (fun k=>V.str (⟨#[k]⟩:Str))/\cs.length=i/\(∀c∈cs,c∈SGN.cps.toList)/\H4 D=some (.lst ys)/\Bag H4 b c/\E3 b H3 H4) ?_ ?_ ?_ ?_
 ·exact⟨[],rfl,rfl,by simp,c9,B3.new hD,E3.new hD⟩
 ·rintro i ys H4 ⟨_,_,_,_,h,_⟩
  exact h
 ·rintro i ys H4 hi ⟨cs,rfl,rfl,h1,hd,B4,k4⟩ R hR
  ext
  refine Q5 B4 (by decide) (by decide) fun j H5 j0 j1 B5 k5=>?_
  obtain⟨cj,hcj,hcj2⟩:=a8b (xs:=("abcdefghijklmnopqrstuvwxyz0123456789" : Str).cps.toList) j0 (by omega)
  refine c5h (small (by decide +kernel)) hcj ?_
  refine hR _ _ (k5.1 _ _ hd nb) (F8 (by rw[b9];omega)) ⟨cs++[cj],by simp,by simp,?_,c9,B5.put nb nc,(k4.trans k5).put hD⟩
  intro s hs
  rcases u4.mp hs with q | q
  ·exact h1 s q
  ·rw[l6.mp q]
   exact d3k _ (mI hcj2)
 ·rintro ys H4 ⟨cs,rfl,hn,h1,hd,B4,k4⟩
  ext
  have he:cs.map (fun k=>V.str (⟨#[k]⟩:Str))=(cs.map fun k=>(⟨#[k]⟩:Str)).map V.str:=by rw[X0];rfl
  rw[he]at hd
  have hsum:((cs.map fun k=>(⟨#[k]⟩:Str)).map (·.length)).sum=cs.length:=by
   clear hn hd he h1
   induction cs with
   | nil=>rfl
   | cons s r ih=>
    rw[J0,J0,List.sum_cons,ih,D5]
    show 1+_=_
    omega
  refine c9R hd (c0A _) ?_ ?_
  ·rw[hsum,b9]
   show cs.length+cs.length * 0<=_
   omega
  ·have hj:Txt.join (Str.ofString "") (cs.map fun k=>(⟨#[k]⟩:Str))=⟨cs.toArray⟩:=c1t cs
   rw[hj]
   have hN:=d2K (d3w n3.toNat (by omega) ch hc2) h1 (by omega)
   refine c5i (small ?_) ?_
   ·have:=hN.2
    rw[Str.length_append]at this
    omega
   ·exact k _ _ hN B4 (k03.trans k4)
def SS(ss:List Str):List (Key×V):=ss.map fun s=>(Sum.inr s,V.bl true)
def b5U(ss:List Str)(s:Str):List Str:=if(ss.any fun t=>decide (t=s))=true then ss else ss++[s]
theorem d1w(ss:List Str)(s:Str):a2P (SS ss) (Sum.inr s) (V.bl true)=SS (b5U ss s):=by
 have e:((SS ss).any fun kv=>decide (kv.1=Sum.inr s))=ss.any fun t=>decide (t=s):=by
  unfold SS
  rw[d3b]
  congr 1
  funext t
  show decide ((Sum.inr t:Key)=Sum.inr s)=decide (t=s)
  by_cases h:t=s
  ·subst h;simp
  ·rw[d5k h,d5k fun z=>h (Sum.inr.inj z)]
 unfold a2P b5U
 rw[e]
 split
 ·unfold SS
  rw[X0]
  apply a3V
  intro t _
  show(if(Sum.inr t:Key)=Sum.inr s then ((Sum.inr t:Key),V.bl true)else (Sum.inr t,V.bl true))=_
  split <;> rfl
 ·unfold SS
  rw[E1];rfl
theorem c5V{ss:List Str}{s t:Str}(h:t∈b5U ss s):t∈ss\/t=s:=by
 unfold b5U at h
 split at h
 ·exact .inl h
 ·exact(u4.mp h).imp id l6.mp
theorem c5Y(ss:List Str)(s:Str):ss.length<=(b5U ss s).length/\(b5U ss s).length<=ss.length+1:=by
 unfold b5U
 split
 ·omega
 ·simp
theorem c8g(ss:List Str)(s:Str):b5U ss s≠[]:=by
 unfold b5U
 split
 ·rename_i h
  intro z
  rw[z]at h
  cases h
 ·simp
theorem c5S{K:Fg}{c:Addr}{E:XK}(hB:Bag H b c)(k:∀a H',a6Z H' a->Bag H' b c->E3 b H H'->H a=none->Q (.ref a) H'):b0R K [.ref b] H Q E:=by
 refine⟨rfl,?_⟩
 unfold c1V
 nofun
 refine b7w fun d H1 hd e1 s1=>?_
 obtain⟨nb,nc⟩:=hB.nb hd
 ext
 exact_mod_cast M9 ?_
 specialize a1o (a2e ?_)
 exists Q5 (hB.same s1) (by decide) (by decide) fun n2 H2 b0 b1 B2 k2=>?_
 refine⟨3+n2,rfl,by omega,by omega,?_⟩
 refine a1k (fun i σ H3=>∃y2 ss,σ=[some (.ref b),some (.ref d),y2]/\H3 d=some (.dK (SS ss))/\ss.length<=i/\(0<i->ss≠[])/\(∀s∈ss,NmS s)/\Bag H3 b c/\E3 b H H3) ⟨_,[],rfl,k2.1 _ _ e1 nb,by simp,by simp,(fun s hs=>by cases hs),B2,(E3.of_same s1).trans k2⟩ ?_ ?_
 ·rintro i _ H3 hi ⟨y2,ss,rfl,e3,l3,n3,m3,B3,k3⟩
  rw[a0a]
  ext
  specialize a7J ?_
  refine c8j B3 fun s H4 hs B4 k4=>?_
  have e4:=k4.1 _ _ e3 nb
  refine⟨d,_,rfl,b6k.k (k:=Sum.inr s) e4 (F8 (by unfold SS;rw[b9];omega)),?_⟩
  have l4:=c5Y ss s
  exact⟨_,b5U ss s,rfl,by rw[c9,d1w],by omega,fun _=>c8g ss s,fun t ht=>(c5V ht).elim (m3 t) fun z=>z ▸ hs,B4.put nb nc,(k3.trans k4).put hd⟩
 ·rintro _ H3 ⟨y2,ss,rfl,e3,l3,n3,m3,B3,k3⟩
  ext
  unfold a4n
  simp only[e3]
  intro l hl
  have el:(SS ss).map (fun kv=>kV kv.1)=ss.map V.str:=by unfold SS;rw[X0];rfl
  rw[el]
  have s4:j5 H3 (upd H3 l (.lst (ss.map V.str))):=A0 hl
  exact k l _ ⟨ss,c9,n3 (by omega),by omega,m3⟩ (B3.same s4) (k3.trans (E3.of_same s4)) (k3.none hl)
theorem a6c{K:Fg}{c:Addr}{E:XK}(hB:Bag H b c)(hN:a6Z H a)(k:∀v H',OpN v->Bag H' b c->E3 b H H'->Q v H'):a2u K [.ref b,.ref a] H Q E:=by
 refine⟨rfl,?_⟩
 unfold b6t
 nofun
 exists Q5 hB (by decide) (by decide) fun n1 H1 a0 a1 B1 k1=>?_
 refine a3f (fun _=>?_) (fun _=>?_)
 ·ext
  obtain⟨N1,ne⟩:=hN.kept hB k1
  obtain⟨ss,h1,h2,h3,h4⟩:=N1.ex
  exists O5 h1 ?_
  have hl:0<ss.length:=b1C.mpr h2
  refine Q5 B1 (by rw[b9];omega) (by rw[b9];omega) fun n2 H2 b0 b1 B2 k2=>?_
  obtain⟨v,hv,hv2⟩:=a8b (xs:=ss.map V.str) b0 b1
  obtain⟨s,hs,rfl⟩:=E7.mp (mI hv2)
  exact O1 (k2.1 _ _ h1 ne) hv (k _ _ (.inl ⟨s,rfl,h4 s hs⟩) B2 (k1.trans k2))
 ext
 nofun
 exists Q5 B1 (by decide) (by decide) fun n2 H2 b0 b1 B2 k2=>?_
 have k02:=k1.trans k2
 nofun
 refine a3f (fun _=>?_) (fun _=>?_)
 ·ext
  exact k _ _ (.inr ⟨n2,rfl,by omega,by omega⟩) B2 k02
 ext
 nofun
 refine a3f (fun _=>?_) (fun _=>?_)
 ·ext
  exact k _ _ (.inr ⟨_,rfl,by decide,by decide⟩) B2 k02
 ext
 refine Q5 B2 (by decide) (by decide) fun n3 H3 c0 c1 B3 k3=>?_
 exact k _ _ (.inr ⟨n3,rfl,by omega,by omega⟩) B3 (k02.trans k3)
theorem c2p{K:Fg}{c:Addr}{E:XK}(hB:Bag H b c)(hN:a6Z H a)(k:∀p H',a6i H' p->H p=none->Bag H' b c->E3 b H H'->Q (.ref p) H'):b0T K [.ref b,.ref a] H Q E:=by
 refine⟨rfl,?_⟩
 unfold c4R
 nofun
 exists G9 (by decide) fun p G hp e s=>?_
 refine Q5 (hB.same s) (by decide) (by decide) fun n1 H1 a0 a1 B1 k1=>?_
 have hp1:=k1.1 p _ e (hB.nb hp).1
 have k01:E3 b H H1:=(E3.of_same s).trans k1
 obtain⟨v,hv,hv2⟩:=a8b (xs:=([.str "plus",.str "minus",.str "times",.str "less",.str "same"]:List V)) a0 (by simpa using a1)
 refine O1 hp1 hv ?_
 have:∃kd:Str,v=.str kd/\kd∈(["plus","minus","times","less","same"]:List Str):=by
  have m:=mI hv2
  simp only[u5,Q7,or_false]at m
  rcases m with rfl | rfl | rfl | rfl | rfl <;> exact⟨_,rfl,by simp⟩
 obtain⟨kd,rfl,hkd⟩:=this
 ext
 obtain⟨N1,_⟩:=hN.kept hB k01
 exists a6c B1 N1 fun v1 H2 o1 B2 k2=>?_
 obtain⟨N2,_⟩:=N1.kept B1 k2
 exists a6c B2 N2 fun v2 H3 o2 B3 k3=>?_
 refine G9 (by simp) fun q G hq e s=>?_
 exact k q _ ⟨kd,v1,v2,e,o1,o2,hkd⟩ (k01.none (k2.none (k3.none hq))) (B3.same s) (((k01.trans k2).trans k3).trans (E3.of_same s))
theorem c9O{K:Fg}{c:Addr}{E:XK}(hB:Bag H b c)(hN:a6Z H a)(hP:b1y H p)(k:∀v H',b5t H' v false->Bag H' b c->E3 b H H'->Q v H'):b7i K [.ref b,.ref a,.ref p] H Q E:=by
 refine⟨rfl,?_⟩
 unfold c8V
 nofun
 exists Q5 hB (by decide) (by decide) fun w H1 w0 w1 B1 k1=>?_
 nofun
 obtain⟨N1,na⟩:=hN.kept hB k1
 have P1:=hP.kept hB k1
 obtain⟨ss,s1,s2,s3,s4⟩:=N1.ex
 exists O5 s1 ?_
 refine c2f B1 s1 na (by simpa using s2) (by rw[b9];omega) fun n v H2 e1 e2 a2 B2 k2=>?_
 refine O1 a2 e1 ?_
 obtain⟨s,hs,rfl⟩:=E7.mp e2
 have ns:=s4 s hs
 ext
 obtain⟨N2,_⟩:=N1.kept B1 k2
 have P2:=P1.kept B1 k2
 have k02:=k1.trans k2
 nofun
 refine a3f (fun _=>?_) (fun _=>?_)
 ·obtain⟨ps,p1,p2,p3,p4⟩:=P2.ex
  ext
  exists O5 p1 ?_
  refine c2f B2 p1 (a0x B2 p1) (by simpa using p2) (by rw[b9];omega) fun n v H3 f1 f2 a3 B3 k3=>?_
  refine O1 a3 f1 ?_
  obtain⟨d,hd,rfl⟩:=E7.mp f2
  have hd3:=(p4 d hd).ts (E3.ts k3 B2)
  ext
  refine G9 (by simp) fun q G hq e s=>?_
  exact k _ _ ⟨q,_,rfl,e,.set _ d ns (hd3.ts (j5.ts s)),_,_,rfl,by decide⟩ (B3.same s) ((k02.trans k3).trans (E3.of_same s))
 ext
 nofun
 refine a3f (fun _=>?_) (fun _=>?_)
 ·ext
  exists a6c B2 N2 fun v H3 o1 B3 k3=>?_
  refine G9 (by simp) fun q G hq e s=>?_
  exact k _ _ ⟨q,_,rfl,e,.copy _ v ns o1,_,_,rfl,by decide⟩ (B3.same s) ((k02.trans k3).trans (E3.of_same s))
 ext
 nofun
 refine a3f (fun _=>?_) (fun _=>?_)
 ·ext
  refine G9 (by simp) fun q G hq e s=>?_
  exact k _ _ ⟨q,_,rfl,e,.take _ ns,_,_,rfl,by decide⟩ (B2.same s) (k02.trans (E3.of_same s))
 ext
 exists a6c B2 N2 fun v H3 o1 B3 k3=>?_
 exists G9 (by simp) fun q1 G1 hq1 e1 s1=>?_
 exists G9 (by simp) fun q2 G2 hq2 e2 s2=>?_
 exists G9 (by simp) fun q3 G3 hq3 e3 s3=>?_
 have B1':=B3.same s1
 have B2':=B1'.same s2
 refine Q5 (B2'.same s3) (by decide) (by decide) fun j H4 j0 j1 B4 k4=>?_
 obtain⟨x,hx,hx2⟩:=a8b (xs:=[V.ref q1,V.ref q2]) j0 (by simpa using j1)
 refine O1 (k4.1 _ _ e3 (B2'.nb hq3).1) hx ?_
 have kk:E3 b H H4:=((k02.trans k3).trans (E3.of_same ((s1.trans s2).trans s3))).trans k4
 have f1:H4 q1=_:=k4.1 _ _ (s3 _ _ (s2 _ _ e1)) (B3.nb hq1).1
 have f2:H4 q2=_:=k4.1 _ _ (s3 _ _ e2) (B1'.nb hq2).1
 have m:=mI hx2
 simp only[u5,Q7,or_false]at m
 rcases m with rfl | rfl
 ·exact k _ _ ⟨q1,_,rfl,f1,.tell v o1,_,_,rfl,by decide⟩ B4 kk
 ·exact k _ _ ⟨q2,_,rfl,f2,.skip,_,_,rfl,by decide⟩ B4 kk
theorem d2Q(ss:List Str):a8U (ss.map V.str) none (some 2)=(ss.take 2).map V.str:=by
 unfold a8U
 have e1:HT.sIx (ss.map V.str).length 0 none=0:=rfl
 have e2:HT.sIx (ss.map V.str).length (ss.map V.str).length (some 2)=min 2 ss.length:=by
  rw[b9]
  show(if(2:Int)<0 then ((2:Int)+(ss.length:Int)).toNat else min (2:Int).toNat ss.length)=min 2 ss.length
  rw[if_neg (by decide)];rfl
 rw[e1,e2,d1K,Nat.sub_zero]
 by_cases h:2<=ss.length
 ·rw[Nat.min_eq_left h,List.map_take]
 ·rw[Nat.min_eq_right (by omega),a1e (by rw[b9];omega),a1e (by omega)]
theorem a6Z.two{H:Hp}{a q:Addr}{ss:List Str}(h1:H' q=some (.lst ((ss.take 2).map V.str)))(h2:ss≠[])(h3:ss.length<=8)(h4:∀s∈ss,NmS s):a6Z H' q:=by
 have:=b1C.mpr h2
 exact⟨ss.take 2,h1,by
  intro z
  have:=congrArg b6m z
  rw[D8,a6k]at this
  omega,by rw[D8];omega,fun s hs=>h4 s (c4l hs)⟩
theorem c7B{K:Fg}{c:Addr}{E:XK}(hB:Bag H b c)
  (k:∀p ra na da N H',H' p=some (.tup [.ref ra,.ref na,.ref da])->a0E H' ra N->L8 H' na N->b1y H' da->a1a N->N.length<=24->ra≠da->na≠da->Bag H' b c->E3 b H H'->Q (.ref p) H'):b3z K [.ref b] H Q E:=by
 refine⟨rfl,?_⟩
 unfold c4M
 nofun
 exists Q5 hB (by decide) (by decide) fun n0 H0 a0 a1 B0 k0=>?_
 obtain⟨lg,hlg⟩:∃lg:Bool,lg=decide (V.int n0=V.int 0):=⟨_,rfl⟩
 rw[<-hlg]
 nofun
 refine Q5 B0 (by decide) (by decide) fun n1 H1 b0 b1 B1 k1=>?_
 obtain⟨n1,rfl⟩:=a4F b0
 ext
 have k01:=k0.trans k1
 exact_mod_cast a6x (P:=fun σ H2=>∃m:Nat,σ=[some (.ref b),some (.bl lg),some (.int (m:Int)),none,none,none,none,none,none]/\0<m/\m<=24/\Bag H2 b c/\E3 b H H2) ?_ ?_
 rotate_left
 ·intro nx hnx
  ext
  refine a3f (fun _=>?_) (fun _=>?_)
  ·ext
   refine Q5 B1 (by decide) (by decide) fun n2 H2 c0 c1 B2 k2=>?_
   obtain⟨n2,rfl⟩:=a4F c0
   ext
   exact hnx _ _ ⟨15+n2,rfl,by omega,by omega,B2,k01.trans k2⟩
  ·ext
   exact hnx _ _ ⟨1+n1,rfl,by omega,by omega,B1,k01⟩
 rintro _ H2 ⟨m,rfl,m0,m1,B2,k2⟩
 nofun
 exists d0T B2 m0 m1 fun a N0 H3 n3 l3 s3 z3 B3 k3=>?_
 exists c3p n3 (by omega) (by omega) (by rw[l3];exact s3) (by rw[l3];exact z3) fun na N H4 n4 v4 lN s4=>?_
 have B4:=B3.same s4
 have k4:E3 b H H4:=(k2.trans k3).trans (E3.of_same s4)
 nofun
 exists c5S B4 fun sa H5 N5 B5 k5 hsa=>?_
 have k05:=k4.trans k5
 have n5:=n4.kept B4 v4.two k5
 obtain⟨ss,t1,t2,t3,t4⟩:=id N5.ex
 nofun
 exists G9 (by simp) fun D H6 hD e6 s6=>?_
 obtain⟨nb,nc⟩:=B5.nb hD
 have nsD:sa≠D:=c8 t1 hD
 obtain⟨as5,q5,_,_⟩:=id n5.ex
 have nnaD:na≠D:=c8 q5 hD
 have hD0:H D=none:=k05.none hD
 exact_mod_cast M9 ?_
 specialize a1o (a2e ?_)
 exists Q5 (B5.same s6) (by decide) (by decide) fun n6 H6' d0 d1 B6' k6'=>?_
 refine⟨1+n6,rfl,by omega,by omega,?_⟩
 refine a1k (fun i σ H7=>∃y6 ps,σ=[some (.ref b),some (.bl lg),some (.int (m:Int)),some (.ref na),some (.ref sa),some (.ref D),y6,none,none]/\(ps:List Addr).length=i/\(∀p∈ps,a6i H7 p)/\H7 D=some (.lst (ps.map V.ref))/\Bag H7 b c/\E3 b H5 H7) ⟨_,[],rfl,rfl,(fun p hp=>by cases hp),k6'.1 _ _ e6 nb,B6',(E3.of_same s6).trans k6'⟩ ?_ ?_
 ·rintro i _ H7 hi ⟨y6,ps,rfl,lp,hp,hD7,B7,k7⟩
  rw[a0a]
  ext
  specialize a7o ?_
  exists ⟨a0g hD7,?_⟩
  have t7:H7 sa=some (.lst (ss.map V.str)):=k7.1 _ _ t1 (N5.kept B5 (E3.refl _ _)).2
  refine c9e t7 fun q H8 hq e8 s8=>?_
  rw[d2Q]at e8
  ext
  exists c2p (B7.same s8) (a6Z.two (H:=H8) (a:=sa) e8 t2 t3 t4) fun p H9 hd9 _ B9 k9=>?_
  have hD9:=k9.1 _ _ (s8 _ _ hD7) nb
  refine a0q hD9 (F8 (by rw[b9];omega)) ?_
  refine⟨_,ps++[p],rfl,by simp[lp],fun q' hq'=>?_,by rw[c9];simp,B9.put nb nc,((k7.trans (E3.of_same s8)).trans k9).put hD⟩
  rcases u4.mp hq' with z | z
  ·exact(((hp q' z).ts (j5.ts s8)).ts (E3.ts k9 (B7.same s8))).ts (D9.put hD9)
  ·rw[l6.mp z];exact hd9.ts (D9.put hD9)
 rintro _ H9 ⟨y6,ps,rfl,lp,hp,hD9,B9,k9⟩
 have P9:b1y H9 D:=⟨ps,hD9,by intro z;subst z;simp at lp;omega,by omega,hp⟩
 have n9:=n5.kept B5 v4.two k9
 obtain⟨N9,nsb⟩:=N5.kept B5 k9
 have k09:E3 b H H9:=k05.trans k9
 nofun
 exists G9 (by simp) fun R' H10 hR' e10 s10=>?_
 have B10:=B9.same s10
 obtain⟨rb,rc⟩:=B9.nb hR'
 have nRD:R'≠D:=(c8 hD9 hR').symm
 exact_mod_cast M9 ?_
 specialize a1o (Z6 ?_)
 obtain⟨as,q1,q2,q3⟩:=id n9.ex
 refine⟨na,rfl,⟨_,SqL.of (s10 _ _ q1)⟩,a4u (xs:=as.map V.ref) (fun i σ H11=>∃y8 rs,σ=[some (.ref b),some (.bl lg),some (.int (m:Int)),some (.ref na),some (.ref sa),some (.ref D),y6,some (.ref R'),y8]/\(rs:List Addr).length=i/\(∀(j:Nat) x l,rs[j]? = some x->N[j]? = some l->b5t H11 (.ref x) (l.length == 2))/\H11 R'=some (.lst (rs.map V.ref))/\Bag H11 b c/\E3 b H9 H11) ?_ ?_ ?_ ?_⟩
 ·exact⟨_,[],rfl,rfl,by simp,e10,B10,E3.of_same s10⟩
 ·rintro i σ H11 _ ⟨_,_,_,_,_,_,_,k11⟩
  exact SqL.of (k11.1 _ _ q1 (a0x B9 q1))
 ·rintro i x _ H11 hx ⟨y8,rs,rfl,lr,hr,hR11,B11,k11⟩
  rw[b6]at hx
  obtain⟨xa,hxa,rfl⟩:=z8.mp hx
  have hi:i<N.length:=by rw[<-q2];exact(gI hxa)
  have hx9:=q3 i xa _ hxa (Q3 hi)
  have hx11:=k11.1 _ _ hx9 (b4r B9 hx9 (by rw[F3];have:=v4.two _ (M3 hi);omega))
  have P11:=P9.kept B9 k11
  obtain⟨N11,_⟩:=N9.kept B9 k11
  ext
  exists O5 hx11 ?_
  rw[F3]
  by_cases h2:N[i].length=2
  ·exists C6 (d5l (by rw[h2];rfl)) ?_
   specialize a7o ?_
   exists ⟨a0g hR11,?_⟩
   exists a6c B11 N11 fun v H12 o12 B12 k12=>?_
   exists G9 (by simp) fun q H13 hq e13 s13=>?_
   have hR13:=s13 _ _ (k12.1 _ _ hR11 rb)
   have r13:b5t H13 (.ref q) (N[i].length == 2):=⟨q,_,rfl,e13,.ask v o12,_,_,rfl,by rw[h2];decide⟩
   refine a0q hR13 (F8 (by rw[b9];omega)) ?_
   refine⟨_,rs++[q],rfl,by simp[lr],fun j y l g1 g2=>?_,by rw[c9];simp,(B12.same s13).put rb rc,((k11.trans k12).trans (E3.of_same s13)).put hR'⟩
   rcases a0C g1 with ⟨_,f1⟩ | ⟨hj,f1⟩
   ·exact(((hr j y l f1 g2).ts (E3.ts k12 B11)).ts (j5.ts s13)).ts (D9.put hR13)
   ·rw[hj,lr,Q3 hi]at g2
    cases g2
    subst f1
    exact r13.ts (D9.put hR13)
  ·exists v9 (d5k (by intro z;have:=V.int.inj z;omega)) ?_
   specialize a7o ?_
   exists ⟨a0g hR11,?_⟩
   refine c9O B11 N11 P11 fun v H12 r12 B12 k12=>?_
   obtain⟨pv,xv,rfl,_⟩:=id r12
   ext
   have hR12:=k12.1 _ _ hR11 rb
   have hm2:(N[i].length == 2)=false:=by simpa using h2
   refine a0q hR12 (F8 (by rw[b9];omega)) ?_
   refine⟨_,rs++[pv],rfl,by simp[lr],fun j y l g1 g2=>?_,by rw[c9];simp,B12.put rb rc,(k11.trans k12).put hR'⟩
   rcases a0C g1 with ⟨_,f1⟩ | ⟨hj,f1⟩
   ·exact((hr j y l f1 g2).ts (E3.ts k12 B11)).ts (D9.put hR12)
   ·rw[hj,lr,Q3 hi]at g2
    cases g2
    subst f1
    rw[hm2]
    exact r12.ts (D9.put hR12)
 ·rintro _ H11 ⟨y8,rs,rfl,lr,hr,hR11,B11,k11⟩
  rw[b9]at lr
  ext
  refine G9 (by simp) fun p H12 hp12 e12 s12=>?_
  exact k p R' na D N H12 e12 ((⟨rs,hR11,by rw[lr,q2],hr⟩:a0E H11 R' N).same s12) ((n9.kept B9 v4.two k11).same s12) ((P9.kept B9 k11).same s12) v4 lN nRD nnaD (B11.same s12) ((k09.trans k11).trans (E3.of_same s12))
theorem big(h:n<=1000000):n<=u9:=D4 h (by rw[a7v];decide)
theorem b3s{K:Fg}{E:XK}(ha:H a=some (.lst xs))(h1:1<=xs.length)(h2:xs.length<=400)(k:Q .non H):a1j K [.ref a,.int 0,.int 1] H Q E:=by
 refine⟨rfl,?_⟩
 unfold a5Q
 nofun
 exists a6A (s := "list") (by simp only[a5n,ha]) (by decide) ?_
 exists v9 (by decide) ?_
 exists O5 ha ?_
 exists v9 (d5k (by omega)) ?_
 exists O5 ha ?_
 exists v9 (d5k (by omega)) ?_
 exact k
theorem a6Y{K:Fg}{E:XK}(ha:H a=some (.lst (E5 n (V.bl true))))(k:∀H',j5 H H'->Q .non H'):a2b K [.ref a] H Q E:=by
 refine⟨rfl,?_⟩
 unfold b0K
 specialize a1o (a6w ?_)
 refine⟨a,rfl,⟨_,SqL.of ha⟩,?_⟩
 refine b2X n (fun i σ H2=>∃x1 x2,σ=[some (.ref a),x1,x2]/\j5 H H2) ⟨_,_,rfl,j5.refl _⟩ ?_ ?_ ?_
 ·rintro _ H2 ⟨x1,x2,rfl,s2⟩
  exact⟨⟨_,SqL.of (s2 _ _ ha),by simp⟩,k H2 s2⟩
 ·rintro i _ H2 hi ⟨x1,x2,rfl,s2⟩
  exact⟨_,V.bl true,SqL.of (s2 _ _ ha),by rw[X4,if_pos hi]⟩
 ·rintro i _ H2 hi ⟨x1,x2,rfl,s2⟩ x H3 ⟨p,y,hp,rfl,rfl,hy⟩
  have hy:=hy _ (SqL.of (s2 _ _ ha))
  rw[X4,if_pos hi]at hy
  cases hy
  exists a7I (SqT.of c9) ?_
  exists v9 rfl ?_
  exact⟨_,_,rfl,s2.trans (A0 hp)⟩
theorem b0H(n:Nat):E5 n (V.bl true)++[V.bl true]=E5 (n+1) (V.bl true):=by
 rw[b0w]
theorem d0Y(h:n=0\/n=1):inV (.int (n:Int)) [.int 0,.int 1]=true:=by
 rcases h with rfl | rfl <;> decide
theorem b8k{K:Fg}{x:Addr}{E:XK}(hv:b5t H v (l.length == 2))(hx:H x=some (.lst (IL l)))(h2:l.length<=2)(hlt:∀t∈l,t<m)(k:∀H',j5 H H'->Q (.bl true) H') :
  a5B K [v,.ref x,.int (m:Int)] H Q E:=by
 obtain⟨p,xs,rfl,hp,_,kd,r,rfl,hk⟩:=hv
 refine⟨rfl,?_⟩
 unfold b2O
 nofun
 exists a6A (s := "list") (by simp only[a5n,hx]) (by decide) ?_
 exists v9 (by decide) ?_
 exact_mod_cast a6x (P:=fun σ H1=>∃w ws,σ=[some (.ref p),some (.ref x),some (.int (m:Int)),some (.ref w)]/\H1 w=some (.tup ws)/\ws.all X1=true/\inV (.int (l.length:Int)) ws=true/\j5 H H1) ?_ ?_
 rotate_left
 ·intro nx hnx
  ext
  exists a0e hp (a3g _ _) ?_
  by_cases e:kd = "ask"
  ·exists C6 (d5l (by rw[e])) ?_
   refine G9 (by simp) fun w H1 hw e1 s1=>?_
   rw[d5l e]at hk
   have:l.length=2:=by simpa using hk.symm
   exact hnx _ _ ⟨w,_,rfl,e1,rfl,by rw[this];decide,s1⟩
  ·exists v9 (d5k (fun z=>e (V.str.inj z))) ?_
   refine G9 (by simp) fun w H1 hw e1 s1=>?_
   rw[d5k e]at hk
   have:¬l.length=2:=by
    intro z
    rw[z]at hk
    exact absurd hk (by decide)
   exact hnx _ _ ⟨w,_,rfl,e1,rfl,d0Y (by omega),s1⟩
 rintro _ H1 ⟨w,ws,rfl,hw,fw,iw,s1⟩
 ext
 exists O5 (s1 _ _ hx) ?_
 rw[F3]
 refine b6y hw rfl fw ?_
 exists ⟨_,rfl,C6 iw ?_⟩
 specialize a0c (Z6 ?_)
 refine⟨x,rfl,⟨_,SqL.of (s1 _ _ hx)⟩,fun D hD=>?_⟩
 refine a0G (xs:=IL l) (fun i ys H2=>ys=E5 i (V.bl true)/\H2 D=some (.lst ys)/\j5 H1 H2) ⟨rfl,c9,A0 hD⟩ ?_ ?_ ?_ ?_
 ·rintro i ys H2 ⟨_,h,_⟩
  exact h
 ·rintro i ys H2 _ ⟨_,_,s2⟩
  exact SqL.of (s2 _ _ (s1 _ _ hx))
 ·rintro i y ys H2 hy ⟨rfl,hD2,s2⟩ R hR
  have hy:(l.map fun(n:Nat)=>V.int (n:Int))[i]? = some y:=hy
  rw[b6]at hy
  cases ht:l[i]? with
  | none=>rw[ht]at hy;cases hy
  | some t=>
   rw[ht]at hy
   cases hy
   have hi:=(gI ht)
   have:=hlt t (mI ht)
   ext
   refine b1m (by omega) (by omega) ?_
   refine hR _ _ hD2 (F8 (by rw[L1];omega)) ⟨b0H i,c9,fun b o e=>?_⟩
   rw[i9 (c8 e hD)];exact s2 _ _ e
 ·rintro ys H2 ⟨rfl,hD2,s2⟩
  ext
  have e:E5 (IL l).length (V.bl true)=(E5 l.length true).map V.bl:=by rw[F3];simp
  rw[e]at hD2
  refine c9g hD2 ?_
  have:(E5 l.length true).all id=true:=by simp
  rw[this]
  exact k H2 (s1.trans s2)
theorem b5m{K:Fg}{E:XK}(hr:a0E H ra N)(hn:L8 H na N)(h400:N.length<=400)(h2:∀l∈N,l.length<=2)(hlt:∀l∈N,∀t∈l,t<N.length)(k:∀H',j5 H H'->Q .non H') :
  a4g K [.ref ra,.ref na] H Q E:=by
 obtain⟨rs,r1,r2,r3⟩:=id hr.ex
 obtain⟨as,a1,a2,a3⟩:=id hn.ex
 refine⟨rfl,?_⟩
 unfold a9E
 nofun
 exists a6A (s := "list") (by simp only[a5n,a1]) (by decide) ?_
 exists v9 (by decide) ?_
 exists O5 a1 ?_
 exists O5 r1 ?_
 exists v9 (by rw[b9,b9,r2,a2];simp) ?_
 specialize b7x (c5c ?_)
 refine⟨ra,na,rfl,⟨_,SqL.of r1⟩,⟨_,SqL.of a1⟩,fun D hD=>?_⟩
 refine c1B N.length (fun i ys H2=>ys=E5 i (V.bl true)/\H2 D=some (.lst ys)/\j5 H H2) ⟨rfl,c9,A0 hD⟩ ?_ ?_ ?_ ?_
 ·rintro i ys H2 ⟨_,h,_⟩
  exact h
 ·rintro ys H2 ⟨rfl,hD2,s2⟩
  exists ⟨⟨_,_,SqL.of (s2 _ _ r1),SqL.of (s2 _ _ a1),.inl (by rw[b9,r2];exact j6 _)⟩,?_⟩
  exact a6Y hD2 fun H3 s3=>k H3 (s2.trans s3)
 ·rintro i ys H2 hi ⟨_,_,s2⟩
  have e1:rs[i]? = some (rs[i]'(by omega)):=by simp[r2,hi]
  have e2:as[i]? = some (as[i]'(by omega)):=by simp[a2,hi]
  exact⟨_,_,_,_,SqL.of (s2 _ _ r1),SqL.of (s2 _ _ a1),by rw[b6,e1];rfl,by rw[b6,e2];rfl⟩
 ·rintro i ys H2 hi ⟨rfl,hD2,s2⟩ x H3 ⟨p,y1,y2,hp,rfl,rfl,g1,g2⟩
  obtain⟨rx,e1⟩:∃rx,rs[i]? = some rx:=⟨_,c7 (by omega)⟩
  obtain⟨ax,e2⟩:∃ax,as[i]? = some ax:=⟨_,c7 (by omega)⟩
  have g1:=g1 _ (SqL.of (s2 _ _ r1))
  have g2:=g2 _ (SqL.of (s2 _ _ a1))
  rw[b6,e1]at g1
  rw[b6,e2]at g2
  cases g1
  cases g2
  refine⟨p,_,_,rfl,SqT.of c9,fun R S hR hS=>?_⟩
  have s3:j5 H2 (upd H2 p (.tup [V.ref rx,V.ref ax])):=A0 hp
  obtain⟨H3,hH3⟩:∃H3,H3=upd H2 p (.tup [V.ref rx,V.ref ax]):=⟨_,rfl⟩
  rw[<-hH3]at s3 ⊢
  ext
  exists C6 rfl ?_
  have s03:=s2.trans s3
  exists O5 (s03 _ _ r1) ?_
  have hl:=Q3 hi
  rw[b9,r2]
  refine b8k ((r3 i _ _ e1 hl).ts (j5.ts s03)) (s03 _ _ (a3 i _ _ e2 hl)) (h2 _ (M3 hi)) (hlt _ (M3 hi)) fun H4 s4=>?_
  refine hR _ _ (s4 _ _ (s3 _ _ hD2)) (F8 (by rw[L1];omega)) ⟨b0H i,c9,fun b o e=>?_⟩
  rw[i9 (c8 e hD)];exact s4 _ _ (s03 _ _ e)
def a8R(N:Nt)(k:Nat):Bool:=(N.getD k []).isEmpty
def b7f(N:Nt):List Nat:=(t8 N.length).filter (a8R N)
theorem c3q{k:Nat}(h:N[k]? = some []):k∈b7f N:=by
 refine L9.mpr ⟨Z8.mpr (gI h),?_⟩
 unfold a8R
 simp[Q1,h]
theorem b8R{K:Fg}{E:XK}(hn:L8 H na N)(h400:N.length<=400)(k:∀a H',H a=none->H' a=some (.lst (IL (b7f N)))->j5 H H'->Q (.ref a) H'):a6t K [.ref na] H Q E:=by
 obtain⟨as,a1,a2,a3⟩:=id hn.ex
 refine⟨rfl,?_⟩
 unfold b4g
 ext
 specialize b7x (a6w ?_)
 refine⟨na,rfl,⟨_,SqL.of a1⟩,fun D hD=>?_⟩
 refine c1B N.length (fun i ys H2=>ys=IL ((t8 i).filter (a8R N))/\H2 D=some (.lst ys)/\j5 H H2) ⟨rfl,c9,A0 hD⟩ ?_ ?_ ?_ ?_
 ·rintro i ys H2 ⟨_,h,_⟩
  exact h
 ·rintro ys H2 ⟨rfl,hD2,s2⟩
  exact⟨⟨_,SqL.of (s2 _ _ a1),by rw[b9,a2];exact j6 _⟩,k D H2 hD hD2 s2⟩
 ·rintro i ys H2 hi ⟨_,_,s2⟩
  exact⟨_,_,SqL.of (s2 _ _ a1),by rw[b6,c7 (show i<as.length by omega)];rfl⟩
 ·rintro i ys H2 hi ⟨rfl,hD2,s2⟩ x H3 ⟨p,y,hp,rfl,rfl,g1⟩
  obtain⟨ax,e1⟩:∃ax,as[i]? = some ax:=⟨_,c7 (by omega)⟩
  have g1:=g1 _ (SqL.of (s2 _ _ a1))
  rw[b6,e1]at g1
  cases g1
  refine⟨p,_,_,rfl,SqT.of c9,fun R S hR hS=>?_⟩
  have s3:j5 H2 (upd H2 p (.tup [V.int (i:Int),V.ref ax])):=A0 hp
  obtain⟨H3,hH3⟩:∃H3,H3=upd H2 p (.tup [V.int (i:Int),V.ref ax]):=⟨_,rfl⟩
  rw[<-hH3]at s3 ⊢
  have s03:=s2.trans s3
  have hl:=Q3 hi
  ext
  exists O5 (s03 _ _ (a3 i _ _ e1 hl)) ?_
  have hst:a8R N i=decide (V.int ((IL N[i]).length:Int)=V.int 0):=by
   rw[b9M,F3]
   unfold a8R
   simp only[Q1,hl,a5m]
   cases N[i] with
   | nil=>rfl
   | cons a r=>
    rw[List.isEmpty_cons,eq_comm,decide_eq_false_iff_not,D5]
    omega
  rw[<-hst]
  cases hb:a8R N i with
  | true=>
   exists C6 rfl ?_
   refine hR _ _ (s3 _ _ hD2) (F8 ?_) ⟨?_,c9,fun b o e=>?_⟩
   ·rw[F3]
    have:=o6 (a8R N) (t8 i)
    rw[R1]at this
    omega
   ·rw[a0d,N4]
    unfold IL
    rw[E1]
    congr 1
    simp[hb]
   ·rw[i9 (c8 e hD)];exact s03 _ _ e
  | false=>
   refine v9 rfl ?_
   refine hS _ ⟨?_,s3 _ _ hD2,s03⟩
   rw[a0d,N4]
   simp[hb]
theorem c9i{α:Type}{l:List α}(nd:l.Nodup){x:α}(h1:l[i]? = some x)(h2:l[j]? = some x):i=j:=
 (List.getElem?_inj (gI h1) nd).mp (h1.trans h2.symm)
structure a8X(H0 H:Hp)(a:Addr)(as:List Addr)(M:Nt):Prop where
 same:j5 H0 H
 h:H a=some (.lst (as.map V.ref))
 len:as.length=M.length
 nd:as.Nodup
 na:a∉as
 at_:∀(i:Nat) x l,as[i]? = some x->M[i]? = some l->H x=some (.lst (IL l))
 new:H0 a=none/\∀x∈as,H0 x=none
theorem a8X.next(h:a8X H0 H a as M)(s:j5 H H'):a8X H0 H' a as M:=
 ⟨h.same.trans s,s _ _ h.h,h.len,h.nd,h.na,fun i x l e1 e2=>s _ _ (h.at_ i x l e1 e2),h.new⟩
theorem a8X.add(h:a8X H0 H a as M){p:Nat}{x:Addr}(e1:as[t]? = some x)(e2:M[t]? = some l) :
  a8X H0 (upd H x (.lst (IL (l++[p])))) a as (M.set t (l++[p])):=by
 have hx:=mI e1
 have hxa:x≠a:=fun z=>h.na (z ▸ hx)
 refine⟨fun b o e=>by rw[i9 (c8 e (h.new.2 x hx))];exact h.same b o e,by rw[i9 hxa.symm];exact h.h,by rw[a4w];exact h.len,h.nd,h.na,fun i y l' f1 f2=>?_,h.new⟩
 by_cases e:i=t
 ·subst e
  rw[e1]at f1
  cases f1
  rw[U7 (gI e2)]at f2
  cases f2
  exact c9
 ·rw[X3 (Ne.symm e)]at f2
  have:y≠x:=by
   rintro rfl
   exact e (c9i h.nd f1 e1)
  rw[i9 this]
  exact h.at_ i y l' f1 f2
theorem a8X.net(h:a8X H0 H a as M):L8 H a M:=⟨as,h.h,h.len,h.at_⟩
theorem a8X.nil(n:H0 a=none)(s:j5 H0 H)(e:H a=some (.lst [])):a8X H0 H a [] []:=⟨s,e,rfl,by simp,by simp,by simp,n,by simp⟩
theorem a8X.snoc(h:a8X H0 H a as M)(hp:H p=none)(ep:H' p=some (.lst (IL [])))(s:j5 H H') :
  a8X H0 (upd H' a (.lst ((as++[p]).map V.ref))) a (as++[p]) (M++[[]]):=by
 have npa:p≠a:=(c8 h.h hp).symm
 have npas:p∉as:=fun z=>by
  obtain⟨i,hi⟩:=C0.mp z
  have hl:i<M.length:=by rw[<-h.len];exact(gI hi)
  have:=h.at_ i p _ hi (Q3 hl)
  rw[hp]at this
  cases this
 have fr0:H0 p=none:=h.same.free hp
 refine⟨fun b o e=>by rw[i9 (c8 e h.new.1)];exact s _ _ (h.same b o e),c9,by simp[h.len],?_,?_,fun i x l f1 f2=>?_,h.new.1,fun x hx=>?_⟩
 ·rw[a2U]
  exact⟨h.nd,by simp,fun x hx y hy=>by rw[l6.mp hy];intro z;exact npas (z ▸ hx)⟩
 ·intro z
  rcases u4.mp z with q | q
  ·exact h.na q
  ·exact npa (l6.mp q).symm
 ·rcases a0C f1 with ⟨hi,g1⟩ | ⟨hi,g1⟩
  ·rcases a0C f2 with ⟨hj,g2⟩ | ⟨hj,g2⟩
   ·have:x≠a:=fun z=>h.na (z ▸ mI g1)
    rw[i9 this]
    exact s _ _ (h.at_ i x l g1 g2)
   ·have:=h.len;omega
  ·rcases a0C f2 with ⟨hj,g2⟩ | ⟨hj,g2⟩
   ·have:=h.len;omega
   ·subst g1 g2
    rw[i9 npa]
    exact ep
 ·rcases u4.mp hx with q | q
  ·exact h.new.2 x q
  ·rw[l6.mp q];exact fr0
theorem c7a{u:Nat}{l':List Nat}(h:(M.set t l)[u]? = some l'):(u=t/\l'=l)\/(u≠t/\M[u]? = some l'):=by
 by_cases e:u=t
 ·subst e
  have hl:=(gI h)
  rw[a4w]at hl
  rw[U7 hl]at h
  exact .inl ⟨rfl,(Option.some.inj h).symm⟩
 ·rw[X3 (Ne.symm e)]at h
  exact .inr ⟨e,h⟩
theorem c2L{K:Fg}{E:XK}(hn:L8 H na N)(h400:N.length<=400)(h2:∀l∈N,l.length<=2)(hlt:∀l∈N,∀t∈l,t<N.length)
  (k:∀a M H',L8 H' a M->M.length=N.length->(∀(p:Nat) (l:List Nat),N[p]? = some l->∀t∈l,∃l',M[t]? = some l'/\p∈l')->(∀l∈M,l.length<=2 * N.length/\∀p∈l,p<N.length)->j5 H H'->Q (.ref a) H'):a9d K [.ref na] H Q E:=by
 obtain⟨ns,a1,a2,a3⟩:=id hn.ex
 refine⟨rfl,?_⟩
 unfold b8L
 exact_mod_cast M9 ?_
 specialize a0c (Z6 ?_)
 refine⟨na,rfl,⟨_,SqL.of a1⟩,fun A hA=>?_⟩
 refine a0G (xs:=ns.map V.ref) (fun i ys H2=>∃as,ys=as.map V.ref/\a8X H H2 A as (E5 i [])) ?_ ?_ ?_ ?_ ?_
 ·exact⟨[],rfl,.nil hA (A0 hA) c9⟩
 ·rintro i ys H2 ⟨as,rfl,I⟩
  exact I.h
 ·rintro i ys H2 _ ⟨as,rfl,I⟩
  exact SqL.of (I.same _ _ a1)
 ·rintro i x ys H2 hx ⟨as,rfl,I⟩ R hR
  have hi:i<N.length:=by
   have:=(gI hx)
   rw[b9,a2]at this
   exact this
  ext
  refine G9 (by simp) fun p H3 hp e3 s3=>?_
  have:=I.len
  rw[L1]at this
  refine hR _ _ (s3 _ _ I.h) (F8 (by rw[b9];omega)) ⟨as++[p],by simp,?_⟩
  have q:=I.snoc hp e3 s3
  rw[show E5 i ([]:List Nat)++[[]]=E5 (i+1) [] from by rw[b0w]]at q
  rw[show as.map V.ref++[V.ref p]=(as++[p]).map V.ref by simp]
  exact q
 rintro ys H2 ⟨as,rfl,I2⟩
 rw[b9,a2]at I2
 ext
 exact_mod_cast M9 ?_
 specialize a1o (a6w ?_)
 refine⟨na,rfl,⟨_,SqL.of (I2.same _ _ a1)⟩,?_⟩
 refine b2X N.length (fun i σ H3=>∃x2 x3 x4 M,σ=[some (.ref na),some (.ref A),x2,x3,x4]/\a8X H H3 A as M/\M.length=N.length/\(∀(p:Nat) (l:List Nat),p<i->N[p]? = some l->∀t∈l,∃l',M[t]? = some l'/\p∈l')/\(∀l∈M,l.length<=2 * i/\∀p∈l,p<N.length)) ?_ ?_ ?_ ?_
 ·exact⟨_,_,_,_,rfl,I2,by simp,by omega,fun l hl=>by rw[List.eq_of_mem_replicate hl];simp⟩
 ·rintro _ H3 ⟨x2,x3,x4,M,rfl,I3,lM,g1,g2⟩
  exists ⟨⟨_,SqL.of (I3.same _ _ a1),by rw[b9,a2];exact j6 _⟩,?_⟩
  exact k A M H3 I3.net lM (fun p l hl=>g1 p l (gI hl) hl) g2 I3.same
 ·rintro i _ H3 hi ⟨x2,x3,x4,M,rfl,I3,lM,g1,g2⟩
  exact⟨_,_,SqL.of (I3.same _ _ a1),by rw[b6,c7 (show i<ns.length by omega)];rfl⟩
 ·rintro i _ H3 hi ⟨x2,x3,x4,M,rfl,I3,lM,g1,g2⟩ x H4 ⟨p,y,hp,rfl,rfl,gy⟩
  obtain⟨nx,e1⟩:∃nx,ns[i]? = some nx:=⟨_,c7 (by omega)⟩
  have gy:=gy _ (SqL.of (I3.same _ _ a1))
  rw[b6,e1]at gy
  cases gy
  refine a7I (SqT.of c9) ?_
  have s4:j5 H3 (upd H3 p (.tup [V.int (i:Int),V.ref nx])):=A0 hp
  obtain⟨H4,hH4⟩:∃H4,H4=upd H3 p (.tup [V.int (i:Int),V.ref nx]):=⟨_,rfl⟩
  rw[<-hH4]at s4 ⊢
  have I4:=I3.next s4
  have hl:=Q3 hi
  obtain⟨l,hle⟩:∃l,l=N[i]:=⟨_,rfl⟩
  rw[<-hle]at hl
  have hx:H nx=some (.lst (IL l)):=a3 i nx l e1 hl
  have hll:=h2 l (mI hl)
  specialize a1o (Z6 ?_)
  refine⟨nx,rfl,⟨_,SqL.of (I4.same _ _ hx)⟩,a4u (xs:=IL l) (fun j σ H5=>∃x4 M',σ=[some (.ref na),some (.ref A),some (.int (i:Int)),some (.ref nx),x4]/\a8X H H5 A as M'/\M'.length=N.length/\(∀(p:Nat) (l:List Nat),p<i->N[p]? = some l->∀t∈l,∃l',M'[t]? = some l'/\p∈l')/\(∀t∈l.take j,∃l',M'[t]? = some l'/\i∈l')/\(∀l∈M',l.length<=2 * i+j/\∀p∈l,p<N.length)) ?_ ?_ ?_ ?_⟩
  ·exact⟨_,M,rfl,I4,lM,g1,by simp,g2⟩
  ·rintro j σ H5 _ ⟨_,_,_,I5,_⟩
   exact SqL.of (I5.same _ _ hx)
  ·rintro j y _ H5 hy ⟨x4,M',rfl,I5,lM',c1,c2,c3⟩
   have hy:(l.map fun(n:Nat)=>V.int (n:Int))[j]? = some y:=hy
   rw[b6]at hy
   cases ht:l[j]? with
   | none=>rw[ht]at hy;cases hy
   | some t=>
    rw[ht]at hy
    cases hy
    have tm:=mI ht
    have hj:=(gI ht)
    have htn:t<N.length:=hlt l (mI hl) t tm
    ext
    obtain⟨z,hz⟩:∃z,as[t]? = some z:=⟨_,c7 (by have:=I5.len;omega)⟩
    have hMt:=Q3 (show t<M'.length by omega)
    have hMz:=I5.at_ t z _ hz hMt
    specialize a7o ?_
    refine O1 I5.h (a0z (by rw[b6,hz];rfl)) ?_
    exists ⟨a0g hMz,?_⟩
    have hb:=c3 _ (M3 (show t<M'.length by omega))
    refine a0q hMz (F8 (by rw[F3];omega)) ?_
    refine⟨_,M'.set t (M'[t]++[i]),rfl,?_,by rw[a4w];exact lM',?_,?_,?_⟩
    ·have:=I5.add (p:=i) hz hMt
     rw[show IL M'[t]++[V.int (i:Int)]=IL (M'[t]++[i]) by simp[IL]]
     exact this
    ·intro p' l' hp' hl' u hu
     obtain⟨l'',q1,q2⟩:=c1 p' l' hp' hl' u hu
     by_cases e:u=t
     ·subst e
      rw[hMt]at q1
      cases q1
      exact⟨_,U7 (by omega),y0 _ q2⟩
     ·exact⟨l'',by rw[X3 (Ne.symm e)];exact q1,q2⟩
    ·intro u hu
     rw[K5,ht]at hu
     by_cases e:u=t
     ·subst e
      exact⟨_,U7 (by omega),by simp⟩
     ·rcases u4.mp hu with q | q
      ·obtain⟨l'',q1,q2⟩:=c2 u q
       exact⟨l'',by rw[X3 (Ne.symm e)];exact q1,q2⟩
      ·exact absurd (by simpa using q) e
    ·intro l' hl'
     obtain⟨u,hu⟩:=C0.mp hl'
     rcases c7a hu with ⟨_,rfl⟩ | ⟨_,q⟩
     ·refine⟨by rw[o5,a0l];omega,fun p' hp'=>?_⟩
      rcases u4.mp hp' with q | q
      ·exact hb.2 p' q
      ·rw[l6.mp q];exact hi
     ·obtain⟨r1,r2⟩:=c3 l' (mI q)
      exact⟨by omega,r2⟩
  ·rintro _ H5 ⟨x4,M',rfl,I5,lM',c1,c2,c3⟩
   rw[F3,G0]at c2
   refine⟨_,_,x4,M',rfl,I5,lM',fun p' l' hp' hl' t ht=>?_,fun l' hl'=>?_⟩
   ·by_cases e:p'=i
    ·subst e
     rw[hl]at hl'
     cases hl'
     exact c2 t ht
    ·exact c1 p' l' (by omega) hl' t ht
   ·obtain⟨r1,r2⟩:=c3 l' hl'
    rw[F3]at r1
    exact⟨by omega,r2⟩
theorem b4G{K:Fg}{ba:Addr}{bs:List Nat}{B:Nat}{E:XK}(hb:H ba=some (.lst (IL bs)))(hm:L8 H la M)(h400:M.length<=400)(hB:B<=800)(hl:∀l∈M,l.length<=B/\∀t∈l,t<M.length)(hbs:∀x∈bs,x<M.length)(lb:bs.length<=400)
  (k:∀d S H',H' d=some (.dK (KS S))->S.Nodup->(∀x∈S,x<M.length)->(∀x∈bs,x∈S)->b0u M S->j5 H H'->Q (.ref d) H'):a5T K [.ref ba,.ref la] H Q E:=by
 refine⟨rfl,?_⟩
 unfold b6r
 nofun
 exists b7w fun d H1 hd e1 s1=>?_
 nofun
 exists a6z (s1 _ _ hb) fun w H2 hw e2 s2=>?_
 have s02:=s1.trans s2
 have hw0:H w=none:=s1.free hw
 have ndw:d≠w:=c8 e1 hw
 exact_mod_cast M9 ?_
 exact_mod_cast b0X ?_
 refine⟨fun m σ H3=>∃x4 ws S,σ=[some (.ref ba),some (.ref la),some (.ref d),some (.ref w),x4]/\H3 w=some (.lst (IL ws))/\H3 d=some (.dK (KS S))/\j5 H H3/\S.Nodup/\(∀x∈S,x<M.length)/\(∀x∈ws,x<M.length) /\
  (∀x∈bs,x∈S\/x∈ws)/\(∀k∈S,∀l,M[k]? = some l->∀t∈l,t∈S\/t∈ws)/\ws.length<=400+S.length * B/\m=(M.length - S.length) * (B+1)+ws.length,?_,?_⟩
 ·exact⟨_,_,bs,[],rfl,e2,s2 _ _ e1,s02,by simp,by simp,hbs,fun x hx=>.inr hx,by simp,by omega,rfl⟩
 rintro m _ H3 ⟨x4,ws,S,rfl,hw3,hd3,s3,nd,hS,hws,c1,c2,c3,rfl⟩
 ext
 exists O5 hw3 ?_
 have hSl:=a4t _ _ nd hS
 rcases c0D ws with rfl | ⟨r,p,rfl⟩
 ·exists v9 (d5k (by rw[F3];simp)) ?_
  refine k d S H3 hd3 nd hS (fun x hx=>(c1 x hx).elim id fun z=>by simp at z) (fun a ha l hl' t ht=>(c2 a ha l hl' t ht).elim id fun z=>by simp at z) s3
 refine C6 (d5l (by rw[F3,o5,a0l];omega)) ?_
 have hp:p<M.length:=hws p (by simp)
 have eIL:IL (r++[p])=IL r++[V.int (p:Int)]:=by simp[IL]
 rw[eIL]at hw3
 refine⟨fun σ H4=>∃m' x4 ws S',σ=[some (.ref ba),some (.ref la),some (.ref d),some (.ref w),x4]/\H4 w=some (.lst (IL ws))/\H4 d=some (.dK (KS S'))/\j5 H H4/\S'.Nodup/\(∀x∈S',x<M.length)/\(∀x∈ws,x<M.length) /\
  (∀x∈bs,x∈S'\/x∈ws)/\(∀k∈S',∀l,M[k]? = some l->∀t∈l,t∈S'\/t∈ws)/\ws.length<=400+S'.length * B/\m'=(M.length - S'.length) * (B+1)+ws.length/\m'<(M.length - S.length) * (B+1)+(r++[p]).length,?_,?_⟩
 ·rintro σ' H4 ⟨m',x4,ws,S',e,r1,r2,r3,r4,r5,r6,r7,r8,r9,r10,r11⟩
  exact⟨m',r11,x4,ws,S',e,r1,r2,r3,r4,r5,r6,r7,r8,r9,r10⟩
 nofun
 specialize d2g ?_
 exists ⟨a0g hw3,d2n hw3 ?_⟩
 have sW:j5 H (upd H3 w (.lst (IL r))):=fun b o e=>by rw[i9 (c8 e hw0)];exact s3 b o e
 have hdW:(upd H3 w (.lst (IL r))) d=some (.dK (KS S)):=by rw[i9 ndw];exact hd3
 have hwW:(upd H3 w (.lst (IL r))) w=some (.lst (IL r)):=c9
 obtain⟨H4,hH4⟩:∃H4,H4=upd H3 w (.lst (IL r)):=⟨_,rfl⟩
 rw[<-hH4]at sW hdW hwW ⊢
 rw[o5,a0l]at c3 ⊢
 specialize a2x ?_
 obtain⟨o,g1,g2⟩:=a4W hdW p
 refine⟨d,o,rfl,g1,?_⟩
 rw[g2]
 ext
 by_cases hps:p∈S
 ·exists v9 (by rw[d5l hps];rfl) ?_
  refine⟨_,_,r,S,rfl,hwW,hdW,sW,nd,hS,fun x hx=>hws x (y0 _ hx),fun x hx=>?_,fun a ha l hl' t ht=>?_,by omega,rfl,by omega⟩
  ·rcases c1 x hx with z | z
   ·exact .inl z
   ·rcases u4.mp z with q | q
    ·exact .inr q
    ·exact .inl (l6.mp q ▸ hps)
  ·rcases c2 a ha l hl' t ht with z | z
   ·exact .inl z
   ·rcases u4.mp z with q | q
    ·exact .inr q
    ·exact .inl (l6.mp q ▸ hps)
 refine C6 (by rw[d5k hps];rfl) ?_
 obtain⟨xs,y,f1,f2,f3,_⟩:=(hm.same sW).at (Q3 hp)
 obtain⟨l,hle⟩:∃l,l=M[p]:=⟨_,rfl⟩
 have hlp:M[p]? = some l:=by rw[hle];exact Q3 hp
 rw[<-hle]at f3
 obtain⟨b1,b2⟩:=hl l (mI hlp)
 have hput:a4o S p=S++[p]:=by unfold a4o;rw[if_neg hps]
 have hS1:S.length<M.length:=by
  have:=a4t _ _ (a6C (k:=p) nd) fun x hx=>(a0s.mp hx).elim (hS x) fun z=>z ▸ hp
  rw[hput,o5,a0l]at this
  omega
 exact_mod_cast M9 ?_
 specialize a7J ?_
 refine⟨d,_,rfl,a9k hdW (by omega) p,?_⟩
 rw[hput]
 obtain⟨H5,hH5⟩:∃H5,H5=upd H4 d (.dK (KS (S++[p]))):=⟨_,rfl⟩
 have hd5:H5 d=some (.dK (KS (S++[p]))):=hH5 ▸ c9
 have oth:∀b o,H4 b=some o->b≠d->H5 b=some o:=fun b o e n=>by rw[hH5,i9 n];exact e
 have s5:j5 H H5:=fun b o e=>oth b o (sW b o e) (c8 e hd)
 rw[<-hH5]
 have hw5:=oth w _ hwW (Ne.symm ndw)
 have fx5:=oth _ _ f1 (K0 f1 hdW (by intro z;cases z))
 have fy5:=oth _ _ f3 (K0 f3 hdW (by intro z;cases z))
 ext
 specialize a7o ?_
 exists ⟨a0g hw5,?_⟩
 refine O1 fx5 f2 ?_
 have hSB:S.length * B<=400 * 800:=Nat.mul_le_mul (by omega) hB
 ext
 refine b9h hw5 fy5 (big (by rw[F3,F3];omega)) ?_
 have e6:IL r++IL l=IL (r++l):=by simp[IL]
 rw[e6]
 ext
 have key:(M.length - (S.length+1)) * (B+1)+(B+1)=(M.length - S.length) * (B+1):=by
  rw[<-Nat.succ_mul]
  congr 1
  omega
 refine⟨_,_,r++l,S++[p],rfl,c9,by rw[i9 ndw];exact hd5,fun b o e=>by rw[i9 (c8 e hw0)];exact s5 b o e,hput ▸ a6C nd,fun x hx=>?_,fun x hx=>?_,fun x hx=>?_,fun a ha l' hl' t ht=>?_,?_,rfl,?_⟩
 ·rcases u4.mp hx with q | q
  ·exact hS x q
  ·rw[l6.mp q];exact hp
 ·rcases u4.mp hx with q | q
  ·exact hws x (y0 _ q)
  ·exact b2 x q
 ·rcases c1 x hx with z | z
  ·exact .inl (y0 _ z)
  ·rcases u4.mp z with q | q
   ·exact .inr (y0 _ q)
   ·exact .inl (w6 _ q)
 ·rcases u4.mp ha with q | q
  ·rcases c2 a q l' hl' t ht with z | z
   ·exact .inl (y0 _ z)
   ·rcases u4.mp z with u | u
    ·exact .inr (y0 _ u)
    ·exact .inl (w6 _ u)
  ·rw[l6.mp q,hlp]at hl'
   cases hl'
   exact .inr (w6 _ ht)
 ·rw[o5,o5,a0l,Nat.succ_mul]
  omega
 ·rw[o5,o5,a0l]
  omega
theorem b6c{K:Fg}{E:XK}(hn:L8 H na N)(hv:a1a N)(k:∀H',j5 H H'->Q .non H'):a4S K [.ref na] H Q E:=by
 refine⟨rfl,?_⟩
 unfold b0J
 nofun
 exists G9 (by simp) fun p1 H1 hp1 e1 s1=>?_
 exists b4G (bs:=[0]) (B:=2) e1 (hn.same s1) hv.le (by decide) (fun l hl=>⟨hv.two l hl,hv.lt l hl⟩) (by simpa using hv.pos) (by simp) fun d1 S1 H2 hd1 nd1 hS1 hb1 cl1 s2=>?_
 have in1:∀x,Rc N x->x∈S1:=by
  intro x h
  induction h with
  | zero=>exact hb1 0 (by simp)
  | @step a t l _ hl ht ih=>exact cl1 a ih l hl t ht
 nofun
 exists b8R ((hn.same s1).same s2) hv.le fun sa H3 _ e3 s3=>?_
 exists c2L (((hn.same s1).same s2).same s3) hv.le hv.two hv.lt fun ta M H4 m4 lM hM1 hM2 s4=>?_
 have lst:(b7f N).length<=N.length:=by
  have:=o6 (a8R N) (t8 N.length)
  rwa [R1]at this
 have hle:=hv.le
 refine b4G (bs:=b7f N) (B:=2 * N.length) (s4 _ _ e3) m4 (by omega) (by omega) (fun l hl=>⟨(hM2 l hl).1,by rw[lM];exact(hM2 l hl).2⟩) (fun x hx=>by
  rw[lM]
  exact Z8.mp (L9.mp hx).1) (by omega) fun d2 S2 H5 hd2 nd2 hS2 hb2 cl2 s5=>?_
 have in2:∀x,Gd N x->x∈S2:=by
  intro x h
  induction h with
  | @stop a h=>exact hb2 a (c3q h)
  | @step a t l h ht _ ih=>
   obtain⟨l',q1,q2⟩:=hM1 a l h t ht
   exact cl2 t ih l' q1 a q2
 have s05:=(((s1.trans s2).trans s3).trans s4).trans s5
 have hd1':H5 d1=_:=s5 _ _ (s4 _ _ (s3 _ _ hd1))
 obtain⟨ys,hy,ly⟩:=(hn.same s05).len
 ext
 specialize a1o (a2e ?_)
 refine O5 hy ?_
 refine⟨N.length,by rw[ly],by omega,by omega,?_⟩
 rw[A3]
 refine a1k (fun i σ H6=>∃x3,σ=[some (.ref na),some (.ref d1),some (.ref d2),x3]/\H6=H5) ⟨_,rfl,rfl⟩ ?_ ?_
 ·rintro i _ H6 hi ⟨x3,rfl,rfl⟩
  ext
  rw[a0a]
  specialize a2x ?_
  obtain⟨o,g1,g2⟩:=a4W hd1' i
  refine⟨d1,o,rfl,g1,?_⟩
  rw[g2,d5l (in1 i (hv.rc i hi))]
  ext
  exists v9 rfl ?_
  specialize a2x ?_
  obtain⟨o',g1',g2'⟩:=a4W hd2 i
  refine⟨d2,o',rfl,g1',?_⟩
  rw[g2',d5l (in2 i (hv.gd i hi))]
  ext
  exists v9 rfl ?_
  exact⟨_,rfl,rfl⟩
 ·rintro _ H6 ⟨x3,rfl,rfl⟩
  exact k _ s05
abbrev Stp:=Int×Int
variable{s:Stp}{B:List Stp}
def FST:Stp:=(-1,0)
def a3q(N:Nt)(p:Nat):List Stp:=(t8 (N.getD p []).length).map fun(a:Nat)=>((p:Int),(a:Int))
def a3A(N:Nt)(i:Nat):List Stp:=FST::(t8 i).flatMap (a3q N)
def C4(N:Nt):List Stp:=a3A N N.length
def V7(N:Nt)(s:Stp):Nat:=if s=FST then 0 else (N.getD s.1.toNat []).getD s.2.toNat 0
theorem a5g(N:Nt)(i:Nat):a3A N (i+1)=a3A N i++a3q N i:=by
 unfold a3A
 rw[a0d,List.flatMap_append]
 simp
def a4Q(N:Nt)(s:Stp):Prop:=s=FST\/∃(p q:Nat) (l:List Nat) (t:Nat),s=((p:Int),(q:Int))/\N[p]? = some l/\l[q]? = some t
theorem a3S(h:s∈C4 N):a4Q N s:=by
 rcases u5.mp h with z | z
 ·exact .inl z
 ·obtain⟨p,hp,q⟩:=c9p.mp z
  have hp:=Z8.mp hp
  obtain⟨a,ha,rfl⟩:=E7.mp q
  have ha:=Z8.mp ha
  have e:N.getD p []=N[p]:=by simp[Q1,hp]
  rw[e]at ha
  exact .inr ⟨p,a,N[p],N[p][a],rfl,Q3 hp,by simp⟩
theorem b7R(hv:a1a N)(h:a4Q N s):V7 N s<N.length:=by
 unfold V7
 rcases h with rfl | ⟨p,q,l,t,rfl,h1,h2⟩
 ·rw[if_pos rfl];exact hv.pos
 ·split
  ·exact hv.pos
  ·have:(N.getD ((p:Int),(q:Int)).1.toNat []).getD ((p:Int),(q:Int)).2.toNat 0=t:=by
    show(N.getD (p:Int).toNat []).getD (q:Int).toNat 0=t
    rw[A3,A3]
    simp[Q1,h1,h2]
   rw[this]
   exact hv.lt l (mI h1) t (mI h2)
def a0I(K:Fg)(H:Hp)(a:Addr)(s:Stp):Prop:=H a=some (.tup [.int s.1,.int s.2])\/(s=FST/\∀H,SqT K H a [.int (-1),.int 0])
theorem a0I.ts{K:Fg}(h:a0I K H a s)(t:D9 H H'):a0I K H' a s:=by
 rcases h with h | h
 ·exact .inl (t _ _ h)
 ·exact .inr h
theorem a0I.sq{K:Fg}(h:a0I K H a s):SqT K H a [.int s.1,.int s.2]:=by
 rcases h with h | ⟨e,h⟩
 ·exact SqT.of h
 ·subst e;exact h H
structure U1(K:Fg)(H:Hp)(l:Addr)(S:List Stp):Prop where
 ex:∃vs:List Addr,H l=some (.lst (vs.map V.ref))/\vs.length=S.length/\∀(i:Nat) x s,vs[i]? = some x->S[i]? = some s->a0I K H x s
theorem U1.same{K:Fg}{l:Addr}{S:List Stp}(h:U1 K H l S)(s:j5 H H'):U1 K H' l S:=by
 obtain⟨vs,h1,h2,h3⟩:=h.ex
 exact⟨vs,s _ _ h1,h2,fun i x t e1 e2=>(h3 i x t e1 e2).ts (j5.ts s)⟩
theorem U1.kept{K:Fg}{c l:Addr}{S:List Stp}(h:U1 K H l S)(hB:Bag H b c)(k:E3 b H H'):U1 K H' l S:=by
 obtain⟨vs,h1,h2,h3⟩:=h.ex
 exact⟨vs,k.1 _ _ h1 (a0x hB h1),h2,fun i x t e1 e2=>(h3 i x t e1 e2).ts (E3.ts k hB)⟩
theorem U1.put{K:Fg}{l y:Addr}{S:List Stp}(h:U1 K H l S)(hy:H y=some (.lst xs))(n:l≠y):U1 K (upd H y (.lst ys)) l S:=by
 obtain⟨vs,h1,h2,h3⟩:=h.ex
 exact⟨vs,by rw[i9 n];exact h1,h2,fun i x t e1 e2=>(h3 i x t e1 e2).ts (D9.put hy)⟩
theorem b2Q{K:Fg}{E:XK}(ck:a0v K c)(hn:L8 H na N)(h400:N.length<=400)(h2:∀l∈N,l.length<=2)
  (k:∀a H',H a=none->U1 K H' a (C4 N)->j5 H H'->Q (.ref a) H'):a5h K c [.ref na] H Q E:=by
 obtain⟨ns,a1,a2,a3⟩:=id hn.ex
 refine⟨rfl,?_⟩
 unfold b4h
 nofun
 exists G9 (by simp) fun D H1 hD e1 s1=>?_
 exact_mod_cast M9 ?_
 specialize a1o (a6w ?_)
 refine⟨na,rfl,⟨_,SqL.of (s1 _ _ a1)⟩,?_⟩
 refine b2X N.length (fun i σ H2=>∃x2 x3 vs,σ=[some (.ref na),some (.ref D),x2,x3]/\H2 D=some (.lst ((vs:List Addr).map V.ref))/\vs.length=(a3A N i).length/\vs.length<=1+2 * i/\(∀(j:Nat) x s,vs[j]? = some x->(a3A N i)[j]? = some s->a0I K H2 x s)/\j5 H H2) ?_ ?_ ?_ ?_
 ·refine⟨_,_,[c.O9],rfl,e1,rfl,by simp,fun j x s f1 f2=>?_,s1⟩
  cases j with
  | zero=>
   cases f1
   cases f2
   exact .inr ⟨rfl,ck.a0k⟩
  | succ j=>simp at f1
 ·rintro _ H2 ⟨x2,x3,vs,rfl,hD2,lv,_,at2,s2⟩
  exists ⟨⟨_,SqL.of (s2 _ _ a1),by rw[b9,a2];exact j6 _⟩,?_⟩
  exact k D H2 hD ⟨vs,hD2,lv,at2⟩ s2
 ·rintro i _ H2 hi ⟨x2,x3,vs,rfl,hD2,lv,_,at2,s2⟩
  exact⟨_,_,SqL.of (s2 _ _ a1),by rw[b6,c7 (show i<ns.length by omega)];rfl⟩
 ·rintro i _ H2 hi ⟨x2,x3,vs,rfl,hD2,lv,lv2,at2,s2⟩ x H3 ⟨p,y,hp,rfl,rfl,gy⟩
  obtain⟨nx,f1⟩:∃nx,ns[i]? = some nx:=⟨_,c7 (by omega)⟩
  have gy:=gy _ (SqL.of (s2 _ _ a1))
  rw[b6,f1]at gy
  cases gy
  refine a7I (SqT.of c9) ?_
  have s3:j5 H2 (upd H2 p (.tup [V.int (i:Int),V.ref nx])):=A0 hp
  obtain⟨H3,hH3⟩:∃H3,H3=upd H2 p (.tup [V.int (i:Int),V.ref nx]):=⟨_,rfl⟩
  rw[<-hH3]at s3 ⊢
  have s03:=s2.trans s3
  have hl:=Q3 hi
  obtain⟨l,hle⟩:∃l,l=N[i]:=⟨_,rfl⟩
  rw[<-hle]at hl
  have hll:=h2 l (mI hl)
  have hx:=s03 _ _ (a3 i nx l f1 hl)
  ext
  specialize a7o ?_
  exists ⟨a0g (s3 _ _ hD2),?_⟩
  specialize a0c (a2e ?_)
  refine O5 hx ?_
  rw[F3]
  refine⟨l.length,rfl,by omega,by omega,fun A hA=>?_⟩
  rw[A3]
  refine a8V (fun j ys H4=>∃ws:List Addr,ys=ws.map V.ref/\ws.length=j/\(∀(q:Nat) x,ws[q]? = some x->H4 x=some (.tup [.int (i:Int),.int (q:Int)]))/\H4 A=some (.lst ys)/\j5 H3 H4) ?_ ?_ ?_ ?_
  ·exact⟨[],rfl,rfl,by simp,c9,A0 hA⟩
  ·rintro j ys H4 ⟨_,_,_,_,h,_⟩
   exact h
  ·rintro j ys H4 hj ⟨ws,rfl,lw,at4,hA4,s4⟩ R hR
   ext
   refine G9 (by simp) fun z H5 hz e5 s5=>?_
   rw[a0a]at e5
   have nzA:z≠A:=(c8 hA4 hz).symm
   refine hR _ _ (s5 _ _ hA4) (F8 (by rw[b9];omega)) ⟨ws++[z],by simp,by simp[lw],fun q x hq=>?_,c9,fun b o e=>?_⟩
   ·rcases a0C hq with ⟨_,g⟩ | ⟨hq',g⟩
    ·have:=s5 _ _ (at4 q x g)
     rw[i9 (K0 this (s5 _ _ hA4) (by intro z;cases z))]
     exact this
    ·subst g
     rw[i9 nzA,e5,hq',lw]
   ·rw[i9 (c8 e hA)];exact s5 _ _ (s4 _ _ e)
  ·rintro ys H4 ⟨ws,rfl,lw,at4,hA4,s4⟩
   ext
   have hD4:H4 D=_:=s4 _ _ (s3 _ _ hD2)
   have s04:=s03.trans s4
   refine b9h hD4 hA4 (big (by rw[b9,b9];omega)) ?_
   rw[<-E1]
   have hon:a3q N i=(t8 l.length).map fun(a:Nat)=>((i:Int),(a:Int)):=by
    unfold a3q
    simp[Q1,hl]
   have hU:=a5g N i
   have lon:(a3q N i).length=l.length:=by rw[hon];simp
   refine⟨_,_,vs++ws,rfl,c9,by rw[hU,o5,o5,lv,lw,lon],by rw[o5];omega,fun j x s g1 g2=>?_,fun b o e=>?_⟩
   ·rw[hU]at g2
    by_cases hj:j<vs.length
    ·rw[o0 hj]at g1
     rw[o0 (by omega)]at g2
     exact((at2 j x s g1 g2).ts (j5.ts (s3.trans s4))).ts (D9.put hD4)
    ·rw[K7 (by omega)]at g1
     rw[K7 (by omega),<-lv,hon,b6]at g2
     have hq:j - vs.length<l.length:=by
      have:=(gI g1)
      omega
     rw[b1D hq]at g2
     cases g2
     have:=at4 _ _ g1
     exact .inl (by rw[i9 (K0 this hD4 (by intro z;cases z))];exact this)
   ·rw[i9 (c8 e hD)];exact s04 _ _ e
def c2y(c:Cn)(H:Hp)(x:Addr)(N:Nt):Prop:=∃dx fs n,H x=some (.ins c.P0 dx fs)/\fs.lookup ("nexts" : Str)=some (V.ref n)/\L8 H n N
theorem eq2(p q:Int):a1S [.int p,.int q] [.int (-1),.int 0]=decide ((p,q)=FST):=by
 unfold a1S
 simp only[D5,a6k,Nat.zero_add,Nat.reduceAdd,b5y]
 rw[show t8 2=[0,1] from rfl]
 simp only[Z7,d3c,d2T,Q1,c1O,List.getElem?_cons_succ,a5m,beq_self_eq_true]
 unfold FST
 by_cases h:p = -1
 ·by_cases h':q=0
  ·subst h h';decide
  ·subst h
   simp[eqV,h']
 ·simp[eqV,h]
theorem a6E{K:Fg}{x:Addr}{E:XK}(ck:a0v K c)(hp:c2y c H x N)(ha:a0I K H a s)(hs:a4Q N s)(k:Q (.int (V7 N s:Nat)) H):W3 K c [.ref x,.ref a] H Q E:=by
 refine⟨rfl,?_⟩
 unfold a8g
 nofun
 refine⟨_,_,_,_,rfl,rfl,ha.sq,ck.a0k H,rfl,rfl,?_⟩
 rw[eq2]
 ext
 by_cases e:s=FST
 ·exists C6 (d5l e) ?_
  unfold V7 at k
  rw[if_pos e]at k
  exact k
 ·exists v9 (d5k e) ?_
  rcases hs with z | ⟨p,q,l,t,rfl,h1,h2⟩
  ·exact(e z).elim
  rcases ha with ha | ⟨z,_⟩
  rotate_left
  ·exact(e z).elim
  obtain⟨dx,fs,n,hx,hf,hn⟩:=hp
  specialize T3 ?_
  exists ⟨x,_,dx,fs,_,rfl,hx,ck.Q2,ck.X6,hf,?_⟩
  refine a0e ha (a3g _ _) ?_
  obtain⟨xs,y,f1,f2,f3,_⟩:=hn.at h1
  exists O1 f1 f2 ?_
  refine a0e ha (b0s _ _ _) ?_
  refine O1 f3 (b6Q h2) ?_
  have:V7 N ((p:Int),(q:Int))=t:=by
   unfold V7
   rw[if_neg e]
   show(N.getD (p:Int).toNat []).getD (q:Int).toNat 0=t
   rw[A3,A3]
   simp[Q1,h1,h2]
  rw[this]at k
  exact k
structure c6G(K:Fg)(H0 H:Hp)(e:Addr)(es:List Addr)(P:List (List Stp)):Prop where
 same:j5 H0 H
 h:H e=some (.lst (es.map V.ref))
 len:es.length=P.length
 nd:es.Nodup
 na:e∉es
 at_:∀(i:Nat) y S,es[i]? = some y->P[i]? = some S->U1 K H y S
 new:H0 e=none/\∀y∈es,H0 y=none
theorem c6G.add{K:Fg}{e:Addr}{es:List Addr}{P:List (List Stp)}(h:c6G K H0 H e es P){y:Addr}{S:List Stp}{vs:List Addr}(e1:es[t]? = some y)(e2:P[t]? = some S)(hy:H y=some (.lst (vs.map V.ref)))
  (lv:vs.length=S.length) (at2:∀(i:Nat) x s,vs[i]? = some x->S[i]? = some s->a0I K H x s) (ha:a0I K H a s):c6G K H0 (upd H y (.lst ((vs++[a]).map V.ref))) e es (P.set t (S++[s])):=by
 have hm:=mI e1
 have ye:y≠e:=fun z=>h.na (z ▸ hm)
 refine⟨fun b o q=>by rw[i9 (c8 q (h.new.2 y hm))];exact h.same b o q,by rw[i9 ye.symm];exact h.h,by rw[a4w];exact h.len,h.nd,h.na,fun i z S' f1 f2=>?_,h.new⟩
 by_cases q:i=t
 ·subst q
  rw[e1]at f1
  cases f1
  rw[U7 (gI e2)]at f2
  cases f2
  refine⟨vs++[a],c9,by simp[lv],fun j x s' g1 g2=>?_⟩
  rcases a0C g1 with ⟨_,k1⟩ | ⟨j1,k1⟩
  ·rcases a0C g2 with ⟨_,k2⟩ | ⟨j2,k2⟩
   ·exact(at2 j x s' k1 k2).ts (D9.put hy)
   ·omega
  ·rcases a0C g2 with ⟨_,k2⟩ | ⟨j2,k2⟩
   ·omega
   ·subst k1 k2
    exact ha.ts (D9.put hy)
 ·rw[X3 (Ne.symm q)]at f2
  have:z≠y:=by
   rintro rfl
   exact q (c9i h.nd f1 e1)
  exact(h.at_ i z S' f1 f2).put hy this
structure a0O(K:Fg)(c:Cn)(H:Hp)(x:Addr)(N:Nt):Prop where
 ex:∃dx r n e es,H x=some (.ins c.P0 dx [("rows",.ref r),("nexts",.ref n),("entries",.ref e)])/\a0E H r N/\L8 H n N/\H e=some (.lst ((es:List Addr).map V.ref))/\es.length=N.length /\
  ∀(t:Nat) y,es[t]? = some y->U1 K H y ((C4 N).filter fun s=>decide (V7 N s=t))
structure a7t(K:Fg)(c:Cn)(Z:Addr->Prop)(rs:List Addr)(H:Hp)(x:Addr)(N:Nt):Prop where
 ex:∃dx r n e es ns,H x=some (.ins c.P0 dx [("rows",.ref r),("nexts",.ref n),("entries",.ref e)])/\(a0E H r N/\H r=some (.lst (rs.map V.ref)))/\H n=some (.lst ((ns:List Addr).map V.ref))/\ns.length=N.length/\(∀(i:Nat) y l,ns[i]? = some y->N[i]? = some l->H y=some (.lst (IL l))) /\
  H e=some (.lst ((es:List Addr).map V.ref))/\es.length=N.length/\(∀(t:Nat) y,es[t]? = some y->U1 K H y ((C4 N).filter fun s=>decide (V7 N s=t)))/\∀z,Z z->z≠r/\z≠n/\z≠e/\z∉ns/\z∉es
theorem a7t.at{K:Fg}{x:Addr}(h:a7t K c Z rs H x N):a0O K c H x N:=by
 obtain⟨dx,r,n,e,es,ns,h1,⟨h2,h2r⟩,h3,h4,h5,h6,h7,h8,_⟩:=h.ex
 exact⟨dx,r,n,e,es,h1,h2,⟨ns,h3,h4,h5⟩,h6,h7,h8⟩
theorem a7t.same{K:Fg}{x:Addr}(h:a7t K c Z rs H x N)(s:j5 H H'):a7t K c Z rs H' x N:=by
 obtain⟨dx,r,n,e,es,ns,h1,⟨h2,h2r⟩,h3,h4,h5,h6,h7,h8,h9⟩:=h.ex
 exact⟨dx,r,n,e,es,ns,s _ _ h1,⟨h2.same s,s _ _ h2r⟩,s _ _ h3,h4,fun i y l a b=>s _ _ (h5 i y l a b),s _ _ h6,h7,fun t y q=>(h8 t y q).same s,h9⟩
theorem a7t.kept{K:Fg}{x:Addr}(h:a7t K c Z rs H x N)(hB:Bag H b d)(h2':∀l∈N,l.length<=2)(k:E3 b H H'):a7t K c Z rs H' x N:=by
 obtain⟨dx,r,n,e,es,ns,h1,⟨h2,h2r⟩,h3,h4,h5,h6,h7,h8,h9⟩:=h.ex
 obtain⟨bs,hb⟩:=hB.lst
 refine⟨dx,r,n,e,es,ns,k.1 _ _ h1 (K0 h1 hb (by intro z;cases z)),⟨h2.kept hB k,k.1 _ _ h2r (a0x hB h2r)⟩,k.1 _ _ h3 (a0x hB h3),h4,fun i y l a b=>?_,k.1 _ _ h6 (a0x hB h6),h7,fun t y q=>(h8 t y q).kept hB k,h9⟩
 have q:=h5 i y l a b
 exact k.1 _ _ q (b4r hB q (by rw[F3];have:=h2' l (mI b);omega))
theorem a0O.same{K:Fg}{x:Addr}(h:a0O K c H x N)(s:j5 H H'):a0O K c H' x N:=by
 obtain⟨dx,r,n,e,es,h1,h2,h3,h4,h5,h6⟩:=h.ex
 exact⟨dx,r,n,e,es,s _ _ h1,h2.same s,h3.same s,s _ _ h4,h5,fun t y q=>(h6 t y q).same s⟩
theorem a0O.kept{K:Fg}{x:Addr}(h:a0O K c H x N)(hB:Bag H b d)(h2':∀l∈N,l.length<=2)(k:E3 b H H'):a0O K c H' x N:=by
 obtain⟨dx,r,n,e,es,h1,h2,h3,h4,h5,h6⟩:=h.ex
 obtain⟨bs,hb⟩:=hB.lst
 exact⟨dx,r,n,e,es,k.1 _ _ h1 (K0 h1 hb (by intro z;cases z)),h2.kept hB k,h3.kept hB h2' k,k.1 _ _ h4 (a0x hB h4),h5,fun t y q=>(h6 t y q).kept hB k⟩
theorem a0O.x{K:Fg}{x:Addr}(h:a0O K c H x N):c2y c H x N:=by
 obtain⟨dx,r,n,e,es,h1,h2,h3,_⟩:=h.ex
 exact⟨dx,_,n,h1,rfl,h3⟩
theorem L8.ins{H:Hp}{a x C dx:Addr}{N:Nt}{fs:List (Str×V)}{o:HO}(h:L8 H a N)(hx:H x=some (.ins C dx fs)):L8 (upd H x o) a N:=by
 obtain⟨as,q1,q2,q3⟩:=h.ex
 exact⟨as,by rw[i9 (K0 q1 hx (by intro z;cases z))];exact q1,q2,fun j y l e1 e2=>by
  have q:=q3 j y l e1 e2
  rw[i9 (K0 q hx (by intro z;cases z))];exact q⟩
theorem D9.ins{H:Hp}{x C dx:Addr}{fs:List (Str×V)}{o:HO}(hx:H x=some (.ins C dx fs)):D9 H (upd H x o):=fun a xs e=>by
 rw[i9 (K0 e hx (by intro z;cases z))];exact e
theorem a0E.ins{H:Hp}{a x C dx:Addr}{N:Nt}{fs:List (Str×V)}{o:HO}(h:a0E H a N)(hx:H x=some (.ins C dx fs)):a0E (upd H x o) a N:=by
 obtain⟨as,q1,q2,q3⟩:=h.ex
 exact⟨as,by rw[i9 (K0 q1 hx (by intro z;cases z))];exact q1,q2,fun j y l e1 e2=>(q3 j y l e1 e2).ts (D9.ins hx)⟩
theorem a5I(h:∀l∈N,l.length<=2):(C4 N).length<=1+2 * N.length:=by
 have go:∀i,i<=N.length->(a3A N i).length<=1+2 * i:=by
  intro i
  induction i with
  | zero=>intro _;show 1<=1;exact j6 _
  | succ i ih=>
   intro hi
   rw[a5g,o5]
   have:=ih (by omega)
   have h2:(a3q N i).length<=2:=by
    unfold a3q
    rw[b9,R1]
    have e:N.getD i []=N[i]:=by simp[Q1,show i<N.length by omega]
    rw[e]
    exact h _ (M3 _)
   omega
 exact go _ (j6 _)
theorem c1y{S:List Stp}{f:Stp->Nat}(h:S[i]? = some s):(S.take (i+1)).filter (fun s=>decide (f s=t))=(S.take i).filter (fun s=>decide (f s=t))++(if f s=t then [s] else []):=by
 rw[K5,h,N4]
 congr 1
 by_cases e:f s=t
 ·rw[if_pos e];simp[e]
 ·rw[if_neg e];simp[e]
theorem b7E{K:Fg}{x:Addr}{E:XK}(ck:a0v K c)(hrs:H ra=some (.lst (rs.map V.ref)))(hr:a0E H ra N)(hn:L8 H na N)(hv:a1a N)(hx:H x=some (.ins c.P0 dx []))
  (k:∀H',a7t K c (fun z=>∃o,H z=some o/\z≠x) rs H' x N->(∀b o,H b=some o->b≠x->H' b=some o)->Q .non H'):a5C K c [.ref x,.ref ra,.ref na] H Q E:=by
 obtain⟨rs',r1,r2,r3⟩:=id hr.ex
 obtain rfl:rs'=rs:=by
  rw[hrs]at r1
  exact(a7e (f:=V.ref) (fun a b h=>V.ref.inj h) |>.mp (HO.lst.inj (Option.some.inj r1))).symm
 obtain⟨ns,n1,n2,n3⟩:=id hn.ex
 have hpos:=hv.pos
 have h400:=hv.le
 refine⟨rfl,?_⟩
 unfold b2P
 nofun
 exists b3s r1 (by rw[b9];omega) (by rw[b9];omega) ?_
 nofun
 specialize a0c (Z6 ?_)
 refine⟨ra,rfl,⟨_,SqL.of r1⟩,fun D hD=>?_⟩
 refine a0G (xs:=rs'.map V.ref) (fun i ys H2=>ys=E5 i (V.bl true)/\H2 D=some (.lst ys)/\j5 H H2) ⟨rfl,c9,A0 hD⟩ ?_ ?_ ?_ ?_
 ·rintro i ys H2 ⟨_,h,_⟩
  exact h
 ·rintro i ys H2 _ ⟨_,_,s2⟩
  exact SqL.of (s2 _ _ r1)
 ·rintro i y ys H2 hy ⟨rfl,hD2,s2⟩ R hR
  rw[b6]at hy
  cases hrx:rs'[i]? with
  | none=>rw[hrx]at hy;cases hy
  | some rx=>
   rw[hrx]at hy
   cases hy
   have hi:i<N.length:=by rw[<-r2];exact(gI hrx)
   ext
   refine c3w ck ((r3 i rx _ hrx (Q3 hi)).ts (j5.ts s2)) fun H3 s3=>?_
   refine hR _ _ (s3 _ _ hD2) (F8 (by rw[L1];omega)) ⟨b0H i,c9,fun b o e=>?_⟩
   rw[i9 (c8 e hD)];exact s3 _ _ (s2 _ _ e)
 rintro ys H2 ⟨rfl,hD2,s2⟩
 ext
 refine a6Y hD2 fun H3 s3=>?_
 have s03:=s2.trans s3
 ext
 nofun
 refine b5m (hr.same s03) (hn.same s03) h400 hv.two hv.lt fun H4 s4=>?_
 have s04:=s03.trans s4
 ext
 nofun
 refine b6c (hn.same s04) hv fun H5 s5=>?_
 have s05:=s04.trans s5
 ext
 exact_mod_cast M9 ?_
 specialize a1t ?_
 refine a6z (s05 _ _ r1) fun rp H6 hrp e6 s6=>?_
 have s06:=s05.trans s6
 ext
 refine⟨x,_,dx,[],rfl,s06 _ _ hx,ck.Q2,ck.U2,by simp,?_⟩
 obtain⟨H7,hH7⟩:∃H7,H7=upd H6 x (.ins c.P0 dx (Q0 "rows" (.ref rp) [])):=⟨_,rfl⟩
 have x7:H7 x=some (.ins c.P0 dx [("rows",.ref rp)]):=hH7 ▸ c9
 have f7:∀b o,H6 b=some o->b≠x->H7 b=some o:=fun b o e n=>by rw[hH7,i9 n];exact e
 have rows7:a0E H7 rp N:=by
  have q:a0E H6 rp N:=⟨rs',e6,r2,fun i y l a b=>(r3 i y l a b).ts (j5.ts s06)⟩
  rw[hH7]
  exact q.ins (s06 _ _ hx)
 have net7:L8 H7 na N:=by rw[hH7];exact(hn.same s06).ins (s06 _ _ hx)
 have ra7:H7 ra=some (.lst (rs'.map V.ref)):=f7 _ _ (s06 _ _ r1) (K0 r1 hx (by intro z;cases z))
 rw[<-hH7]
 clear hH7
 exact_mod_cast M9 ?_
 exact_mod_cast a1t ?_
 exact_mod_cast a0c (Z6 ?_)
 obtain⟨ns',m1,m2,m3⟩:=id net7.ex
 ext
 refine⟨na,rfl,⟨_,SqL.of m1⟩,fun np hnp=>?_⟩
 refine a0G (xs:=ns'.map V.ref) (fun i ys H8=>∃as:List Addr,ys=as.map V.ref/\as.length=i/\(∀(j:Nat) y l,as[j]? = some y->N[j]? = some l->H8 y=some (.lst (IL l))/\y≠np)/\H8 np=some (.lst ys)/\j5 H7 H8/\∀y∈as,H7 y=none) ?_ ?_ ?_ ?_ ?_
 ·exact⟨[],rfl,rfl,by simp,c9,A0 hnp,by simp⟩
 ·rintro i ys H8 ⟨_,_,_,_,h,_⟩
  exact h
 ·rintro i ys H8 _ ⟨_,_,_,_,_,s8,_⟩
  exact SqL.of (s8 _ _ m1)
 ·rintro i y ys H8 hy ⟨as,rfl,la,at8,hnp8,s8,fr8⟩ R hR
  rw[b6]at hy
  cases hnx:ns'[i]? with
  | none=>rw[hnx]at hy;cases hy
  | some nx=>
   rw[hnx]at hy
   cases hy
   have hi:i<N.length:=by rw[<-m2];exact(gI hnx)
   ext
   refine a6z (s8 _ _ (m3 i nx _ hnx (Q3 hi))) fun q H9 hq e9 s9=>?_
   have nq:q≠np:=(c8 hnp8 hq).symm
   refine hR _ _ (s9 _ _ hnp8) (F8 (by rw[b9];omega)) ⟨as++[q],by simp,by simp[la],fun j y l g1 g2=>?_,c9,fun b o e=>?_,fun y hy=>?_⟩
   ·rcases a0C g1 with ⟨_,f1⟩ | ⟨hj,f1⟩
    ·obtain⟨f2,f3⟩:=at8 j y l f1 g2
     exact⟨by rw[i9 f3];exact s9 _ _ f2,f3⟩
    ·rw[hj,la,Q3 hi]at g2
     cases g2
     subst f1
     exact⟨by rw[i9 nq];exact e9,nq⟩
   ·rw[i9 (c8 e hnp)];exact s9 _ _ (s8 _ _ e)
   ·rcases u4.mp hy with z | z
    ·exact fr8 y z
    ·rw[l6.mp z];exact s8.free hq
 rintro ys H8 ⟨as,rfl,la,at8,hnp8,s8,fr8⟩
 rw[b9,m2]at la
 have net8:L8 H8 np N:=⟨as,hnp8,la,fun i y l a b=>(at8 i y l a b).1⟩
 ext
 refine⟨x,_,dx,_,rfl,s8 _ _ x7,ck.Q2,ck.X6,by simp,?_⟩
 obtain⟨H9,hH9⟩:∃H9,H9=upd H8 x (.ins c.P0 dx (Q0 "nexts" (.ref np) [("rows",.ref rp)])):=⟨_,rfl⟩
 have x9:H9 x=some (.ins c.P0 dx [("rows",.ref rp),("nexts",.ref np)]):=by
  rw[hH9,c9]
  simp only[Q0]
  rw[if_neg (by decide)]
 have f9:∀b o,H8 b=some o->b≠x->H9 b=some o:=fun b o e n=>by rw[hH9,i9 n];exact e
 have rows9:a0E H9 rp N:=by rw[hH9];exact(rows7.same s8).ins (s8 _ _ x7)
 have net9:L8 H9 np N:=by rw[hH9];exact net8.ins (s8 _ _ x7)
 have ra9:H9 ra=some (.lst (rs'.map V.ref)):=f9 _ _ (s8 _ _ ra7) (K0 ra7 x7 (by intro z;cases z))
 rw[<-hH9]
 clear hH9
 exact_mod_cast M9 ?_
 exact_mod_cast a1t ?_
 specialize a0c (Z6 ?_)
 refine⟨ra,rfl,⟨_,SqL.of ra9⟩,fun ep hep=>?_⟩
 refine a0G (xs:=rs'.map V.ref) (fun i ys H10=>∃es,ys=es.map V.ref/\a8X H9 H10 ep es (E5 i [])) ?_ ?_ ?_ ?_ ?_
 ·exact⟨[],rfl,.nil hep (A0 hep) c9⟩
 ·rintro i ys H10 ⟨es,rfl,I⟩
  exact I.h
 ·rintro i ys H10 _ ⟨es,rfl,I⟩
  exact SqL.of (I.same _ _ ra9)
 ·rintro i y ys H10 hy ⟨es,rfl,I⟩ R hR
  have hi:i<N.length:=by
   have:=(gI hy)
   rw[b9,r2]at this
   exact this
  ext
  refine G9 (by simp) fun p H11 hp e11 s11=>?_
  have:=I.len
  rw[L1]at this
  refine hR _ _ (s11 _ _ I.h) (F8 (by rw[b9];omega)) ⟨es++[p],by simp,?_⟩
  have q:=I.snoc hp e11 s11
  rw[show E5 i ([]:List Nat)++[[]]=E5 (i+1) [] from by rw[b0w]]at q
  rw[show es.map V.ref++[V.ref p]=(es++[p]).map V.ref by simp]
  exact q
 rintro ys H10 ⟨es,rfl,I10⟩
 rw[b9,r2]at I10
 ext
 have x10:=I10.same _ _ x9
 refine⟨x,_,dx,_,rfl,x10,ck.Q2,ck.a1Y,by simp,?_⟩
 obtain⟨F,hF⟩:∃F:List (Str×V),F=([("rows",.ref rp),("nexts",.ref np),("entries",.ref ep)]:List (Str×V)):=⟨_,rfl⟩
 have hput:Q0 "entries" (.ref ep) [("rows",.ref rp),("nexts",.ref np)]=F:=by
  rw[hF]
  simp only[Q0]
  rw[if_neg (by decide),if_neg (by decide)]
 rw[hput]
 obtain⟨H11,hH11⟩:∃H11,H11=upd H10 x (.ins c.P0 dx F):=⟨_,rfl⟩
 obtain⟨H0,hH0⟩:∃H0,H0=upd H9 x (.ins c.P0 dx F):=⟨_,rfl⟩
 have x0:H0 x=some (.ins c.P0 dx F):=hH0 ▸ c9
 have f0:∀b o,H9 b=some o->b≠x->H0 b=some o:=fun b o e n=>by rw[hH0,i9 n];exact e
 have rows0:a0E H0 rp N:=by rw[hH0];exact rows9.ins x9
 have net0:L8 H0 np N:=by rw[hH0];exact net9.ins x9
 have np0:H0 np=some (.lst (as.map V.ref)):=by
  have:=f9 _ _ hnp8 (K0 hnp8 (s8 _ _ x7) (by intro z;cases z))
  exact f0 _ _ this (K0 this x9 (by intro z;cases z))
 have rp0:H0 rp=some (.lst (rs'.map V.ref)):=by
  have q:=s8 _ _ (f7 _ _ e6 (K0 e6 (s06 _ _ hx) (by intro z;cases z)))
  have q:=f9 _ _ q (K0 q (s8 _ _ x7) (by intro z;cases z))
  exact f0 _ _ q (K0 q x9 (by intro z;cases z))
 have at0:∀(i:Nat) y l,as[i]? = some y->N[i]? = some l->H0 y=some (.lst (IL l)):=fun i y l a b=>by
  have q:=(at8 i y l a b).1
  have q:=f9 _ _ q (K0 q (s8 _ _ x7) (by intro z;cases z))
  exact f0 _ _ q (K0 q x9 (by intro z;cases z))
 have old9:∀b o,H b=some o->b≠x->H9 b=some o:=fun b o e n=>f9 _ _ (s8 _ _ (f7 _ _ (s06 _ _ e) n)) n
 have ent11:c6G K H0 H11 ep es (E5 N.length []):=by
  have nxe:x≠ep:=c8 x9 hep
  have nxes:∀y∈es,x≠y:=fun y hy=>c8 x9 (I10.new.2 y hy)
  refine⟨fun b o e=>?_,by rw[hH11,i9 nxe.symm];exact I10.h,by rw[L1];have:=I10.len;rwa [L1]at this,I10.nd,I10.na,fun i y S a b=>?_,by rw[hH0,i9 nxe.symm];exact hep,fun y hy=>by rw[hH0,i9 (nxes y hy).symm];exact I10.new.2 y hy⟩
  ·rw[hH0]at e
   rw[hH11]
   by_cases q:b=x
   ·subst q
    rw[c9]at e ⊢
    exact e
   ·rw[i9 q]at e ⊢
    exact I10.same _ _ e
  ·have hi:=(gI b)
   rw[L1]at hi
   have q:=I10.at_ i y [] a (by rw[X4,if_pos hi])
   rw[X4,if_pos hi]at b
   cases b
   refine⟨[],?_,rfl,by simp⟩
   rw[hH11,i9 (K0 q x10 (by intro z;cases z))]
   exact q
 have old:∀b o,H b=some o->b≠x->H0 b=some o:=fun b o e n=>f0 _ _ (f9 _ _ (s8 _ _ (f7 _ _ (s06 _ _ e) n)) n) n
 rw[<-hH11]
 clear hH11 hH0 I10 x10 f0 f9 x9 ra9 net9 rows9
 specialize a1o (Z6 ?_)
 specialize T3 ?_
 exists ⟨x,_,dx,F,.ref np,rfl,ent11.same _ _ x0,ck.Q2,ck.X6,by rw[hF];rfl,?_⟩
 refine b2Q ck (net0.same ent11.same) h400 hv.two fun sl H12 hsl S12 s12=>?_
 obtain⟨vs,v1,v2,v3⟩:=id S12.ex
 have nsl:sl∉es:=fun z=>by
  obtain⟨i,hi⟩:=C0.mp z
  have hil:i<N.length:=by
   have:=ent11.len
   rw[L1]at this
   rw[<-this];exact(gI hi)
  obtain⟨ws,w1,_⟩:=(ent11.at_ i sl [] hi (by rw[X4,if_pos hil])).ex
  rw[hsl]at w1
  cases w1
 refine⟨sl,rfl,⟨_,SqL.of v1⟩,a4u (xs:=vs.map V.ref) (fun i σ H13=>∃x3 P,σ=[some (.ref x),some (.ref ra),some (.ref na),x3]/\c6G K H0 H13 ep es P/\P.length=N.length/\(∀t,t<N.length->P[t]? = some (((C4 N).take i).filter fun s=>decide (V7 N s=t)))/\U1 K H13 sl (C4 N)/\H13 sl=some (.lst (vs.map V.ref))) ?_ ?_ ?_ ?_⟩
 ·refine⟨_,E5 N.length [],rfl,⟨ent11.same.trans s12,s12 _ _ ent11.h,ent11.len,ent11.nd,ent11.na,fun i y S a b=>(ent11.at_ i y S a b).same s12,ent11.new⟩,by simp,fun t ht=>by rw[X4,if_pos ht];simp,S12,v1⟩
 ·rintro i σ H13 _ ⟨_,_,_,_,_,_,_,h⟩
  exact SqL.of h
 ·rintro i y _ H13 hy ⟨x3,P,rfl,I13,lP,hP,S13,hsl13⟩
  rw[b6]at hy
  cases hvx:vs[i]? with
  | none=>rw[hvx]at hy;cases hy
  | some vx=>
   rw[hvx]at hy
   cases hy
   obtain⟨ws,w1,w2,w3⟩:=S13.ex
   have ews:ws=vs:=by
    rw[hsl13]at w1
    have:=a7e (f:=V.ref) (fun a b h=>V.ref.inj h) |>.mp (HO.lst.inj (Option.some.inj w1))
    exact this.symm
   subst ews
   have hi:i<(C4 N).length:=by rw[<-w2];exact(gI hvx)
   obtain⟨s,hs⟩:∃s,(C4 N)[i]? = some s:=⟨_,c7 hi⟩
   have hst:=w3 i vx s hvx hs
   have hm:=mI hs
   have his:=a3S hm
   have hlt:=b7R hv his
   have x13:=I13.same _ _ x0
   ext
   specialize a7o ?_
   specialize T3 ?_
   refine⟨x,_,dx,F,.ref ep,rfl,x13,ck.Q2,ck.a1Y,by rw[hF];rfl,?_⟩
   specialize M6 ?_
   exists ⟨x,dx,F,rfl,x13,by rw[hF];rfl,?_⟩
   refine a6E ck ⟨dx,F,np,x13,by rw[hF];rfl,net0.same I13.same⟩ hst his ?_
   obtain⟨z,hz⟩:∃z,es[V7 N s]? = some z:=⟨_,c7 (by have:=I13.len;omega)⟩
   refine O1 I13.h (a0z (by rw[b6,hz];rfl)) ?_
   have hPt:=hP _ hlt
   obtain⟨us,u1,u2,u3⟩:=(I13.at_ _ z _ hz hPt).ex
   exists ⟨a0g u1,?_⟩
   have hul:us.length<=i:=by
    rw[u2]
    refine D4 (o6 _ _) ?_
    rw[D8];omega
   have hlen1:(C4 N).length<=1000:=by
    rw[<-w2]
    have:(C4 N).length<=1+2 * N.length:=a5I hv.two
    omega
   refine a0q u1 (F8 (by rw[b9];omega)) ?_
   have add:=I13.add (a:=vx) (s:=s) hz hPt u1 u2 u3 hst
   rw[show us.map V.ref++[V.ref vx]=(us++[vx]).map V.ref by simp]
   have nz:sl≠z:=fun q=>nsl (q ▸ mI hz)
   refine⟨_,_,rfl,add,by rw[a4w];exact lP,fun t ht=>?_,S13.put u1 nz,by rw[i9 nz];exact hsl13⟩
   rw[c1y hs]
   by_cases q:V7 N s=t
   ·subst q
    rw[U7 (by omega),if_pos rfl]
   ·rw[X3 q,if_neg q,M4]
    exact hP t ht
 ·rintro _ H13 ⟨x3,P,rfl,I13,lP,hP,S13,hsl13⟩
  have f8:∀b o,H b=some o->b≠x->H7 b=some o:=fun b o e n=>f7 _ _ (s06 _ _ e) n
  refine k H13 ⟨dx,rp,np,ep,es,as,hF ▸ I13.same _ _ x0,⟨rows0.same I13.same,I13.same _ _ rp0⟩,I13.same _ _ np0,la,fun i y l a b=>I13.same _ _ (at0 i y l a b),I13.h,by rw[I13.len,lP],fun t y hy=>?_,fun z ⟨o,ho,hzx⟩=>⟨c8 (s05 _ _ ho) hrp,c8 (f8 _ _ ho hzx) hnp,c8 (old9 _ _ ho hzx) hep,fun q=>c8 (f8 _ _ ho hzx) (fr8 z q) rfl,fun q=>c8 (old _ _ ho hzx) (I13.new.2 z q) rfl⟩⟩ fun b o e n=>I13.same _ _ (old b o e n)
  have ht:t<N.length:=by
   have:=(gI hy)
   have:=I13.len
   omega
  have q:=I13.at_ t y _ hy (hP t ht)
  rw[b9,v2,G0]at q
  exact q
def a8T(H:Hp)(xs ds:List V):Bool:=match xs with
 | [.str k,_,.ref q]=>match H q with
  | some (.tup qs)=>decide (k=("set" : Str))&&a1S qs ds
  | _=>false
 | _=>false
def a4e(xs ds:List V):Bool:=match xs with
 | .str k::n::_=>(decide (k=("set" : Str))||decide (k=("copy" : Str))||decide (k=("take" : Str)))&&inV n (ds.drop 1)
 | _=>false
theorem b8T(v:V)(ds:List V):a4e [.str "tell",v] ds=false:=by
 show((decide (("tell" : Str) = "set")||decide (("tell" : Str) = "copy")||decide (("tell" : Str) = "take"))&&inV v (ds.drop 1))=false
 rw[show(decide (("tell" : Str) = "set")||decide (("tell" : Str) = "copy")||decide (("tell" : Str) = "take"))=false by decide]
 rfl
theorem c0B(v:V)(ds:List V):a4e [.str "ask",v] ds=false:=by
 show((decide (("ask" : Str) = "set")||decide (("ask" : Str) = "copy")||decide (("ask" : Str) = "take"))&&inV v (ds.drop 1))=false
 rw[show(decide (("ask" : Str) = "set")||decide (("ask" : Str) = "copy")||decide (("ask" : Str) = "take"))=false by decide]
 rfl
theorem b5g(h:b1x H xs)(t:D9 H H'):a8T H' xs ds=a8T H xs ds:=by
 cases h with
 | set n p a d=>
  obtain⟨k,v1,v2,h,_⟩:=d
  simp only[a8T,h,t _ _ h]
 | copy n v a o=>
  rcases o with ⟨s,rfl,_⟩ | ⟨z,rfl,_⟩ <;> rfl
 | take n a=>rfl
 | tell v o=>rfl
 | ask v o=>rfl
 | skip=>rfl
structure a1h(H:Hp)(d:Addr)(ds:List V):Prop where
 h:H d=some (.tup ds)
 ex:∃k v1 v2,ds=[.str k,v1,v2]/\OpN v1/\OpN v2
theorem a1h.ts(h:a1h H d ds)(t:D9 H H'):a1h H' d ds:=⟨t _ _ h.h,h.ex⟩
theorem a6i.q(h:a6i H d):∃ds,a1h H d ds:=by
 obtain⟨k,v1,v2,h,a,b,_⟩:=h
 exact⟨_,h,k,v1,v2,rfl,a,b⟩
theorem a1h.flat{H:Hp}{d:Addr}{ds:List V}(h:a1h H d ds):ds.all X1=true:=by
 obtain⟨k,v1,v2,rfl,a,b⟩:=h.ex
 rw[Z7,Z7,Z7,a.flat,b.flat]
 rfl
theorem a1h.flat1(h:a1h H d ds):(ds.drop 1).all X1=true:=by
 obtain⟨k,v1,v2,rfl,a,b⟩:=h.ex
 simp[a.flat,b.flat]
theorem c8s(h:a1h H d ds):inV .non (ds.drop 1)=false:=by
 obtain⟨k,v1,v2,rfl,a,b⟩:=h.ex
 show inV .non [v1,v2]=false
 rcases a with ⟨s,rfl,_⟩ | ⟨n,rfl,_⟩ <;> rcases b with ⟨s',rfl,_⟩ | ⟨n',rfl,_⟩ <;> rfl
def c0c(H:Hp)(p:Addr)(xs:List V):Prop:=H p=some (.tup xs)/\b1x H xs
theorem c0c.ts(h:c0c H p xs)(t:D9 H H'):c0c H' p xs:=⟨t _ _ h.1,h.2.ts t⟩
theorem b5t.x{a:Bool}(h:b5t H (.ref p) a):∃xs,c0c H p xs:=by
 obtain⟨q,xs,e,h1,h2,_⟩:=h
 cases e
 exact⟨xs,h1,h2⟩
theorem b1x.head(h:b1x H xs):∃k r,xs=.str k::r:=by cases h <;> exact⟨_,_,rfl⟩
theorem a9c{K:Fg}{E:XK}(hr:c0c H p xs)(hd:a1h H d ds)(k:∀H',j5 H H'->Q (.bl (a4e xs ds)) H'):a4I K [.ref p,.ref d] H Q E:=by
 refine⟨rfl,?_⟩
 unfold b8M
 ext
 have sl:∀(v:V) H1,j5 H H1->X1 v=true->inV v (ds.drop 1)=a4e xs ds->tSl qSl (b4 1) (a9K (tC (.int 1))) a4R [some (.ref p),some (.ref d)] H1 fun y H2=>qIn false v y H2 Q:=by
  intro v H1 s1 fv e
  ext
  obtain⟨k0,v1,v2,rfl,_⟩:=hd.ex
  refine c9d (s1 _ _ hd.h) (b9t _ _) fun q H2 hq e2 s2=>?_
  rw[d1o]at e2
  refine b6y e2 fv hd.flat1 ?_
  rw[show inV v [v1,v2]=a4e xs [.str k0,v1,v2] from e]
  exact k H2 (s1.trans s2)
 have none':∀H1,j5 H H1->a4e xs ds=false->(fun(v:V) H1=>tSl qSl (b4 1) (a9K (tC (.int 1))) a4R [some (.ref p),some (.ref d)] H1 fun y H2=>qIn false v y H2 Q) .non H1:=
  fun H1 s1 e=>sl .non H1 s1 rfl (by rw[c8s hd,e])
 refine⟨rfl,?_⟩
 unfold b8N
 obtain⟨hp,hs⟩:=hr
 obtain⟨k0,r,rfl⟩:=hs.head
 ext
 exists a0e hp (a3g _ _) ?_
 refine G9 (by simp) fun q H1 hq e1 s1=>?_
 exists b6y e1 rfl rfl ?_
 cases hs with
 | set n p2 a d2=>
  exists C6 (by decide +kernel) ?_
  refine a0e (s1 _ _ hp) (b0s _ _ _) ?_
  exact sl _ H1 s1 rfl (by simp[a4e])
 | copy n v a o=>
  exists C6 (by decide +kernel) ?_
  refine a0e (s1 _ _ hp) (b0s _ _ _) ?_
  exact sl _ H1 s1 rfl (by simp[a4e])
 | take n a=>
  exists C6 (by decide +kernel) ?_
  refine a0e (s1 _ _ hp) (b0s _ _ _) ?_
  exact sl _ H1 s1 rfl (by simp[a4e])
 | tell v o=>
  refine v9 (by decide +kernel) ?_
  exact_mod_cast s_c ?_
  exact none' H1 s1 (b8T _ _)
 | ask v o=>
  refine v9 (by decide +kernel) ?_
  exact_mod_cast s_c ?_
  exact none' H1 s1 (c0B _ _)
 | skip=>
  refine v9 (by decide +kernel) ?_
  exact_mod_cast s_c ?_
  exact none' H1 s1 rfl
theorem a7W{K:Fg}{E:XK}(hr:c0c H p xs)(hd:a1h H d ds)(k:Q (.bl (a8T H xs ds)) H):a4f K [.ref p,.ref d] H Q E:=by
 obtain⟨hp,hs⟩:=hr
 have none':a8T H xs ds=false->qEq .non (.ref d) H Q:=fun e=>⟨false,d1n hd.h,by rw[e]at k;exact k⟩
 refine⟨rfl,?_⟩
 unfold c4Q
 ext
 refine⟨rfl,?_⟩
 unfold b6v
 obtain⟨k0,r,rfl⟩:=hs.head
 ext
 exists a0e hp (a3g _ _) ?_
 cases hs with
 | set n p2 a d2=>
  exists C6 (by decide) ?_
  exists a0e hp (c3X _ _ _ _) ?_
  obtain⟨k1,w1,w2,h2,o1,o2,_⟩:=d2
  refine⟨_,c2m h2 hd.h (by rw[Z7,Z7,Z7,o1.flat,o2.flat];rfl) hd.flat,?_⟩
  simp only[a8T,h2]at k
  simpa using k
 | copy n v a o=>
  exists v9 (by decide) ?_
  refine none' ?_
  rcases o with ⟨s,rfl,_⟩ | ⟨z,rfl,_⟩ <;> rfl
 | take n a=>
  exists v9 (by decide) ?_
  exact none' rfl
 | tell v o=>
  exists v9 (by decide) ?_
  exact none' rfl
 | ask v o=>
  exists v9 (by decide) ?_
  exact none' rfl
 | skip=>
  exists v9 (by decide) ?_
  exact none' rfl
theorem b9C{K:Fg}{E:XK}(hr:c0c H p xs)(hd:a1h H d ds)(k:Q (.bl (a8T H xs ds)) H):a6u K [.ref p,.ref d] H Q E:=by
 obtain⟨hp,hs⟩:=hr
 refine⟨rfl,?_⟩
 unfold b4j
 obtain⟨k0,r,rfl⟩:=hs.head
 ext
 exists a0e hp (a3g _ _) ?_
 cases hs with
 | set n p2 a d2=>
  exists C6 (by decide) ?_
  exists a0e hp (c3X _ _ _ _) ?_
  obtain⟨k1,w1,w2,h2,o1,o2,_⟩:=d2
  refine⟨_,c2m h2 hd.h (by rw[Z7,Z7,Z7,o1.flat,o2.flat];rfl) hd.flat,?_⟩
  simp only[a8T,h2]at k
  simpa using k
 | copy n v a o=>
  refine v9 (by decide) ?_
  have:a8T H [.str "copy",.str n,v] ds=false:=by rcases o with ⟨s,rfl,_⟩ | ⟨z,rfl,_⟩ <;> rfl
  rw[this]at k
  exact k
 | take n a=>exact v9 (by decide) k
 | tell v o=>exact v9 (by decide) k
 | ask v o=>exact v9 (by decide) k
 | skip=>exact v9 (by decide) k
theorem c2d{ti:TIp}{x:V}(e:σ[n]? = some (some x))(h:te σ H fun y H1=>ti x y H1 fun z H2=>D.nx (σ.set n (some z)) H2):c0z n te ti D σ H:=⟨x,e,h⟩
theorem d2P{K:Fg}(k:∀d H',H d=none->H' d=some (.dK [(Sum.inl 0,.ref a)])->j5 H H'->Q (.ref d) H'):b8Q ((tC (.int 0),tC (.ref a))::[]) σ H Q:=by
 intro d hd
 refine⟨c9,[(Sum.inl 0,.ref a)],rfl,by simp,?_⟩
 have e:(upd (upd H d (.dK [])) d (.dK (b0n [] [(Sum.inl 0,V.ref a)])))=upd H d (.dK [(Sum.inl 0,.ref a)]):=by rw[b3y];rfl
 rw[e]
 exact k d _ hd c9 (A0 hd)
def a5G(H:Hp)(rs:List Addr)(ds:List V)(Do Sp:Nat->Bool):Prop:=∀(p:Nat) rx,rs[p]? = some rx->∃xs,c0c H rx xs/\a8T H xs ds=Do p/\a4e xs ds=Sp p
theorem a5G.ts{Sp:Nat->Bool}(h:a5G H rs ds Do Sp)(t:D9 H H'):a5G H' rs ds Do Sp:=fun p rx e=>by
 obtain⟨xs,q1,q2,q3⟩:=h p rx e
 exact⟨xs,q1.ts t,by rw[b5g q1.2 t];exact q2,q3⟩
theorem a5G.ex(hr:a0E H a N)(h:H a=some (.lst (rs.map V.ref)))(ds:List V):∃Do Sp,a5G H rs ds Do Sp:=by
 obtain⟨rs',r1,r2,r3⟩:=hr.ex
 obtain rfl:rs'=rs:=by
  rw[h]at r1
  exact(a7e (f:=V.ref) (fun a b h=>V.ref.inj h) |>.mp (HO.lst.inj (Option.some.inj r1))).symm
 refine⟨fun p=>match rs'[p]? with | some rx=>(match H rx with | some (.tup xs)=>a8T H xs ds | _=>false) | none=>false,fun p=>match rs'[p]? with | some rx=>(match H rx with | some (.tup xs)=>a4e xs ds | _=>false) | none=>false,fun p rx e=>?_⟩
 have hp:p<N.length:=by rw[<-r2];exact(gI e)
 obtain⟨xs,q⟩:=(r3 p rx _ e (Q3 hp)).x
 refine⟨xs,q,?_,?_⟩
 ·simp only[e,q.1]
 ·simp only[e,q.1]
def Jst(N:Nt)(Do Sp:Nat->Bool)(S:List Nat)(i:Nat)(s:Stp)(t:Nat):Prop:=
 (i=0/\s=FST/\t=0)\/∃(p q:Nat) (l:List Nat),s=((p:Int),(q:Int))/\N[p]? = some l/\l[q]? = some t/\(Sp p=true\/∃j,j<i/\S[j]? = some p/\Do p=false)
theorem Jst.grow{Sp:Nat->Bool}{S ext:List Nat}(h:Jst N Do Sp S i s t):Jst N Do Sp (S++ext) i s t:=by
 rcases h with h | ⟨p,q,l,h1,h2,h3,h4⟩
 ·exact .inl h
 ·refine .inr ⟨p,q,l,h1,h2,h3,?_⟩
  rcases h4 with h4 | ⟨j,j1,j2,j3⟩
  ·exact .inl h4
  ·exact .inr ⟨j,j1,by rw[o0 (gI j2)];exact j2,j3⟩
structure CbK(K:Fg)(H:Hp)(d:Addr)(N:Nt)(Do Sp:Nat->Bool)(S:List Nat)(kvs:List (Key×V)):Prop where
 hd:H d=some (.dK kvs)
 nd:S.Nodup
 lt:∀t∈S,t<N.length
 len:kvs.length=S.length
 z:S[0]? = some 0
 at_:∀(i:Nat) t,S[i]? = some t->∃a s,kvs[i]? = some (Sum.inl (t:Int),.ref a)/\a0I K H a s/\Jst N Do Sp S i s t
theorem CbK.keys{K:Fg}{Sp:Nat->Bool}{S:List Nat}(h:CbK K H d N Do Sp S kvs):kvs.map (·.1)=S.map fun(t:Nat)=>(Sum.inl (t:Int):Key):=by
 apply b3N
 intro i
 rw[b6,b6]
 cases e:S[i]? with
 | none=>
  have:kvs[i]? = none:=by
   rw[a3K]at e ⊢
   have:=h.len
   omega
  rw[this];rfl
 | some t=>
  obtain⟨a,s,q,_⟩:=h.at_ i t e
  rw[q];rfl
theorem CbK.ndk{K:Fg}{Sp:Nat->Bool}{S:List Nat}(h:CbK K H d N Do Sp S kvs):(kvs.map (·.1)).Nodup:=by
 rw[h.keys]
 refine a1V _ (fun a b hab z=>hab ?_) h.nd
 have:=Sum.inl.inj z
 omega
theorem CbK.in_{K:Fg}{Sp:Nat->Bool}{S:List Nat}(h:CbK K H d N Do Sp S kvs)(t:Nat):(a7B kvs (Sum.inl (t:Int))).isSome=decide (t∈S):=by
 by_cases ht:t∈S
 ·rw[d5l ht]
  obtain⟨i,hi⟩:=C0.mp ht
  obtain⟨a,s,q,_⟩:=h.at_ i t hi
  rw[b4f h.ndk (mI q)]
  rfl
 ·rw[d5k ht]
  cases e:a7B kvs (Sum.inl (t:Int))with
  | none=>rfl
  | some v=>
   have:=c1S e
   rw[h.keys]at this
   obtain⟨u,hu,z⟩:=E7.mp this
   have:=Sum.inl.inj z
   exact absurd (show t ∈ S from (by have : u = t := by omega
                                     exact this ▸ hu)) ht
theorem CbK.notin{K:Fg}{Sp:Nat->Bool}{S:List Nat}(h:CbK K H d N Do Sp S kvs)(t:Nat):∃o,b1A H d (.int (t:Int)) o/\o.isSome=decide (t∈S):=⟨_,b1A.k (k:=Sum.inl (t:Int)) h.hd,h.in_ t⟩
theorem CbK.same{K:Fg}{Sp:Nat->Bool}{S:List Nat}(h:CbK K H d N Do Sp S kvs)(s:j5 H H'):CbK K H' d N Do Sp S kvs:=
 ⟨s _ _ h.hd,h.nd,h.lt,h.len,h.z,fun i t e=>let⟨a,st,q1,q2,q3⟩:=h.at_ i t e; ⟨a,st,q1,q2.ts (j5.ts s),q3⟩⟩
theorem CbK.add{K:Fg}{Sp:Nat->Bool}{S:List Nat}(h:CbK K H d N Do Sp S kvs)(ht:¬t∈S)(hlt:t<N.length)(ha:a0I K H a s)(hj:Jst N Do Sp S S.length s t) :
  CbK K (upd H d (.dK (a2P kvs (Sum.inl (t:Int)) (.ref a)))) d N Do Sp (S++[t]) (a2P kvs (Sum.inl (t:Int)) (.ref a)):=by
 have e:a2P kvs (Sum.inl (t:Int)) (.ref a)=kvs++[(Sum.inl (t:Int),.ref a)]:=by
  unfold a2P
  rw[a5O,h.in_,d5k ht,if_neg (by decide)]
 rw[e]
 have ts:D9 H (upd H d (.dK (kvs++[(Sum.inl (t:Int),.ref a)]))):=fun b xs q=>by rw[i9 (K0 q h.hd (by intro z;cases z))];exact q
 refine⟨c9,?_,fun u hu=>?_,by simp[h.len],?_,fun i u hu=>?_⟩
 ·rw[a2U]
  exact⟨h.nd,by simp,fun x hx y hy=>by rw[l6.mp hy];intro z;exact ht (z ▸ hx)⟩
 ·rcases u4.mp hu with q | q
  ·exact h.lt u q
  ·rw[l6.mp q];exact hlt
 ·rw[o0 (t6.mp h.z).1];exact h.z
 ·rcases a0C hu with ⟨hi,g⟩ | ⟨hi,g⟩
  ·obtain⟨a',s',q1,q2,q3⟩:=h.at_ i u g
   exact⟨a',s',by rw[o0 (gI q1)];exact q1,q2.ts ts,q3.grow⟩
  ·subst g
   refine⟨a,s,?_,ha.ts ts,?_⟩
   ·rw[hi,<-h.len];simp
   ·rw[hi];exact hj.grow
structure CbI(K:Fg)(H0 H:Hp)(d o:Addr)(N:Nt)(Do Sp:Nat->Bool)(S:List Nat)(kvs:List (Key×V)):Prop where
 cb:CbK K H d N Do Sp S kvs
 same:j5 H0 H
 ho:H o=some (.lst (IL S))
 fr:H0 d=none/\H0 o=none
theorem CbI.next{K:Fg}{o:Addr}{Sp:Nat->Bool}{S:List Nat}(h:CbI K H0 H d o N Do Sp S kvs)(s:j5 H H'):CbI K H0 H' d o N Do Sp S kvs:=⟨h.cb.same s,h.same.trans s,s _ _ h.ho,h.fr⟩
theorem c8B{K:Fg}{o:Addr}{Sp:Nat->Bool}{S:List Nat}{a b e f g p q:Nat}(ha:σ[a]? = some (some (.int (t:Int))))(hb:σ[b]? = some (some (.ref d)))(he:σ[e]? = some (some (.int (p:Int))))(hf:σ[f]? = some (some (.int (q:Int))))(hg:σ[g]? = some (some (.ref o)))
  (I:CbI K H0 H d o N Do Sp S kvs) (h400:N.length<=400) (hl:N[p]? = some l) (ht:l[q]? = some t) (htn:t<N.length) (hj:Sp p=true\/∃j:Nat,S[j]? = some p/\Do p=false)
  (k:∀H' S' kvs',CbI K H0 H' d o N Do Sp S' kvs'->(∃ext,S'=S++ext)->t∈S'->D.nx σ H') :
  Q9 (tB (a1C (b4 a) (b4 b))) (w4 (a4m (b4 b) (b4 a) (a3c (a9 (b4 e) (a9 (b4 f) (g0))))) (a0o (tBM K "list" V3 (b4 g) (a9 (b4 a) (g0))))) (E9) D σ H:=by
 exact_mod_cast d2e ?_
 exact_mod_cast c9G ?_
 exact_mod_cast a2x ?_
 exact_mod_cast U5 ha ?_
 exact_mod_cast U5 hb ?_
 obtain⟨o',g1,g2⟩:=I.cb.notin t
 refine⟨d,o',rfl,g1,?_⟩
 rw[g2]
 refine⟨_,rfl,?_⟩
 by_cases hts:t∈S
 ·refine v9 (by rw[d5l hts];rfl) ?_
  exact_mod_cast a8G ?_
  exact k H S kvs I ⟨[],by simp⟩ hts
 refine C6 (by rw[d5k hts];rfl) ?_
 exact_mod_cast M9 ?_
 exact_mod_cast a7J ?_
 exact_mod_cast c8Z ?_
 exact_mod_cast a0p ?_
 exact_mod_cast U5 he ?_
 exact_mod_cast a0p ?_
 exact_mod_cast U5 hf ?_
 exact_mod_cast a2Y ?_
 refine G9 (by simp) fun z H1 hz e1 s1=>?_
 have I1:=I.next s1
 exact_mod_cast U5 hb ?_
 exact_mod_cast U5 ha ?_
 have hlen:S.length<=400:=D4 (a4t _ _ I.cb.nd I.cb.lt) h400
 refine⟨d,_,rfl,b6k.k (k:=Sum.inl (t:Int)) I1.cb.hd (F8 (by rw[I.cb.len];omega)),?_⟩
 have add:=I1.cb.add (a:=z) (s:=((p:Int),(q:Int))) hts htn (.inl e1) (.inr ⟨p,q,l,rfl,hl,ht,hj.imp id fun⟨j,j1,j2⟩=>⟨j,(gI j1),j1,j2⟩⟩)
 obtain⟨kvs',hk⟩:∃kvs',kvs'=a2P kvs (Sum.inl (t:Int)) (.ref z):=⟨_,rfl⟩
 rw[<-hk]at add ⊢
 obtain⟨H2,hH2⟩:∃H2,H2=upd H1 d (.dK kvs'):=⟨_,rfl⟩
 rw[<-hH2]at add ⊢
 have nod:o≠d:=K0 I1.ho I1.cb.hd (by intro z;cases z)
 have ho2:H2 o=some (.lst (IL S)):=by rw[hH2,i9 nod];exact I1.ho
 have s2:j5 H0 H2:=fun b' o'' q'=>by rw[hH2,i9 (c8 q' I.fr.1)];exact I1.same _ _ q'
 exact_mod_cast b7v ?_
 exact_mod_cast a7o ?_
 exact_mod_cast U5 hg ?_
 refine⟨a0g ho2,?_⟩
 exact_mod_cast a0p ?_
 exact_mod_cast U5 ha ?_
 exact_mod_cast a2Y ?_
 refine a0q ho2 (F8 (by rw[F3];omega)) ?_
 have e3:IL S++[V.int (t:Int)]=IL (S++[t]):=by simp[IL]
 rw[e3]
 have ts:D9 H2 (upd H2 o (.lst (IL (S++[t])))):=D9.put ho2
 refine k _ (S++[t]) kvs' ⟨⟨by rw[i9 nod.symm];exact add.hd,add.nd,add.lt,add.len,add.z,fun i u hu=>let⟨a',s',q1,q2,q3⟩:=add.at_ i u hu; ⟨a',s',q1,q2.ts ts,q3⟩⟩,fun b' o'' q'=>by rw[i9 (c8 q' I.fr.2)];exact s2 _ _ q',c9,I.fr⟩ ⟨[t],rfl⟩ (by simp)
structure a1N(c:Cn)(H:Hp)(x:Addr)(N:Nt)(rs:List Addr):Prop where
 ex:∃dx fs n r,H x=some (.ins c.P0 dx fs)/\fs.lookup ("nexts" : Str)=some (V.ref n)/\L8 H n N/\fs.lookup ("rows" : Str)=some (V.ref r)/\H r=some (.lst (rs.map V.ref))/\rs.length=N.length
theorem a1N.x{x:Addr}(h:a1N c H x N rs):c2y c H x N:=by
 obtain⟨dx,fs,n,r,h1,h2,h3,_⟩:=h.ex
 exact⟨dx,fs,n,h1,h2,h3⟩
theorem a1N.same{x:Addr}(h:a1N c H x N rs)(s:j5 H H'):a1N c H' x N rs:=by
 obtain⟨dx,fs,n,r,h1,h2,h3,h4,h5,h6⟩:=h.ex
 exact⟨dx,fs,n,r,s _ _ h1,h2,h3.same s,h4,s _ _ h5,h6⟩
theorem a7t.r{K:Fg}{x:Addr}(h:a7t K c Z rs H x N):a1N c H x N rs:=by
 obtain⟨dx,r,n,e,es,ns,h1,⟨h2,h2r⟩,h3,h4,h5,h6,h7,h8,_⟩:=h.ex
 refine⟨dx,_,n,r,h1,rfl,⟨ns,h3,h4,h5⟩,rfl,h2r,?_⟩
 obtain⟨rs',q1,q2,_⟩:=h2.ex
 rw[h2r]at q1
 have:=congrArg b6m (HO.lst.inj (Option.some.inj q1))
 rw[b9,b9]at this
 omega
theorem b4K{K:Fg}{x o:Addr}{Sp:Nat->Bool}{S:List Nat}{p:Nat}{E:XK}(ck:a0v K c)(hp:c2y c H0 x N)(hv:a1a N)(I:CbI K H0 H d o N Do Sp S kvs)(hl:N[p]? = some l)(hj:Sp p=true\/∃j:Nat,S[j]? = some p/\Do p=false)
  (k:∀H' S' kvs',CbI K H0 H' d o N Do Sp S' kvs'->(∃ext,S'=S++ext)->(∀t∈l,t∈S')->Q .non H'):a5U K [.ref x,.int (p:Int),.ref d,.ref o] H Q E:=by
 obtain⟨dx,fs,n,hx,hf,hn⟩:=hp
 refine⟨rfl,?_⟩
 unfold b6s
 specialize a1o (a6w ?_)
 specialize T3 ?_
 exists ⟨x,_,dx,fs,_,rfl,I.same _ _ hx,ck.Q2,ck.X6,hf,?_⟩
 obtain⟨xs,y,f1,f2,f3,_⟩:=hn.at hl
 exists O1 (I.same _ _ f1) f2 ?_
 refine⟨y,rfl,⟨_,SqL.of (I.same _ _ f3)⟩,?_⟩
 have hlt:=hv.lt l (mI hl)
 refine b2X l.length (fun i σ H'=>∃y4 y5 S' kvs',σ=[some (.ref x),some (.int (p:Int)),some (.ref d),some (.ref o),y4,y5]/\CbI K H0 H' d o N Do Sp S' kvs'/\(∃ext,S'=S++ext)/\∀t∈l.take i,t∈S') ?_ ?_ ?_ ?_
 ·exact⟨_,_,S,kvs,rfl,I,⟨[],by simp⟩,by simp⟩
 ·rintro _ H' ⟨y4,y5,S',kvs',rfl,I',e',g'⟩
  rw[G0]at g'
  exact⟨⟨_,SqL.of (I'.same _ _ f3),by rw[F3];exact j6 _⟩,k H' S' kvs' I' e' g'⟩
 ·rintro i _ H' hi ⟨y4,y5,S',kvs',rfl,I',e',g'⟩
  exact⟨_,_,SqL.of (I'.same _ _ f3),by unfold IL;rw[b6,c7 hi];rfl⟩
 ·rintro i _ H' hi ⟨y4,y5,S',kvs',rfl,I',⟨ext,e'⟩,g'⟩ v H1 ⟨pp,w,hpp,rfl,rfl,gw⟩
  obtain⟨t,ht⟩:∃t,l[i]? = some t:=⟨_,c7 hi⟩
  have gw:=gw _ (SqL.of (I'.same _ _ f3))
  unfold IL at gw
  rw[b6,ht]at gw
  cases gw
  refine a7I (SqT.of c9) ?_
  have I1:=I'.next (A0 (o:=.tup [V.int (i:Int),V.int (t:Int)]) hpp)
  refine c8B (p:=p) (q:=i) (t:=t) (l:=l) rfl rfl rfl rfl rfl I1 hv.le hl ht (hlt t (mI ht)) ?_ fun H2 S2 kvs2 I2 ⟨ext2,e2⟩ t2=>?_
  ·rcases hj with hj | ⟨j,j1,j2⟩
   ·exact .inl hj
   ·exact .inr ⟨j,by rw[e',o0 (gI j1)];exact j1,j2⟩
  ·refine⟨_,_,S2,kvs2,rfl,I2,⟨ext++ext2,by rw[e2,e',a5a]⟩,fun u hu=>?_⟩
   rw[K5,ht]at hu
   rcases u4.mp hu with q | q
   ·rw[e2];exact y0 _ (g' u q)
   ·have:u=t:=by simpa using q
    subst this;exact t2
structure d1v(N:Nt)(Do Sp:Nat->Bool)(S:List Nat):Prop where
 sp:∀(p:Nat) l,Sp p=true->N[p]? = some l->∀t∈l,t∈S
 no:∀(p:Nat) l,p∈S->Do p=false->N[p]? = some l->∀t∈l,t∈S
theorem c6A{K:Fg}{o:Addr}{Sp:Nat->Bool}(ck:a0v K c)(hv:a1a N)(hd:H d=some (.dK [(Sum.inl 0,.ref c.O9)]))(ho:H o=some (.lst [.int 0]))(s:j5 H0 H)(f1:H0 d=none)(f2:H0 o=none):CbI K H0 H d o N Do Sp [0] [(Sum.inl 0,.ref c.O9)]:=by
 refine⟨⟨hd,by simp,by simpa using hv.pos,rfl,rfl,fun i t hi=>?_⟩,s,ho,f1,f2⟩
 cases i with
 | zero=>
  cases hi
  exact⟨_,FST,rfl,.inr ⟨rfl,ck.a0k⟩,.inl ⟨rfl,rfl,rfl⟩⟩
 | succ i=>simp at hi
def BL(n:Nat)(f:Nat->Bool):List V:=(t8 n).map fun p=>V.bl (f p)
theorem d1B(n:Nat)(f:Nat->Bool):(BL n f).length=n:=by simp[BL]
theorem c9o{p:Nat}(h:p<n):atI (BL n f) (p:Int)=some (V.bl (f p)):=a0z (by unfold BL;rw[b6,b1D h];rfl)
theorem b1O{K:Fg}{x ma br:Addr}{Sp:Nat->Bool}{E:XK}(ck:a0v K c)(hp:a1N c H x N rs)(hv:a1a N)(hm:H ma=some (.lst (BL N.length Do)))(hb:H br=some (.lst (BL N.length Sp)))
  (k:∀d H' S kvs,CbK K H' d N Do Sp S kvs->d1v N Do Sp S->j5 H H'->Q (.ref d) H'):a2L K c [.ref x,.ref ma,.ref br] H Q E:=by
 have h400:=hv.le
 obtain⟨dx,fs,n,r,hx,hfn,hn,hfr,hr,lr⟩:=hp.ex
 refine⟨rfl,?_⟩
 unfold a8f
 nofun
 exists d2P (K:=K) fun d H1 hd1 e1 s1=>?_
 nofun
 exists G9 (by simp) fun o H2 ho e2 s2=>?_
 have I2:CbI K H H2 d o N Do Sp [0] _:=c6A ck hv (s2 _ _ e1) e2 (s1.trans s2) hd1 (s1.free ho)
 exact_mod_cast a6x (P:=fun σ H3=>∃y5 S kvs,σ=[some (.ref x),some (.ref ma),some (.ref br),some (.ref d),some (.ref o),y5,none]/\CbI K H H3 d o N Do Sp S kvs/\∀(p:Nat) l,Sp p=true->N[p]? = some l->∀t∈l,t∈S) ?_ ?_
 rotate_left
 ·intro nx hnx
  specialize a1o (a2e ?_)
  specialize T3 ?_
  exists ⟨x,_,dx,fs,_,rfl,I2.same _ _ hx,ck.Q2,ck.U2,hfr,?_⟩
  refine O5 (I2.same _ _ hr) ?_
  rw[b9,lr]
  refine⟨N.length,rfl,by omega,by omega,?_⟩
  rw[A3]
  refine a1k (fun i σ H3=>∃y5 S kvs,σ=[some (.ref x),some (.ref ma),some (.ref br),some (.ref d),some (.ref o),y5,none]/\CbI K H H3 d o N Do Sp S kvs/\∀(p:Nat) l,p<i->Sp p=true->N[p]? = some l->∀t∈l,t∈S) ⟨_,[0],_,rfl,I2,by omega⟩ ?_ ?_
  ·rintro i _ H3 hi ⟨y5,S,kvs,rfl,I3,g3⟩
   rw[a0a]
   ext
   exists O1 (I3.same _ _ hb) (c9o hi) ?_
   refine a3f (fun e=>?_) (fun e=>?_)
   ·ext
    refine b4K ck hp.x hv I3 (Q3 hi) (.inl e) fun H6 S6 kvs6 I6 ⟨ext,e6⟩ g6=>?_
    refine⟨_,S6,kvs6,rfl,I6,fun p l hpi hsp hl t ht=>?_⟩
    by_cases q:p=i
    ·subst q
     rw[Q3 hi]at hl
     cases hl
     exact g6 t ht
    ·rw[e6]
     exact y0 _ (g3 p l (by omega) hsp hl t ht)
   ·ext
    refine⟨_,S,kvs,rfl,I3,fun p l hpi hsp hl t ht=>?_⟩
    by_cases q:p=i
    ·subst q;exact(e hsp).elim
    ·exact g3 p l (by omega) hsp hl t ht
  ·rintro _ H3 ⟨y5,S,kvs,rfl,I3,g3⟩
   exact hnx _ _ ⟨y5,S,kvs,rfl,I3,fun p l a b=>g3 p l (gI b) a b⟩
 rintro _ H3 ⟨y5,S3,kvs3,rfl,I3,g3⟩
 nofun
 exact_mod_cast M9 ?_
 exact_mod_cast b0X ?_
 refine⟨fun m σ H4=>∃(y5:Option V) (S:List Nat) (kvs:List (Key×V)) (dn:Nat),σ=[some (.ref x),some (.ref ma),some (.ref br),some (.ref d),some (.ref o),y5,some (.int (dn:Int))]/\CbI K H H4 d o N Do Sp S kvs/\(∀(p:Nat) l,Sp p=true->N[p]? = some l->∀t∈l,t∈S)/\dn<=S.length/\(∀(j p:Nat) l,j<dn->S[j]? = some p->Do p=false->N[p]? = some l->∀t∈l,t∈S)/\m=N.length - dn,
  ⟨_,y5,S3,kvs3,0,rfl,I3,g3,by omega,by omega,rfl⟩,?_⟩
 rintro m _ H4 ⟨y5,S,kvs,dn,rfl,I4,g4,hdn,c4,rfl⟩
 ext
 exists O5 I4.ho ?_
 rw[F3]
 have hSl:S.length<=N.length:=a4t _ _ I4.cb.nd I4.cb.lt
 by_cases hlt:dn<S.length
 ·refine C6 (d5l (by omega)) ?_
  obtain⟨p,hpS⟩:∃p,S[dn]? = some p:=⟨_,c7 hlt⟩
  have hpn:=I4.cb.lt p (mI hpS)
  refine⟨fun σ H5=>∃(m':Nat) (y5:Option V) (S:List Nat) (kvs:List (Key×V)) (dn':Nat),σ=[some (.ref x),some (.ref ma),some (.ref br),some (.ref d),some (.ref o),y5,some (.int (dn':Int))]/\CbI K H H5 d o N Do Sp S kvs/\(∀(p:Nat) l,Sp p=true->N[p]? = some l->∀t∈l,t∈S)/\dn'<=S.length/\(∀(j p:Nat) l,j<dn'->S[j]? = some p->Do p=false->N[p]? = some l->∀t∈l,t∈S)/\m'=N.length - dn'/\m'<N.length - dn,?_,?_⟩
  ·rintro σ' H5 ⟨m',y4,S,kvs,dn',e,r1,r2,r3,r4,r5,r6⟩
   exact⟨m',r6,y4,S,kvs,dn',e,r1,r2,r3,r4,r5⟩
  nofun
  exists O1 I4.ho (b6Q hpS) ?_
  exact_mod_cast M9 ?_
  specialize c2d rfl ?_
  exists O1 (I4.same _ _ hm) (c9o hpn) ?_
  have e1:(dn:Int)+1=((dn+1:Nat):Int):=by omega
  cases hDo:Do p with
  | true=>
   exists v9 rfl ?_
   rw[e1]
   refine⟨_,_,S,kvs,dn+1,rfl,I4,g4,by omega,fun j p' l hj hj2 hD hl t ht=>?_,rfl,by omega⟩
   by_cases q:j=dn
   ·subst q
    rw[hpS]at hj2
    cases hj2
    rw[hDo]at hD
    cases hD
   ·exact c4 j p' l (by omega) hj2 hD hl t ht
  | false=>
   exists C6 rfl ?_
   rw[e1]
   refine b4K ck hp.x hv I4 (Q3 hpn) (.inr ⟨dn,hpS,hDo⟩) fun H6 S6 kvs6 I6 ⟨ext,e6⟩ g6=>?_
   refine⟨_,_,S6,kvs6,dn+1,rfl,I6,fun p' l a b t ht=>by rw[e6];exact y0 _ (g4 p' l a b t ht),by rw[e6,o5];omega,fun j p' l hj hj2 hD hl t ht=>?_,rfl,by omega⟩
   have hj3:S[j]? = some p':=by rw[e6,o0 (by omega)]at hj2;exact hj2
   by_cases q:j=dn
   ·subst q
    rw[hpS]at hj3
    cases hj3
    rw[Q3 hpn]at hl
    cases hl
    exact g6 t ht
   ·rw[e6];exact y0 _ (c4 j p' l (by omega) hj3 hD hl t ht)
 ·exists v9 (d5k (by omega)) ?_
  refine k d H4 S kvs I4.cb ⟨g4,fun p l hp' hD hl t ht=>?_⟩ I4.same
  obtain⟨j,hj⟩:=C0.mp hp'
  have:=(gI hj)
  exact c4 j p l (by omega) hj hD hl t ht
inductive Fw(N:Nt):Stp->List Stp->Nat->Prop
 | one {s:Stp}:a4Q N s->Fw N s [] (V7 N s)
 | cons {s s':Stp} {r:List Stp} {t:Nat}:a4Q N s->s'.1=(V7 N s:Int)->Fw N s' r t->Fw N s (s'::r) t
theorem a6e{p q:Nat}:¬(((p:Int),(q:Int)):Stp)=FST:=by
 unfold FST
 intro z
 have:=congrArg Prod.fst z
 simp at this
structure Rdy(K:Fg)(c:Cn)(H:Hp)(rx x dd:Addr)(N:Nt)(rs:List Addr)(ds:List V)(Do Sp:Nat->Bool)(S:List Nat):Prop where
 ex:∃dx d kvs,H rx=some (.ins c.a0B dx [("plan",.ref x),("deed",.ref dd),("come_by",.ref d)])/\CbK K H d N Do Sp S kvs
 plan:a1N c H x N rs
 deed:a1h H dd ds
 sat:a5G H rs ds Do Sp
 shut:d1v N Do Sp S
theorem Rdy.same{K:Fg}{x:Addr}{Sp:Nat->Bool}{S:List Nat}(h:Rdy K c H rx x dd N rs ds Do Sp S)(s:j5 H H'):Rdy K c H' rx x dd N rs ds Do Sp S:=by
 obtain⟨dx,d,kvs,h1,h2⟩:=h.ex
 exact⟨⟨dx,d,kvs,s _ _ h1,h2.same s⟩,h.plan.same s,h.deed.ts (j5.ts s),h.sat.ts (j5.ts s),h.shut⟩
theorem c2t{K:Fg}{x:Addr}(ck:a0v K c)(hp:a1N c H x N rs)(hv:a1a N)(hσ:σ[1]? = some (some (.ref x)))
  (step:∀(p:Nat) rx H',rs[p]? = some rx->j5 H H'->∀R:VK,(∀H'',j5 H' H''->R (.bl (f p)) H'')->te (some (.ref rx)::σ) H' R)
  (k:∀D H',H D=none->H' D=some (.lst (BL N.length f))->j5 H H'->Q (.ref D) H'):V6 (W8 K (a0n K (b4 1) "rows")) a0Q te σ H Q:=by
 have h400:=hv.le
 obtain⟨dx,fs,n,r,hx,hfn,hn,hfr,hr,lr⟩:=hp.ex
 exact_mod_cast a0c (Z6 ?_)
 exact_mod_cast T3 ?_
 exact_mod_cast U5 hσ ?_
 refine⟨x,_,dx,fs,_,rfl,hx,ck.Q2,ck.U2,hfr,?_⟩
 refine⟨r,rfl,⟨_,SqL.of hr⟩,fun D hD=>?_⟩
 refine a0G (xs:=rs.map V.ref) (fun i ys H8=>ys=BL i f/\H8 D=some (.lst ys)/\j5 H H8) ?_ ?_ ?_ ?_ ?_
 ·exact⟨rfl,c9,A0 hD⟩
 ·rintro i ys H8 ⟨_,h,_⟩
  exact h
 ·rintro i ys H8 _ ⟨_,_,s8⟩
  exact SqL.of (s8 _ _ hr)
 ·rintro i y ys H8 hy ⟨rfl,hD8,s8⟩ R hR
  rw[b6]at hy
  cases hrx:rs[i]? with
  | none=>rw[hrx]at hy;cases hy
  | some rx=>
   rw[hrx]at hy
   cases hy
   have hi:i<rs.length:=(gI hrx)
   refine step i rx H8 hrx s8 _ fun H9 s9=>?_
   refine hR _ _ (s9 _ _ hD8) (F8 (by rw[d1B];omega)) ⟨?_,c9,fun b o e=>?_⟩
   ·unfold BL
    rw[a0d,E1]
    rfl
   ·rw[i9 (c8 e hD)];exact s9 _ _ (s8 _ _ e)
 ·rintro ys H8 ⟨rfl,hD8,s8⟩
  rw[b9,lr]at hD8
  exact k D H8 hD hD8 s8
theorem b5R{K:Fg}{x:Addr}{Sp:Nat->Bool}{E:XK}(ck:a0v K c)(hp:a1N c H x N rs)(hv:a1a N)(hd:a1h H dd ds)(hs:a5G H rs ds Do Sp)(hrx:H rx=none)(hdx:H dx=none)
  (k:∀H' S,Rdy K c H' rx x dd N rs ds Do Sp S->j5 H H'->Q .non H'):a3m K c [.ref rx,.ref x,.ref dd] (upd (upd H dx (.own rx)) rx (.ins c.a0B dx [])) Q E:=by
 refine⟨rfl,?_⟩
 unfold b0L
 exact_mod_cast M9 ?_
 specialize a1t ?_
 refine⟨rx,_,dx,[],rfl,c9,ck.a2d,ck.a5b,by simp,?_⟩
 exact_mod_cast M9 ?_
 specialize a1t ?_
 refine⟨rx,_,dx,_,rfl,c9,ck.a2d,ck.a3o,by simp[Q0],?_⟩
 obtain⟨H3,hH3⟩:∃H3,H3=upd (upd (upd (upd H dx (.own rx)) rx (.ins c.a0B dx [])) rx (.ins c.a0B dx (Q0 "plan" (.ref x) []))) rx (.ins c.a0B dx (Q0 "deed" (.ref dd) (Q0 "plan" (.ref x) []))):=⟨_,rfl⟩
 rw[<-hH3]
 have x3:H3 rx=some (.ins c.a0B dx (Q0 "deed" (.ref dd) (Q0 "plan" (.ref x) []))):=hH3 ▸ c9
 have s3:j5 H H3:=fun b o e=>by
  have n1:=c8 e hrx
  rw[hH3,i9 n1,i9 n1,i9 n1,i9 (c8 e hdx)];exact e
 have hs3:=hs.ts (j5.ts s3)
 have hd3:=hd.ts (j5.ts s3)
 exact_mod_cast M9 ?_
 refine b4z ?_
 refine c2t ck (hp.same s3) hv (f:=Do) rfl (fun p ax H4 hax s4 R hR=>?_) fun ma H4 hma e4 s4=>?_
 ·obtain⟨xs,x1,x2,x3⟩:=hs3 p ax hax
  ext
  refine a7W (x1.ts (j5.ts s4)) (hd3.ts (j5.ts s4)) ?_
  rw[b5g x1.2 (j5.ts s4),x2]
  exact hR H4 (j5.refl _)
 have s04:=s3.trans s4
 specialize a1t ?_
 refine c2t ck (hp.same s04) hv (f:=Sp) rfl (fun p ax H5 hax s5 R hR=>?_) fun br H5 hbr e5 s5=>?_
 ·obtain⟨xs,x1,x2,x3⟩:=hs3 p ax hax
  ext
  refine a9c (x1.ts (j5.ts (s4.trans s5))) (hd3.ts (j5.ts (s4.trans s5))) fun H6 s6=>?_
  rw[x3]
  exact hR H6 s6
 ext
 have s35:=s4.trans s5
 exists b1O ck (hp.same (s3.trans s35)) hv (s5 _ _ e4) e5 fun d H6 S kvs cb sh s6=>?_
 have x4:=s6 _ _ (s35 _ _ x3)
 refine⟨rx,_,dx,_,rfl,x4,ck.a2d,ck.a2V,(by show(2:Nat)<1000;decide),?_⟩
 obtain⟨H5',hH5⟩:∃H5',H5'=upd H6 rx (.ins c.a0B dx (Q0 "come_by" (.ref d) (Q0 "deed" (.ref dd) (Q0 "plan" (.ref x) [])))):=⟨_,rfl⟩
 rw[<-hH5]
 have s5':j5 H H5':=fun b o e=>by rw[hH5,i9 (c8 e hrx)];exact s6 _ _ (s35 _ _ (s3 _ _ e))
 have t5:D9 H6 H5':=hH5 ▸ D9.ins x4
 refine k H5' S ⟨⟨dx,d,kvs,?_,?_⟩,hp.same s5',hd.ts (j5.ts s5'),hs.ts (j5.ts s5'),sh⟩ s5'
 ·rw[hH5,c9];rfl
 ·refine⟨?_,cb.nd,cb.lt,cb.len,cb.z,fun i t e=>?_⟩
  ·rw[hH5,i9 (K0 cb.hd x4 (by intro z;cases z))];exact cb.hd
  ·obtain⟨a,s,q1,q2,q3⟩:=cb.at_ i t e
   exact⟨a,s,q1,q2.ts t5,q3⟩
theorem c1r{K:Fg}{x:Addr}{Sp:Nat->Bool}{a b:Nat}(ck:a0v K c)(hp:a1N c H x N rs)(hv:a1a N)(hd:a1h H dd ds)(hs:a5G H rs ds Do Sp)(ea:σ[a]? = some (some (.ref x)))(eb:σ[b]? = some (some (.ref dd)))
  (k:∀rx H' S,H rx=none->Rdy K c H' rx x dd N rs ds Do Sp S->j5 H H'->Q (.ref rx) H'):a3Q c.a0B (a3m K c) [] E0 (a9 (b4 a) (a9 (b4 b) g0)) σ H Q:=by
 exact_mod_cast b4C ?_
 refine a0p (U5 ea (a0p (U5 eb (a2Y ?_))))
 intro rx dx hrx hdx hne
 exact b5R ck hp hv hd hs hrx hdx fun H' S h s=>⟨rfl,k rx H' S hrx h s⟩
theorem b9g{K:Fg}{x:Addr}{Sp:Nat->Bool}{S:List Nat}{E:XK}(ck:a0v K c)(h:Rdy K c H rx x dd N rs ds Do Sp S)(k:Q (.bl (!decide (t∈S))) H):a2j K [.ref rx,.int (t:Int)] H Q E:=by
 obtain⟨dx,d,kvs,h1,cb⟩:=h.ex
 refine⟨rfl,?_⟩
 unfold a7l
 ext
 specialize a2x ?_
 specialize T3 ?_
 refine⟨rx,_,dx,_,_,rfl,h1,ck.a2d,ck.a2V,rfl,?_⟩
 obtain⟨o',g1,g2⟩:=cb.notin t
 refine⟨d,o',rfl,g1,?_⟩
 rw[g2]
 exact k
def beh(Do Sp:Nat->Bool)(S:List Nat)(p:Nat):Bool:=if Sp p=true then false else (Do p || !decide (p∈S))
theorem b3l{K:Fg}{x:Addr}{Sp:Nat->Bool}{S:List Nat}{p:Nat}{E:XK}(ck:a0v K c)(h:Rdy K c H rx x dd N rs ds Do Sp S)(hp:p<N.length)(k:∀H',j5 H H'->Q (.bl (beh Do Sp S p)) H'):a1d K c [.ref rx,.int (p:Int)] H Q E:=by
 obtain⟨dx,d,kvs,h1,cb⟩:=h.ex
 obtain⟨dx',fs,n,r,hx,hfn,hn,hfr,hr,lr⟩:=h.plan.ex
 obtain⟨ax,hax⟩:∃ax,rs[p]? = some ax:=⟨_,c7 (by omega)⟩
 obtain⟨xs,x1,x2,x3⟩:=h.sat p ax hax
 refine⟨rfl,?_⟩
 unfold a5f
 nofun
 exact_mod_cast T3 ?_
 specialize T3 ?_
 refine⟨rx,_,dx,_,_,rfl,h1,ck.a2d,ck.a5b,rfl,?_⟩
 exists ⟨x,_,dx',fs,_,rfl,hx,ck.Q2,ck.U2,hfr,?_⟩
 exists O1 hr (a0z (by rw[b6,hax];rfl)) ?_
 nofun
 specialize T3 ?_
 exists ⟨rx,_,dx,_,_,rfl,h1,ck.a2d,ck.a3o,rfl,?_⟩
 exists a9c x1 h.deed fun H1 s1=>?_
 rw[x3]
 unfold beh at k
 cases hSp:Sp p with
 | true=>
  exists C6 rfl ?_
  have:=k H1 s1
  rw[if_pos hSp]at this
  exact this
 | false=>
  exists v9 rfl ?_
  specialize T3 ?_
  exists ⟨rx,_,dx,_,_,rfl,s1 _ _ h1,ck.a2d,ck.a3o,rfl,?_⟩
  refine a7W (x1.ts (j5.ts s1)) (h.deed.ts (j5.ts s1)) ?_
  rw[b5g x1.2 (j5.ts s1),x2]
  ext
  have kk:=k H1 s1
  rw[if_neg (by rw[hSp];intro z;cases z)]at kk
  cases hDo:Do p with
  | true=>
   refine C6 rfl ?_
   rw[hDo]at kk
   exact kk
  | false=>
   exists v9 rfl ?_
   specialize M6 ?_
   exists ⟨rx,dx,_,rfl,s1 _ _ h1,rfl,?_⟩
   refine b9g ck (h.same s1) ?_
   rw[hDo]at kk
   exact kk
def onF(Do Sp:Nat->Bool)(S:List Nat)(s:Stp):Bool := !decide (s=FST)&&beh Do Sp S s.1.toNat
theorem b9f{K:Fg}{x:Addr}{Sp:Nat->Bool}{S:List Nat}{E:XK}(ck:a0v K c)(h:Rdy K c H rx x dd N rs ds Do Sp S)(ha:a0I K H a s)(hs:a4Q N s)(k:∀H',j5 H H'->Q (.bl (onF Do Sp S s)) H'):a2i K c [.ref rx,.ref a] H Q E:=by
 obtain⟨dx,d,kvs,h1,cb⟩:=h.ex
 refine⟨rfl,?_⟩
 unfold a7k
 ext
 refine⟨_,_,_,_,rfl,rfl,ha.sq,ck.a0k H,rfl,rfl,?_⟩
 rw[eq2]
 ext
 rcases hs with rfl | ⟨p,q,l,t,rfl,hl,hq⟩
 ·refine v9 rfl ?_
  exact k H (j5.refl H)
 ·refine C6 (by
   have:decide ((((p:Int),(q:Int)).1,((p:Int),(q:Int)).2)=FST)=false:=d5k a6e
   rw[this];rfl) ?_
  rcases ha with ha | ⟨z,_⟩
  rotate_left
  ·exact(a6e z).elim
  ext
  specialize M6 ?_
  exists ⟨rx,dx,_,rfl,h1,rfl,?_⟩
  exists a0e ha (a3g _ _) ?_
  refine b3l ck h (gI hl) fun H' s'=>?_
  have:=k H' s'
  unfold onF at this
  rw[d5k a6e]at this
  exact this
theorem b6F(h:a4Q N s):s∈C4 N:=by
 rcases h with rfl | ⟨p,q,l,t,rfl,h1,h2⟩
 ·exact X2 ..
 ·refine I0 _ (c9p.mpr ⟨p,Z8.mpr (gI h1),?_⟩)
  unfold a3q
  refine E7.mpr ⟨q,Z8.mpr ?_,rfl⟩
  simp only[Q1,h1,a5m]
  exact(gI h2)
theorem L8.app{ps qs:List Addr}(h:L8 H a N)(hz:H z=some (.lst (ps.map V.ref)))(hp:ps≠[])(ha:a≠z):L8 (upd H z (.lst (qs.map V.ref))) a N:=by
 obtain⟨as,h1,h2,h3⟩:=h.ex
 refine⟨as,by rw[i9 ha];exact h1,h2,fun i x l e1 e2=>?_⟩
 have:=h3 i x l e1 e2
 rw[i9 (K0 this hz fun e=>?_)]
 ·exact this
 ·have e:=HO.lst.inj e
  cases ps with
  | nil=>exact hp rfl
  | cons p ps=>
   cases l with
   | nil=>cases e
   | cons n l=>cases e
theorem a0E.app{ps qs:List Addr}(h:a0E H a N)(hz:H z=some (.lst (ps.map V.ref)))(ha:a≠z):a0E (upd H z (.lst (qs.map V.ref))) a N:=by
 obtain⟨rs,h1,h2,h3⟩:=h.ex
 exact⟨rs,by rw[i9 ha];exact h1,h2,fun i x l e1 e2=>(h3 i x l e1 e2).ts (D9.put hz)⟩
theorem a8M(r n e:Addr)(m:Str)(h:m∉(["rows","nexts","entries"]:List Str)):([("rows",.ref r),("nexts",.ref n),("entries",.ref e)]:List (Str×V)).lookup m=none:=by
 rw[List.lookup_eq_none_iff]
 intro p hp
 simp only[u5,Q7,or_false]at h hp
 rcases hp with rfl | rfl | rfl
 ·simp;intro z;exact h (.inl z)
 ·simp;intro z;exact h (.inr (.inl z))
 ·simp;intro z;exact h (.inr (.inr z))
theorem b1c{K:Fg}{x:Addr}{E:XK}(ck:a0v K c)(hp:a0O K c H x N)(ht:t<N.length)
  (k:∀a H',H a=none->U1 K H' a ((C4 N).filter fun s=>decide (V7 N s=t))->j5 H H'->Q (.ref a) H'):a0V K [.ref x,.int (t:Int)] H Q E:=by
 obtain⟨dx,r,n,e,es,h1,_,_,h4,h5,h6⟩:=hp.ex
 refine⟨rfl,?_⟩
 unfold a6p
 ext
 specialize T3 ?_
 exists ⟨x,_,dx,_,.ref e,rfl,h1,ck.Q2,ck.a1Y,rfl,?_⟩
 obtain⟨y,hy⟩:∃y,es[t]? = some y:=⟨_,c7 (by omega)⟩
 exists O1 h4 (a0z (by rw[b6,hy];rfl)) ?_
 obtain⟨vs,v1,v2,v3⟩:=(h6 t y hy).ex
 refine a6z v1 fun l H' hl e' s'=>?_
 exact k l H' hl ⟨vs,e',v2,fun i x s a b=>(v3 i x s a b).ts (j5.ts s')⟩ s'
def c1M(N:Nt)(Do Sp:Nat->Bool)(t:Nat):Prop:=Do t=false/\(Sp t=true\/N[t]? = some [])
def Jgb(K:Fg)(H:Hp)(N:Nt)(Do Sp:Nat->Bool)(S:List Nat)(i t:Nat)(v:V):Prop:=
 (v=.non/\c1M N Do Sp t)\/∃(a:Addr) (q:Nat) (l:List Nat) (u j:Nat),v=.ref a/\a0I K H a ((t:Int),(q:Int))/\N[t]? = some l/\l[q]? = some u/\S[j]? = some u/\j<i/\Do t=false
theorem Jgb.grow{K:Fg}{Sp:Nat->Bool}{S ext:List Nat}(h:Jgb K H N Do Sp S i t v)(ts:D9 H H'):Jgb K H' N Do Sp (S++ext) i t v:=by
 rcases h with h | ⟨a,q,l,u,j,h1,h2,h3,h4,h5,h6,h7⟩
 ·exact .inl h
 ·exact .inr ⟨a,q,l,u,j,h1,h2.ts ts,h3,h4,by rw[o0 (gI h5)];exact h5,h6,h7⟩
structure GbK(K:Fg)(H:Hp)(d:Addr)(N:Nt)(Do Sp:Nat->Bool)(S:List Nat)(kvs:List (Key×V)):Prop where
 hd:H d=some (.dK kvs)
 nd:S.Nodup
 lt:∀t∈S,t<N.length
 len:kvs.length=S.length
 at_:∀(i:Nat) t,S[i]? = some t->∃v,kvs[i]? = some (Sum.inl (t:Int),v)/\Jgb K H N Do Sp S i t v
section
variable {K:Fg}{Sp:Nat->Bool}{S:List Nat}
theorem GbK.keys(h:GbK K H d N Do Sp S kvs):kvs.map (·.1)=S.map fun(t:Nat)=>(Sum.inl (t:Int):Key):=by
 apply b3N
 intro i
 rw[b6,b6]
 cases e:S[i]? with
 | none=>
  have:kvs[i]? = none:=by
   rw[a3K]at e ⊢
   have:=h.len
   omega
  rw[this];rfl
 | some t=>
  obtain⟨v,q,_⟩:=h.at_ i t e
  rw[q];rfl
theorem GbK.ndk(h:GbK K H d N Do Sp S kvs):(kvs.map (·.1)).Nodup:=by
 rw[h.keys]
 refine a1V _ (fun a b hab z=>hab ?_) h.nd
 have:=Sum.inl.inj z
 omega
theorem GbK.in_(h:GbK K H d N Do Sp S kvs)(t:Nat):(a7B kvs (Sum.inl (t:Int))).isSome=decide (t∈S):=by
 by_cases ht:t∈S
 ·rw[d5l ht]
  obtain⟨i,hi⟩:=C0.mp ht
  obtain⟨v,q,_⟩:=h.at_ i t hi
  rw[b4f h.ndk (mI q)]
  rfl
 ·rw[d5k ht]
  cases e:a7B kvs (Sum.inl (t:Int))with
  | none=>rfl
  | some v=>
   have:=c1S e
   rw[h.keys]at this
   obtain⟨u,hu,z⟩:=E7.mp this
   have:=Sum.inl.inj z
   have:u=t:=by omega
   exact absurd (this ▸ hu) ht
theorem GbK.notin(h:GbK K H d N Do Sp S kvs)(t:Nat):∃o,b1A H d (.int (t:Int)) o/\o.isSome=decide (t∈S):=⟨_,b1A.k (k:=Sum.inl (t:Int)) h.hd,h.in_ t⟩
theorem GbK.same(h:GbK K H d N Do Sp S kvs)(s:j5 H H'):GbK K H' d N Do Sp S kvs:=
 ⟨s _ _ h.hd,h.nd,h.lt,h.len,fun i t e=>by
  obtain⟨v,q1,q2⟩:=h.at_ i t e
  have:=q2.grow (ext:=[]) (j5.ts s)
  rw[M4]at this
  exact⟨v,q1,this⟩⟩
theorem GbK.add(h:GbK K H d N Do Sp S kvs)(ht:¬t∈S)(hlt:t<N.length)(hj:Jgb K H N Do Sp S S.length t v) :
  GbK K (upd H d (.dK (a2P kvs (Sum.inl (t:Int)) v))) d N Do Sp (S++[t]) (a2P kvs (Sum.inl (t:Int)) v):=by
 have e:a2P kvs (Sum.inl (t:Int)) v=kvs++[(Sum.inl (t:Int),v)]:=by
  unfold a2P
  rw[a5O,h.in_,d5k ht,if_neg (by decide)]
 rw[e]
 have ts:D9 H (upd H d (.dK (kvs++[(Sum.inl (t:Int),v)]))):=fun b xs q=>by rw[i9 (K0 q h.hd (by intro z;cases z))];exact q
 refine⟨c9,?_,fun u hu=>?_,by simp[h.len],fun i u hu=>?_⟩
 ·rw[a2U]
  exact⟨h.nd,by simp,fun x hx y hy=>by rw[l6.mp hy];intro z;exact ht (z ▸ hx)⟩
 ·rcases u4.mp hu with q | q
  ·exact h.lt u q
  ·rw[l6.mp q];exact hlt
 ·rcases a0C hu with ⟨hi,g⟩ | ⟨hi,g⟩
  ·obtain⟨v',q1,q2⟩:=h.at_ i u g
   exact⟨v',by rw[o0 (gI q1)];exact q1,q2.grow ts⟩
  ·subst g
   refine⟨v,?_,?_⟩
   ·rw[hi,<-h.len];simp
   ·rw[hi];exact hj.grow ts
end
structure c9l(N:Nt)(Do Sp:Nat->Bool)(S:List Nat):Prop where
 en:∀t,t<N.length->c1M N Do Sp t->t∈S
 no:∀(p:Nat) l,N[p]? = some l->Do p=false->∀t∈l,t∈S->p∈S
def d1q(N:Nt)(S:List Nat)(p:Nat):Bool:=decide (0<(N.getD p []).length)&&(N.getD p []).all fun t => !decide (t∈S)
structure Wnt(K:Fg)(c:Cn)(H:Hp)(wx x:Addr)(N:Nt)(Do Sp:Nat->Bool)(S:List Nat):Prop where
 ex:∃dx d kvs,H wx=some (.ins c.V2 dx [("plan",.ref x),("goes_by",.ref d)])/\GbK K H d N Do Sp S kvs
 plan:a0O K c H x N
 shut:c9l N Do Sp S
section
variable {K:Fg}{x:Addr}{Sp:Nat->Bool}{S:List Nat}{p:Nat}{E:XK}
theorem Wnt.same(h:Wnt K c H wx x N Do Sp S)(s:j5 H H'):Wnt K c H' wx x N Do Sp S:=by
 obtain⟨dx,d,kvs,h1,h2⟩:=h.ex
 exact⟨⟨dx,d,kvs,s _ _ h1,h2.same s⟩,h.plan.same s,h.shut⟩
theorem b3E(a b:V)(m:Str)(h:m∉(["plan","goes_by"]:List Str)):([("plan",a),("goes_by",b)]:List (Str×V)).lookup m=none:=by
 have h1:m≠("plan" : Str):=fun e=>h (by rw[e];simp)
 have h2:m≠("goes_by" : Str):=fun e=>h (by rw[e];simp)
 simp[a3h,beq_eq_false_iff_ne.mpr h1,beq_eq_false_iff_ne.mpr h2]
theorem b0D(ck:a0v K c)(h:Wnt K c H wx x N Do Sp S)(k:Q (.bl (!decide (t∈S))) H):a0F K [.ref wx,.int (t:Int)] H Q E:=by
 obtain⟨dx,d,kvs,h1,cb⟩:=h.ex
 refine⟨rfl,?_⟩
 unfold a5S
 ext
 specialize a2x ?_
 specialize T3 ?_
 refine⟨wx,_,dx,_,_,rfl,h1,ck.a2H,ck.a2m,rfl,?_⟩
 obtain⟨o',g1,g2⟩:=cb.notin t
 refine⟨d,o',rfl,g1,?_⟩
 rw[g2]
 exact k
theorem b7a(ck:a0v K c)(h:Wnt K c H wx x N Do Sp S)(ha:a0I K H a s)(hs:a4Q N s)(k:Q (.bl (!decide (V7 N s∈S))) H):a1E K c [.ref wx,.ref a] H Q E:=by
 obtain⟨dx,d,kvs,h1,cb⟩:=id h.ex
 obtain⟨dx',fs,n,hx,hf,hn⟩:=h.plan.x
 obtain⟨dx2,r,n2,e,es,p1,_⟩:=h.plan.ex
 refine⟨rfl,?_⟩
 unfold a5R
 ext
 specialize M6 ?_
 exists ⟨wx,dx,_,rfl,h1,b3E _ _ _ (by decide),?_⟩
 exact_mod_cast M6 ?_
 specialize T3 ?_
 refine⟨wx,_,dx,_,_,rfl,h1,ck.a2H,ck.a2F,rfl,?_⟩
 exists ⟨x,dx2,_,rfl,p1,a8M r n2 e _ (by decide),?_⟩
 exists a6E ck h.plan.x ha hs ?_
 exact b0D ck h k
theorem b1L(ck:a0v K c)(h:Wnt K c H wx x N Do Sp S)(hv:a1a N)(hp:p<N.length)(k:∀H',j5 H H'->Q (.bl (d1q N S p)) H'):W1 K c [.ref wx,.int (p:Int)] H Q E:=by
 obtain⟨dx,d,kvs,h1,cb⟩:=id h.ex
 obtain⟨dx',fs,n,hx,hf,hn⟩:=h.plan.x
 have hl:=Q3 hp
 obtain⟨l,hle⟩:∃l,l=N[p]:=⟨_,rfl⟩
 rw[<-hle]at hl
 have hg:N.getD p []=l:=by simp[Q1,hl]
 have l2:=hv.two l (mI hl)
 obtain⟨us,u,f1,f2,f3,_⟩:=hn.at hl
 unfold d1q at k
 rw[hg]at k
 refine⟨rfl,?_⟩
 unfold a4d
 nofun
 exact_mod_cast T3 ?_
 specialize T3 ?_
 refine⟨wx,_,dx,_,_,rfl,h1,ck.a2H,ck.a2F,rfl,?_⟩
 exists ⟨x,_,dx',fs,_,rfl,hx,ck.Q2,ck.X6,hf,?_⟩
 exists O1 f1 f2 ?_
 refine O5 f3 ?_
 rw[F3]
 ext
 by_cases h0:0<l.length
 ·rw[d5l h0]at k
  exists C6 (d5l (by omega)) ?_
  specialize a0c (Z6 ?_)
  refine⟨u,rfl,⟨_,SqL.of f3⟩,fun T hT=>?_⟩
  refine a0G (xs:=IL l) (fun i ys H8=>ys=((l.take i).map fun t=>V.bl (!decide (t∈S)))/\H8 T=some (.lst ys)/\j5 H H8) ?_ ?_ ?_ ?_ ?_
  ·exact⟨rfl,c9,A0 hT⟩
  ·rintro i ys H8 ⟨_,h,_⟩
   exact h
  ·rintro i ys H8 _ ⟨_,_,s8⟩
   exact SqL.of (s8 _ _ f3)
  ·rintro i y ys H8 hy ⟨rfl,hT8,s8⟩ R hR
   unfold IL at hy
   rw[b6]at hy
   cases hz:l[i]? with
   | none=>rw[hz]at hy;cases hy
   | some z=>
    rw[hz]at hy
    cases hy
    ext
    specialize M6 ?_
    exists ⟨wx,dx,_,rfl,s8 _ _ h1,b3E _ _ _ (by decide),?_⟩
    refine b0D ck (h.same s8) ?_
    refine hR _ _ hT8 (F8 (by rw[b9,D8];omega)) ⟨?_,c9,fun b o e=>?_⟩
    ·rw[K5,hz,E1];rfl
    ·rw[i9 (c8 e hT)];exact s8 _ _ e
  ·rintro ys H8 ⟨rfl,hT8,s8⟩
   rw[F3,G0]at hT8
   have eb:(l.map fun t=>V.bl (!decide (t∈S)))=(l.map fun t => !decide (t∈S)).map V.bl:=by rw[X0];rfl
   rw[eb]at hT8
   ext
   refine c9g hT8 ?_
   have:=k H8 s8
   rw[a5H]at this
   rw[d3d]
   exact this
 ·rw[d5k h0]at k
  refine v9 (d5k (by omega)) ?_
  exact k H (j5.refl _)
end
theorem b1k{p q:Nat}(h1:N[p]? = some l)(h2:l[q]? = some t):V7 N ((p:Int),(q:Int))=t:=by
 unfold V7
 rw[if_neg a6e]
 show(N.getD (p:Int).toNat []).getD (q:Int).toNat 0=t
 rw[A3,A3]
 simp[Q1,h1,h2]
theorem d1z(a b:List Nat):IL (a++b)=IL a++IL b:=by unfold IL;rw[E1]
def b0p(N:Nt)(Do Sp:Nat->Bool)(p:Nat):Bool := !Do p&&(Sp p||decide ((N.getD p []).length=0))
structure a6I(c:Cn)(H:Hp)(x:Addr)(N:Nt)(rs:List Addr):Prop where
 ex:∃dx fs n r,H x=some (.ins c.P0 dx fs)/\fs.lookup ("nexts" : Str)=some (V.ref n)/\L8 H n N/\fs.lookup ("rows" : Str)=some (V.ref r)/\H r=some (.lst (rs.map V.ref))/\rs.length=N.length
theorem b1N{K:Fg}{x:Addr}{Sp:Nat->Bool}{E:XK}(ck:a0v K c)(hp:a6I c H x N rs)(hv:a1a N)(hd:a1h H dd ds)(hs:a5G H rs ds Do Sp)
  (k:∀D H',H D=none->H' D=some (.lst (IL ((t8 N.length).filter (b0p N Do Sp))))->j5 H H'->Q (.ref D) H'):a2K K [.ref x,.ref dd] H Q E:=by
 have h400:=hv.le
 obtain⟨dx,fs,n,r,hx,hfn,hn,hfr,hr,lr⟩:=hp.ex
 refine⟨rfl,?_⟩
 unfold a8e
 nofun
 exists G9 (by simp) fun D H1 hD e1 s1=>?_
 exact_mod_cast M9 ?_
 specialize a1o (a6w ?_)
 specialize T3 ?_
 exists ⟨x,_,dx,fs,_,rfl,s1 _ _ hx,ck.Q2,ck.U2,hfr,?_⟩
 refine⟨r,rfl,⟨_,SqL.of (s1 _ _ hr)⟩,?_⟩
 refine b2X N.length (fun i σ H2=>∃y3 y4,σ=[some (.ref x),some (.ref dd),some (.ref D),y3,y4]/\H2 D=some (.lst (IL ((t8 i).filter (b0p N Do Sp))))/\j5 H H2) ⟨_,_,rfl,e1,s1⟩ ?_ ?_ ?_
 ·rintro _ H2 ⟨y3,y4,rfl,hD2,s2⟩
  exists ⟨⟨_,SqL.of (s2 _ _ hr),by rw[b9,lr];exact j6 _⟩,?_⟩
  exact k D H2 hD hD2 s2
 ·rintro i _ H2 hi ⟨y3,y4,rfl,hD2,s2⟩
  exact⟨_,_,SqL.of (s2 _ _ hr),by rw[b6,c7 (show i<rs.length by omega)];rfl⟩
 ·rintro i _ H2 hi ⟨y3,y4,rfl,hD2,s2⟩ v H3 ⟨pp,w,hpp,rfl,rfl,gw⟩
  obtain⟨rx,hrx⟩:∃rx,rs[i]? = some rx:=⟨_,c7 (by omega)⟩
  have gw:=gw _ (SqL.of (s2 _ _ hr))
  rw[b6,hrx]at gw
  cases gw
  refine a7I (SqT.of c9) ?_
  have s3:j5 H2 (upd H2 pp (.tup [V.int (i:Int),V.ref rx])):=A0 hpp
  obtain⟨H3,hH3⟩:∃H3,H3=upd H2 pp (.tup [V.int (i:Int),V.ref rx]):=⟨_,rfl⟩
  rw[<-hH3]at s3 ⊢
  have s03:=s2.trans s3
  obtain⟨xs,x1,x2,x3⟩:=(hs.ts (j5.ts s03)) i rx hrx
  have hlp:=Q3 hi
  obtain⟨lp,hle⟩:∃lp,lp=N[i]:=⟨_,rfl⟩
  rw[<-hle]at hlp
  have hg:N.getD i []=lp:=by simp[Q1,hlp]
  have hb:b0p N Do Sp i=(!Do i&&(Sp i||decide (lp.length=0))):=by unfold b0p;rw[hg]
  have lf:((t8 i).filter (b0p N Do Sp)).length<=i:=by
   have:=o6 (b0p N Do Sp) (t8 i)
   rw[R1]at this
   exact this
  have skip:∀H4,j5 H3 H4->b0p N Do Sp i=false->(∃y3 y4,[some (V.ref x),some (.ref dd),some (.ref D),some (.int (i:Int)),some (.ref rx)]=[some (V.ref x),some (.ref dd),some (.ref D),y3,y4]/\H4 D=some (.lst (IL ((t8 (i+1)).filter (b0p N Do Sp))))/\j5 H H4):=fun H4 s4 e=>by
   refine⟨_,_,rfl,?_,s03.trans s4⟩
   rw[a0d,N4]
   simp only[a3v,e,a4x,if_neg (show ¬(false=true) by decide),M4]
   exact s4 _ _ (s3 _ _ hD2)
  have put:∀H4,j5 H3 H4->b0p N Do Sp i=true->(∃y3 y4,[some (V.ref x),some (.ref dd),some (.ref D),some (.int (i:Int)),some (.ref rx)]=[some (V.ref x),some (.ref dd),some (.ref D),y3,y4]/\(upd H4 D (.lst (IL ((t8 i).filter (b0p N Do Sp))++[.int (i:Int)]))) D=some (.lst (IL ((t8 (i+1)).filter (b0p N Do Sp))))/\j5 H (upd H4 D (.lst (IL ((t8 i).filter (b0p N Do Sp))++[.int (i:Int)])))):=fun H4 s4 e=>by
   refine⟨_,_,rfl,?_,fun b o q=>?_⟩
   ·rw[c9,a0d,N4]
    simp only[a3v,e,a4x,if_pos]
    rw[d1z]
    rfl
   ·rw[i9 (c8 q hD)];exact s4 _ _ (s03 _ _ q)
  ext
  refine a7W x1 (hd.ts (j5.ts s03)) ?_
  rw[x2]
  ext
  cases hDo:Do i with
  | true=>
   refine v9 rfl ?_
   exists v9 rfl ?_
   exact skip H3 (j5.refl _) (by rw[hb,hDo];rfl)
  | false=>
   exists C6 rfl ?_
   refine a9c x1 (hd.ts (j5.ts s03)) fun H4 s4=>?_
   rw[x3]
   ext
   cases hSp:Sp i with
   | true=>
    refine C6 rfl ?_
    exists C6 rfl ?_
    specialize a7o ?_
    exists ⟨a0g (s4 _ _ (s3 _ _ hD2)),?_⟩
    refine a0q (s4 _ _ (s3 _ _ hD2)) (F8 (by rw[F3];omega)) ?_
    exact put H4 s4 (by rw[hb,hDo,hSp];rfl)
   | false=>
    exists v9 rfl ?_
    specialize T3 ?_
    refine⟨x,_,dx,fs,_,rfl,(s03.trans s4) _ _ hx,ck.Q2,ck.X6,hfn,?_⟩
    obtain⟨us,u,f1,f2,f3,_⟩:=(hn.same (s03.trans s4)).at hlp
    ext
    exists O1 f1 f2 ?_
    refine O5 f3 ?_
    rw[F3]
    ext
    by_cases h0:lp.length=0
    ·exists C6 (d5l (by rw[h0];rfl)) ?_
     specialize a7o ?_
     exists ⟨a0g (s4 _ _ (s3 _ _ hD2)),?_⟩
     refine a0q (s4 _ _ (s3 _ _ hD2)) (F8 (by rw[F3];omega)) ?_
     exact put H4 s4 (by rw[hb,hDo,hSp,d5l h0];rfl)
    ·exists v9 (d5k (fun z=>h0 (by have:=V.int.inj z;omega))) ?_
     exact skip H4 s4 (by rw[hb,hDo,hSp,d5k h0];rfl)
def b1g(L:List Nat):List (Key×V):=L.map fun(p:Nat)=>(Sum.inl (p:Int),V.non)
theorem c3D{K:Fg}{tr:TE}(nd:L.Nodup)(l400:L.length<=400)(htr:∀R:VK,(∀a H',H' a=some (.lst (IL L))->j5 H H'->R (.ref a) H')->tr σ H R)
  (k:∀d H',H d=none->H' d=some (.dK (b1g L))->j5 H H'->Q (.ref d) H'):tCB b7C (a9 (V6 (W8 K tr) a0Q (a3c (a9 (b4 0) (a9 (tC .non) g0)))) g0) σ H Q:=by
 exact_mod_cast c7k ?_
 exact_mod_cast a0p ?_
 exact_mod_cast a0c (Z6 ?_)
 refine htr _ fun a H1 e1 s1=>?_
 refine⟨a,rfl,⟨_,SqL.of e1⟩,fun T hT=>?_⟩
 refine a0G (xs:=IL L) (fun i ys H8=>ys.length=i/\H8 T=some (.lst ys)/\j5 H1 H8/\∀(j p:Nat),j<i->L[j]? = some p->∃b,ys[j]? = some (V.ref b)/\H8 b=some (.tup [.int (p:Int),.non])) ?_ ?_ ?_ ?_ ?_
 ·exact⟨rfl,c9,A0 hT,by omega⟩
 ·rintro i ys H8 ⟨_,h,_⟩
  exact h
 ·rintro i ys H8 _ ⟨_,_,s8,_⟩
  exact SqL.of (s8 _ _ e1)
 ·rintro i y ys H8 hy ⟨l8,hT8,s8,a8⟩ R hR
  unfold IL at hy
  rw[b6]at hy
  cases hz:L[i]? with
  | none=>rw[hz]at hy;cases hy
  | some z=>
   rw[hz]at hy
   cases hy
   have hi:=(gI hz)
   ext
   refine G9 (by simp) fun b H9 hb e9 s9=>?_
   have bT:b≠T:=fun q=>by rw[q,hT8]at hb;cases hb
   refine hR _ _ (s9 _ _ hT8) (F8 (by omega)) ⟨by rw[o5,l8];rfl,c9,fun b o e=>?_,fun j p hj hp=>?_⟩
   ·rw[i9 (c8 e hT)];exact s9 _ _ (s8 _ _ e)
   ·by_cases q:j=i
    ·subst q
     rw[hz]at hp
     cases hp
     exact⟨b,by rw[<-l8];simp,by rw[i9 bT];exact e9⟩
    ·obtain⟨b',q1,q2⟩:=a8 j p (by omega) hp
     exact⟨b',by rw[o0 (by omega)];exact q1,by rw[i9 (K0 q2 hT8 (by intro z;cases z))];exact s9 _ _ q2⟩
 ·rintro ys H8 ⟨l8,hT8,s8,a8⟩
  rw[F3]at l8 a8
  exact_mod_cast a2Y ?_
  refine⟨T,ys,b1g L,rfl,hT8,by rw[l8];simp[b1g],fun i kk x e=>?_,?_,fun d hd=>?_⟩
  ·unfold b1g at e
   rw[b6]at e
   cases hz:L[i]? with
   | none=>rw[hz]at e;cases e
   | some z=>
    rw[hz]at e
    cases e
    obtain⟨b,q1,q2⟩:=a8 i z (gI hz) hz
    exact⟨b,q1,q2⟩
  ·unfold b1g
   rw[X0]
   refine a1V _ (fun a b hab z=>hab ?_) nd
   have:=Sum.inl.inj z
   omega
  ·have s08:=s1.trans s8
   exact k d _ (s08.free hd) c9 (s08.trans (A0 hd))
theorem c6l{K:Fg}{Sp:Nat->Bool}(hd:H d=some (.dK (b1g L)))(nd:L.Nodup)(lt:∀t∈L,t<N.length)(en:∀t∈L,c1M N Do Sp t):GbK K H d N Do Sp L (b1g L):=by
 refine⟨hd,nd,lt,by simp[b1g],fun i t e=>⟨.non,?_,.inl ⟨rfl,en t (mI e)⟩⟩⟩
 unfold b1g
 rw[b6,e]
 rfl
structure GbI(K:Fg)(H0 H:Hp)(d o:Addr)(N:Nt)(Do Sp:Nat->Bool)(S:List Nat)(kvs:List (Key×V)):Prop where
 gb:GbK K H d N Do Sp S kvs
 same:j5 H0 H
 ho:H o=some (.lst (IL S))
 fr:H0 d=none/\H0 o=none
def But(d o:Addr)(H H':Hp):Prop:=∀b ob,b≠d->b≠o->H b=some ob->H' b=some ob
section
variable {K:Fg}{o:Addr}{Sp:Nat->Bool}{S:List Nat}
theorem GbI.next(h:GbI K H0 H d o N Do Sp S kvs)(s:j5 H H'):GbI K H0 H' d o N Do Sp S kvs:=⟨h.gb.same s,h.same.trans s,s _ _ h.ho,h.fr⟩
theorem But.ts(h:But d o H H')(hd:H d=some (.dK kvs))(ho:H o=some (.lst (IL S))):D9 H H':=fun b xs q=>h b _ (K0 q hd (by intro z;cases z)) (K0 q ho (by intro z;cases z)) q
theorem c8z{a b g p q:Nat}{x:Addr}(ha:σ[a]? = some (some (.ref x)))(hb:σ[b]? = some (some (.ref d)))(hg:σ[g]? = some (some (.ref o)))(I:GbI K H0 H d o N Do Sp S kvs)(h400:N.length<=400)(hx:H x=some (.tup [.int (p:Int),.int (q:Int)]))(hl:N[p]? = some l)(ht:l[q]? = some t)(hj:S[j]? = some t)(hD:Do p=false)(hps:¬p∈S)
  (k:∀H' kvs',kvs'=kvs++[(Sum.inl (p:Int),.ref x)]->GbI K H0 H' d o N Do Sp (S++[p]) kvs'->But d o H H'->D.nx σ H'):w4 (a4m (b4 b) (tOp qIx (b4 a) (tC (.int 0))) (b4 a)) (a0o (tBM K "list" V3 (b4 g) (a9 (tOp qIx (b4 a) (tC (.int 0))) (g0)))) D σ H:=by
 exact_mod_cast M9 ?_
 exact_mod_cast a7J ?_
 exact_mod_cast U5 ha ?_
 exact_mod_cast U5 hb ?_
 exact_mod_cast b9c ?_
 exact_mod_cast U5 ha ?_
 exact_mod_cast s_c ?_
 refine a0e hx (a3g _ _) ?_
 have hlen:S.length<=400:=D4 (a4t _ _ I.gb.nd I.gb.lt) h400
 refine⟨d,_,rfl,b6k.k (k:=Sum.inl (p:Int)) I.gb.hd (F8 (by rw[I.gb.len];omega)),?_⟩
 have add:=I.gb.add (v:=.ref x) hps (gI hl) (.inr ⟨x,q,l,t,j,rfl,.inl hx,hl,ht,hj,(gI hj),hD⟩)
 have ek:a2P kvs (Sum.inl (p:Int)) (.ref x)=kvs++[(Sum.inl (p:Int),.ref x)]:=by
  unfold a2P
  rw[a5O,I.gb.in_,d5k hps,if_neg (by decide)]
 obtain⟨kvs',hk⟩:∃kvs',kvs'=a2P kvs (Sum.inl (p:Int)) (.ref x):=⟨_,rfl⟩
 rw[<-hk]at add ⊢
 obtain⟨H2,hH2⟩:∃H2,H2=upd H d (.dK kvs'):=⟨_,rfl⟩
 rw[<-hH2]at add ⊢
 have nod:o≠d:=K0 I.ho I.gb.hd (by intro z;cases z)
 have ho2:H2 o=some (.lst (IL S)):=by rw[hH2,i9 nod];exact I.ho
 have hx2:H2 x=some (.tup [.int (p:Int),.int (q:Int)]):=by rw[hH2,i9 (K0 hx I.gb.hd (by intro z;cases z))];exact hx
 exact_mod_cast b7v ?_
 exact_mod_cast a7o ?_
 exact_mod_cast U5 hg ?_
 refine⟨a0g ho2,?_⟩
 exact_mod_cast a0p ?_
 exact_mod_cast b9c ?_
 exact_mod_cast U5 ha ?_
 exact_mod_cast s_c ?_
 refine a0e hx2 (a3g _ _) ?_
 exact_mod_cast a2Y ?_
 refine a0q ho2 (F8 (by rw[F3];omega)) ?_
 have e3:IL S++[V.int (p:Int)]=IL (S++[p]):=by simp[IL]
 rw[e3]
 have ts:D9 H2 (upd H2 o (.lst (IL (S++[p])))):=D9.put ho2
 refine k _ kvs' (hk.trans ek) ⟨⟨by rw[i9 nod.symm];exact add.hd,add.nd,add.lt,add.len,fun i u hu=>?_⟩,fun b' o'' q'=>?_,c9,I.fr⟩ fun b ob n1 n2 e=>?_
 ·obtain⟨v,q1,q2⟩:=add.at_ i u hu
  have:=q2.grow (ext:=[]) ts
  rw[M4]at this
  exact⟨v,q1,this⟩
 ·rw[i9 (c8 q' I.fr.2),hH2,i9 (c8 q' I.fr.1)];exact I.same _ _ q'
 ·rw[i9 n2,hH2,i9 n1];exact e
theorem d1l{a b g p q:Nat}{x:Addr}(ha:σ[a]? = some (some (.ref x)))(hb:σ[b]? = some (some (.ref d)))(hg:σ[g]? = some (some (.ref o)))(I:GbI K H0 H d o N Do Sp S kvs)(h400:N.length<=400)(hx:H x=some (.tup [.int (p:Int),.int (q:Int)]))(hl:N[p]? = some l)(ht:l[q]? = some t)(hj:S[j]? = some t)(hD:Do p=false)(hps:¬p∈S)
  (k:∀H' kvs',GbI K H0 H' d o N Do Sp (S++[p]) kvs'->But d o H H'->D.nx σ H'):w4 (a4m (b4 b) (tOp qIx (b4 a) (tC (.int 0))) (b4 a)) (a0o (tBM K "list" V3 (b4 g) (a9 (tOp qIx (b4 a) (tC (.int 0))) (g0)))) D σ H:=
 c8z ha hb hg I h400 hx hl ht hj hD hps fun H' kvs' _=>k H' kvs'
end
theorem But.trans{o:Addr}{H'':Hp}(h:But d o H H')(h':But d o H' H''):But d o H H'':=fun b ob n1 n2 e=>h' b ob n1 n2 (h b ob n1 n2 e)
theorem But.refl{o:Addr}:But d o H H:=fun _ _ _ _ e=>e
theorem c6q{Sp:Nat->Bool}(ht:t<N.length):b0p N Do Sp t=true↔c1M N Do Sp t:=by
 have hg:N.getD t []=N[t]:=by simp[Q1,ht]
 unfold b0p c1M
 rw[hg,a3w,Bool.or_eq_true,Q3 ht,Bool.not_eq_true',decide_eq_true_iff,a4D,Option.some.injEq]
theorem a6I.same{x:Addr}(h:a6I c H x N rs)(s:j5 H H'):a6I c H' x N rs:=by
 obtain⟨dx,fs,n,r,h1,h2,h3,h4,h5,h6⟩:=h.ex
 exact⟨dx,fs,n,r,s _ _ h1,h2,h3.same s,h4,s _ _ h5,h6⟩
theorem a7t.q{K:Fg}{x:Addr}(h:a7t K c Z rs H x N):a6I c H x N rs:=by
 obtain⟨dx,r,n,e,es,ns,h1,⟨h2,h2r⟩,h3,h4,h5,h6,h7,h8,_⟩:=h.ex
 refine⟨dx,_,n,r,h1,rfl,⟨ns,h3,h4,h5⟩,rfl,h2r,?_⟩
 obtain⟨rs',q1,q2,_⟩:=h2.ex
 rw[h2r]at q1
 have:=congrArg b6m (HO.lst.inj (Option.some.inj q1))
 rw[b9,b9]at this
 omega
theorem b0G{K:Fg}{x:Addr}{Sp:Nat->Bool}{E:XK}(ck:a0v K c)(hp:a6I c H x N rs)(hz:a0O K c H x N)(hv:a1a N)(hd:a1h H dd ds)(hs:a5G H rs ds Do Sp)
  (k:∀d H' S kvs,GbK K H' d N Do Sp S kvs->c9l N Do Sp S->j5 H H'->Q (.ref d) H'):a2h K c [.ref x,.ref dd] H Q E:=by
 have h400:=hv.le
 obtain⟨dx,fs,n,r,hx,hfn,hn,hfr,hr,lr⟩:=id hp.ex
 obtain⟨dx2,r2,n2,e2',es,p1,_⟩:=id hz.ex
 obtain⟨L0,hL0⟩:∃L0,L0=(t8 N.length).filter (b0p N Do Sp):=⟨_,rfl⟩
 have nd0:L0.Nodup:=hL0 ▸ b5C.filter _
 have lt0:∀t∈L0,t<N.length:=fun t ht=>by rw[hL0]at ht;exact Z8.mp (L9.mp ht).1
 have en0:∀t,t<N.length->(t∈L0↔c1M N Do Sp t):=fun t ht=>by
  rw[hL0,L9,Z8,c6q ht]
  exact⟨fun h=>h.2,fun h=>⟨ht,h⟩⟩
 have l0:L0.length<=400:=D4 (a4t _ _ nd0 lt0) h400
 refine⟨rfl,?_⟩
 unfold a7j
 nofun
 refine b1N ck hp hv hd hs fun o H1 ho e1 s1=>?_
 rw[<-hL0]at e1
 ext
 exact_mod_cast M9 ?_
 exact_mod_cast b9e ?_
 exists c3D nd0 l0 (fun R hR=>U5 rfl (hR o H1 e1 (j5.refl _))) fun d H2 hd2 e2 s2=>?_
 have I2:GbI K H H2 d o N Do Sp L0 _:=⟨c6l e2 nd0 lt0 fun t ht=>(en0 t (lt0 t ht)).mp ht,s1.trans s2,s2 _ _ e1,s1.free hd2,ho⟩
 nofun
 exact_mod_cast M9 ?_
 exact_mod_cast b0X ?_
 refine⟨fun m σ H4=>∃(y5 y6:Option V) (S:List Nat) (kvs:List (Key×V)) (dn:Nat),σ=[some (.ref x),some (.ref dd),some (.ref o),some (.ref d),some (.int (dn:Int)),y5,y6]/\GbI K H H4 d o N Do Sp S kvs/\(∃ext,S=L0++ext)/\dn<=S.length/\(∀(j t p:Nat) l,j<dn->S[j]? = some t->N[p]? = some l->t∈l->Do p=false->p∈S)/\m=N.length - dn,
  ⟨_,_,_,L0,_,0,rfl,I2,⟨[],by simp⟩,by omega,by omega,rfl⟩,?_⟩
 rintro m _ H4 ⟨y5,y6,S,kvs,dn,rfl,I4,x4,hdn,c4,rfl⟩
 ext
 exists O5 I4.ho ?_
 rw[F3]
 have hSl:S.length<=N.length:=a4t _ _ I4.gb.nd I4.gb.lt
 by_cases hlt:dn<S.length
 ·refine C6 (d5l (by omega)) ?_
  obtain⟨t,htS⟩:∃t,S[dn]? = some t:=⟨_,c7 hlt⟩
  have htn:=I4.gb.lt t (mI htS)
  refine⟨fun σ H5=>∃(m':Nat) (y5 y6:Option V) (S:List Nat) (kvs:List (Key×V)) (dn':Nat),σ=[some (.ref x),some (.ref dd),some (.ref o),some (.ref d),some (.int (dn':Int)),y5,y6]/\GbI K H H5 d o N Do Sp S kvs/\(∃ext,S=L0++ext)/\dn'<=S.length/\(∀(j t p:Nat) l,j<dn'->S[j]? = some t->N[p]? = some l->t∈l->Do p=false->p∈S)/\m'=N.length - dn'/\m'<N.length - dn,?_,?_⟩
  ·rintro σ' H5 ⟨m',y5,y6,S,kvs,dn',e,r1,r2,r3,r4,r5,r6⟩
   exact⟨m',r6,y5,y6,S,kvs,dn',e,r1,r2,r3,r4,r5⟩
  nofun
  exists O1 I4.ho (b6Q htS) ?_
  exact_mod_cast M9 ?_
  specialize c2d rfl ?_
  have e1':(dn:Int)+1=((dn+1:Nat):Int):=by omega
  rw[e1']
  specialize a1o (Z6 ?_)
  specialize M6 ?_
  exists ⟨x,dx2,_,rfl,I4.same _ _ p1,a8M r2 n2 e2' _ (by decide),?_⟩
  refine b1c ck (hz.same I4.same) htn fun st H5 hst sa s5=>?_
  obtain⟨vs,v1,v2,v3⟩:=sa.ex
  have I5:=I4.next s5
  have nst:st≠d/\st≠o:=⟨(c8 I4.gb.hd hst).symm,(c8 I4.ho hst).symm⟩
  obtain⟨Z,hZ⟩:∃Z,Z=(C4 N).filter fun s=>decide (V7 N s=t):=⟨_,rfl⟩
  rw[<-hZ]at v2 v3
  refine⟨st,rfl,⟨_,SqL.of v1⟩,a4u (xs:=vs.map V.ref) (fun i σ H6=>∃(y6:Option V) (S':List Nat) (kvs':List (Key×V)),σ=[some (.ref x),some (.ref dd),some (.ref o),some (.ref d),some (.int ((dn+1:Nat):Int)),some (.int (t:Int)),y6]/\GbI K H H6 d o N Do Sp S' kvs'/\(∃ext,S'=S++ext)/\But d o H5 H6/\∀(j p q:Nat),j<i->Z[j]? = some ((p:Int),(q:Int))->Do p=false->p∈S') ⟨_,S,kvs,rfl,I5,⟨[],by simp⟩,But.refl,by omega⟩ ?_ ?_ ?_⟩
  ·rintro i σ H6 _ ⟨_,_,_,_,_,_,bt,_⟩
   exact SqL.of (bt _ _ nst.1 nst.2 v1)
  ·rintro i y _ H6 hy ⟨y6,S',kvs',rfl,I6,⟨ext,e6⟩,bt,g6⟩
   rw[b6]at hy
   cases hw:vs[i]? with
   | none=>rw[hw]at hy;cases hy
   | some w=>
    rw[hw]at hy
    cases hy
    obtain⟨s,hsi⟩:∃s,Z[i]? = some s:=⟨_,c7 (by have:=(gI hw);omega)⟩
    have sm:=mI hsi
    rw[hZ,L9]at sm
    have iss:=a3S sm.1
    have ld:=of_decide_eq_true sm.2
    have st6:a0I K H6 w s:=(v3 i w s hw hsi).ts (bt.ts I5.gb.hd I5.ho)
    have lS':S'.length<=N.length:=a4t _ _ I6.gb.nd I6.gb.lt
    have grow:∀S'',(∃e,S''=S'++e)->(∀p q:Nat,s=((p:Int),(q:Int))->Do p=false->p∈S'')->∀(j p q:Nat),j<i+1->Z[j]? = some ((p:Int),(q:Int))->Do p=false->p∈S'':=by
     rintro S'' ⟨e,rfl⟩ h j p q hj hj2 hD
     by_cases z:j=i
     ·subst z
      rw[hsi]at hj2
      exact h p q (Option.some.inj hj2) hD
     ·exact y0 _ (g6 j p q (by omega) hj2 hD)
    ext
    refine⟨_,_,_,_,rfl,rfl,st6.sq,ck.a0k H6,rfl,rfl,?_⟩
    rw[eq2]
    ext
    rcases iss with rfl | ⟨p,q,l,t',rfl,hl,hq⟩
    ·refine v9 rfl ?_
     exists v9 rfl ?_
     exact⟨_,S',kvs',rfl,I6,⟨ext,e6⟩,bt,grow S' ⟨[],by simp⟩ fun p q e _=>(a6e e.symm).elim⟩
    ·rw[b1k hl hq]at ld
     subst ld
     refine C6 (by
      have:decide ((((p:Int),(q:Int)).1,((p:Int),(q:Int)).2)=FST)=false:=d5k a6e
      rw[this];rfl) ?_
     rcases st6 with st6 | ⟨z,_⟩
     rotate_left
     ·exact(a6e z).elim
     have eqs:∀p' q':Nat,(((p:Int),(q:Int)):Stp)=((p':Int),(q':Int))->p'=p:=fun p' q' e=>by
      have:(p:Int)=(p':Int):=congrArg Prod.fst e
      omega
     ext
     specialize a2x ?_
     exists a0e st6 (a3g _ _) ?_
     obtain⟨o',g1,g2⟩:=I6.gb.notin p
     refine⟨d,o',rfl,g1,?_⟩
     rw[g2]
     ext
     by_cases hps:p∈S'
     ·refine v9 (by rw[d5l hps];rfl) ?_
      exists v9 rfl ?_
      exact⟨_,S',kvs',rfl,I6,⟨ext,e6⟩,bt,grow S' ⟨[],by simp⟩ fun p' q' e _=>by rw[eqs p' q' e];exact hps⟩
     ·refine C6 (by rw[d5k hps];rfl) ?_
      have hpn:=(gI hl)
      obtain⟨ax,hax⟩:∃ax,rs[p]? = some ax:=⟨_,c7 (by omega)⟩
      obtain⟨xs,x1,x2,x3⟩:=(hs.ts (j5.ts I6.same)) p ax hax
      ext
      specialize T3 ?_
      exists ⟨x,_,dx,fs,_,rfl,I6.same _ _ hx,ck.Q2,ck.U2,hfr,?_⟩
      exists a0e st6 (a3g _ _) ?_
      exists O1 (I6.same _ _ hr) (a0z (by rw[b6,hax];rfl)) ?_
      refine a7W x1 (hd.ts (j5.ts I6.same)) ?_
      rw[x2]
      ext
      cases hDo:Do p with
      | true=>
       exists v9 rfl ?_
       exact⟨_,S',kvs',rfl,I6,⟨ext,e6⟩,bt,grow S' ⟨[],by simp⟩ fun p' q' e hD=>by rw[eqs p' q' e,hDo]at hD;cases hD⟩
      | false=>
       refine C6 rfl ?_
       refine d1l (a:=6) (b:=3) (g:=2) (j:=dn) rfl rfl rfl I6 h400 st6 hl hq (by rw[e6,o0 hlt];exact htS) hDo hps fun H7 kvs7 I7 b7=>?_
       exact⟨_,S'++[p],kvs7,rfl,I7,⟨ext++[p],by rw[e6,a5a]⟩,bt.trans b7,grow _ ⟨[p],rfl⟩ fun p' q' e _=>by rw[eqs p' q' e];simp⟩
  ·rintro _ H6 ⟨y6,S',kvs',rfl,I6,⟨ext,e6⟩,bt,g6⟩
   obtain⟨ext4,hx4⟩:=x4
   refine⟨_,_,_,S',kvs',dn+1,rfl,I6,⟨ext4++ext,by rw[e6,hx4,a5a]⟩,by rw[e6,o5];omega,fun j t' p l hj hj2 hl ht hD=>?_,rfl,by omega⟩
   rw[b9,v2]at g6
   have hj3:S[j]? = some t':=by rw[e6,o0 (by omega)]at hj2;exact hj2
   by_cases q:j=dn
   ·subst q
    rw[htS]at hj3
    cases hj3
    obtain⟨q,hq⟩:=C0.mp ht
    have m1:(((p:Int),(q:Int)):Stp)∈Z:=by
     rw[hZ,L9]
     exact⟨b6F (.inr ⟨p,q,l,t,rfl,hl,hq⟩),d5l (b1k hl hq)⟩
    obtain⟨i,hi⟩:=C0.mp m1
    exact g6 i p q (gI hi) hi hD
   ·rw[e6];exact y0 _ (c4 j t' p l (by omega) hj3 hl ht hD)
 ·exists v9 (d5k (by omega)) ?_
  obtain⟨ext4,hx4⟩:=x4
  refine k d H4 S kvs I4.gb ⟨fun t ht he=>by rw[hx4];exact y0 _ ((en0 t ht).mpr he),fun p l hl hD t ht htS=>?_⟩ I4.same
  obtain⟨j,hj⟩:=C0.mp htS
  have:=(gI hj)
  exact c4 j t p l (by omega) hj hl ht hD
inductive On(N:Nt):Nat->List Stp->Nat->Prop
 | nil {t:Nat}:On N t [] t
 | cons {p q u e:Nat} {l:List Nat} {W:List Stp}:N[p]? = some l->l[q]? = some u->On N u W e->On N p (((p:Int),(q:Int))::W) e
section
variable {e e':Nat}{W W':List Stp}
end
section
variable {S:List Nat}
end
theorem GbK.ins{K:Fg}{H:Hp}{d x C dx:Addr}{N:Nt}{Do Sp:Nat->Bool}{S:List Nat}{kvs:List (Key×V)}{fs:List (Str×V)}{o:HO}(h:GbK K H d N Do Sp S kvs)(hx:H x=some (.ins C dx fs)):GbK K (upd H x o) d N Do Sp S kvs:=by
 refine⟨by rw[i9 (K0 h.hd hx (by intro z;cases z))];exact h.hd,h.nd,h.lt,h.len,fun i t e=>?_⟩
 obtain⟨v,q1,q2⟩:=h.at_ i t e
 have:=q2.grow (ext:=[]) (D9.ins (o:=o) hx)
 rw[M4]at this
 exact⟨v,q1,this⟩
theorem b4d{K:Fg}{x:Addr}{Sp:Nat->Bool}{E:XK}(ck:a0v K c)(hp:a6I c H x N rs)(hz:a0O K c H x N)(hv:a1a N)(hd:a1h H dd ds)(hs:a5G H rs ds Do Sp)(hwx:H wx=none)(hdx:H dx=none)
  (k:∀H' S,Wnt K c H' wx x N Do Sp S->j5 H H'->Q .non H'):a2v K c [.ref wx,.ref x,.ref dd] (upd (upd H dx (.own wx)) wx (.ins c.V2 dx [])) Q E:=by
 refine⟨rfl,?_⟩
 unfold a9F
 exact_mod_cast M9 ?_
 specialize a1t ?_
 refine⟨wx,_,dx,[],rfl,c9,ck.a2H,ck.a2F,by simp,?_⟩
 obtain⟨H3,hH3⟩:∃H3,H3=upd (upd (upd H dx (.own wx)) wx (.ins c.V2 dx [])) wx (.ins c.V2 dx (Q0 "plan" (.ref x) [])):=⟨_,rfl⟩
 rw[<-hH3]
 have x3:H3 wx=some (.ins c.V2 dx (Q0 "plan" (.ref x) [])):=hH3 ▸ c9
 have s3:j5 H H3:=fun b o e=>by
  have n1:=c8 e hwx
  rw[hH3,i9 n1,i9 n1,i9 (c8 e hdx)];exact e
 specialize a1t ?_
 exists b0G ck (hp.same s3) (hz.same s3) hv (hd.ts (j5.ts s3)) (hs.ts (j5.ts s3)) fun d H6 S kvs gb sh s6=>?_
 have x4:=s6 _ _ x3
 refine⟨wx,_,dx,_,rfl,x4,ck.a2H,ck.a2m,(by show(1:Nat)<1000;decide),?_⟩
 have g7:=gb.ins (o:=.ins c.V2 dx (Q0 "goes_by" (.ref d) (Q0 "plan" (.ref x) []))) x4
 obtain⟨H7,hH7⟩:∃H7,H7=upd H6 wx (.ins c.V2 dx (Q0 "goes_by" (.ref d) (Q0 "plan" (.ref x) []))):=⟨_,rfl⟩
 rw[<-hH7]at g7 ⊢
 have s7:j5 H H7:=fun b o e=>by rw[hH7,i9 (c8 e hwx)];exact s6 _ _ (s3 _ _ e)
 refine k H7 S ⟨⟨dx,d,kvs,?_,g7⟩,hz.same s7,sh⟩ s7
 rw[hH7,c9];rfl
theorem b9A{K:Fg}{x:Addr}{Sp:Nat->Bool}{a b:Nat}(ck:a0v K c)(hp:a6I c H x N rs)(hz:a0O K c H x N)(hv:a1a N)(hd:a1h H dd ds)(hs:a5G H rs ds Do Sp)(ea:σ[a]? = some (some (.ref x)))(eb:σ[b]? = some (some (.ref dd)))
  (k:∀wx H' S,H wx=none->Wnt K c H' wx x N Do Sp S->j5 H H'->Q (.ref wx) H'):a3Q c.V2 (a2v K c) [] E0 (a9 (b4 a) (a9 (b4 b) g0)) σ H Q:=by
 exact_mod_cast b4C ?_
 refine a0p (U5 ea (a0p (U5 eb (a2Y ?_))))
 intro wx dx hwx hdx _
 exact b4d ck hp hz hv hd hs hwx hdx fun H' S h s=>⟨rfl,k wx H' S hwx h s⟩
section
variable {K:Fg}{E:XK}
theorem b7Q{n:Int}(k:Q (.bl true) H):b1T K [.int n] H Q E:=by
 refine⟨rfl,?_⟩
 unfold c8X
 ext
 exists a6A rfl (by decide) ?_
 exists C6 rfl ?_
 exists a6A rfl (by decide) ?_
 exact k
end
section
variable {K:Fg}{E:XK}
theorem d0X(hn:L8 H na N)(ha:a0I K H a s)(hs:a4Q N s)(k:Q (.int (V7 N s:Nat)) H):c1Z K [.ref na,.ref a] H Q E:=by
 have sq:=ha.sq
 refine⟨rfl,?_⟩
 unfold d1V
 nofun
 exists ⟨a,0,_,_,rfl,rfl,sq,a3g _ _,?_⟩
 rcases hs with rfl | ⟨p,q,l,t,rfl,h1,h2⟩
 ·exists C6 (by decide) ?_
  exact k
 ·exists v9 (d5k (by show ¬((p:Int)<0);omega)) ?_
  obtain⟨xs,y,f1,f2,f3,_⟩:=hn.at h1
  refine⟨a,0,_,_,rfl,rfl,sq,a3g _ _,?_⟩
  exists O1 f1 f2 ?_
  refine⟨a,1,_,_,rfl,rfl,sq,b0s _ _ _,?_⟩
  refine O1 f3 (b6Q h2) ?_
  rw[b1k h1 h2]at k
  exact k
end
section
variable {K:Fg}{w:Addr}{S:List Stp}{E:XK}
theorem b7g(hw:U1 K H w S)(k:Q (.bl true) H):a5A K [.ref w] H Q E:=by
 obtain⟨vs,v1,v2,v3⟩:=hw.ex
 refine⟨rfl,?_⟩
 unfold b2N
 nofun
 exists a6A (s := "list") (by simp only[a5n,v1]) (by decide) ?_
 exists v9 (by decide) ?_
 exact_mod_cast M9 ?_
 specialize a1o (Z6 ?_)
 refine⟨w,rfl,⟨_,SqL.of v1⟩,a4u (xs:=vs.map V.ref) (fun i σ H2=>∃y1,σ=[some (.ref w),y1]/\H2=H) ⟨_,rfl,rfl⟩ ?_ ?_ ?_⟩
 ·rintro i σ H2 _ ⟨_,_,rfl⟩
  exact SqL.of v1
 ·rintro i v _ _ hv ⟨y1,rfl,rfl⟩
  rw[b6]at hv
  obtain⟨p,hp,rfl⟩:=z8.mp hv
  obtain⟨s,hs⟩:∃s,S[i]? = some s:=⟨_,c7 (by rw[<-v2];exact(gI hp))⟩
  have sq:=(v3 i p s hp hs).sq
  ext
  exists ⟨p,_,rfl,sq,?_⟩
  exists v9 rfl ?_
  exists ⟨p,_,rfl,sq,?_⟩
  exists v9 rfl ?_
  exists ⟨p,0,_,_,rfl,rfl,sq,a3g _ _,?_⟩
  exists b7Q (E:=E0) ?_
  exists v9 rfl ?_
  exists ⟨p,1,_,_,rfl,rfl,sq,b0s _ _ _,?_⟩
  exists b7Q (E:=E0) ?_
  exists v9 rfl ?_
  exact⟨_,rfl,rfl⟩
 ·rintro _ _ ⟨y1,rfl,rfl⟩
  ext
  exact k
end
inductive UnR(N:Nt)(Do Sp:Nat->Bool):Nat->Prop
 | zero:UnR N Do Sp 0
 | spoil {p t:Nat} {l:List Nat}:N[p]? = some l->t∈l->Sp p=true->UnR N Do Sp t
 | step {p t:Nat} {l:List Nat}:UnR N Do Sp p->Do p=false->N[p]? = some l->t∈l->UnR N Do Sp t
theorem c0s{Sp:Nat->Bool}{S:List Nat}(z:0∈S)(h:d1v N Do Sp S):∀t,UnR N Do Sp t->t∈S:=by
 intro t u
 induction u with
 | zero=>exact z
 | spoil h1 h2 h3=>exact h.sp _ _ h3 h1 _ h2
 | step _ h2 h3 h4 ih=>exact h.no _ _ ih h2 h3 _ h4
theorem c4G{K:Fg}{Sp:Nat->Bool}{S:List Nat}(h:CbK K H d N Do Sp S kvs):∀(i t:Nat),S[i]? = some t->UnR N Do Sp t:=by
 intro i
 induction i using d1J with
 | _ i ih=>
  intro t e
  obtain⟨a,s,_,_,j⟩:=h.at_ i t e
  rcases j with ⟨_,_,rfl⟩ | ⟨p,q,l,_,h2,h3,h4⟩
  ·exact .zero
  ·rcases h4 with h4 | ⟨j,j1,j2,j3⟩
   ·exact .spoil h2 (mI h3) h4
   ·exact .step (ih j j1 p j2) j3 h2 (mI h3)
theorem Rdy.un{K:Fg}{x:Addr}{Sp:Nat->Bool}{S:List Nat}(h:Rdy K c H rx x dd N rs ds Do Sp S)(t:Nat):t∈S↔UnR N Do Sp t:=by
 obtain⟨dx,d,kvs,_,cb⟩:=h.ex
 refine⟨fun ht=>?_,c0s (mI cb.z) h.shut t⟩
 obtain⟨i,hi⟩:=C0.mp ht
 exact c4G cb i t hi
inductive UnW(N:Nt)(Do Sp:Nat->Bool):Nat->Prop
 | en {t:Nat}:t<N.length->c1M N Do Sp t->UnW N Do Sp t
 | go {p t:Nat} {l:List Nat}:N[p]? = some l->Do p=false->t∈l->UnW N Do Sp t->UnW N Do Sp p
theorem Wnt.un{K:Fg}{x:Addr}{Sp:Nat->Bool}{S:List Nat}(h:Wnt K c H wx x N Do Sp S)(t:Nat):t∈S↔UnW N Do Sp t:=by
 obtain⟨dx,d,kvs,_,gb⟩:=h.ex
 constructor
 ·intro ht
  obtain⟨i,hi⟩:=C0.mp ht
  clear ht
  induction i using d1J generalizing t with
  | _ i ih=>
   obtain⟨v,_,j⟩:=gb.at_ i t hi
   rcases j with ⟨_,e⟩ | ⟨a,q,l,u,j,_,_,h3,h4,h5,h6,h7⟩
   ·exact .en (gb.lt t (mI hi)) e
   ·exact .go h3 h7 (mI h4) (ih j h6 u h5)
 ·intro u
  induction u with
  | en h1 h2=>exact h.shut.en _ h1 h2
  | go h1 h2 h3 _ ih=>exact h.shut.no _ _ h1 h2 _ h3 ih
def a8o(N:Nt)(Do Sp fr fw:Nat->Bool)(s:Stp):Bool:=fw (V7 N s)&&(decide (s=FST)||(Sp s.1.toNat||(!fr s.1.toNat&&(!Do s.1.toNat && !(N.getD s.1.toNat []).all fw))))
theorem c9n{p q:Nat}(h:N[p]? = some l):N.getD p []=l/\p<N.length:=⟨by simp[Q1,h],(gI h)⟩
theorem c3W{Sp fr fw fr' fw':Nat->Bool}(hv:a1a N)(is:a4Q N s)(h1:∀t,t<N.length->fr t=fr' t)(h2:∀t,t<N.length->fw t=fw' t):a8o N Do Sp fr fw s=a8o N Do Sp fr' fw' s:=by
 unfold a8o
 rw[h2 _ (b7R hv is)]
 rcases is with rfl | ⟨p,q,l,t,rfl,e1,e2⟩
 ·rw[d5l rfl];simp
 ·obtain⟨g1,g2⟩:=c9n (q:=0) e1
  have e:((((p:Int),(q:Int)):Stp).1).toNat=p:=rfl
  rw[e,h1 p g2,g1]
  have:l.all fw=l.all fw':=by
   rw[a2p,X5,X5]
   exact⟨fun h x hx=>by rw[<-h2 x (hv.lt l (mI e1) x hx)];exact h x hx,fun h x hx=>by rw[h2 x (hv.lt l (mI e1) x hx)];exact h x hx⟩
  rw[this]
theorem a6R{K:Fg}{x:Addr}{E:XK}(ck:a0v K c)(hp:a0O K c H x N)(hv:a1a N)(k:∀a H',H a=none->U1 K H' a (C4 N)->j5 H H'->Q (.ref a) H'):a2c K c [.ref x] H Q E:=by
 obtain⟨dx,r,n,e,es,h1,h2,h3,h4⟩:=hp.ex
 refine⟨rfl,?_⟩
 unfold b0M
 ext
 specialize T3 ?_
 exists ⟨x,_,dx,_,_,rfl,h1,ck.Q2,ck.X6,rfl,?_⟩
 exact b2Q ck h3 hv.le hv.two k
theorem b4o(N:Nt):(C4 N).Nodup:=by
 have key:∀i,(a3A N i).Nodup/\∀s∈a3A N i,s.1<(i:Int):=by
  intro i
  induction i with
  | zero=>exact⟨by simp[a3A],fun s hs=>by simp[a3A]at hs;rw[hs];decide⟩
  | succ i ih=>
   rw[a5g]
   have on:∀s∈a3q N i,s.1=(i:Int):=fun s hs=>by
    unfold a3q at hs
    obtain⟨q,_,rfl⟩:=E7.mp hs
    rfl
   refine⟨a2U.mpr ⟨ih.1,?_,fun a ha b hb e=>?_⟩,fun s hs=>?_⟩
   ·unfold a3q
    exact a1V _ (fun a b h e=>h (by have:=congrArg Prod.snd e;have:(a:Int)=(b:Int):=this;omega)) b5C
   ·have h1:=ih.2 a ha
    have h2:=on b hb
    rw[e]at h1
    omega
   ·rcases u4.mp hs with h | h
    ·have:=ih.2 s h;omega
    ·rw[on s h];omega
 exact(key N.length).1
theorem CbK.move{K:Fg}{Sp:Nat->Bool}{S:List Nat}(h:CbK K H d N Do Sp S kvs)(t:D9 H H')(hd:H' d=some (.dK kvs)):CbK K H' d N Do Sp S kvs:=
 ⟨hd,h.nd,h.lt,h.len,h.z,fun i u e=>let⟨a,s,q1,q2,q3⟩:=h.at_ i u e; ⟨a,s,q1,q2.ts t,q3⟩⟩
def stK(s:Stp):List Key:=[Sum.inl s.1,Sum.inl s.2]
theorem b7h{t:Stp}(h:stK s=stK t):s=t:=by
 unfold stK at h
 have h1:=Sum.inl.inj (List.cons.inj h).1
 have h2:=Sum.inl.inj (List.cons.inj (List.cons.inj h).2).1
 exact Prod.ext h1 h2
structure XD(K:Fg)(H:Hp)(d:Addr)(L:List Stp):Prop where
 ex:∃xs:List XE,H d=some (dX d xs)/\xs.length=L.length/\∀(i:Nat) x s,xs[i]? = some x->L[i]? = some s->x.1=stK s/\a0I K H x.2.1 s
section
variable {K:Fg}{b':Addr}{L:List Stp}{xs:List XE}
theorem XD.move(h:XD K H d L)(t:D9 H H')(k:∀xs,H d=some (dX d xs)->H' d=some (dX d xs)):XD K H' d L:=by
 obtain⟨xs,h1,h2,h3⟩:=h.ex
 exact⟨xs,k _ h1,h2,fun i x s e1 e2=>⟨(h3 i x s e1 e2).1,(h3 i x s e1 e2).2.ts t⟩⟩
theorem XD.same(h:XD K H d L)(s:j5 H H'):XD K H' d L:=h.move (j5.ts s) fun _ e=>s _ _ e
theorem XD.kept(h:XD K H d L)(hB:Bag H b b')(k:E3 b H H'):XD K H' d L:=by
 obtain⟨ys,hb⟩:=hB.lst
 exact h.move (k.ts hB) fun _ e=>k.1 _ _ e (K0 e hb (by intro z;cases z))
theorem a7A(hl:xs.length=L.length)(h:∀(i:Nat) x s,xs[i]? = some x->L[i]? = some s->x.1=stK s/\a0I K H x.2.1 s):xs.map (·.1)=L.map stK/\b5u K H xs:=by
 constructor
 ·apply b3N
  intro i
  rw[b6,b6]
  cases e:xs[i]? with
  | none=>rw[a3K.mpr (by rw[<-hl];exact a3K.mp e)];rfl
  | some x=>
   have hi:=(gI e)
   have e2:L[i]? = some (L[i]'(by omega)):=by simp
   rw[e2]
   exact congrArg some (h i x _ e e2).1
 ·intro x hx
  obtain⟨i,hi⟩:=C0.mp hx
  have hi':=(gI hi)
  have e2:L[i]? = some (L[i]'(by omega)):=by simp
  obtain⟨q1,q2⟩:=h i x _ hi e2
  rw[q1]
  exact q2.sq
theorem c1R(h:xs.map (·.1)=L.map stK)(s:Stp):(b4e xs (stK s)).isSome=decide (s∈L):=by
 unfold b4e
 rw[a2D,a2p,List.find?_isSome,decide_eq_true_iff]
 constructor
 ·rintro⟨x,hx,e⟩
  have e:=of_decide_eq_true e
  have:x.1∈L.map stK:=h ▸ E7.mpr ⟨x,hx,rfl⟩
  obtain⟨t,ht,et⟩:=E7.mp this
  rw[e]at et
  rw[<-b7h et];exact ht
 ·intro hs
  have:stK s∈xs.map (·.1):=h ▸ E7.mpr ⟨s,hs,rfl⟩
  obtain⟨x,hx,e⟩:=E7.mp this
  exact⟨x,hx,d5l e⟩
theorem XD.list(h:XD K H d L)(k:∀l H',H l=none->U1 K H' l L->j5 H H'->Q (.ref l) H'):b4H K [.ref d] H Q:=by
 obtain⟨xs,h1,h2,h3⟩:=h.ex
 refine⟨d,xs,rfl,h1,(a7A h2 h3).2,fun l hl=>?_⟩
 refine k l _ hl ⟨xs.map (·.2.1),?_,by rw[b9,h2],fun i a s e1 e2=>?_⟩ (A0 hl)
 ·rw[c9,X0];rfl
 ·rw[b6]at e1
  obtain⟨x,hx,rfl⟩:=z8.mp e1
  exact(h3 i x s hx e2).2.ts (D9.new hl)
theorem XD.in_{neg:Bool}(h:XD K H d L)(ha:a0I K H a s)(hi:∀R:VK,R (.ref a) H->ti σ H R)(ho:∀R:VK,R (.ref d) H->to σ H R)(k:Q (.bl (if neg then !decide (s∈L)else decide (s∈L))) H):b5I K neg ti to σ H Q:=by
 obtain⟨xs,h1,h2,h3⟩:=h.ex
 refine hi _ (ho _ ⟨d,a,xs,stK s,rfl,rfl,h1,(a7A h2 h3).2,ha.sq,?_⟩)
 rw[c1R (a7A h2 h3).1]
 exact k
end
abbrev b2G(x dd rx wx:Addr)(t:List (Str×V)):List (Str×V):=("plan",.ref x)::("deed",.ref dd)::("ready",.ref rx)::("wanted",.ref wx)::t
theorem b7N{x:Addr}{t:List (Str×V)}{m:Str}(ht:t=[]\/t=([("found",.ref d)]:List (Str×V)))(h:m∉(["plan","deed","ready","wanted","found"]:List Str)):(b2G x dd rx wx t).lookup m=none:=by
 have h1:m≠("plan" : Str):=fun e=>h (by rw[e];simp)
 have h2:m≠("deed" : Str):=fun e=>h (by rw[e];simp)
 have h3:m≠("ready" : Str):=fun e=>h (by rw[e];simp)
 have h4:m≠("wanted" : Str):=fun e=>h (by rw[e];simp)
 have h5:m≠("found" : Str):=fun e=>h (by rw[e];simp)
 rcases ht with rfl | rfl <;> simp[a3h,beq_eq_false_iff_ne.mpr h1,beq_eq_false_iff_ne.mpr h2,beq_eq_false_iff_ne.mpr h3,beq_eq_false_iff_ne.mpr h4,beq_eq_false_iff_ne.mpr h5]
section
variable {K:Fg}{bx x:Addr}{Sp:Nat->Bool}{Sr Sw:List Nat}{p q:Nat}{t:List (Str×V)}{E:XK}
theorem b3h(ck:a0v K c)(hx:H bx=some (.ins c.F5 dx (b2G x dd rx wx t)))(hp:a1N c H x N rs)(hd:a1h H dd ds)(sat:a5G H rs ds Do Sp)(ha:a0I K H a ((p:Int),(q:Int)))(hl:p<N.length)(k:∀H',j5 H H'->Q (.bl (Sp p)) H'):U4 K [.ref bx,.ref a] H Q E:=by
 obtain⟨dx',fs,n,r,hx',hfn,hn,hfr,hr,lr⟩:=hp.ex
 obtain⟨ax,hax⟩:∃ax,rs[p]? = some ax:=⟨_,c7 (by omega)⟩
 obtain⟨xs,x1,x2,x3⟩:=sat p ax hax
 have ha:=ha.resolve_right fun z=>a6e z.1
 refine⟨rfl,?_⟩
 unfold a3k
 ext
 exact_mod_cast T3 ?_
 specialize T3 ?_
 refine⟨bx,_,dx,_,_,rfl,hx,ck.Z1,ck.a4z,rfl,?_⟩
 exists ⟨x,_,dx',fs,_,rfl,hx',ck.Q2,ck.U2,hfr,?_⟩
 exists a0e ha (a3g _ _) ?_
 exists O1 hr (a0z (by rw[b6,hax];rfl)) ?_
 specialize T3 ?_
 exists ⟨bx,_,dx,_,_,rfl,hx,ck.Z1,ck.a4A,rfl,?_⟩
 refine a9c x1 hd fun H1 s1=>?_
 rw[x3]
 exact k H1 s1
abbrev frS(S:List Nat):Nat->Bool:=fun t => !decide (t∈S)
theorem b9G(ck:a0v K c)(hx:H bx=some (.ins c.F5 dx (b2G x dd rx wx t)))(ht:t=[]\/t=([("found",.ref d)]:List (Str×V)))(hR:Rdy K c H rx x dd N rs ds Do Sp Sr)(hW:Wnt K c H wx x N Do Sp Sw)(hv:a1a N)(ha:a0I K H a s)(is:a4Q N s)(k:∀H',j5 H H'->Q (.bl (a8o N Do Sp (frS Sr) (frS Sw) s)) H'):a1Q K c [.ref bx,.ref a] H Q E:=by
 obtain⟨dr,rd,kr,r1,_⟩:=id hR.ex
 obtain⟨dw,wd,kw,w1,_⟩:=id hW.ex
 refine⟨rfl,?_⟩
 unfold a6s
 nofun
 exact_mod_cast M6 ?_
 specialize T3 ?_
 refine⟨bx,_,dx,_,_,rfl,hx,ck.Z1,ck.a1L,rfl,?_⟩
 exists ⟨wx,dw,_,rfl,w1,b3E _ _ _ (by decide),?_⟩
 refine b7a ck hW ha is ?_
 ext
 unfold a8o at k
 by_cases hlw:V7 N s∈Sw
 ·rw[d5l hlw]
  refine C6 rfl ?_
  refine C6 rfl ?_
  ext
  have:=k H (j5.refl _)
  rw[show frS Sw (V7 N s)=false by show(!decide _)=false;rw[d5l hlw];rfl,d1M]at this
  exact this
 rw[show frS Sw (V7 N s)=true by show(!decide _)=true;rw[d5k hlw];rfl]at k
 simp only[a5H]at k
 rw[d5k hlw]
 refine v9 rfl ?_
 ext
 exact_mod_cast M6 ?_
 specialize T3 ?_
 refine⟨bx,_,dx,_,_,rfl,hx,ck.Z1,ck.a3x,rfl,?_⟩
 exists ⟨rx,dr,_,rfl,r1,rfl,?_⟩
 refine b9f ck hR ha is fun H1 s1=>?_
 ext
 rcases is with rfl | ⟨p,q,l,u,rfl,h1,h2⟩
 ·have e:onF Do Sp Sr FST=false:=by unfold onF;rw[d5l rfl];rfl
  rw[e]
  refine v9 rfl ?_
  ext
  refine⟨_,_,_,_,rfl,rfl,(ha.ts (j5.ts s1)).sq,ck.a0k H1,rfl,rfl,?_⟩
  rw[eq2]
  refine⟨_,rfl,C6 (by decide) ?_⟩
  exact k H1 s1
 ·obtain⟨hg,hpl⟩:=c9n (q:=0) h1
  have hf:decide ((((p:Int),(q:Int)):Stp)=FST)=false:=d5k a6e
  have k':∀H',j5 H H'->Q (.bl (Sp p||(!frS Sr p&&(!Do p && !l.all (frS Sw))))) H':=fun H' s'=>by
   have:=k H' s'
   rw[hf,c0j]at this
   have e:((((p:Int),(q:Int)):Stp).1).toNat=p:=rfl
   rw[e,hg]at this
   exact this
  have e:onF Do Sp Sr ((p:Int),(q:Int))=beh Do Sp Sr p:=by unfold onF;rw[hf];rfl
  rw[e]
  have tail:Sp p=true\/(Sp p=false/\frS Sr p=false/\Do p=false)->(b7d (tOp (c2Z K) (b4 1) (tC (.ref c.O9))) (b7d (F7 c.F5 "is_spoilt_ahead" (U4 K) [] E0 (b4 0) (a9 (b4 1) (g0))) (a9L (F7 c.V2 "wanted_behind" (W1 K c) [] E0 (a0n K (b4 0) "wanted") (a9 (tOp qIx (b4 1) (tC (.int 0))) (g0)))))) [some (V.ref bx),some (.ref a)] H1 Q:=by
   intro hcase
   have ha1:=ha.ts (j5.ts s1)
   ext
   refine⟨_,_,_,_,rfl,rfl,ha1.sq,ck.a0k H1,rfl,rfl,?_⟩
   rw[eq2]
   refine⟨_,rfl,v9 hf ?_⟩
   ext
   specialize M6 ?_
   exists ⟨bx,dx,_,rfl,s1 _ _ hx,b7N ht (by decide),?_⟩
   refine b3h ck (s1 _ _ hx) (hR.plan.same s1) (hR.deed.ts (j5.ts s1)) (hR.sat.ts (j5.ts s1)) ha1 hpl fun H2 s2=>?_
   have s12:=s1.trans s2
   refine⟨_,rfl,?_⟩
   rcases hcase with hs | ⟨hs,hr,hdo⟩
   ·rw[hs]
    refine C6 rfl ?_
    have:=k' H2 s12
    rw[hs,d3e]at this
    exact this
   ·rw[hs]
    refine v9 rfl ?_
    ext
    exact_mod_cast M6 ?_
    specialize T3 ?_
    refine⟨bx,_,dx,_,_,rfl,s12 _ _ hx,ck.Z1,ck.a1L,rfl,?_⟩
    exists ⟨wx,dw,_,rfl,s12 _ _ w1,b3E _ _ _ (by decide),?_⟩
    exists a0e ((ha1.ts (j5.ts s2)).resolve_right fun z=>a6e z.1) (a3g _ _) ?_
    refine b1L ck (hW.same s12) hv hpl fun H3 s3=>?_
    refine⟨_,rfl,?_⟩
    have:=k' H3 (s12.trans s3)
    rw[hs,hr,hdo]at this
    unfold d1q
    rw[hg,d5l (a9m (mI h2)),a5H]
    exact this
  cases hs:Sp p with
  | true=>
   rw[show beh Do Sp Sr p=false by unfold beh;rw[hs,if_pos rfl]]
   refine v9 rfl ?_
   exact_mod_cast a8G ?_
   exact_mod_cast b4B ?_
   exact tail (.inl hs)
  | false=>
   have hb:beh Do Sp Sr p=(Do p||frS Sr p):=by unfold beh;rw[hs];rfl
   rw[hb]
   cases hdo:Do p with
   | true=>
    refine C6 rfl ?_
    ext
    have:=k' H1 s1
    rw[hs,hdo]at this
    simpa using this
   | false=>
    cases hr:frS Sr p with
    | true=>
     refine C6 rfl ?_
     ext
     have:=k' H1 s1
     rw[hs,hr]at this
     exact this
    | false=>
     refine v9 rfl ?_
     exact_mod_cast a8G ?_
     exact_mod_cast b4B ?_
     exact tail (.inr ⟨hs,hr,hdo⟩)
end
structure Brx(K:Fg)(c:Cn)(H:Hp)(bx x dd:Addr)(N:Nt)(rs:List Addr)(ds:List V)(Do Sp:Nat->Bool)(Sr Sw:List Nat):Prop where
 ex:∃dx rx wx d,H bx=some (.ins c.F5 dx (b2G x dd rx wx [("found",.ref d)]))/\Rdy K c H rx x dd N rs ds Do Sp Sr/\Wnt K c H wx x N Do Sp Sw/\XD K H d ((C4 N).filter (a8o N Do Sp (frS Sr) (frS Sw)))
section
variable {K:Fg}{bx x b':Addr}{Sp:Nat->Bool}{Sr Sw:List Nat}{p q:Nat}{E:XK}
theorem b5s(ck:a0v K c)(hp:a1N c H x N rs)(hq:a6I c H x N rs)(hz:a0O K c H x N)(hv:a1a N)(hd:a1h H dd ds)(hs:a5G H rs ds Do Sp)(hbx:H bx=none)(hdx:H dx=none)
  (k:∀H' Sr Sw,Brx K c H' bx x dd N rs ds Do Sp Sr Sw->j5 H H'->Q .non H'):a2w K c [.ref bx,.ref x,.ref dd] (upd (upd H dx (.own bx)) bx (.ins c.F5 dx [])) Q E:=by
 refine⟨rfl,?_⟩
 unfold a9J
 exact_mod_cast M9 ?_
 specialize a1t ?_
 refine⟨bx,_,dx,[],rfl,c9,ck.Z1,ck.a4z,by simp,?_⟩
 exact_mod_cast M9 ?_
 specialize a1t ?_
 refine⟨bx,_,dx,_,rfl,c9,ck.Z1,ck.a4A,by simp[Q0],?_⟩
 obtain⟨H3,hH3⟩:∃H3,H3=upd (upd (upd (upd H dx (.own bx)) bx (.ins c.F5 dx [])) bx (.ins c.F5 dx (Q0 "plan" (.ref x) []))) bx (.ins c.F5 dx (Q0 "deed" (.ref dd) (Q0 "plan" (.ref x) []))):=⟨_,rfl⟩
 rw[<-hH3]
 have x3:H3 bx=some (.ins c.F5 dx (Q0 "deed" (.ref dd) (Q0 "plan" (.ref x) []))):=hH3 ▸ c9
 have s3:j5 H H3:=fun b o e=>by
  have n1:=c8 e hbx
  rw[hH3,i9 n1,i9 n1,i9 n1,i9 (c8 e hdx)];exact e
 have put:∀ {H':Hp} {o:HO},j5 H H'->j5 H (upd H' bx o):=fun s' b o e=>by rw[i9 (c8 e hbx)];exact s' _ _ e
 exact_mod_cast M9 ?_
 exact_mod_cast a1t ?_
 refine c1r ck (hp.same s3) hv (hd.ts (j5.ts s3)) (hs.ts (j5.ts s3)) rfl rfl fun rx H4 Sr hrx R4 s4=>?_
 have x4:=s4 _ _ x3
 have s04:=s3.trans s4
 have nrx:rx≠bx:=(c8 x3 hrx).symm
 ext
 exists ⟨bx,_,dx,_,rfl,x4,ck.Z1,ck.a3x,(by show(2:Nat)<1000;decide),?_⟩
 have rput:∀ {H':Hp} {fs:List (Str×V)} {o:HO},H' bx=some (.ins c.F5 dx fs)->j5 H H'->Rdy K c H' rx x dd N rs ds Do Sp Sr->Rdy K c (upd H' bx o) rx x dd N rs ds Do Sp Sr:=by
  intro H' fs o e s' R
  obtain⟨dr,rd,kr,r1,r2⟩:=R.ex
  have t:=D9.ins (o:=o) e
  exact⟨⟨dr,rd,kr,by rw[i9 nrx];exact r1,r2.move t (by rw[i9 (K0 r2.hd e (by intro z;cases z))];exact r2.hd)⟩,hp.same (put s'),R.deed.ts t,R.sat.ts t,R.shut⟩
 have R5:=rput (o:=.ins c.F5 dx (Q0 "ready" (.ref rx) (Q0 "deed" (.ref dd) (Q0 "plan" (.ref x) [])))) x4 s04 R4
 obtain⟨H5,hH5⟩:∃H5,H5=upd H4 bx (.ins c.F5 dx (Q0 "ready" (.ref rx) (Q0 "deed" (.ref dd) (Q0 "plan" (.ref x) [])))):=⟨_,rfl⟩
 have s05:j5 H H5:=hH5 ▸ put s04
 have x5:H5 bx=some (.ins c.F5 dx (Q0 "ready" (.ref rx) (Q0 "deed" (.ref dd) (Q0 "plan" (.ref x) [])))):=hH5 ▸ c9
 rw[<-hH5]at R5 ⊢
 exact_mod_cast M9 ?_
 exact_mod_cast a1t ?_
 refine b9A ck (hq.same s05) (hz.same s05) hv (hd.ts (j5.ts s05)) (hs.ts (j5.ts s05)) rfl rfl fun wx H6 Sw hwx W6 s6=>?_
 have x6:=s6 _ _ x5
 have s06:=s05.trans s6
 have nwx:wx≠bx:=(c8 x5 hwx).symm
 ext
 exists ⟨bx,_,dx,_,rfl,x6,ck.Z1,ck.a1L,(by show(3:Nat)<1000;decide),?_⟩
 have wput:∀ {H':Hp} {fs:List (Str×V)} {o:HO},H' bx=some (.ins c.F5 dx fs)->j5 H H'->Wnt K c H' wx x N Do Sp Sw->Wnt K c (upd H' bx o) wx x N Do Sp Sw:=by
  intro H' fs o e s' W
  obtain⟨dw,wd,kw,w1,w2⟩:=W.ex
  exact⟨⟨dw,wd,kw,by rw[i9 nwx];exact w1,w2.ins e⟩,hz.same (put s'),W.shut⟩
 have R7:=rput (o:=.ins c.F5 dx (b2G x dd rx wx [])) x6 s06 (R5.same s6)
 have W7:=wput (o:=.ins c.F5 dx (b2G x dd rx wx [])) x6 s06 W6
 have ef:Q0 "wanted" (.ref wx) (Q0 "ready" (.ref rx) (Q0 "deed" (.ref dd) (Q0 "plan" (.ref x) [])))=b2G x dd rx wx []:=rfl
 rw[ef]
 obtain⟨H7,hH7⟩:∃H7,H7=upd H6 bx (.ins c.F5 dx (b2G x dd rx wx [])):=⟨_,rfl⟩
 have s07:j5 H H7:=hH7 ▸ put s06
 have x7:H7 bx=some (.ins c.F5 dx (b2G x dd rx wx [])):=hH7 ▸ c9
 rw[<-hH7]at R7 W7 ⊢
 obtain⟨dx2,r2,n2,e2,es2,p1,_⟩:=id hz.ex
 specialize a1t ?_
 exact_mod_cast a0c (Z6 ?_)
 specialize M6 ?_
 exists ⟨x,dx2,_,rfl,s07 _ _ p1,a8M r2 n2 e2 _ (by decide),?_⟩
 refine a6R ck (hz.same s07) hv fun w H8 hw S8 s8=>?_
 have s08:=s07.trans s8
 obtain⟨ps,w1,w2,w3⟩:=id S8.ex
 have lst:=a5I hv.two
 have h400:=hv.le
 refine⟨w,rfl,⟨_,SqL.of w1⟩,fun D hD=>?_⟩
 refine b5i (J:=Itl K w) ps.length (fun i ys H9=>∃(ts:List Addr) (xs:List XE),ys=ts.map V.ref/\ts.length=xs.length/\(∀(j:Nat) y,xs[j]? = some y->∃p,ts[j]? = some p/\H9 p=some (.tup [.ref y.2.1,y.2.2]))/\xs.length=(((C4 N).take i).filter (a8o N Do Sp (frS Sr) (frS Sw))).length /\
  (∀(j:Nat) y s,xs[j]? = some y->(((C4 N).take i).filter (a8o N Do Sp (frS Sr) (frS Sw)))[j]? = some s->y.1=stK s/\a0I K H9 y.2.1 s)/\H9 D=some (.lst ys)/\j5 H8 H9)
  ⟨[],[],rfl,rfl,(fun j y h=>by cases h),rfl,(fun j y s h=>by cases h),c9,A0 hD⟩ ?_ ?_ ?_ ?_
 ·rintro i ys H9 ⟨_,_,_,_,_,_,_,h,_⟩
  exact h
 ·rintro ys H9 ⟨ts,xs,rfl,l1,t1,l2,t2,hD9,s9⟩
  refine⟨⟨_,SqL.of (s9 _ _ w1),by rw[b9];exact j6 _⟩,?_⟩
  rw[w2,G0]at l2 t2
  obtain⟨kk1,kk2⟩:=a7A l2 t2
  ext
  refine⟨D,_,xs,rfl,hD9,by rw[b9,l1],fun j y e=>?_,kk2,?_,fun y hy=>?_,fun dd2 hdd=>?_⟩
  ·obtain⟨p,q1,q2⟩:=t1 j y e
   exact⟨p,by rw[b6,q1];rfl,q2⟩
  ·rw[kk1]
   exact a1V stK (fun a b h e=>h (b7h e)) ((b4o N).filter _)
  ·obtain⟨j,hj⟩:=C0.mp hy
   have hj':=(gI hj)
   rw[(t2 j y _ hj (c7 (by omega))).1]
   intro z hz
   unfold stK at hz
   rcases u5.mp hz with rfl | hz
   ·exact⟨_,rfl⟩
   ·exact⟨_,l6.mp hz⟩
  ·ext
   have s10:j5 H9 (upd H9 dd2 (dX dd2 xs)):=A0 hdd
   obtain⟨H10,hH10⟩:∃H10,H10=upd H9 dd2 (dX dd2 xs):=⟨_,rfl⟩
   have e10:H10 dd2=some (dX dd2 xs):=hH10 ▸ c9
   rw[<-hH10]at s10 ⊢
   have s810:=s9.trans s10
   have s710:=s8.trans s810
   have x10:=s710 _ _ x7
   refine⟨bx,_,dx,_,rfl,x10,ck.Z1,ck.a3y,(by show(4:Nat)<1000;decide),?_⟩
   have ef:Q0 "found" (.ref dd2) (b2G x dd rx wx [])=b2G x dd rx wx [("found",.ref dd2)]:=rfl
   rw[ef]
   have s010:=s07.trans s710
   have R11:=rput (o:=.ins c.F5 dx (b2G x dd rx wx [("found",.ref dd2)])) x10 s010 (R7.same s710)
   have W11:=wput (o:=.ins c.F5 dx (b2G x dd rx wx [("found",.ref dd2)])) x10 s010 (W7.same s710)
   refine k _ Sr Sw ⟨dx,rx,wx,dd2,c9,R11,W11,xs,?_,l2,fun j y s e1 e2=>⟨(t2 j y s e1 e2).1,?_⟩⟩ (put s010)
   ·rw[i9 (K0 e10 x10 (by intro z;cases z))];exact e10
   ·exact((t2 j y s e1 e2).2.ts (j5.ts s10)).ts (D9.ins x10)
 ·rintro i ys H9 hi ⟨_,_,_,_,_,_,_,_,s9⟩
  exact⟨_,.ref ps[i],SqL.of (s9 _ _ w1),by rw[b6,c7 hi];rfl⟩
 ·rintro i ys H9' hi ⟨ts,xs,rfl,l1,t1,l2,t2,hD9,s9⟩ v H9 ⟨rfl,hy⟩ R S hR hS
  have hv':=hy _ (SqL.of (s9 _ _ w1))
  rw[b6]at hv'
  obtain⟨p,hp',rfl⟩:=z8.mp hv'
  obtain⟨s,hs'⟩:∃s,(C4 N)[i]? = some s:=⟨_,c7 (by rw[<-w2];exact hi)⟩
  have is:=a3S (mI hs')
  have s79:=s8.trans s9
  have st:=(w3 i p s hp' hs').ts (j5.ts s9)
  have tk:((C4 N).take (i+1)).filter (a8o N Do Sp (frS Sr) (frS Sw))=((C4 N).take i).filter (a8o N Do Sp (frS Sr) (frS Sw))++if a8o N Do Sp (frS Sr) (frS Sw) s=true then [s] else []:=by
   rw[K5,hs',N4]
   congr 1
   simp only[c4k,a3v,a4x]
  ext
  specialize M6 ?_
  exists ⟨bx,dx,_,rfl,s79 _ _ x7,b7N (d:=0) (.inl rfl) (by decide),?_⟩
  refine b9G (d:=0) ck (s79 _ _ x7) (.inl rfl) (R7.same s79) (W7.same s79) hv st is fun H11 s11=>?_
  refine⟨_,rfl,?_⟩
  cases hb:a8o N Do Sp (frS Sr) (frS Sw) s with
  | false=>
   rw[hb,if_neg (by decide),M4]at tk
   refine v9 rfl ?_
   refine hS _ ⟨ts,xs,rfl,l1,fun j y e=>let⟨p,q1,q2⟩:=t1 j y e; ⟨p,q1,s11 _ _ q2⟩,by rw[tk];exact l2,fun j y s e1 e2=>?_,s11 _ _ hD9,s9.trans s11⟩
   rw[tk]at e2
   exact⟨(t2 j y s e1 e2).1,(t2 j y s e1 e2).2.ts (j5.ts s11)⟩
  | true=>
   rw[hb,if_pos rfl]at tk
   refine C6 rfl ?_
   ext
   refine G9 (by simp) fun tp H12 htp e12 s12=>?_
   have s912:=s11.trans s12
   have lle:(((C4 N).take i).filter (a8o N Do Sp (frS Sr) (frS Sw))).length<=(C4 N).length:=by
    have h1:=o6 (a8o N Do Sp (frS Sr) (frS Sw)) ((C4 N).take i)
    rw[D8]at h1
    omega
   refine hR _ _ (s912 _ _ hD9) (F8 (by rw[b9];omega)) ⟨ts++[tp],xs++[(stK s,p,.bl true)],by rw[E1];rfl,by simp[l1],fun j y e=>?_,?_,fun j y u e1 e2=>?_,c9,fun b o e=>by rw[i9 (c8 e hD)];exact s912 _ _ (s9 _ _ e)⟩
   ·have tt:D9 H12 (upd H12 D (.lst (ts.map V.ref++[.ref tp]))):=D9.put (s912 _ _ hD9)
    rcases a0C e with ⟨j1,j2⟩ | ⟨j1,j2⟩
    ·obtain⟨p',q1,q2⟩:=t1 j y j2
     exact⟨p',by rw[o0 (by omega)];exact q1,tt _ _ (s912 _ _ q2)⟩
    ·subst j2
     exact⟨tp,by rw[j1,<-l1];simp,tt _ _ e12⟩
   ·rw[tk,o5,o5,l2];rfl
   ·have tt:D9 H9 (upd H12 D (.lst (ts.map V.ref++[.ref tp]))):=fun b z h=>D9.put (s912 _ _ hD9) _ _ (s912 _ _ h)
    rw[tk]at e2
    rcases a0C e1 with ⟨j1,j2⟩ | ⟨j1,j2⟩
    ·rw[o0 (by omega)]at e2
     exact⟨(t2 j y u j2 e2).1,(t2 j y u j2 e2).2.ts tt⟩
    ·rw[j1,l2,K7 (j6 _),c4b]at e2
     cases e2
     subst j2
     exact⟨rfl,st.ts tt⟩
theorem c3V(ck:a0v K c)(h:Brx K c H bx x dd N rs ds Do Sp Sr Sw)(k:∀l H',H l=none->U1 K H' l ((C4 N).filter (a8o N Do Sp (frS Sr) (frS Sw)))->j5 H H'->Q (.ref l) H'):a3r K [.ref bx] H Q E:=by
 obtain⟨dx,rx,wx,d,h1,_,_,h5⟩:=h.ex
 refine⟨rfl,?_⟩
 unfold a8A
 ext
 specialize T3 ?_
 exists ⟨bx,_,dx,_,_,rfl,h1,ck.Z1,ck.a3y,rfl,?_⟩
 exact h5.list k
end
section
variable {K:Fg}{bx x:Addr}{Sp fr fw:Nat->Bool}{Sr Sw:List Nat}
theorem b9B{a b:Nat}(ck:a0v K c)(hp:a1N c H x N rs)(hq:a6I c H x N rs)(hz:a0O K c H x N)(hv:a1a N)(hd:a1h H dd ds)(hs:a5G H rs ds Do Sp)(ea:σ[a]? = some (some (.ref x)))(eb:σ[b]? = some (some (.ref dd)))
  (k:∀bx H' Sr Sw,H bx=none->Brx K c H' bx x dd N rs ds Do Sp Sr Sw->j5 H H'->Q (.ref bx) H'):a3Q c.F5 (a2w K c) [] E0 (a9 (b4 a) (a9 (b4 b) g0)) σ H Q:=by
 exact_mod_cast b4C ?_
 refine a0p (U5 ea (a0p (U5 eb (a2Y ?_))))
 intro bx dx hbx hdx _
 exact b5s ck hp hq hz hv hd hs hbx hdx fun H' Sr Sw h s=>⟨rfl,k bx H' Sr Sw hbx h s⟩
end
def uniq(L:List Nat):List Nat:=L.foldl a4o []
theorem b6G:∀ {L ks:List Nat} {j:Nat},j∈L.foldl a4o ks↔j∈ks\/j∈L
 | [],ks,j=>by simp
 | a::L,ks,j=>by
  rw[a1B,b6G,a0s,u5,or_assoc]
theorem b9v:∀ {L ks:List Nat},ks.Nodup->(L.foldl a4o ks).Nodup
 | [],_,h=>h
 | a::L,_,h=>by rw[a1B];exact b9v (a6C h)
theorem b9I:∀ {L ks:List Nat},(ks++L).Nodup->L.foldl a4o ks=ks++L
 | [],ks,_=>by simp
 | a::L,ks,h=>by
  have na:a∉ks:=fun z=>(a2U.mp h).2.2 a z a (by simp) rfl
  rw[a1B,show a4o ks a=ks++[a] by unfold a4o;rw[if_neg na],b9I (by simpa using h)]
  simp
theorem b4Z:j∈uniq L↔j∈L:=by unfold uniq;rw[b6G];simp
theorem c8h(L:List Nat):(uniq L).Nodup:=b9v List.nodup_nil
theorem c1T(h:L.Nodup):uniq L=L:=b9I (by simpa using h)
theorem d0W(L:List Nat):c8l (KS L)=KS (uniq L):=by
 have key:∀(L ks:List Nat),(KS L).foldl (fun m p=>a2P m p.1 p.2) (KS ks)=KS (L.foldl a4o ks):=by
  intro L
  induction L with
  | nil=>intro ks;rfl
  | cons a L ih=>
   intro ks
   rw[show KS (a::L)=(Sum.inl (a:Int),V.bl true)::KS L from rfl,a1B,a1B,c6E,ih]
 exact key L []
section
variable {K:Fg}{w:Addr}{S:List Stp}{E:XK}
theorem a8O(h:H w=some (.lst (IL L)))(l400:L.length<=400)(k:∀d H',H d=none->H' d=some (.dK (KS (uniq L)))->j5 H H'->Q (.ref d) H'):a2M K [.ref w] H Q E:=by
 refine⟨rfl,?_⟩
 unfold b4i
 ext
 specialize a0c (Z6 ?_)
 refine⟨w,rfl,⟨_,SqL.of h⟩,fun T hT=>?_⟩
 refine a0G (xs:=IL L) (fun i ys H8=>ys.length=i/\H8 T=some (.lst ys)/\j5 H H8/\∀(j p:Nat),j<i->L[j]? = some p->∃b,ys[j]? = some (V.ref b)/\H8 b=some (.tup [.int (p:Int),.bl true])) ?_ ?_ ?_ ?_ ?_
 ·exact⟨rfl,c9,A0 hT,by omega⟩
 ·rintro i ys H8 ⟨_,h,_⟩
  exact h
 ·rintro i ys H8 _ ⟨_,_,s8,_⟩
  exact SqL.of (s8 _ _ h)
 ·rintro i y ys H8 hy ⟨l8,hT8,s8,a8⟩ R hR
  unfold IL at hy
  rw[b6]at hy
  cases hz:L[i]? with
  | none=>rw[hz]at hy;cases hy
  | some z=>
   rw[hz]at hy
   cases hy
   have hi:=(gI hz)
   ext
   refine G9 (by simp) fun b H9 hb e9 s9=>?_
   have bT:b≠T:=fun q=>by rw[q,hT8]at hb;cases hb
   refine hR _ _ (s9 _ _ hT8) (F8 (by omega)) ⟨by rw[o5,l8];rfl,c9,fun b o e=>?_,fun j p hj hp=>?_⟩
   ·rw[i9 (c8 e hT)];exact s9 _ _ (s8 _ _ e)
   ·by_cases q:j=i
    ·subst q
     rw[hz]at hp
     cases hp
     exact⟨b,by rw[<-l8];simp,by rw[i9 bT];exact e9⟩
    ·obtain⟨b',q1,q2⟩:=a8 j p (by omega) hp
     exact⟨b',by rw[o0 (by omega)];exact q1,by rw[i9 (K0 q2 hT8 (by intro z;cases z))];exact s9 _ _ q2⟩
 ·rintro ys H8 ⟨l8,hT8,s8,a8⟩
  rw[F3]at l8 a8
  ext
  refine .inl ⟨T,ys,KS L,rfl,hT8,by rw[l8,b8p],fun i kk x e=>?_,fun d hd=>?_⟩
  ·unfold KS at e
   rw[b6]at e
   cases hz:L[i]? with
   | none=>rw[hz]at e;cases e
   | some z=>
    rw[hz]at e
    cases e
    obtain⟨b,q1,q2⟩:=a8 i z (gI hz) hz
    exact⟨b,q1,q2⟩
  ·exact k d _ (s8.free hd) (by rw[d0W];exact c9) (s8.trans (A0 hd))
theorem b1i(h:U1 K H w S)(nd:S.Nodup)(l2:S.length<=2000)(k:∀d H',H d=none->XD K H' d S->j5 H H'->Q (.ref d) H'):a2M K [.ref w] H Q E:=by
 obtain⟨ps,w1,w2,w3⟩:=h.ex
 refine⟨rfl,?_⟩
 unfold b4i
 ext
 specialize a0c (Z6 ?_)
 refine⟨w,rfl,⟨_,SqL.of w1⟩,fun D hD=>?_⟩
 refine a0G (xs:=ps.map V.ref) (fun i ys H9=>∃(ts:List Addr),ys=ts.map V.ref/\ts.length=i/\(∀(j:Nat) p,j<i->ps[j]? = some p->∃q,ts[j]? = some q/\H9 q=some (.tup [.ref p,.bl true]))/\H9 D=some (.lst ys)/\j5 H H9) ?_ ?_ ?_ ?_ ?_
 ·exact⟨[],rfl,rfl,by omega,c9,A0 hD⟩
 ·rintro i ys H8 ⟨_,_,_,_,h,_⟩
  exact h
 ·rintro i ys H8 _ ⟨_,_,_,_,_,s8⟩
  exact SqL.of (s8 _ _ w1)
 ·rintro i y ys H8 hy ⟨ts,rfl,l8,a8,hT8,s8⟩ R hR
  rw[b6]at hy
  obtain⟨p,hp',rfl⟩:=z8.mp hy
  have hi:=(gI hp')
  ext
  refine G9 (by simp) fun b H9 hb e9 s9=>?_
  have bT:b≠D:=fun q=>by rw[q,hT8]at hb;cases hb
  refine hR _ _ (s9 _ _ hT8) (F8 (by rw[b9];omega)) ⟨ts++[b],by rw[E1];rfl,by simp[l8],fun j p' hj hp=>?_,c9,fun b o e=>?_⟩
  ·by_cases q:j=i
   ·subst q
    rw[hp']at hp
    cases hp
    exact⟨b,by rw[<-l8];simp,by rw[i9 bT];exact e9⟩
   ·obtain⟨b',q1,q2⟩:=a8 j p' (by omega) hp
    exact⟨b',by rw[o0 (by omega)];exact q1,by rw[i9 (K0 q2 hT8 (by intro z;cases z))];exact s9 _ _ q2⟩
  ·rw[i9 (c8 e hD)];exact s9 _ _ (s8 _ _ e)
 ·rintro ys H8 ⟨ts,rfl,l8,a8,hT8,s8⟩
  rw[b9]at l8 a8
  ext
  let xs:List XE:=(S.zip ps).map fun z=>(stK z.1,z.2,V.bl true)
  have lx:xs.length=S.length:=by simp only[xs,b9,List.length_zip,w2,b5y]
  have at_:∀(j:Nat) y s,xs[j]? = some y->S[j]? = some s->∃p,ps[j]? = some p/\y=(stK s,p,V.bl true):=by
   intro j y s e1 e2
   have hj:=(gI e2)
   have e3:ps[j]? = some (ps[j]'(by omega)):=by simp
   refine⟨_,e3,?_⟩
   simp only[xs,b6]at e1
   rw[show(S.zip ps)[j]? = some (s,ps[j]'(by omega))from List.getElem?_zip_eq_some.mpr ⟨e2,e3⟩]at e1
   exact(Option.some.inj e1).symm
  have t2:∀(j:Nat) y s,xs[j]? = some y->S[j]? = some s->y.1=stK s/\a0I K H8 y.2.1 s:=by
   intro j y s e1 e2
   obtain⟨p,e3,rfl⟩:=at_ j y s e1 e2
   exact⟨rfl,(w3 j p s e3 e2).ts (j5.ts s8)⟩
  have ex:∀(j:Nat) y,xs[j]? = some y->∃s,S[j]? = some s:=fun j y e=>by
   have hj:=(gI e)
   exact⟨_,c7 (by omega)⟩
  obtain⟨kk1,kk2⟩:=a7A lx t2
  refine .inr ⟨D,_,xs,rfl,hT8,by rw[b9,l8,lx,w2],fun j y e=>?_,kk2,?_,fun y hy=>?_,fun d hd=>?_⟩
  ·obtain⟨s,e2⟩:=ex j y e
   obtain⟨p,e3,rfl⟩:=at_ j y s e e2
   obtain⟨q,q1,q2⟩:=a8 j p (by have:=(gI e3);omega) e3
   exact⟨q,by rw[b6,q1];rfl,q2⟩
  ·rw[kk1]
   exact a1V stK (fun a b h e=>h (b7h e)) nd
  ·obtain⟨j,hj⟩:=C0.mp hy
   obtain⟨s,e2⟩:=ex j y hj
   rw[(t2 j y s hj e2).1]
   intro z hz
   unfold stK at hz
   rcases u5.mp hz with rfl | hz
   ·exact⟨_,rfl⟩
   ·exact⟨_,l6.mp hz⟩
  ·exact k d _ (s8.free hd) ⟨xs,c9,lx,fun j y s e1 e2=>⟨(t2 j y s e1 e2).1,(t2 j y s e1 e2).2.ts (D9.new hd)⟩⟩ (s8.trans (A0 hd))
end
section
variable {K:Fg}{x:Addr}{E:XK}
theorem b6d(ha:H a=some (.lst xs))(h2:xs.length<=400)(k:Q .non H):a1j K [.ref a,.int 2,.int 0] H Q E:=by
 refine⟨rfl,?_⟩
 unfold a5Q
 nofun
 exists a6A (s := "list") (by simp only[a5n,ha]) (by decide) ?_
 exists v9 (by decide) ?_
 exists O5 ha ?_
 exists v9 (by simp) ?_
 exists O5 ha ?_
 refine v9 (by simp;omega) ?_
 exact k
theorem b6e(ck:a0v K c)(hp:a1N c H x N rs)(h400:N.length<=400)(ha:H a=some (.lst (IL L)))(hl:L.length<=400)(hlt:∀t∈L,t<N.length)(k:∀H',j5 H H'->Q .non H'):a3l K [.ref x,.ref a,.int 2] H Q E:=by
 obtain⟨dx,fs,n,r,h1,_,_,h4,h5,h6⟩:=hp.ex
 refine⟨rfl,?_⟩
 unfold a7C
 ext
 refine⟨rfl,?_⟩
 refine⟨_,rfl,C6 rfl ?_⟩
 nofun
 exists b6d ha (by rw[F3];exact hl) ?_
 specialize a0c (Z6 ?_)
 refine⟨a,rfl,⟨_,SqL.of ha⟩,fun D hD=>?_⟩
 refine a0G (xs:=IL L) (fun i ys H2=>ys=E5 i (V.bl true)/\H2 D=some (.lst ys)/\j5 H H2) ⟨rfl,c9,A0 hD⟩ ?_ ?_ ?_ ?_
 ·rintro i ys H2 ⟨_,h,_⟩
  exact h
 ·rintro i ys H2 _ ⟨_,_,s2⟩
  exact SqL.of (s2 _ _ ha)
 ·rintro i y ys H2 hy ⟨rfl,hD2,s2⟩ R hR
  have hy:(L.map fun(n:Nat)=>V.int (n:Int))[i]? = some y:=hy
  rw[b6]at hy
  cases ht:L[i]? with
  | none=>rw[ht]at hy;cases hy
  | some t=>
   rw[ht]at hy
   cases hy
   have hi:=(gI ht)
   have:=hlt t (mI ht)
   ext
   specialize T3 ?_
   exists ⟨x,_,dx,fs,_,rfl,s2 _ _ h1,ck.Q2,ck.U2,h4,?_⟩
   exists O5 (s2 _ _ h5) ?_
   refine b1m (by omega) (by rw[b9];omega) ?_
   refine hR _ _ hD2 (F8 (by rw[L1];omega)) ⟨b0H i,c9,fun b o e=>?_⟩
   rw[i9 (c8 e hD)];exact s2 _ _ e
 ·rintro ys H2 ⟨rfl,hD2,s2⟩
  ext
  exact a6Y hD2 fun H3 s3=>k H3 (s2.trans s3)
def Hld(H:Hp)(v:V)(L:List Nat):Prop:=(v=.non/\L=[])\/∃a,v=.ref a/\H a=some (.lst (IL L))
theorem Hld.same(h:Hld H v L)(s:j5 H H'):Hld H' v L:=h.imp id fun⟨a,e,z⟩=>⟨a,e,s _ _ z⟩
theorem b8b(ck:a0v K c)(hp:a1N c H x N rs)(h400:N.length<=400)(ha:Hld H v L)(hl:L.length<=400)(hlt:∀t∈L,t<N.length)(k:∀H',j5 H H'->Q .non H'):a3l K [.ref x,v,.int 2] H Q E:=by
 rcases ha with ⟨rfl,_⟩ | ⟨a,rfl,ha⟩
 ·refine⟨rfl,?_⟩
  unfold a7C
  ext
  refine⟨rfl,?_⟩
  exists ⟨_,rfl,v9 rfl ?_⟩
  exact k H (j5.refl _)
 ·exact b6e ck hp h400 ha hl hlt k
theorem b0a(h:Hld H v L)(hi:σ[i]? = some (some v))(k:∀a H',H' a=some (.lst (IL L))->j5 H H'->Q (.ref a) H'):tIf (F9 (tOp qIs (b4 i) (tC .non))) (a2t g0) (b4 i) σ H Q:=by
 refine c9a (c4Y (b9c (U5 hi (s_c ?_))))
 refine⟨rfl,?_⟩
 rcases h with ⟨rfl,rfl⟩ | ⟨a,rfl,ha⟩
 ·exists ⟨_,rfl,C6 rfl ?_⟩
  exact G9 (by simp) fun p H' _ e s=>k p H' e s
 ·refine⟨_,rfl,v9 rfl ?_⟩
  exact U5 hi (k a H ha (j5.refl _))
end
inductive Fal(N:Nt)(Do:Nat->Bool)(B:List Stp)(L:List Nat):Nat->Prop
 | held {t:Nat}:t∈L->Fal N Do B L t
 | lead {s:Stp}:s∈C4 N->s∉B->(s=FST\/Do s.1.toNat=true)->Fal N Do B L (V7 N s)
 | on {p q t:Nat} {l:List Nat}:Fal N Do B L p->N[p]? = some l->l[q]? = some t->(((p:Int),(q:Int)):Stp)∉B->Fal N Do B L t
def c9m(S:List Nat):List V:=(KS S).map fun kv=>kV kv.1
theorem d2L(S:List Nat):c9m S=IL S:=by
 unfold c9m KS IL
 rw[X0]
 rfl
theorem D9.dK{H:Hp}{p:Addr}{kvs:List (Key×V)}{o:HO}(h:H p=some (.dK kvs)):D9 H (upd H p o):=fun a xs e=>by rw[i9 (K0 e h (by intro z;cases z))];exact e
section
variable {K:Fg}{x bd:Addr}{Sp:Nat->Bool}{S:List Nat}{E:XK}
theorem b3G(h:H d=some (.dK (KS S)))(k:∀l H',H l=none->H' l=some (.lst (IL S))->j5 H H'->Q (.ref l) H'):a4n [.ref d] H Q:=by
 unfold a4n
 simp only[h]
 intro l hl
 exact k l _ hl (by rw[c9];exact congrArg (fun z=>some (HO.lst z)) (d2L S)) (A0 hl)
theorem d1Z{neg:Bool}(h:ti σ H fun y H1=>to σ H1 fun x H2=>∃a b xs k,x=.ref a/\y=.ref b/\H2 a=some (dX a xs)/\b5u K H2 xs/\SqT K H2 b (k.map kV)/\Q (.bl (if neg then !(b4e xs k).isSome else (b4e xs k).isSome)) H2):b5I K neg ti to σ H Q:=h
theorem XD.val(h:XD K H d B)(s:Stp):∃xs,H d=some (dX d xs)/\b5u K H xs/\(b4e xs (stK s)).isSome=decide (s∈B):=by
 obtain⟨xs,h1,h2,h3⟩:=h.ex
 exact⟨xs,h1,(a7A h2 h3).2,c1R (a7A h2 h3).1 s⟩
theorem b7c(ck:a0v K c)(hp:a1N c H x N rs)(hz:a0O K c H x N)(hv:a1a N)(hd:a1h H dd ds)(hs:a5G H rs ds Do Sp)(hB:XD K H bd B)(ha:H la=some (.lst (IL L)))(lL:L.length<=400)(hL:∀t∈L,t<N.length)
  (k:∀d F H',H d=none->H' d=some (.dK (KS F))->F.Nodup->(∀t∈F,t<N.length)->(∀t,t∈F↔Fal N Do B L t)->j5 H H'->Q (.ref d) H'):a1D K c [.ref x,.ref dd,.ref bd,.ref la] H Q E:=by
 obtain⟨dx,fs,n,r,h1,h2,h3,h4,h5,h6⟩:=hp.ex
 obtain⟨dx2,r2,n2,e2,es2,p1,_⟩:=id hz.ex
 have h400:=hv.le
 have lst:=a5I hv.two
 refine⟨rfl,?_⟩
 unfold a5P
 nofun
 exists a8O ha lL fun d H1 hd0 e1 s1=>?_
 exact_mod_cast M9 ?_
 exact_mod_cast a1o (Z6 ?_)
 specialize M6 ?_
 exists ⟨x,dx2,_,rfl,s1 _ _ p1,a8M r2 n2 e2 _ (by decide),?_⟩
 refine a6R ck (hz.same s1) hv fun w H2 hw S2 s2=>?_
 obtain⟨ps,w1,w2,w3⟩:=id S2.ex
 have s02:=s1.trans s2
 have ndw:d≠w:=c8 e1 hw
 refine⟨w,rfl,⟨_,SqL.of w1⟩,a4u (xs:=ps.map V.ref) (fun j σ H5=>∃y5 F,σ=[some (.ref x),some (.ref dd),some (.ref bd),some (.ref la),some (.ref d),y5,none,none,none,none,none]/\H5 d=some (.dK (KS F))/\H5 w=some (.lst (ps.map V.ref))/\D9 H2 H5/\j5 H H5/\F.Nodup/\(∀t∈F,t<N.length)/\(∀t∈F,Fal N Do B L t)/\(∀t∈L,t∈F) /\
  ∀s∈(C4 N).take j,s∉B->(s=FST\/Do s.1.toNat=true)->V7 N s∈F) ?_ ?_ ?_ ?_⟩
 ·exact⟨_,uniq L,rfl,s2 _ _ e1,w1,D9.refl _,s02,c8h L,fun t ht=>hL t (b4Z.mp ht),fun t ht=>.held (b4Z.mp ht),fun t ht=>b4Z.mpr ht,fun s hs=>by simp at hs⟩
 ·rintro j σ H5 _ ⟨_,_,_,_,q,_⟩
  exact SqL.of q
 ·rintro j v _ H5 hy ⟨y5,F,rfl,d5,w5,t5,s5,nd,flt,fal,fL,cl⟩
  rw[b6]at hy
  obtain⟨p,hp',rfl⟩:=z8.mp hy
  have hj:=(gI hp')
  obtain⟨s,hs'⟩:∃s,(C4 N)[j]? = some s:=⟨_,c7 (by rw[<-w2];exact hj)⟩
  have ms:=mI hs'
  have is:=a3S ms
  have st:=(w3 j p s hp' hs').ts t5
  have tk:(C4 N).take (j+1)=(C4 N).take j++[s]:=by rw[K5,hs'];rfl
  have lF:=a4t _ _ nd flt
  ext
  refine(hB.same s5).in_ (neg:=true) st (fun R hR'=>⟨_,rfl,hR'⟩) (fun R hR'=>⟨_,rfl,hR'⟩) ?_
  have skip:¬(s∉B/\(s=FST\/Do s.1.toNat=true))->∀s'∈(C4 N).take (j+1),s'∉B->(s'=FST\/Do s'.1.toNat=true)->V7 N s'∈F:=fun no s' h' b' c'=>by
   rw[tk]at h'
   rcases u4.mp h' with q | q
   ·exact cl s' q b' c'
   ·rw[l6.mp q]at b' c';exact(no ⟨b',c'⟩).elim
  have put:s∉B->(s=FST\/Do s.1.toNat=true)->∀ {D':b1z} {H6:Hp} {z:Option V},j5 H5 H6->(∀σ' H',(∃y5 F,σ'=[some (V.ref x),some (.ref dd),some (.ref bd),some (.ref la),some (.ref d),y5,none,none,none,none,none]/\H' d=some (.dK (KS F))/\H' w=some (.lst (ps.map V.ref))/\D9 H2 H'/\j5 H H'/\F.Nodup/\(∀t∈F,t<N.length)/\(∀t∈F,Fal N Do B L t)/\(∀t∈L,t∈F) /\
    ∀s∈(C4 N).take (j+1),s∉B->(s=FST\/Do s.1.toNat=true)->V7 N s∈F)->D'.nx σ' H')->(a4m (b4 4) (F7 c.P0 "leads_to" (W3 K c) [] E0 (b4 0) (a9 (b4 5) (g0))) (tC (.bl true))) D' [some (V.ref x),some (.ref dd),some (.ref bd),some (.ref la),some (.ref d),some (.ref p),none,none,none,none,none] H6:=by
   intro hb hc D' H6 z s6 hR
   have d6:=s6 _ _ d5
   specialize a7J ?_
   specialize M6 ?_
   exists ⟨x,dx2,_,rfl,s6 _ _ (s5 _ _ p1),a8M r2 n2 e2 _ (by decide),?_⟩
   refine a6E ck ((hp.same (s5.trans s6)).x) (st.ts (j5.ts s6)) is ?_
   refine⟨d,_,rfl,a9k d6 (by omega) (V7 N s),?_⟩
   refine hR _ _ ⟨_,a4o F (V7 N s),rfl,c9,by rw[i9 (Ne.symm ndw)];exact s6 _ _ w5,?_,fun b o e=>by rw[i9 (c8 e hd0)];exact s6 _ _ (s5 _ _ e),a6C nd,fun t ht=>(a0s.mp ht).elim (flt t) fun z=>z ▸ b7R hv is,fun t ht=>(a0s.mp ht).elim (fal t) fun z=>z ▸ .lead ms hb hc,fun t ht=>a0s.mpr (.inl (fL t ht)),fun s' h' b' c'=>?_⟩
   ·exact fun b ys h=>D9.dK d6 _ _ (s6 _ _ (t5 _ _ h))
   ·rw[tk]at h'
    rcases u4.mp h' with q | q
    ·exact a0s.mpr (.inl (cl s' q b' c'))
    ·rw[l6.mp q];exact a0s.mpr (.inr rfl)
  by_cases hb:s∈B
  ·refine⟨_,rfl,v9 (by rw[if_pos rfl,d5l hb];rfl) ?_⟩
   exists v9 rfl ?_
   exact⟨_,F,rfl,d5,w5,t5,s5,nd,flt,fal,fL,skip fun z=>z.1 hb⟩
  exists ⟨_,rfl,C6 (by rw[if_pos rfl,d5k hb];rfl) ?_⟩
  refine⟨_,_,_,_,rfl,rfl,st.sq,ck.a0k H5,rfl,rfl,?_⟩
  rw[eq2]
  by_cases hf:s=FST
  ·refine⟨_,rfl,C6 (by exact d5l hf) ?_⟩
   refine C6 rfl ?_
   exact put hb (.inl hf) (z:=none) (j5.refl _) fun _ _ h=>h
  refine⟨_,rfl,v9 (by exact d5k hf) ?_⟩
  rcases is with e | ⟨p0,q0,l0,t0,rfl,e1,e2⟩
  ·exact(hf e).elim
  rcases id st with st' | ⟨z,_⟩
  rotate_left
  ·exact(hf z).elim
  have hp0:=(gI e1)
  ext
  specialize T3 ?_
  exists ⟨x,_,dx,fs,_,rfl,s5 _ _ h1,ck.Q2,ck.U2,h4,?_⟩
  exists a0e st' (a3g _ _) ?_
  obtain⟨rx,hrx⟩:∃rx,rs[p0]? = some rx:=⟨_,c7 (by omega)⟩
  exists O1 (s5 _ _ h5) (a0z (by rw[b6,hrx];rfl)) ?_
  obtain⟨xs,x1,x2,x3⟩:=(hs.ts (j5.ts s5)) p0 rx hrx
  refine a7W x1 (hd.ts (j5.ts s5)) ?_
  rw[x2]
  cases hdo:Do p0 with
  | true=>
   refine⟨_,rfl,C6 rfl ?_⟩
   exact put hb (.inr hdo) (z:=none) (j5.refl _) fun _ _ h=>h
  | false=>
   exists ⟨_,rfl,v9 rfl ?_⟩
   refine⟨_,F,rfl,d5,w5,t5,s5,nd,flt,fal,fL,skip fun z=>?_⟩
   rcases z.2 with e | e
   ·exact hf e
   ·have e:Do p0=true:=e
    rw[hdo]at e;cases e
 ·rintro _ H5 ⟨y5,F,rfl,d5,w5,t5,s5,nd,flt,fal,fL,cl⟩
  rw[b9,w2,G0]at cl
  nofun
  exists b3G d5 fun o H6 ho e6 s6=>?_
  nofun
  exact_mod_cast M9 ?_
  have s06:=s5.trans s6
  have ho0:H o=none:=s5.free ho
  have ndo:d≠o:=c8 d5 ho
  exact_mod_cast b0X ?_
  refine⟨fun m σ H7=>∃(y8 y9 y10:Option V) (G:List Nat) (dn:Nat),σ=[some (.ref x),some (.ref dd),some (.ref bd),some (.ref la),some (.ref d),y5,some (.ref o),some (.int (dn:Int)),y8,y9,y10]/\H7 d=some (.dK (KS G))/\H7 o=some (.lst (IL G))/\j5 H H7/\G.Nodup/\(∀t∈G,t<N.length)/\(∀t∈G,Fal N Do B L t)/\(∀t∈F,t∈G) /\
   (∀(i p:Nat) l,i<dn->G[i]? = some p->N[p]? = some l->∀(q t:Nat),l[q]? = some t->(((p:Int),(q:Int)):Stp)∉B->t∈G)/\dn<=G.length/\m=N.length - dn,⟨_,_,_,_,F,0,rfl,s6 _ _ d5,e6,s06,nd,flt,fal,fun _ h=>h,by omega,by omega,rfl⟩,?_⟩
  rintro m _ H7 ⟨y8,y9,y10,G,dn,rfl,d7,o7,s7,gnd,glt,gal,gF,gcl,hdn,rfl⟩
  have lG:=a4t _ _ gnd glt
  ext
  exists O5 o7 ?_
  rw[F3]
  by_cases hlt:dn<G.length
  rotate_left
  ·exists v9 (d5k (by omega)) ?_
   refine k d G H7 hd0 d7 gnd glt (fun t=>⟨gal t,fun h=>?_⟩) s7
   induction h with
   | held h=>exact gF _ (fL _ h)
   | lead h1 h2 h3=>exact gF _ (cl _ h1 h2 h3)
   | @on p q t l _ e1 e2 e3 ih=>
    obtain⟨i,hi⟩:=C0.mp ih
    have:=(gI hi)
    exact gcl i p l (by omega) hi e1 q t e2 e3
  ·refine C6 (d5l (by omega)) ?_
   obtain⟨p,hpG⟩:∃p,G[dn]? = some p:=⟨_,c7 hlt⟩
   have hpn:=glt p (mI hpG)
   refine⟨fun σ H8=>∃(m':Nat) (y8 y9 y10:Option V) (G:List Nat) (dn':Nat),σ=[some (.ref x),some (.ref dd),some (.ref bd),some (.ref la),some (.ref d),y5,some (.ref o),some (.int (dn':Int)),y8,y9,y10]/\H8 d=some (.dK (KS G))/\H8 o=some (.lst (IL G))/\j5 H H8/\G.Nodup/\(∀t∈G,t<N.length)/\(∀t∈G,Fal N Do B L t)/\(∀t∈F,t∈G) /\
    (∀(i p:Nat) l,i<dn'->G[i]? = some p->N[p]? = some l->∀(q t:Nat),l[q]? = some t->(((p:Int),(q:Int)):Stp)∉B->t∈G)/\dn'<=G.length/\m'=N.length - dn'/\m'<N.length - dn,?_,?_⟩
   ·rintro σ' H8 ⟨m',y8,y9,y10,G,dn',e,q1,q2,q3,q4,q5,q6,q7,q8,q9,q10,q11⟩
    exact⟨m',q11,y8,y9,y10,G,dn',e,q1,q2,q3,q4,q5,q6,q7,q8,q9,q10⟩
   nofun
   exists O1 o7 (b6Q hpG) ?_
   exact_mod_cast M9 ?_
   specialize c2d rfl ?_
   have e1:(dn:Int)+1=((dn+1:Nat):Int):=by omega
   rw[e1]
   specialize a1o (a6w ?_)
   specialize T3 ?_
   exists ⟨x,_,dx,fs,_,rfl,s7 _ _ h1,ck.Q2,ck.X6,h2,?_⟩
   obtain⟨l,hle⟩:∃l,l=N[p]:=⟨_,rfl⟩
   have hl:N[p]? = some l:=by rw[hle];exact Q3 hpn
   obtain⟨xs,y,f1,f2,f3,_⟩:=h3.at hl
   exists O1 (s7 _ _ f1) f2 ?_
   refine⟨y,rfl,⟨_,SqL.of (s7 _ _ f3)⟩,?_⟩
   refine b2X l.length (fun i σ H8=>∃(y9 y10:Option V) (G':List Nat),σ=[some (.ref x),some (.ref dd),some (.ref bd),some (.ref la),some (.ref d),y5,some (.ref o),some (.int ((dn+1:Nat):Int)),some (.int (p:Int)),y9,y10]/\H8 d=some (.dK (KS G'))/\H8 o=some (.lst (IL G'))/\j5 H H8/\G'.Nodup/\(∀t∈G',t<N.length)/\(∀t∈G',Fal N Do B L t) /\
    (∃ex,G'=G++ex)/\∀(q t:Nat),q<i->l[q]? = some t->(((p:Int),(q:Int)):Stp)∉B->t∈G') ?_ ?_ ?_ ?_
   ·exact⟨_,_,G,rfl,d7,o7,s7,gnd,glt,gal,⟨[],by simp⟩,by omega⟩
   ·rintro _ H8 ⟨y9,y10,G',rfl,d8,o8,s8,nd8,lt8,al8,⟨ex,rfl⟩,cl8⟩
    refine⟨⟨_,SqL.of (s8 _ _ f3),by rw[F3];exact j6 _⟩,_,_,_,_,_,dn+1,rfl,d8,o8,s8,nd8,lt8,al8,fun t ht=>y0 _ (gF t ht),fun i p' l' hi hpi hl' q t hq hb=>?_,by rw[o5];omega,rfl,by omega⟩
    rw[o0 (by omega)]at hpi
    by_cases z:i=dn
    ·rw[z,hpG]at hpi
     cases hpi
     rw[hl]at hl'
     cases hl'
     exact cl8 q t (gI hq) hq hb
    ·exact y0 _ (gcl i p' l' (by omega) hpi hl' q t hq hb)
   ·rintro i _ H8 hi ⟨y9,y10,G',rfl,d8,o8,s8,_⟩
    exact⟨_,_,SqL.of (s8 _ _ f3),by unfold IL;rw[b6,c7 hi];rfl⟩
   ·rintro i _ H8 hi ⟨y9,y10,G',rfl,d8,o8,s8,nd8,lt8,al8,⟨ex,rfl⟩,cl8⟩ v H9 ⟨pp,w,hpp,rfl,rfl,gw⟩
    obtain⟨t,ht⟩:∃t,l[i]? = some t:=⟨_,c7 hi⟩
    have gw:=gw _ (SqL.of (s8 _ _ f3))
    unfold IL at gw
    rw[b6,ht]at gw
    cases gw
    refine a7I (SqT.of c9) ?_
    have s9:j5 H8 (upd H8 pp (.tup [V.int (i:Int),V.int (t:Int)])):=A0 hpp
    obtain⟨H9,hH9⟩:∃H9,H9=upd H8 pp (.tup [V.int (i:Int),V.int (t:Int)]):=⟨_,rfl⟩
    rw[<-hH9]at s9 ⊢
    have htn:=hv.lt l (mI hl) t (mI ht)
    ext
    specialize d1Z ?_
    exists G9 (by simp) fun tp H10 htp e10 s10=>?_
    have s810:=s9.trans s10
    have s010:=s8.trans s810
    obtain⟨xs',v1,v2,v3⟩:=(hB.same s010).val ((p:Int),(i:Int))
    have st:a0I K H10 tp ((p:Int),(i:Int)):=.inl e10
    refine⟨bd,tp,xs',stK ((p:Int),(i:Int)),rfl,rfl,v1,v2,st.sq,?_⟩
    rw[v3]
    have d10:=s810 _ _ d8
    have o10:=s810 _ _ o8
    have sk:((((p:Int),(i:Int)):Stp)∉B->t∈G++ex)->∀(q u:Nat),q<i+1->l[q]? = some u->(((p:Int),(q:Int)):Stp)∉B->u∈G++ex:=fun no q u hq hu hb=>by
     by_cases z:q=i
     ·rw[z,ht]at hu
      cases hu
      rw[z]at hb
      exact no hb
     ·exact cl8 q u (by omega) hu hb
    by_cases hb:(((p:Int),(i:Int)):Stp)∈B
    ·refine⟨_,rfl,v9 (by rw[if_pos rfl,d5l hb];rfl) ?_⟩
     exists v9 rfl ?_
     exact⟨_,_,G++ex,rfl,d10,o10,s010,nd8,lt8,al8,⟨ex,rfl⟩,sk fun z=>(z hb).elim⟩
    exists ⟨_,rfl,C6 (by rw[if_pos rfl,d5k hb];rfl) ?_⟩
    specialize a2x ?_
    obtain⟨ov,g1,g2⟩:=a4W d10 t
    refine⟨d,ov,rfl,g1,?_⟩
    rw[g2]
    by_cases hin:t∈G++ex
    ·exists ⟨_,rfl,v9 (by rw[d5l hin];rfl) ?_⟩
     exact⟨_,_,G++ex,rfl,d10,o10,s010,nd8,lt8,al8,⟨ex,rfl⟩,sk fun _=>hin⟩
    refine⟨_,rfl,C6 (by rw[d5k hin];rfl) ?_⟩
    have lGx:=a4t _ _ nd8 lt8
    have hput:a4o (G++ex) t=G++ex++[t]:=by unfold a4o;rw[if_neg hin]
    exact_mod_cast M9 ?_
    specialize a7J ?_
    refine⟨d,_,rfl,a9k d10 (by omega) t,?_⟩
    rw[hput]
    ext
    specialize a7o ?_
    have o11:(upd H10 d (.dK (KS (G++ex++[t])))) o=some (.lst (IL (G++ex))):=by rw[i9 (Ne.symm ndo)];exact o10
    exists ⟨a0g o11,?_⟩
    exists a0q o11 (F8 (by rw[F3];omega)) ?_
    have eIL:IL (G++ex)++[V.int (t:Int)]=IL (G++ex++[t]):=by simp[IL]
    refine⟨_,_,G++ex++[t],rfl,by rw[i9 ndo];exact c9,by rw[c9];exact congrArg (fun z=>some (HO.lst z)) eIL,fun b ob e=>by rw[i9 (c8 e ho0),i9 (c8 e hd0)];exact s010 _ _ e,hput ▸ a6C nd8,fun u hu=>?_,fun u hu=>?_,⟨ex++[t],by simp⟩,fun q u hq hu hb'=>?_⟩
    ·rcases u4.mp hu with z | z
     ·exact lt8 u z
     ·rw[l6.mp z];exact htn
    ·rcases u4.mp hu with z | z
     ·exact al8 u z
     ·rw[l6.mp z]
      exact .on (gal p (mI hpG)) hl ht hb
    ·by_cases z:q=i
     ·rw[z,ht]at hu
      cases hu
      exact w6 _ (by simp)
     ·exact y0 _ (cl8 q u (by omega) hu hb')
end
def wtF(Do:Nat->Bool)(B:List Stp)(F:List Nat)(s:Stp):Bool:=decide (s∈B)||(!decide (s=FST)&&(!decide (s.1.toNat∈F) && !Do s.1.toNat))
def puF(N:Nt)(Do:Nat->Bool)(B:List Stp)(F:List Nat)(s:Stp):Bool:=wtF Do B F s&&decide (V7 N s∈F)
structure ChF(K:Fg)(c:Cn)(H:Hp)(cx dx x dd:Addr)(N:Nt)(rs:List Addr)(ds:List V)(Do Sp:Nat->Bool)(B:List Stp)(F:List Nat)(fs:List (Str×V)):Prop where
 hx:H cx=some (.ins c.o4 dx fs)
 lp:fs.lookup ("plan" : Str)=some (.ref x)
 ld:fs.lookup ("deed" : Str)=some (.ref dd)
 br:∃bd,fs.lookup ("brinks" : Str)=some (.ref bd)/\XD K H bd B
 fl:∃fa,fs.lookup ("fallen" : Str)=some (.ref fa)/\H fa=some (.dK (KS F))
 no:∀m:Str,m∉(["plan","deed","brinks","fallen","put_in","left_out","left_in","living"]:List Str)->fs.lookup m=none
 plan:a1N c H x N rs
 pat:a0O K c H x N
 deed:a1h H dd ds
 sat:a5G H rs ds Do Sp
section
variable {K:Fg}{x:Addr}{Sp:Nat->Bool}{F:List Nat}{fs:List (Str×V)}{E:XK}
theorem ChF.same(h:ChF K c H cx dx x dd N rs ds Do Sp B F fs)(s:j5 H H'):ChF K c H' cx dx x dd N rs ds Do Sp B F fs:=
 ⟨s _ _ h.hx,h.lp,h.ld,let⟨bd,a,b⟩:=h.br; ⟨bd,a,b.same s⟩,let⟨fa,a,b⟩:=h.fl; ⟨fa,a,s _ _ b⟩,h.no,h.plan.same s,h.pat.same s,h.deed.ts (j5.ts s),h.sat.ts (j5.ts s)⟩
theorem a2s(ck:a0v K c)(h:ChF K c H cx dx x dd N rs ds Do Sp B F fs)(k:Q (.bl (!decide (t∈F))) H):M5 K [.ref cx,.int (t:Int)] H Q E:=by
 obtain⟨fa,f1,f2⟩:=h.fl
 refine⟨rfl,?_⟩
 unfold a6r
 ext
 specialize a2x ?_
 specialize T3 ?_
 refine⟨cx,_,dx,fs,_,rfl,h.hx,ck.E2,ck.a2X,f1,?_⟩
 obtain⟨ov,g1,g2⟩:=a4W f2 t
 refine⟨fa,ov,rfl,g1,?_⟩
 rw[g2]
 exact k
theorem b2M(ck:a0v K c)(h:ChF K c H cx dx x dd N rs ds Do Sp B F fs)(ha:a0I K H a s)(is:a4Q N s)(k:Q (.bl (wtF Do B F s)) H):a0W K c [.ref cx,.ref a] H Q E:=by
 obtain⟨bd,b1,b2⟩:=h.br
 obtain⟨px,pf,n,r,h1,h2,h3,h4,h5,h6⟩:=h.plan.ex
 refine⟨rfl,?_⟩
 unfold a6q
 nofun
 refine b2.in_ (neg:=false) ha (fun R hR'=>⟨_,rfl,hR'⟩) (fun R hR'=>?_) ?_
 ·specialize T3 ?_
  exact⟨cx,_,dx,fs,_,rfl,h.hx,ck.E2,ck.a1K,b1,hR'⟩
 by_cases hb:s∈B
 ·exists ⟨_,rfl,C6 (by rw[if_neg (by decide)];exact d5l hb) ?_⟩
  unfold wtF at k
  rw[d5l hb]at k
  exact k
 refine⟨_,rfl,v9 (by rw[if_neg (by decide)];exact d5k hb) ?_⟩
 unfold wtF at k
 rw[d5k hb,c0j]at k
 ext
 refine⟨_,_,_,_,rfl,rfl,ha.sq,ck.a0k H,rfl,rfl,?_⟩
 rw[eq2]
 by_cases hf:s=FST
 ·rw[d5l hf]at k
  refine⟨_,rfl,v9 (by rw[show((s.1,s.2):Stp)=s from rfl,d5l hf];rfl) ?_⟩
  exact k
 rw[d5k hf]at k
 refine⟨_,rfl,C6 (by rw[show((s.1,s.2):Stp)=s from rfl,d5k hf];rfl) ?_⟩
 rcases is with e | ⟨p0,q0,l0,t0,rfl,e1,e2⟩
 ·exact(hf e).elim
 rcases id ha with ha' | ⟨z,_⟩
 rotate_left
 ·exact(hf z).elim
 have hp0:=(gI e1)
 have et:((((p0:Int),(q0:Int)):Stp).1).toNat=p0:=rfl
 rw[et]at k
 ext
 specialize M6 ?_
 exists ⟨cx,dx,_,rfl,h.hx,h.no _ (by decide),?_⟩
 exists a0e ha' (a3g _ _) ?_
 refine a2s (t:=p0) ck h ?_
 by_cases hF:p0∈F
 ·rw[d5l hF]at k ⊢
  exact⟨_,rfl,v9 rfl k⟩
 rw[d5k hF]at k ⊢
 exists ⟨_,rfl,C6 rfl ?_⟩
 exact_mod_cast T3 ?_
 specialize T3 ?_
 exists ⟨cx,_,dx,fs,_,rfl,h.hx,ck.E2,ck.a2G,h.lp,?_⟩
 exists ⟨x,_,px,pf,_,rfl,h1,ck.Q2,ck.U2,h4,?_⟩
 exists a0e ha' (a3g _ _) ?_
 obtain⟨rx,hrx⟩:∃rx,rs[p0]? = some rx:=⟨_,c7 (by omega)⟩
 exists O1 h5 (a0z (by rw[b6,hrx];rfl)) ?_
 specialize T3 ?_
 exists ⟨cx,_,dx,fs,_,rfl,h.hx,ck.E2,ck.a4y,h.ld,?_⟩
 obtain⟨xs,x1,x2,x3⟩:=h.sat p0 rx hrx
 refine a7W x1 h.deed ?_
 rw[x2]
 ext
 exact k
theorem c3x(ck:a0v K c)(h:ChF K c H cx dx x dd N rs ds Do Sp B F fs)(ha:a0I K H a s)(is:a4Q N s)(k:Q (.bl (puF N Do B F s)) H):a2N K c [.ref cx,.ref a] H Q E:=by
 obtain⟨px,pf,n,r,h1,h2,h3,h4,h5,h6⟩:=h.plan.ex
 refine⟨rfl,?_⟩
 unfold a8i
 ext
 specialize M6 ?_
 exists ⟨cx,dx,_,rfl,h.hx,h.no _ (by decide),?_⟩
 refine b2M ck h ha is ?_
 unfold puF at k
 cases hw:wtF Do B F s with
 | false=>rw[hw]at k;exact⟨_,rfl,v9 rfl k⟩
 | true=>
  rw[hw]at k
  exists ⟨_,rfl,C6 rfl ?_⟩
  specialize M6 ?_
  exists ⟨cx,dx,_,rfl,h.hx,h.no _ (by decide),?_⟩
  exact_mod_cast M6 ?_
  specialize T3 ?_
  refine⟨cx,_,dx,fs,_,rfl,h.hx,ck.E2,ck.a2G,h.lp,?_⟩
  obtain⟨dx2,r2,n2,e2,es2,p1,_⟩:=id h.pat.ex
  exists ⟨x,dx2,_,rfl,p1,a8M r2 n2 e2 _ (by decide),?_⟩
  exists a6E ck h.plan.x ha is ?_
  refine a2s (t:=V7 N s) ck h ?_
  refine⟨_,rfl,?_⟩
  rw[Bool.not_not]
  exact k
end
inductive Liv(N:Nt)(P:List Stp)(O Y:List Nat):Nat->Prop
 | out {t q u:Nat} {l:List Nat}:N[t]? = some l->l[q]? = some u->(((t:Int),(q:Int)):Stp)∉P->u∈O->Liv N P O Y t
 | on {t q u:Nat} {l:List Nat}:N[t]? = some l->l[q]? = some u->(((t:Int),(q:Int)):Stp)∉P->Liv N P O Y u->u∉Y->Liv N P O Y t
section
variable {K:Fg}{x pd od yd:Addr}{P:List Stp}{O:List Nat}{E:XK}
theorem c3t(ck:a0v K c)(hz:a0O K c H x N)(hv:a1a N)(hP:XD K H pd P)(hO:H od=some (.dK (KS O)))(hY:H yd=some (.dK (KS Y)))(ndO:O.Nodup)(ltO:∀t∈O,t<N.length)
  (k:∀d G H',H d=none->H' d=some (.dK (KS G))->G.Nodup->(∀t∈G,t<N.length)->(∀t,t∈G↔Liv N P O Y t)->j5 H H'->Q (.ref d) H'):a0K K c [.ref x,.ref pd,.ref od,.ref yd] H Q E:=by
 obtain⟨dx2,r2,n2,e2,es2,p1,_⟩:=id hz.ex
 have h400:=hv.le
 have lO:=a4t _ _ ndO ltO
 have lst:=a5I hv.two
 refine⟨rfl,?_⟩
 unfold a4E
 nofun
 exists b7w fun d H1 hd0 e1 s1=>?_
 nofun
 exists b3G (s1 _ _ hO) fun o H2 ho e2' s2=>?_
 nofun
 exact_mod_cast M9 ?_
 have s02:=s1.trans s2
 have ho0:H o=none:=s1.free ho
 have ndo:d≠o:=c8 e1 ho
 exact_mod_cast b0X ?_
 refine⟨fun m σ H7=>∃(y7 y8 y9:Option V) (G:List Nat) (dn:Nat),σ=[some (.ref x),some (.ref pd),some (.ref od),some (.ref yd),some (.ref d),some (.ref o),some (.int (dn:Int)),y7,y8,y9]/\H7 d=some (.dK (KS G))/\H7 o=some (.lst (IL (O++G.filter fun t => !decide (t∈Y))))/\j5 H H7/\G.Nodup/\(∀t∈G,t<N.length)/\(∀t∈G,Liv N P O Y t) /\
  (∀(i u:Nat),i<dn->(O++G.filter fun t => !decide (t∈Y))[i]? = some u->∀s∈C4 N,V7 N s=u->s≠FST->s∉P->s.1.toNat∈G)/\dn<=(O++G.filter fun t => !decide (t∈Y)).length/\m=800 - dn,⟨_,_,_,_,[],0,rfl,s2 _ _ e1,by simpa using e2',s02,by simp,by simp,by simp,by omega,by omega,rfl⟩,?_⟩
 rintro m _ H7 ⟨y7,y8,y9,G,dn,rfl,d7,o7,s7,gnd,glt,gal,gcl,hdn,rfl⟩
 have lG:=a4t _ _ gnd glt
 have lR:(O++G.filter fun t => !decide (t∈Y)).length<=800:=by
  have:=o6 (fun t => !decide (t∈Y)) G
  rw[o5];omega
 ext
 exists O5 o7 ?_
 rw[F3]
 by_cases hlt:dn<(O++G.filter fun t => !decide (t∈Y)).length
 rotate_left
 ·exists v9 (d5k (by omega)) ?_
  have key:∀ {t q u:Nat} {l:List Nat},N[t]? = some l->l[q]? = some u->(((t:Int),(q:Int)):Stp)∉P->u∈O++G.filter (fun t => !decide (t∈Y))->t∈G:=fun {t q u l} a1 a2 a3 a4=>by
   obtain⟨i,hi⟩:=C0.mp a4
   have:=(gI hi)
   exact gcl i u (by omega) hi ((t:Int),(q:Int)) (b6F (.inr ⟨t,q,l,u,rfl,a1,a2⟩)) (b1k a1 a2) a6e a3
  refine k d G H7 hd0 d7 gnd glt (fun t=>⟨gal t,fun h=>?_⟩) s7
  induction h with
  | out a1 a2 a3 a4=>exact key a1 a2 a3 (y0 _ a4)
  | on a1 a2 a3 _ a5 ih=>exact key a1 a2 a3 (w6 _ (L9.mpr ⟨ih,by simpa using a5⟩))
 ·refine C6 (d5l (by omega)) ?_
  obtain⟨u,hu⟩:∃u,(O++G.filter fun t => !decide (t∈Y))[dn]? = some u:=⟨_,c7 hlt⟩
  have muR:=mI hu
  have hun:u<N.length:=(u4.mp muR).elim (ltO u) fun z=>glt u (L9.mp z).1
  refine⟨fun σ H8=>∃(m':Nat) (y7 y8 y9:Option V) (G:List Nat) (dn':Nat),σ=[some (.ref x),some (.ref pd),some (.ref od),some (.ref yd),some (.ref d),some (.ref o),some (.int (dn':Int)),y7,y8,y9]/\H8 d=some (.dK (KS G))/\H8 o=some (.lst (IL (O++G.filter fun t => !decide (t∈Y))))/\j5 H H8/\G.Nodup/\(∀t∈G,t<N.length)/\(∀t∈G,Liv N P O Y t) /\
   (∀(i u:Nat),i<dn'->(O++G.filter fun t => !decide (t∈Y))[i]? = some u->∀s∈C4 N,V7 N s=u->s≠FST->s∉P->s.1.toNat∈G)/\dn'<=(O++G.filter fun t => !decide (t∈Y)).length/\m'=800 - dn'/\m'<800 - dn,?_,?_⟩
  ·rintro σ' H8 ⟨m',y7,y8,y9,G,dn',e,q1,q2,q3,q4,q5,q6,q7,q8,q9,q10⟩
   exact⟨m',q10,y7,y8,y9,G,dn',e,q1,q2,q3,q4,q5,q6,q7,q8,q9⟩
  nofun
  exists O1 o7 (b6Q hu) ?_
  exact_mod_cast M9 ?_
  specialize c2d rfl ?_
  have e1':(dn:Int)+1=((dn+1:Nat):Int):=by omega
  rw[e1']
  exact_mod_cast a1o (Z6 ?_)
  specialize M6 ?_
  exists ⟨x,dx2,_,rfl,s7 _ _ p1,a8M r2 n2 e2 _ (by decide),?_⟩
  refine b1c ck (hz.same s7) hun fun w H8 hw S8 s8=>?_
  obtain⟨ps,w1,w2,w3⟩:=id S8.ex
  have s08:=s7.trans s8
  have ndw:d≠w:=c8 d7 hw
  have now:o≠w:=c8 o7 hw
  refine⟨w,rfl,⟨_,SqL.of w1⟩,a4u (xs:=ps.map V.ref) (fun j σ H9=>∃(y8 y9:Option V) (G':List Nat),σ=[some (.ref x),some (.ref pd),some (.ref od),some (.ref yd),some (.ref d),some (.ref o),some (.int ((dn+1:Nat):Int)),some (.int (u:Int)),y8,y9]/\H9 d=some (.dK (KS G'))/\H9 o=some (.lst (IL (O++G'.filter fun t => !decide (t∈Y))))/\H9 w=some (.lst (ps.map V.ref))/\D9 H8 H9/\j5 H H9/\G'.Nodup/\(∀t∈G',t<N.length)/\(∀t∈G',Liv N P O Y t)/\(∃ex,G'=G++ex) /\
   ∀s∈((C4 N).filter fun s=>decide (V7 N s=u)).take j,s≠FST->s∉P->s.1.toNat∈G') ?_ ?_ ?_ ?_⟩
  ·exact⟨_,_,G,rfl,s8 _ _ d7,s8 _ _ o7,w1,D9.refl _,s08,gnd,glt,gal,⟨[],by simp⟩,fun s hs=>by simp at hs⟩
  ·rintro j σ H9 _ ⟨_,_,_,_,_,_,q,_⟩
   exact SqL.of q
  ·rintro j v _ H9 hy ⟨y8,y9,G',rfl,d9,o9,w9,t9,s9,nd9,lt9,al9,⟨ex,rfl⟩,cl9⟩
   rw[b6]at hy
   obtain⟨p,hp',rfl⟩:=z8.mp hy
   have hj:=(gI hp')
   obtain⟨s,hs'⟩:∃s,((C4 N).filter fun s=>decide (V7 N s=u))[j]? = some s:=⟨_,c7 (by rw[<-w2];exact hj)⟩
   have ms:=L9.mp (mI hs')
   have is:=a3S ms.1
   have hls:V7 N s=u:=of_decide_eq_true ms.2
   have st:=(w3 j p s hp' hs').ts t9
   have tk:((C4 N).filter fun s=>decide (V7 N s=u)).take (j+1)=((C4 N).filter fun s=>decide (V7 N s=u)).take j++[s]:=by rw[K5,hs'];rfl
   have lG9:=a4t _ _ nd9 lt9
   have lR9:(O++(G++ex).filter fun t => !decide (t∈Y)).length<=800:=by
    have:=o6 (fun t => !decide (t∈Y)) (G++ex)
    rw[o5];omega
   have skip:∀ {X:List Nat},(∀t∈G++ex,t∈X)->(s≠FST->s∉P->s.1.toNat∈X)->∀s'∈((C4 N).filter fun s=>decide (V7 N s=u)).take (j+1),s'≠FST->s'∉P->s'.1.toNat∈X:=fun {X} sub no s' h' b' c'=>by
    rw[tk]at h'
    rcases u4.mp h' with q | q
    ·exact sub _ (cl9 s' q b' c')
    ·rw[l6.mp q]at b' c' ⊢;exact no b' c'
   ext
   nofun
   exists ⟨p,0,_,_,rfl,rfl,st.sq,a3g _ _,?_⟩
   refine⟨_,_,_,_,rfl,rfl,st.sq,ck.a0k H9,rfl,rfl,?_⟩
   rw[eq2]
   by_cases hf:s=FST
   ·refine⟨_,rfl,v9 (by rw[show((s.1,s.2):Stp)=s from rfl,d5l hf];rfl) ?_⟩
    exists v9 rfl ?_
    exact⟨_,_,G++ex,rfl,d9,o9,w9,t9,s9,nd9,lt9,al9,⟨ex,rfl⟩,skip (fun _ h=>h) fun z=>(z hf).elim⟩
   exists ⟨_,rfl,C6 (by rw[show((s.1,s.2):Stp)=s from rfl,d5k hf];rfl) ?_⟩
   refine(hP.same s9).in_ (neg:=true) st (fun R hR'=>⟨_,rfl,hR'⟩) (fun R hR'=>⟨_,rfl,hR'⟩) ?_
   by_cases hb:s∈P
   ·refine⟨_,rfl,v9 (by rw[if_pos rfl,d5l hb];rfl) ?_⟩
    exists v9 rfl ?_
    exact⟨_,_,G++ex,rfl,d9,o9,w9,t9,s9,nd9,lt9,al9,⟨ex,rfl⟩,skip (fun _ h=>h) fun _ z=>(z hb).elim⟩
   refine⟨_,rfl,C6 (by rw[if_pos rfl,d5k hb];rfl) ?_⟩
   rcases is with e | ⟨p0,q0,l0,t0,rfl,a1,a2⟩
   ·exact(hf e).elim
   have hp0:=(gI a1)
   have et:((((p0:Int),(q0:Int)):Stp).1).toNat=p0:=rfl
   rw[b1k a1 a2]at hls
   subst hls
   have lv:Liv N P O Y p0:=by
    rcases u4.mp muR with z | z
    ·exact .out a1 a2 hb z
    ·have z:=L9.mp z
     exact .on a1 a2 hb (gal _ z.1) (by simpa using z.2)
   ext
   specialize a2x ?_
   obtain⟨ov,g1,g2⟩:=a4W d9 p0
   refine⟨d,ov,rfl,g1,?_⟩
   rw[g2]
   by_cases hin:p0∈G++ex
   ·exists ⟨_,rfl,v9 (by rw[d5l hin];rfl) ?_⟩
    exact⟨_,_,G++ex,rfl,d9,o9,w9,t9,s9,nd9,lt9,al9,⟨ex,rfl⟩,skip (fun _ h=>h) fun _ _=>hin⟩
   refine⟨_,rfl,C6 (by rw[d5k hin];rfl) ?_⟩
   have hput:a4o (G++ex) p0=G++ex++[p0]:=by unfold a4o;rw[if_neg hin]
   have nd10:(G++ex++[p0]).Nodup:=hput ▸ a6C nd9
   have lt10:∀t∈G++ex++[p0],t<N.length:=fun t ht=>by
    rcases u4.mp ht with z | z
    ·exact lt9 t z
    ·rw[l6.mp z];exact hp0
   have al10:∀t∈G++ex++[p0],Liv N P O Y t:=fun t ht=>by
    rcases u4.mp ht with z | z
    ·exact al9 t z
    ·rw[l6.mp z];exact lv
   have cl10:=skip (X:=G++ex++[p0]) (fun _ h=>y0 _ h) fun _ _=>w6 _ (by simp[et])
   exact_mod_cast M9 ?_
   specialize a7J ?_
   refine⟨d,_,rfl,a9k d9 (by omega) p0,?_⟩
   rw[hput]
   obtain⟨H10,hH10⟩:∃H10,H10=upd H9 d (.dK (KS (G++ex++[p0]))):=⟨_,rfl⟩
   have d10:H10 d=some (.dK (KS (G++ex++[p0]))):=hH10 ▸ c9
   have oth:∀b ob,H9 b=some ob->b≠d->H10 b=some ob:=fun b ob e n=>by rw[hH10,i9 n];exact e
   have s10:j5 H H10:=fun b ob e=>oth b ob (s9 b ob e) (c8 e hd0)
   have t10:D9 H8 H10:=fun b ys h=>hH10 ▸ D9.dK d9 _ _ (t9 _ _ h)
   rw[<-hH10]
   have o10:=oth o _ o9 (Ne.symm ndo)
   have w10:=oth w _ w9 (Ne.symm ndw)
   ext
   specialize a2x ?_
   obtain⟨ov',g1',g2'⟩:=a4W (s10 _ _ hY) p0
   refine⟨yd,ov',rfl,g1',?_⟩
   rw[g2']
   by_cases hy':p0∈Y
   ·exists ⟨_,rfl,v9 (by rw[d5l hy'];rfl) ?_⟩
    refine⟨_,_,G++ex++[p0],rfl,d10,?_,w10,t10,s10,nd10,lt10,al10,⟨ex++[p0],by simp⟩,cl10⟩
    rw[N4 (G++ex),show [p0].filter (fun t => !decide (t∈Y))=[] by simp[hy'],M4]
    exact o10
   exists ⟨_,rfl,C6 (by rw[d5k hy'];rfl) ?_⟩
   specialize a7o ?_
   exists ⟨a0g o10,?_⟩
   exists a0q o10 (F8 (by rw[F3];omega)) ?_
   have eIL:IL (O++(G++ex).filter fun t => !decide (t∈Y))++[V.int (p0:Int)]=IL (O++(G++ex++[p0]).filter fun t => !decide (t∈Y)):=by
    rw[N4 (G++ex),show [p0].filter (fun t => !decide (t∈Y))=[p0] by simp[hy']]
    simp[IL]
   refine⟨_,_,G++ex++[p0],rfl,by rw[i9 ndo];exact d10,by rw[c9];exact congrArg (fun z=>some (HO.lst z)) eIL,by rw[i9 (Ne.symm now)];exact w10,fun b ys h=>D9.put o10 _ _ (t10 _ _ h),fun b ob e=>by rw[i9 (c8 e ho0)];exact s10 _ _ e,nd10,lt10,al10,⟨ex++[p0],by simp⟩,cl10⟩
  ·rintro _ H9 ⟨y8,y9,G',rfl,d9,o9,w9,t9,s9,nd9,lt9,al9,⟨ex,rfl⟩,cl9⟩
   rw[b9,w2,G0]at cl9
   have eR:(O++(G++ex).filter fun t => !decide (t∈Y))=(O++G.filter fun t => !decide (t∈Y))++ex.filter fun t => !decide (t∈Y):=by rw[N4,a5a]
   refine⟨_,_,_,_,G++ex,dn+1,rfl,d9,o9,s9,nd9,lt9,al9,fun i v hi hv' s hs hl' hf hb=>?_,by rw[eR,o5];omega,rfl,by omega⟩
   rw[eR,o0 (by omega)]at hv'
   by_cases z:i=dn
   ·rw[z,hu]at hv'
    cases hv'
    exact cl9 s (L9.mpr ⟨hs,d5l hl'⟩) hf hb
   ·exact y0 _ (gcl i v (by omega) hv' s hs hl' hf hb)
end
section
variable {K:Fg}{S:List Stp}
theorem a6F{α:Type}{l:List α}{f:α->Bool}{s:α}(h:l[i]? = some s):(l.take (i+1)).filter f=(l.take i).filter f++if f s=true then [s] else []:=by
 rw[K5,h,N4]
 congr 1
 simp only[c4k,a3v,a4x]
theorem c6w{f:Stp->Bool}(lS:S.length<=2000)(hti:∀R:VK,(∀w H',U1 K H' w S->j5 H H'->R (.ref w) H')->ti σ H R)
  (htt:∀p s H',a0I K H' p s->s∈S->j5 H H'->∀R:Bool->Hp->Prop,R (f s) H'->tt (some (.ref p)::σ) H' R)
  (k:∀D H',H D=none->U1 K H' D (S.filter f)->j5 H H'->Q (.ref D) H'):V6 (W8 K ti) tt (b4 0) σ H Q:=by
 exact_mod_cast a0c (Z6 ?_)
 refine hti _ fun w H1 S1 s1=>?_
 obtain⟨ps,w1,w2,w3⟩:=id S1.ex
 refine⟨w,rfl,⟨_,SqL.of w1⟩,fun D hD=>?_⟩
 refine b5i (J:=Itl K w) ps.length (fun i ys H9=>∃(ts:List Addr),ys=ts.map V.ref/\ts.length=((S.take i).filter f).length/\(∀(j:Nat) y s,ts[j]? = some y->((S.take i).filter f)[j]? = some s->a0I K H1 y s)/\H9 D=some (.lst ys)/\j5 H1 H9)
  ⟨[],rfl,rfl,(fun j y s h=>by cases h),c9,A0 hD⟩ ?_ ?_ ?_ ?_
 ·rintro i ys H9 ⟨_,_,_,_,h,_⟩
  exact h
 ·rintro ys H9 ⟨ts,rfl,l1,t1,hD9,s9⟩
  refine⟨⟨_,SqL.of (s9 _ _ w1),by rw[b9];exact j6 _⟩,?_⟩
  rw[w2,G0]at l1 t1
  exact k D H9 (s1.free hD) ⟨ts,hD9,l1,fun j y s e1 e2=>(t1 j y s e1 e2).ts (j5.ts s9)⟩ (s1.trans s9)
 ·rintro i ys H9 hi ⟨_,_,_,_,_,s9⟩
  exact⟨_,.ref ps[i],SqL.of (s9 _ _ w1),by rw[b6,c7 hi];rfl⟩
 ·rintro i ys H9' hi ⟨ts,rfl,l1,t1,hD9,s9⟩ v H9 ⟨rfl,hy⟩ R S' hR hS
  have hv':=hy _ (SqL.of (s9 _ _ w1))
  rw[b6]at hv'
  obtain⟨p,hp',rfl⟩:=z8.mp hv'
  obtain⟨s,hs'⟩:∃s,S[i]? = some s:=⟨_,c7 (by rw[<-w2];exact hi)⟩
  have st0:=w3 i p s hp' hs'
  have tk:=a6F (f:=f) hs'
  refine htt p s H9 (st0.ts (j5.ts s9)) (mI hs') (s1.trans s9) _ ?_
  cases hb:f s with
  | false=>
   rw[hb,if_neg (by decide),M4]at tk
   exact v9 rfl (hS _ ⟨ts,rfl,by rw[tk];exact l1,by rw[tk];exact t1,hD9,s9⟩)
  | true=>
   rw[hb,if_pos rfl]at tk
   exists C6 rfl ?_
   have lle:((S.take i).filter f).length<=S.length:=by
    have h1:=o6 f (S.take i)
    rw[D8]at h1
    omega
   refine hR _ _ hD9 (F8 (by rw[b9];omega)) ⟨ts++[p],by rw[E1];rfl,by rw[tk,o5,o5,l1];rfl,fun j y u e1 e2=>?_,c9,fun b o e=>by rw[i9 (c8 e hD)];exact s9 _ _ e⟩
   rw[tk]at e2
   rcases a0C e1 with ⟨j1,j2⟩ | ⟨j1,j2⟩
   ·rw[o0 (by omega)]at e2
    exact t1 j y u j2 e2
   ·rw[j1,l1,K7 (j6 _),c4b]at e2
    cases e2
    subst j2
    exact st0
theorem b1o(lL:L.length<=2000)(hti:∀R:VK,(∀w H',H' w=some (.lst (IL L))->j5 H H'->R (.ref w) H')->ti σ H R)
  (htt:∀(t:Nat) H',t∈L->j5 H H'->∀R:Bool->Hp->Prop,R (f t) H'->tt (some (.int (t:Int))::σ) H' R)
  (k:∀D H',H D=none->H' D=some (.lst (IL (L.filter f)))->j5 H H'->Q (.ref D) H'):V6 (W8 K ti) tt (b4 0) σ H Q:=by
 exact_mod_cast a0c (Z6 ?_)
 refine hti _ fun w H1 w1 s1=>?_
 refine⟨w,rfl,⟨_,SqL.of w1⟩,fun D hD=>?_⟩
 refine b5i (J:=Itl K w) L.length (fun i ys H9=>ys=IL ((L.take i).filter f)/\H9 D=some (.lst ys)/\j5 H1 H9) ⟨rfl,c9,A0 hD⟩ ?_ ?_ ?_ ?_
 ·rintro i ys H9 ⟨_,h,_⟩
  exact h
 ·rintro ys H9 ⟨rfl,hD9,s9⟩
  rw[G0]at hD9
  exact⟨⟨_,SqL.of (s9 _ _ w1),by rw[F3];exact j6 _⟩,k D H9 (s1.free hD) hD9 (s1.trans s9)⟩
 ·rintro i ys H9 hi ⟨_,_,s9⟩
  exact⟨_,_,SqL.of (s9 _ _ w1),by unfold IL;rw[b6,c7 hi];rfl⟩
 ·rintro i ys H9' hi ⟨rfl,hD9,s9⟩ v H9 ⟨rfl,hy⟩ R S' hR hS
  have hv':=hy _ (SqL.of (s9 _ _ w1))
  unfold IL at hv'
  rw[b6]at hv'
  obtain⟨t,hs',rfl⟩:=z8.mp hv'
  have tk:=a6F (f:=f) hs'
  refine htt t H9 (mI hs') (s1.trans s9) _ ?_
  cases hb:f t with
  | false=>
   rw[hb,if_neg (by decide),M4]at tk
   exact v9 rfl (hS _ ⟨by rw[tk],hD9,s9⟩)
  | true=>
   rw[hb,if_pos rfl]at tk
   exists C6 rfl ?_
   have lle:((L.take i).filter f).length<=L.length:=by
    have h1:=o6 f (L.take i)
    rw[D8]at h1
    omega
   refine hR _ _ hD9 (F8 (by rw[F3];omega)) ⟨by rw[tk];simp[IL],c9,fun b o e=>by rw[i9 (c8 e hD)];exact s9 _ _ e⟩
end
section
variable {K:Fg}{x:Addr}{Sp:Nat->Bool}
theorem c1D(ck:a0v K c)(hp:a1N c H x N rs)(h400:N.length<=400)(hd:a1h H dd ds)(hs:a5G H rs ds Do Sp)(e1:σ[1]? = some (some (.ref x)))(e2:σ[2]? = some (some (.ref dd)))
  (k:∀D H',H D=none->H' D=some (.lst (IL ((t8 N.length).filter Do)))->j5 H H'->Q (.ref D) H'):a7D K (a8j K (a9 (a0n K (b4 1) "rows") (g0))) (tB (z4 (a4f K) [] E0 (a9 (b4 1) (a9 (b4 4) (g0))))) (b4 0) σ H Q:=by
 obtain⟨dx,fs,n,r,h1,h2,h3,h4,h5,h6⟩:=hp.ex
 exact_mod_cast b7x (a6w ?_)
 refine a0p (T3 (U5 e1 ?_))
 refine⟨x,_,dx,fs,_,rfl,h1,ck.Q2,ck.U2,h4,?_⟩
 refine a2Y ?_
 refine⟨r,rfl,⟨_,SqL.of h5⟩,fun D hD=>?_⟩
 refine c1B N.length (fun i ys H9=>ys=IL ((t8 i).filter Do)/\H9 D=some (.lst ys)/\j5 H H9) ⟨rfl,c9,A0 hD⟩ ?_ ?_ ?_ ?_
 ·rintro i ys H9 ⟨_,h,_⟩
  exact h
 ·rintro ys H9 ⟨rfl,hD9,s9⟩
  exact⟨⟨_,SqL.of (s9 _ _ h5),by rw[b9,h6];exact j6 _⟩,k D H9 hD hD9 s9⟩
 ·rintro i ys H9 hi ⟨_,_,s9⟩
  exact⟨_,.ref (rs[i]'(by omega)),SqL.of (s9 _ _ h5),by rw[b6,c7 (by omega)];rfl⟩
 ·rintro i ys H9 hi ⟨rfl,hD9,s9⟩ v H10 ⟨pp,w,hpp,rfl,rfl,gw⟩
  obtain⟨rx,hrx⟩:∃rx,rs[i]? = some rx:=⟨_,c7 (by omega)⟩
  have gw:=gw _ (SqL.of (s9 _ _ h5))
  rw[b6,hrx]at gw
  cases gw
  refine⟨pp,_,_,rfl,SqT.of c9,fun R S hR hS=>?_⟩
  have s10:j5 H9 (upd H9 pp (.tup [V.int (i:Int),V.ref rx])):=A0 hpp
  have s010:=s9.trans s10
  obtain⟨xs,x1,x2,x3⟩:=(hs.ts (j5.ts s010)) i rx hrx
  refine c9G (b4E (a0p (U5 rfl (a0p (U5 (by exact e2) (a2Y ?_))))))
  refine a7W x1 (hd.ts (j5.ts s010)) ?_
  rw[x2]
  refine⟨_,rfl,?_⟩
  have tk:(t8 (i+1)).filter Do=(t8 i).filter Do++if Do i=true then [i] else []:=by
   rw[a0d,N4]
   congr 1
   simp only[a3v,a4x]
  cases hb:Do i with
  | false=>
   rw[hb,if_neg (by decide),M4]at tk
   exact v9 rfl (hS _ ⟨by rw[tk],s10 _ _ hD9,s010⟩)
  | true=>
   rw[hb,if_pos rfl]at tk
   exists C6 rfl ?_
   have lle:((t8 i).filter Do).length<=i:=by
    have h1:=o6 Do (t8 i)
    rw[R1]at h1
    exact h1
   refine hR _ _ (s10 _ _ hD9) (F8 (by rw[F3];omega)) ⟨by rw[tk];simp[IL],c9,fun b o e=>by rw[i9 (c8 e hD)];exact s010 _ _ e⟩
end
def BkL(N:Nt)(Do Sp:Nat->Bool)(B:List Stp):Prop:=∃fr fw,(∀t,t<N.length->(fr t=false↔UnR N Do Sp t))/\(∀t,t<N.length->(fw t=false↔UnW N Do Sp t))/\B=(C4 N).filter (a8o N Do Sp fr fw)
theorem BkL.uniq{Sp:Nat->Bool}{B':List Stp}(hv:a1a N)(h:BkL N Do Sp B)(h':BkL N Do Sp B'):B=B':=by
 obtain⟨fr,fw,h1,h2,rfl⟩:=h
 obtain⟨fr',fw',h1',h2',rfl⟩:=h'
 have cg:∀ {a b:Bool} {P:Prop},(a=false↔P)->(b=false↔P)->a=b:=fun {a b P} x y=>by
  cases a <;> cases b <;> simp_all
 exact a4Z fun s hs=>c3W hv (a3S hs) (fun t ht=>cg (h1 t ht) (h1' t ht)) fun t ht=>cg (h2 t ht) (h2' t ht)
structure Cho(K:Fg)(c:Cn)(H:Hp)(cx x dd:Addr)(N:Nt)(rs:List Addr)(ds:List V)(Do Sp:Nat->Bool)(B:List Stp)(F:List Nat)(P:List Stp)(O Y G:List Nat):Prop where
 ex:∃dx fs,ChF K c H cx dx x dd N rs ds Do Sp B F fs/\(∃a,fs.lookup ("put_in" : Str)=some (.ref a)/\XD K H a P)/\(∃a,fs.lookup ("left_out" : Str)=some (.ref a)/\H a=some (.dK (KS O)))/\(∃a,fs.lookup ("left_in" : Str)=some (.ref a)/\H a=some (.dK (KS Y)))/\∃a,fs.lookup ("living" : Str)=some (.ref a)/\H a=some (.dK (KS G))
def a6X(N:Nt)(Do:Nat->Bool)(F:List Nat):List Nat:=((t8 N.length).filter Do).filter fun t => !(!decide (t∈F))
def inF(N:Nt)(Do:Nat->Bool)(F:List Nat):List Nat:=((t8 N.length).filter Do).filter fun t => !decide (t∈F)
section
variable {K:Fg}{x:Addr}{va:V}{Sp:Nat->Bool}{P:List Stp}{F O G:List Nat}{fs:List (Str×V)}{E:XK}
theorem Cho.same(h:Cho K c H cx x dd N rs ds Do Sp B F P O Y G)(s:j5 H H'):Cho K c H' cx x dd N rs ds Do Sp B F P O Y G:=by
 obtain⟨dx,fs,h1,⟨a,a1,a2⟩,⟨b,b1,b2⟩,⟨d,d1,d2⟩,⟨e,e1,e2⟩⟩:=h.ex
 exact⟨dx,fs,h1.same s,⟨a,a1,a2.same s⟩,⟨b,b1,s _ _ b2⟩,⟨d,d1,s _ _ d2⟩,⟨e,e1,s _ _ e2⟩⟩
abbrev a6g(x dd bd fa:Addr)(z:List (Str×V)):List (Str×V):=("plan",.ref x)::("deed",.ref dd)::("brinks",.ref bd)::("fallen",.ref fa)::z
theorem b2U{m:Str}:∀ {z:List (Str×V)},m∉z.map (·.1)->z.lookup m=none
 | [],_=>rfl
 | p::z,h=>by
  have h1:(m == p.1)=false:=beq_eq_false_iff_ne.mpr fun e=>h (by rw[e];simp)
  rw[M0,h1]
  exact b2U fun q=>h (I0 _ q)
theorem c8i{bd fa:Addr}{z:List (Str×V)}(hz:(z.map (·.1)) <+: (["put_in","left_out","left_in","living"]:List Str))(m:Str)(h:m∉(["plan","deed","brinks","fallen","put_in","left_out","left_in","living"]:List Str)):(a6g x dd bd fa z).lookup m=none:=by
 refine b2U fun q=>h ?_
 simp only[a6g,J0,u5]at q
 rcases q with q | q | q | q | q
 ·rw[q];simp
 ·rw[q];simp
 ·rw[q];simp
 ·rw[q];simp
 ·exact w6 (["plan","deed","brinks","fallen"]:List Str) (hz.subset q)
theorem a6M(hx:H cx=some (.ins C dx fs))(h:XD K H a P):XD K (upd H cx o) a P:=h.move (D9.ins hx) fun xs e=>by rw[i9 (K0 e hx (by intro z;cases z))];exact e
theorem a6f(hx:H cx=some (.ins C dx fs))(h:H a=some (.dK kvs)):upd H cx o a=some (.dK kvs):=by rw[i9 (K0 h hx (by intro z;cases z))];exact h
theorem a8W(ck:a0v K c)(hp:a1N c H x N rs)(hq:a6I c H x N rs)(hz:a0O K c H x N)(hv:a1a N)(hd:a1h H dd ds)(hn:a6i H dd)(hs:a5G H rs ds Do Sp)(ha:Hld H va L)(lL:L.length<=400)(hL:∀t∈L,t<N.length)(hcx:H cx=none)(hdx:H dx=none)
  (k:∀H' B F G,BkL N Do Sp B->(∀t,t∈F↔Fal N Do B L t)->(∀t,t∈G↔Liv N ((C4 N).filter (puF N Do B F)) (a6X N Do F) (inF N Do F) t)->Cho K c H' cx x dd N rs ds Do Sp B F ((C4 N).filter (puF N Do B F)) (a6X N Do F) (inF N Do F) G->j5 H H'->Q .non H') :
  Y0 K c [.ref cx,.ref x,.ref dd,va] (upd (upd H dx (.own cx)) cx (.ins c.o4 dx [])) Q E:=by
 have h400:=hv.le
 have lst:=a5I hv.two
 obtain⟨dx2,r2,n2,e2,es2,p1,_⟩:=id hz.ex
 have s0:j5 H (upd (upd H dx (.own cx)) cx (.ins c.o4 dx [])):=fun b o e=>by rw[i9 (c8 e hcx),i9 (c8 e hdx)];exact e
 have put:∀ {H':Hp} {o:HO},j5 H H'->j5 H (upd H' cx o):=fun s' b o e=>by rw[i9 (c8 e hcx)];exact s' _ _ e
 refine⟨rfl,?_⟩
 unfold a9I
 obtain⟨H1,hH1⟩:∃H1,H1=upd (upd H dx (.own cx)) cx (.ins c.o4 dx []):=⟨_,rfl⟩
 have x1:H1 cx=some (.ins c.o4 dx []):=hH1 ▸ c9
 rw[<-hH1]at s0 ⊢
 nofun
 refine⟨x,c.P0,dx2,_,rfl,s0 _ _ p1,ck.c8M,?_⟩
 refine⟨_,rfl,?_⟩
 exists v9 rfl ?_
 nofun
 refine b5c ck (hn.ts (j5.ts s0)) fun H2 s2=>?_
 refine⟨_,rfl,?_⟩
 exists v9 rfl ?_
 nofun
 have s02:=s0.trans s2
 refine b8b ck (hp.same s02) h400 (ha.same s02) lL hL fun H3 s3=>?_
 have s03:=s02.trans s3
 have x3:=s3 _ _ (s2 _ _ x1)
 ext
 exact_mod_cast M9 ?_
 specialize a1t ?_
 refine⟨cx,_,dx,[],rfl,x3,ck.E2,ck.a2G,by simp,?_⟩
 exact_mod_cast M9 ?_
 specialize a1t ?_
 refine⟨cx,_,dx,_,rfl,c9,ck.E2,ck.a4y,by simp[Q0],?_⟩
 obtain⟨H4,hH4⟩:∃H4,H4=upd (upd H3 cx (.ins c.o4 dx (Q0 "plan" (.ref x) []))) cx (.ins c.o4 dx (Q0 "deed" (.ref dd) (Q0 "plan" (.ref x) []))):=⟨_,rfl⟩
 have x4:H4 cx=some (.ins c.o4 dx (Q0 "deed" (.ref dd) (Q0 "plan" (.ref x) []))):=hH4 ▸ c9
 have s04:j5 H H4:=hH4 ▸ put (put s03)
 rw[<-hH4]
 exact_mod_cast M9 ?_
 specialize a1t ?_
 exact_mod_cast M6 ?_
 refine b9B ck (hp.same s04) (hq.same s04) (hz.same s04) hv (hd.ts (j5.ts s04)) (hs.ts (j5.ts s04)) rfl rfl fun bx H5 Sr Sw hbx B5 s5=>?_
 obtain⟨bdx,brx,bwx,bfd,b1,bR,bW,bX⟩:=id B5.ex
 exists ⟨bx,bdx,_,rfl,b1,b7N (d:=bfd) (.inr rfl) (by decide),?_⟩
 refine c3V ck B5 fun w H6 hw S6 s6=>?_
 obtain⟨B,hB⟩:∃B,B=(C4 N).filter (a8o N Do Sp (frS Sr) (frS Sw)):=⟨_,rfl⟩
 rw[<-hB]at S6
 have bk:BkL N Do Sp B:=⟨frS Sr,frS Sw,fun t _=>by rw[<-bR.un t];simp[frS],fun t _=>by rw[<-bW.un t];simp[frS],hB⟩
 have lB:B.length<=2000:=by
  have:=o6 (a8o N Do Sp (frS Sr) (frS Sw)) (C4 N)
  rw[hB];omega
 ext
 refine b1i S6 (hB ▸ (b4o N).filter _) lB fun bd H7 hbd X7 s7=>?_
 have s07:=((s04.trans s5).trans s6).trans s7
 have x7:=s7 _ _ (s6 _ _ (s5 _ _ x4))
 ext
 refine⟨cx,_,dx,_,rfl,x7,ck.E2,ck.a1K,(by show(2:Nat)<1000;decide),?_⟩
 obtain⟨H8,hH8⟩:∃H8,H8=upd H7 cx (.ins c.o4 dx (Q0 "brinks" (.ref bd) (Q0 "deed" (.ref dd) (Q0 "plan" (.ref x) [])))):=⟨_,rfl⟩
 have x8:H8 cx=some (.ins c.o4 dx (Q0 "brinks" (.ref bd) (Q0 "deed" (.ref dd) (Q0 "plan" (.ref x) [])))):=hH8 ▸ c9
 have s08:j5 H H8:=hH8 ▸ put s07
 have X8:XD K H8 bd B:=hH8 ▸ a6M x7 X7
 rw[<-hH8]
 exact_mod_cast M9 ?_
 specialize a1t ?_
 specialize T3 ?_
 refine⟨cx,_,dx,_,_,rfl,x8,ck.E2,ck.a1K,rfl,?_⟩
 exact_mod_cast a0p ?_
 refine b0a (ha.same s08) rfl fun la Hz hla sz=>?_
 have s08:=s08.trans sz
 have X8:=X8.same sz
 have x8:=sz _ _ x8
 ext
 refine b7c ck (hp.same s08) (hz.same s08) hv (hd.ts (j5.ts s08)) (hs.ts (j5.ts s08)) X8 hla lL hL fun fa F H9 hfa f9 nF ltF alF s9=>?_
 have x9:=s9 _ _ x8
 have s09:=s08.trans s9
 ext
 refine⟨cx,_,dx,_,rfl,x9,ck.E2,ck.a2X,(by show(3:Nat)<1000;decide),?_⟩
 obtain⟨H10,hH10⟩:∃H10,H10=upd H9 cx (.ins c.o4 dx (a6g x dd bd fa [])):=⟨_,rfl⟩
 have x10:H10 cx=some (.ins c.o4 dx (a6g x dd bd fa [])):=hH10 ▸ c9
 have s010:j5 H H10:=hH10 ▸ put s09
 have X10:XD K H10 bd B:=hH10 ▸ a6M x9 (X8.same s9)
 have f10:H10 fa=some (.dK (KS F)):=hH10 ▸ a6f x9 f9
 show(_:Prop)
 rw[show Q0 "fallen" (.ref fa) (Q0 "brinks" (.ref bd) (Q0 "deed" (.ref dd) (Q0 "plan" (.ref x) [])))=a6g x dd bd fa [] from rfl,<-hH10]
 have chf:∀ {H':Hp} {z:List (Str×V)},(z.map (·.1)) <+: (["put_in","left_out","left_in","living"]:List Str)->H' cx=some (.ins c.o4 dx (a6g x dd bd fa z))->j5 H H'->XD K H' bd B->H' fa=some (.dK (KS F))->ChF K c H' cx dx x dd N rs ds Do Sp B F (a6g x dd bd fa z):=fun {H' z} hz' hx s' X' f'=>
  ⟨hx,rfl,rfl,⟨bd,rfl,X'⟩,⟨fa,rfl,f'⟩,c8i hz',hp.same s',hz.same s',hd.ts (j5.ts s'),hs.ts (j5.ts s')⟩
 exact_mod_cast M9 ?_
 refine b4z ?_
 refine c1D ck (hp.same s010) h400 (hd.ts (j5.ts s010)) (hs.ts (j5.ts s010)) rfl rfl fun dg H11 hdg e11 s11=>?_
 have s011:=s010.trans s11
 have x11:=s11 _ _ x10
 have C11:=chf (z:=[]) (by simp) x11 s011 (X10.same s11) (s11 _ _ f10)
 have lD:((t8 N.length).filter Do).length<=400:=by
  have:=o6 Do (t8 N.length)
  rw[R1]at this
  omega
 have ndD:((t8 N.length).filter Do).Nodup:=b5C.filter _
 exact_mod_cast M9 ?_
 exact_mod_cast a1t ?_
 exact_mod_cast b4E ?_
 exact_mod_cast a0p ?_
 refine c6w (S:=C4 N) (f:=puF N Do B F) (by omega) (fun R hR=>?_) (fun p s H' st ms s' R hR=>?_) fun w12 H12 hw12 S12 s12=>?_
 ·specialize M6 ?_
  exists ⟨x,dx2,_,rfl,s011 _ _ p1,a8M r2 n2 e2 _ (by decide),?_⟩
  exact a6R ck (hz.same s011) hv fun w H' _ S' s'=>hR w H' S' s'
 ·ext
  specialize M6 ?_
  exists ⟨cx,dx,_,rfl,s' _ _ x11,C11.no _ (by decide),?_⟩
  exact c3x ck (C11.same s') st (a3S ms) ⟨_,rfl,hR⟩
 ext
 have lP:((C4 N).filter (puF N Do B F)).length<=2000:=by
  have:=o6 (puF N Do B F) (C4 N)
  omega
 exists b1i S12 ((b4o N).filter _) lP fun pd H13 hpd X13 s13=>?_
 have s113:=s12.trans s13
 have x13:=s113 _ _ x11
 have s013:=s011.trans s113
 refine⟨cx,_,dx,_,rfl,x13,ck.E2,ck.a1J,(by show(4:Nat)<1000;decide),?_⟩
 obtain⟨H14,hH14⟩:∃H14,H14=upd H13 cx (.ins c.o4 dx (a6g x dd bd fa [("put_in",.ref pd)])):=⟨_,rfl⟩
 have x14:H14 cx=some (.ins c.o4 dx (a6g x dd bd fa [("put_in",.ref pd)])):=hH14 ▸ c9
 have s014:j5 H H14:=hH14 ▸ put s013
 have C14:=chf (z:=[("put_in",.ref pd)]) (by exact⟨["left_out","left_in","living"],rfl⟩) x14 s014 (hH14 ▸ a6M x13 ((X10.same s11).same s113)) (hH14 ▸ a6f x13 (s113 _ _ (s11 _ _ f10)))
 have X14:XD K H14 pd _:=hH14 ▸ a6M x13 X13
 have g14:H14 dg=some (.lst (IL ((t8 N.length).filter Do))):=by rw[hH14,i9 (K0 e11 x11 (by intro z;cases z))];exact s113 _ _ e11
 rw[show Q0 "put_in" (.ref pd) (a6g x dd bd fa [])=a6g x dd bd fa [("put_in",.ref pd)] from rfl,<-hH14]
 exact_mod_cast M9 ?_
 exact_mod_cast a1t ?_
 exact_mod_cast b4E ?_
 exact_mod_cast a0p ?_
 refine b1o (L:=(t8 N.length).filter Do) (f:=fun t => !(!decide (t∈F))) (by omega) (fun R hR=>⟨_,rfl,hR dg H14 g14 (j5.refl _)⟩) (fun t H' mt s' R hR=>?_) fun w15 H15 hw15 e15 s15=>?_
 ·ext
  specialize M6 ?_
  exists ⟨cx,dx,_,rfl,s' _ _ x14,C14.no _ (by decide),?_⟩
  exact a2s (t:=t) ck (C14.same s') ⟨_,rfl,hR⟩
 ext
 have e15:H15 w15=some (.lst (IL (a6X N Do F))):=e15
 have lO:(a6X N Do F).length<=400:=D4 (o6 _ _) lD
 have ndO:(a6X N Do F).Nodup:=ndD.filter _
 refine a8O e15 lO fun od H16 hod o16 s16=>?_
 rw[c1T ndO]at o16
 ext
 have s116:=s15.trans s16
 have x16:=s116 _ _ x14
 have s016:=s014.trans s116
 refine⟨cx,_,dx,_,rfl,x16,ck.E2,ck.a1b,(by show(5:Nat)<1000;decide),?_⟩
 obtain⟨H17,hH17⟩:∃H17,H17=upd H16 cx (.ins c.o4 dx (a6g x dd bd fa [("put_in",.ref pd),("left_out",.ref od)])):=⟨_,rfl⟩
 have x17:H17 cx=some (.ins c.o4 dx (a6g x dd bd fa [("put_in",.ref pd),("left_out",.ref od)])):=hH17 ▸ c9
 have s017:j5 H H17:=hH17 ▸ put s016
 obtain⟨_,b1',X14b⟩:=C14.br
 cases b1'
 obtain⟨_,b1',f14⟩:=C14.fl
 cases b1'
 have C17:=chf (z:=[("put_in",.ref pd),("left_out",.ref od)]) (by exact⟨["left_in","living"],rfl⟩) x17 s017 (hH17 ▸ a6M x16 (X14b.same s116)) (hH17 ▸ a6f x16 (s116 _ _ f14))
 have X17:XD K H17 pd _:=hH17 ▸ a6M x16 (X14.same s116)
 have o17:H17 od=_:=hH17 ▸ a6f x16 o16
 have g17:H17 dg=some (.lst (IL ((t8 N.length).filter Do))):=by rw[hH17,i9 (K0 e11 x11 (by intro z;cases z))];exact s116 _ _ g14
 rw[show Q0 "left_out" (.ref od) (a6g x dd bd fa [("put_in",.ref pd)])=a6g x dd bd fa [("put_in",.ref pd),("left_out",.ref od)] from rfl,<-hH17]
 exact_mod_cast M9 ?_
 exact_mod_cast a1t ?_
 exact_mod_cast b4E ?_
 exact_mod_cast a0p ?_
 refine b1o (L:=(t8 N.length).filter Do) (f:=fun t => !decide (t∈F)) (by omega) (fun R hR=>⟨_,rfl,hR dg H17 g17 (j5.refl _)⟩) (fun t H' mt s' R hR=>?_) fun w18 H18 hw18 e18 s18=>?_
 ·ext
  specialize M6 ?_
  exists ⟨cx,dx,_,rfl,s' _ _ x17,C17.no _ (by decide),?_⟩
  exact a2s (t:=t) ck (C17.same s') ⟨_,rfl,hR⟩
 ext
 have e18:H18 w18=some (.lst (IL (inF N Do F))):=e18
 have lY:(inF N Do F).length<=400:=D4 (o6 _ _) lD
 have ndY:(inF N Do F).Nodup:=ndD.filter _
 refine a8O e18 lY fun yd H19 hyd y19 s19=>?_
 rw[c1T ndY]at y19
 ext
 have s119:=s18.trans s19
 have x19:=s119 _ _ x17
 have s019:=s017.trans s119
 refine⟨cx,_,dx,_,rfl,x19,ck.E2,ck.a0A,(by show(6:Nat)<1000;decide),?_⟩
 obtain⟨H20,hH20⟩:∃H20,H20=upd H19 cx (.ins c.o4 dx (a6g x dd bd fa [("put_in",.ref pd),("left_out",.ref od),("left_in",.ref yd)])):=⟨_,rfl⟩
 have x20:H20 cx=some (.ins c.o4 dx (a6g x dd bd fa [("put_in",.ref pd),("left_out",.ref od),("left_in",.ref yd)])):=hH20 ▸ c9
 have s020:j5 H H20:=hH20 ▸ put s019
 obtain⟨_,b1',X17b⟩:=C17.br
 cases b1'
 obtain⟨_,b1',f17⟩:=C17.fl
 cases b1'
 have X20b:XD K H20 bd B:=hH20 ▸ a6M x19 (X17b.same s119)
 have f20:H20 fa=some (.dK (KS F)):=hH20 ▸ a6f x19 (s119 _ _ f17)
 have X20:XD K H20 pd _:=hH20 ▸ a6M x19 (X17.same s119)
 have o20:H20 od=some (.dK (KS (a6X N Do F))):=hH20 ▸ a6f x19 (s119 _ _ o17)
 have y20:H20 yd=some (.dK (KS (inF N Do F))):=hH20 ▸ a6f x19 y19
 rw[show Q0 "left_in" (.ref yd) (a6g x dd bd fa [("put_in",.ref pd),("left_out",.ref od)])=a6g x dd bd fa [("put_in",.ref pd),("left_out",.ref od),("left_in",.ref yd)] from rfl,<-hH20]
 specialize a1t ?_
 specialize T3 ?_
 exists ⟨cx,_,dx,_,_,rfl,x20,ck.E2,ck.a1J,rfl,?_⟩
 specialize T3 ?_
 exists ⟨cx,_,dx,_,_,rfl,x20,ck.E2,ck.a1b,rfl,?_⟩
 specialize T3 ?_
 exists ⟨cx,_,dx,_,_,rfl,x20,ck.E2,ck.a0A,rfl,?_⟩
 exists c3t ck (hz.same s020) hv X20 o20 y20 ndO (fun t ht=>Z8.mp (L9.mp (L9.mp ht).1).1) fun ld G H21 hld g21 nG ltG alG s21=>?_
 have x21:=s21 _ _ x20
 have s021:=s020.trans s21
 refine⟨cx,_,dx,_,rfl,x21,ck.E2,ck.a2W,(by show(7:Nat)<1000;decide),?_⟩
 obtain⟨H22,hH22⟩:∃H22,H22=upd H21 cx (.ins c.o4 dx (a6g x dd bd fa [("put_in",.ref pd),("left_out",.ref od),("left_in",.ref yd),("living",.ref ld)])):=⟨_,rfl⟩
 have x22:H22 cx=some (.ins c.o4 dx (a6g x dd bd fa [("put_in",.ref pd),("left_out",.ref od),("left_in",.ref yd),("living",.ref ld)])):=hH22 ▸ c9
 have s022:j5 H H22:=hH22 ▸ put s021
 rw[show Q0 "living" (.ref ld) (a6g x dd bd fa [("put_in",.ref pd),("left_out",.ref od),("left_in",.ref yd)])=a6g x dd bd fa [("put_in",.ref pd),("left_out",.ref od),("left_in",.ref yd),("living",.ref ld)] from rfl,<-hH22]
 have C22:=chf (z:=[("put_in",.ref pd),("left_out",.ref od),("left_in",.ref yd),("living",.ref ld)]) (by exact⟨[],rfl⟩) x22 s022 (hH22 ▸ a6M x21 (X20b.same s21)) (hH22 ▸ a6f x21 (s21 _ _ f20))
 exact k H22 B F G bk alF alG ⟨dx,_,C22,⟨pd,rfl,hH22 ▸ a6M x21 (X20.same s21)⟩,⟨od,rfl,hH22 ▸ a6f x21 (s21 _ _ o20)⟩,⟨yd,rfl,hH22 ▸ a6f x21 (s21 _ _ y20)⟩,⟨ld,rfl,hH22 ▸ a6f x21 g21⟩⟩ s022
end
section
variable {K:Fg}{x:Addr}{Sp:Nat->Bool}{P:List Stp}{F O G:List Nat}{E:XK}
theorem b2S{a b:Nat}{tr:TE}(ck:a0v K c)(hp:a1N c H x N rs)(hq:a6I c H x N rs)(hz:a0O K c H x N)(hv:a1a N)(hd:a1h H dd ds)(hn:a6i H dd)(hs:a5G H rs ds Do Sp)(hL:∀t∈L,t<N.length)(lL:L.length<=400)(ea:σ[a]? = some (some (.ref x)))(eb:σ[b]? = some (some (.ref dd)))
  (htr:∀R:VK,(∀la H',H' la=some (.lst (IL L))->j5 H H'->R (.ref la) H')->tr σ H R)
  (k:∀cx H' B F G,H cx=none->BkL N Do Sp B->(∀t,t∈F↔Fal N Do B L t)->(∀t,t∈G↔Liv N ((C4 N).filter (puF N Do B F)) (a6X N Do F) (inF N Do F) t)->Cho K c H' cx x dd N rs ds Do Sp B F ((C4 N).filter (puF N Do B F)) (a6X N Do F) (inF N Do F) G->j5 H H'->Q (.ref cx) H') :
  a3Q c.o4 (Y0 K c) [] E0 (a9 (b4 a) (a9 (b4 b) (a9 tr g0))) σ H Q:=by
 exact_mod_cast b4C ?_
 refine a0p (U5 ea (a0p (U5 eb (a0p ?_))))
 refine htr _ fun la H1 h1 s1=>?_
 refine a2Y ?_
 intro cx dx hcx hdx _
 exact a8W ck (hp.same s1) (hq.same s1) (hz.same s1) hv (hd.ts (j5.ts s1)) (hn.ts (j5.ts s1)) (hs.ts (j5.ts s1)) (.inr ⟨la,rfl,h1⟩) lL hL hcx hdx fun H' B F G h2 h3 h4 h5 h6=>⟨rfl,k cx H' B F G (s1.free hcx) h2 h3 h4 h5 (s1.trans h6)⟩
theorem c7i{tr:TA}{dvs:List V}{sp:L2.Sp}(h:tr σ H fun vs H1=>∀x dx,H1 x=none->H1 dx=none->dx≠x ->
 sp (.ref x::(vs++dvs)) (upd (upd H1 dx (.own x)) x (.ins C dx [])) (fun v H2=>v=.non/\Q (.ref x) H2) E):a3Q C sp dvs E tr σ H Q:=h
theorem b7O{a b:Nat}(ck:a0v K c)(hp:a1N c H x N rs)(hq:a6I c H x N rs)(hz:a0O K c H x N)(hv:a1a N)(hd:a1h H dd ds)(hn:a6i H dd)(hs:a5G H rs ds Do Sp)(ea:σ[a]? = some (some (.ref x)))(eb:σ[b]? = some (some (.ref dd)))
  (k:∀cx H' B F G,H cx=none->BkL N Do Sp B->(∀t,t∈F↔Fal N Do B [] t)->(∀t,t∈G↔Liv N ((C4 N).filter (puF N Do B F)) (a6X N Do F) (inF N Do F) t)->Cho K c H' cx x dd N rs ds Do Sp B F ((C4 N).filter (puF N Do B F)) (a6X N Do F) (inF N Do F) G->j5 H H'->Q (.ref cx) H') :
  a3Q c.o4 (Y0 K c) [.non] E0 (a9 (b4 a) (a9 (b4 b) g0)) σ H Q:=by
 refine c7i ?_
 refine a0p (U5 ea (a0p (U5 eb (a2Y ?_))))
 intro cx dx hcx hdx _
 exact a8W ck hp hq hz hv hd hn hs (.inl ⟨rfl,rfl⟩) (by simp) (by simp) hcx hdx fun H' B F G h2 h3 h4 h5 h6=>⟨rfl,k cx H' B F G hcx h2 h3 h4 h5 h6⟩
theorem b3C(ck:a0v K c)(h:Cho K c H cx x dd N rs ds Do Sp B F P O Y G)(k:∀l H',H l=none->U1 K H' l P->j5 H H'->Q (.ref l) H'):R8 K [.ref cx] H Q E:=by
 obtain⟨dx,fs,h1,⟨a,a1,a2⟩,_⟩:=h.ex
 refine⟨rfl,?_⟩
 unfold a9G
 ext
 specialize T3 ?_
 exists ⟨cx,_,dx,_,_,rfl,h1.hx,ck.E2,ck.a1J,a1,?_⟩
 exact a2.list k
end
section
variable {K:Fg}{x:Addr}{Sp:Nat->Bool}{P:List Stp}{F O G:List Nat}{E:XK}
theorem b3D(ck:a0v K c)(h:Cho K c H cx x dd N rs ds Do Sp B F P O Y G)(k:∀l H',H l=none->H' l=some (.lst (IL O))->j5 H H'->Q (.ref l) H'):S0 K [.ref cx] H Q E:=by
 obtain⟨dx,fs,h1,_,⟨a,a1,a2⟩,_⟩:=h.ex
 refine⟨rfl,?_⟩
 unfold a9H
 ext
 specialize T3 ?_
 exists ⟨cx,_,dx,_,_,rfl,h1.hx,ck.E2,ck.a1b,a1,?_⟩
 exact b3G a2 k
end
section
variable {K:Fg}{x:Addr}{Sp:Nat->Bool}{P:List Stp}{F O G:List Nat}{E:XK}
theorem b0P(ck:a0v K c)(h:Cho K c H cx x dd N rs ds Do Sp B F P O Y G)(k:∀l H',H l=none->H' l=some (.lst (IL Y))->j5 H H'->Q (.ref l) H'):P7 K [.ref cx] H Q E:=by
 obtain⟨dx,fs,h1,_,_,⟨a,a1,a2⟩,_⟩:=h.ex
 refine⟨rfl,?_⟩
 unfold a8z
 ext
 specialize T3 ?_
 exists ⟨cx,_,dx,_,_,rfl,h1.hx,ck.E2,ck.a0A,a1,?_⟩
 exact b3G a2 k
end
section
variable {K:Fg}{x:Addr}{Sp:Nat->Bool}{P:List Stp}{F O G:List Nat}{E:XK}
theorem b6w(ck:a0v K c)(h:Cho K c H cx x dd N rs ds Do Sp B F P O Y G)(lY:Y.length<=400)(k:∀l H',H l=none->H' l=some (.lst (IL (Y.filter fun t=>decide (t∈G))))->j5 H H'->Q (.ref l) H'):U0 K [.ref cx] H Q E:=by
 obtain⟨dx,fs,h1,_,_,⟨d,d1,d2⟩,⟨a,a1,a2⟩⟩:=h.ex
 refine⟨rfl,?_⟩
 unfold a8h
 ext
 intro PP
 exact_mod_cast a0c ?_
 refine T3 (U5 rfl ?_)
 refine⟨cx,_,dx,_,_,rfl,h1.hx,ck.E2,ck.a0A,d1,?_⟩
 refine⟨d,KS Y,rfl,d2,fun hP ob D hD=>?_⟩
 obtain⟨Hf,hHf⟩:∃Hf,Hf=upd H d (.frz ob (.dK (KS Y))):=⟨_,rfl⟩
 have df:Hf d=some (.frz ob (.dK (KS Y))):=hHf ▸ c9
 have oth:∀b o,b≠d->H b=some o->Hf b=some o:=fun b o n e=>by rw[hHf,i9 n];exact e
 have xf:=oth _ _ (K0 h1.hx d2 (by intro z;cases z)) h1.hx
 have rd:Rd Hf a (.dK (KS G)):=by
  by_cases z:a=d
  ·rw[z,d2]at a2
   have e:=Option.some.inj a2
   rw[z,<-e]
   exact .inr ⟨ob,df⟩
  ·exact .inl (oth _ _ z a2)
 rw[<-hHf]at hD ⊢
 refine b5i (J:=Itk ob d (KS Y)) Y.length (fun i ys H9=>ys=IL ((Y.take i).filter fun t=>decide (t∈G))/\H9 D=some (.lst ys)/\j5 Hf H9) ⟨rfl,c9,A0 hD⟩ ?_ ?_ ?_ ?_
 ·rintro i ys H9 ⟨_,h,_⟩
  exact h
 ·rintro ys H9 ⟨rfl,hD9,s9⟩
  rw[G0]at hD9
  have nD:D≠d:=(c8 df hD).symm
  refine⟨⟨by rw[b8p];exact j6 _,s9 _ _ df⟩,d,ob,KS Y,s9 _ _ df,hP,?_⟩
  refine k D _ ?_ (by rw[i9 nD];exact hD9) fun b o e=>?_
  ·rw[hHf,i9 nD]at hD;exact hD
  ·by_cases z:b=d
   ·rw[z,d2]at e
    cases e
    rw[z];exact c9
   ·rw[i9 z];exact s9 _ _ (oth _ _ z e)
 ·rintro i ys H9 hi ⟨_,_,s9⟩
  exact⟨by rw[b8p];exact hi,s9 _ _ df⟩
 ·rintro i ys H9' hi ⟨rfl,hD9,s9⟩ v H9 ⟨rfl,kk,hk,rfl⟩ R S' hR hS
  unfold KS at hk
  rw[b6]at hk
  obtain⟨t,hs',rfl⟩:=z8.mp hk
  have tk:=a6F (f:=fun t=>decide (t∈G)) hs'
  ext
  specialize c2b ?_
  specialize T3 ?_
  refine⟨cx,_,dx,_,_,rfl,s9 _ _ xf,ck.E2,ck.a2W,a1,?_⟩
  have rd9:Rd H9 a (.dK (KS G)):=rd.elim (fun e=>.inl (s9 _ _ e)) fun⟨o,e⟩=>.inr ⟨o,s9 _ _ e⟩
  refine⟨a,_,rfl,.inl ⟨KS G,Sum.inl (t:Int),rd9,rfl,rfl⟩,?_⟩
  rw[c1K]
  refine⟨_,rfl,?_⟩
  by_cases hb:t∈G
  ·rw[if_pos (d5l hb)]at tk
   exists C6 (d5l hb) ?_
   have lle:((Y.take i).filter fun t=>decide (t∈G)).length<=Y.length:=by
    have h1:=o6 (fun t=>decide (t∈G)) (Y.take i)
    rw[D8]at h1
    omega
   refine hR _ _ hD9 (F8 (by rw[F3];omega)) ⟨by rw[tk];simp[IL,kV],c9,fun b o e=>by rw[i9 (c8 e hD)];exact s9 _ _ e⟩
  ·rw[if_neg (by simpa using hb),M4]at tk
   exact v9 (d5k hb) (hS _ ⟨by rw[tk],hD9,s9⟩)
end
section
variable {K:Fg}{w:Addr}{S:List Stp}{E:XK}
structure WS(H:Hp)(w:Addr)(S:List Stp):Prop where
 ex:∃ps:List Addr,H w=some (.lst (ps.map V.ref))/\ps.length=S.length/\∀(i:Nat) p s,ps[i]? = some p->S[i]? = some s->H p=some (.tup [.int s.1,.int s.2])
theorem WS.app{ps:List Addr}(h1:H w=some (.lst (ps.map V.ref)))(h2:ps.length=S.length)(h3:∀(i:Nat) p s,ps[i]? = some p->S[i]? = some s->H p=some (.tup [.int s.1,.int s.2]))(hz:H z=some (.tup [.int s.1,.int s.2])):WS (upd H w (.lst (ps.map V.ref++[.ref z]))) w (S++[s]):=by
 refine⟨ps++[z],by rw[c9,E1];rfl,by simp[h2],fun i p t f1 f2=>?_⟩
 rcases a0C f1 with ⟨hi,f1⟩ | ⟨hi,f1⟩
 ·rcases a0C f2 with ⟨_,f2⟩ | ⟨hj,_⟩
  ·exact D9.put h1 _ _ (h3 i p t f1 f2)
  ·omega
 ·subst f1
  rcases a0C f2 with ⟨hj,_⟩ | ⟨_,f2⟩
  ·omega
  ·subst f2
   exact D9.put h1 _ _ hz
end
section
variable {K:Fg}{E:XK}
theorem b2R(N:Nt)(i:Nat):a3q N i=(t8 (N.getD i []).length).map fun(q:Nat)=>((i:Int),(q:Int)):=rfl
theorem c3r(hn:L8 H na N)(h400:N.length<=400)(h2:∀l∈N,l.length<=2)(k:∀a H',H a=none->WS H' a (C4 N)->j5 H H'->Q (.ref a) H'):b0Q K [.ref na] H Q E:=by
 obtain⟨as,hna,las,hat⟩:=id hn.ex
 refine⟨rfl,?_⟩
 unfold c1U
 nofun
 exists G9 (by simp) fun z1 H1 hz1 e1 s1=>?_
 exists G9 (by simp) fun D H2 hD e2 s2=>?_
 have s02:=s1.trans s2
 have hD0:H D=none:=s1.free hD
 have W2:WS H2 D (a3A N 0):=⟨[z1],e2,rfl,fun i p s f1 f2=>by
  cases i with
  | zero=>
   cases f1
   cases f2
   exact s2 _ _ e1
  | succ i=>cases f1⟩
 exact_mod_cast M9 ?_
 specialize a1o (a2e ?_)
 refine O5 (s02 _ _ hna) ?_
 rw[b9,las]
 refine⟨N.length,rfl,by omega,by omega,?_⟩
 rw[A3]
 refine a1k (fun i σ H3=>∃y2 y3,σ=[some (.ref na),some (.ref D),y2,y3]/\WS H3 D (a3A N i)/\(a3A N i).length<=1+2 * i/\j5 H H3) ⟨_,_,rfl,W2,by show 1<=1+2 * 0;omega,s02⟩ ?_ ?_
 ·rintro i _ H3 hi ⟨y2,y3,rfl,Y,l3,s3⟩
  rw[a0a]
  have hl:=Q3 hi
  obtain⟨l,hle⟩:∃l,l=N[i]:=⟨_,rfl⟩
  rw[<-hle]at hl
  have l2:=h2 l (mI hl)
  have hg:N.getD i []=l:=by simp[Q1,hl]
  obtain⟨u0,hu0⟩:∃u0,as[i]? = some u0:=⟨_,c7 (by omega)⟩
  have hu:=hat i u0 l hu0 hl
  ext
  specialize a1o (a2e ?_)
  exists O1 (s3 _ _ hna) (a0z (by rw[b6,hu0];rfl)) ?_
  refine O5 (s3 _ _ hu) ?_
  rw[F3]
  refine⟨l.length,rfl,by omega,by omega,?_⟩
  rw[A3]
  refine a1k (fun j σ H4=>∃y3,σ=[some (.ref na),some (.ref D),some (.int (i:Int)),y3]/\WS H4 D (a3A N i++(t8 j).map fun(q:Nat)=>((i:Int),(q:Int)))/\j5 H H4) ⟨_,rfl,by simpa using Y,s3⟩ ?_ ?_
  ·rintro j _ H4 hj ⟨y3,rfl,W4,s4⟩
   rw[a0a]
   obtain⟨ps,q1,q2,q3⟩:=W4.ex
   have hlen:ps.length<=1000:=by rw[q2];simp;omega
   ext
   specialize a7o ?_
   exists ⟨a0g q1,?_⟩
   exists G9 (by simp) fun z5 H5 hz5 e5 s5=>?_
   refine a0q (s5 _ _ q1) (F8 (by rw[b9];omega)) ?_
   refine⟨_,rfl,?_,fun b o e=>by rw[i9 (c8 e hD0)];exact s5 _ _ (s4 _ _ e)⟩
   have W5:=WS.app (s:=((i:Int),(j:Int))) (s5 _ _ q1) q2 (fun i p s a c=>s5 _ _ (q3 i p s a c)) e5
   rw[a0d,E1,<-a5a]
   exact W5
  ·rintro _ H4 ⟨y3,rfl,W4,s4⟩
   refine⟨_,_,rfl,?_,?_,s4⟩
   ·rw[a5g,b2R,hg];exact W4
   ·rw[a5g,b2R,hg];simp;omega
 ·rintro _ H3 ⟨y2,y3,rfl,Y,l3,s3⟩
  ext
  exact k D H3 hD0 Y s3
end
section
variable {K:Fg}{M:List Nat}{E:XK}
theorem b2W(h1:H a=some (.lst (IL L)))(h2:H b=some (.lst (IL L)))(k:∀H',j5 H H'->Q (.bl true) H'):a5k K [.ref a,.ref b] H Q E:=by
 refine⟨rfl,?_⟩
 unfold b4m
 nofun
 exists a6A (s := "list") (by simp only[a5n,h1]) (by decide) ?_
 exists v9 (by decide) ?_
 exists O5 h1 ?_
 exists O5 h2 ?_
 exists v9 (by simp) ?_
 exact_mod_cast M9 ?_
 specialize a1o (c5c ?_)
 refine⟨a,b,rfl,⟨_,SqL.of h1⟩,⟨_,SqL.of h2⟩,?_⟩
 refine b2X L.length (fun i σ H9=>∃y2 y3,σ=[some (.ref a),some (.ref b),y2,y3]/\j5 H H9) ⟨_,_,rfl,j5.refl _⟩ ?_ ?_ ?_
 ·rintro _ H9 ⟨y2,y3,rfl,s9⟩
  exists ⟨⟨_,_,SqL.of (s9 _ _ h1),SqL.of (s9 _ _ h2),.inl (by rw[F3];exact j6 _)⟩,?_⟩
  exact k H9 s9
 ·rintro i _ H9 hi ⟨y2,y3,rfl,s9⟩
  have e:(IL L)[i]? = some (V.int (L[i]:Int)):=by unfold IL;rw[b6,c7 hi];rfl
  exact⟨_,_,_,_,SqL.of (s9 _ _ h1),SqL.of (s9 _ _ h2),e,e⟩
 ·rintro i _ H9 hi ⟨y2,y3,rfl,s9⟩ v H10 ⟨pp,u1,u2,hpp,rfl,rfl,g1,g2⟩
  have e:(IL L)[i]? = some (V.int (L[i]:Int)):=by unfold IL;rw[b6,c7 hi];rfl
  have g1:=g1 _ (SqL.of (s9 _ _ h1))
  have g2:=g2 _ (SqL.of (s9 _ _ h2))
  rw[e]at g1 g2
  cases g1
  cases g2
  refine a7I (SqT.of c9) ?_
  have s10:=s9.trans (A0 (o:=.tup [V.int (L[i]:Int),V.int (L[i]:Int)]) hpp)
  ext
  refine b7Q ⟨_,rfl,?_⟩
  exists v9 rfl ?_
  exists v9 (by simp) ?_
  exact⟨_,_,rfl,s10⟩
end
section
variable {K:Fg}{c:Addr}{E:XK}
theorem c8v(hB:Bag H b c)(hn:0<n)(hn2:n<=400)(k:∀D L H',D≠b->H' D=some (.lst (IL L))->L.length<=400->(∀t∈L,t<n)->Bag H' b c->E3 b H H'->Q (.ref D) H'):b3B K [.ref b,.int (n:Int)] H Q E:=by
 refine⟨rfl,?_⟩
 unfold c4P
 nofun
 exists Q5 hB (by decide) (by decide) fun n1 H1 a0 a1 B1 k1=>?_
 refine a3f (fun _=>?_) (fun _=>?_)
 ·ext
  specialize a0c (a2e ?_)
  refine⟨(n:Int),rfl,by omega,by omega,fun D hD=>?_⟩
  rw[A3]
  obtain⟨nb,nc⟩:=B1.nb hD
  refine a8V (fun i ys H4=>ys=IL (t8 i)/\H4 D=some (.lst ys)/\Bag H4 b c/\E3 b H1 H4) ⟨rfl,c9,B1.new hD,E3.new hD⟩ ?_ ?_ ?_
  ·rintro i ys H4 ⟨_,h,_⟩
   exact h
  ·rintro i ys H4 hi ⟨rfl,hd,B4,k4⟩ R hR
   ext
   rw[a0a]
   refine hR _ _ hd (F8 (by rw[F3,R1];omega)) ⟨by rw[a0d];simp[IL],c9,B4.put nb nc,k4.put hD⟩
  ·rintro ys H4 ⟨rfl,hd,B4,k4⟩
   ext
   exact k D _ H4 nb hd (by rw[R1];exact hn2) (fun t ht=>Z8.mp ht) B4 (k1.trans k4)
 ·ext
  specialize a0c (a2e ?_)
  refine Q5 B1 (by decide) (by decide) fun n2 H2 b0 b1 B2 k2=>?_
  obtain⟨m,rfl⟩:∃m:Nat,n2=(m:Int):=⟨n2.toNat,by omega⟩
  ext
  refine⟨(m:Int),rfl,by omega,by omega,fun D hD=>?_⟩
  rw[A3]
  obtain⟨nb,nc⟩:=B2.nb hD
  refine a8V (fun i ys H4=>∃L:List Nat,ys=IL L/\L.length=i/\(∀t∈L,t<n)/\H4 D=some (.lst ys)/\Bag H4 b c/\E3 b H2 H4) ⟨[],rfl,rfl,by simp,c9,B2.new hD,E3.new hD⟩ ?_ ?_ ?_
  ·rintro i ys H4 ⟨_,_,_,_,h,_⟩
   exact h
  ·rintro i ys H4 hi ⟨L,rfl,rfl,h1,hd,B4,k4⟩ R hR
   ext
   refine Q5 B4 (by omega) (by omega) fun j H5 j0 j1 B5 k5=>?_
   obtain⟨t,rfl⟩:∃t:Nat,j=(t:Int):=⟨j.toNat,by omega⟩
   refine hR _ _ (k5.1 _ _ hd nb) (F8 (by rw[F3];omega)) ⟨L++[t],by simp[IL],by simp,fun u hu=>?_,c9,B5.put nb nc,(k4.trans k5).put hD⟩
   rcases u4.mp hu with q | q
   ·exact h1 u q
   ·rw[l6.mp q];omega
  ·rintro ys H4 ⟨L,rfl,hl,h1,hd,B4,k4⟩
   ext
   exact k D L H4 nb hd (by omega) h1 B4 ((k1.trans k2).trans k4)
end
theorem c1C{K:Fg}(hn:L8 H a N)(h400:N.length<=400)(hi:σ[i]? = some (some (.ref a)))(k:∀a' H',L8 H' a' N->j5 H H'->Q (.ref a') H'):V6 (W8 K (b4 i)) a0Q (tCB a6B (a9 (b4 0) g0)) σ H Q:=by
 obtain⟨ns,m1,m2,m3⟩:=id hn.ex
 exact_mod_cast a0c (Z6 ?_)
 refine⟨_,hi,a,rfl,⟨_,SqL.of m1⟩,fun np hnp=>?_⟩
 refine a0G (xs:=ns.map V.ref) (fun i ys H8=>∃as:List Addr,ys=as.map V.ref/\as.length=i/\(∀(j:Nat) y l,as[j]? = some y->N[j]? = some l->H8 y=some (.lst (IL l))/\y≠np)/\H8 np=some (.lst ys)/\j5 H H8) ⟨[],rfl,rfl,by simp,c9,A0 hnp⟩ ?_ ?_ ?_ ?_
 ·rintro i ys H8 ⟨_,_,_,_,h,_⟩
  exact h
 ·rintro i ys H8 _ ⟨_,_,_,_,_,s8⟩
  exact SqL.of (s8 _ _ m1)
 ·rintro i y ys H8 hy ⟨as,rfl,la,at8,hnp8,s8⟩ R hR
  rw[b6]at hy
  obtain⟨nx,hnx,rfl⟩:=z8.mp hy
  have hi:i<N.length:=by rw[<-m2];exact(gI hnx)
  ext
  refine a6z (s8 _ _ (m3 i nx _ hnx (Q3 hi))) fun q H9 hq e9 s9=>?_
  have nq:q≠np:=(c8 hnp8 hq).symm
  refine hR _ _ (s9 _ _ hnp8) (F8 (by rw[b9];omega)) ⟨as++[q],by simp,by simp[la],fun j y l g1 g2=>?_,c9,fun b o e=>by rw[i9 (c8 e hnp)];exact s9 _ _ (s8 _ _ e)⟩
  rcases a0C g1 with ⟨_,f1⟩ | ⟨hj,f1⟩
  ·obtain⟨f2,f3⟩:=at8 j y l f1 g2
   exact⟨by rw[i9 f3];exact s9 _ _ f2,f3⟩
  ·rw[hj,la,Q3 hi]at g2
   cases g2
   subst f1
   exact⟨by rw[i9 nq];exact e9,nq⟩
 ·rintro ys H8 ⟨as,rfl,la,at8,hnp8,s8⟩
  rw[b9,m2]at la
  exact k np H8 ⟨as,hnp8,la,fun i y l a b=>(at8 i y l a b).1⟩ s8
theorem b8S{K:Fg}{S:List Stp}(ha:U1 K H a S)(hb:U1 K H b S):Dq K H 2 (.ref a) (.ref b):=by
 obtain⟨vs,v1,v2,v3⟩:=ha.ex
 obtain⟨us,u1,u2,u3⟩:=hb.ex
 refine .lst (SqL.of v1) (SqL.of u1) (by simp[v2,u2]) fun j x y f1 f2=>?_
 rw[b6]at f1 f2
 cases e1:vs[j]? with
 | none=>rw[e1]at f1;cases f1
 | some v=>
  cases e2:us[j]? with
  | none=>rw[e2]at f2;cases f2
  | some u=>
   rw[e1]at f1
   rw[e2]at f2
   cases f1
   cases f2
   obtain⟨s,hs⟩:∃s,S[j]? = some s:=⟨_,c7 (by have:=(gI e1);omega)⟩
   refine .tup (v3 j v s e1 hs).sq (u3 j u s e2 hs).sq rfl fun i x y g1 g2=>?_
   rw[g1]at g2
   cases g2
   rcases i with _ | _ | i
   ·cases g1;exact .flat rfl
   ·cases g1;exact .flat rfl
   ·simp at g1
theorem c9J{K:Fg}(h:ta σ H fun x H2=>∃a,x=.ref a/\(∃xs,SqT K H2 a xs)/\R (Itt K a) H2):c8t K ta σ H R:=h
def a7a(H:Hp)(a:Addr)(xs:List V)(n:Nat):Prop:=∃zs:List Addr,H a=some (.lst (xs++zs.map V.ref))/\zs.length=n/\∀z∈zs,H z=some (.tup [.int 0,.int 0])
section
variable {K:Fg}{x:Addr}{Sp:Nat->Bool}{P:List Stp}{F O G:List Nat}{fs:List (Str×V)}{E:XK}
theorem a7a.same(h:a7a H a xs n)(s:j5 H H'):a7a H' a xs n:=let⟨zs,h1,h2,h3⟩:=h; ⟨zs,s _ _ h1,h2,fun z hz=>s _ _ (h3 z hz)⟩
theorem a7a.kept(h:a7a H a xs n)(ne:a≠b)(hB:Bag H b d)(k:E3 b H H'):a7a H' a xs n:=by
 obtain⟨zs,h1,h2,h3⟩:=h
 exact⟨zs,k.1 _ _ h1 ne,h2,fun z hz=>k.ts hB _ _ (h3 z hz)⟩
theorem a7a.put(h:a7a H a xs n)(hp:H p=some (.lst ys))(ne:a≠p){zs:List V}:a7a (upd H p (.lst zs)) a xs n:=by
 obtain⟨us,h1,h2,h3⟩:=h
 exact⟨us,by rw[i9 ne];exact h1,h2,fun z hz=>D9.put hp _ _ (h3 z hz)⟩
theorem a7a.app(h:a7a H a xs 0)(hz:H z=some (.tup [.int 0,.int 0])):H a=some (.lst xs)/\a7a (upd H a (.lst (xs++[.ref z]))) a xs 1:=by
 obtain⟨zs,h1,h2,h3⟩:=h
 obtain rfl:zs=[]:=a4D.mp h2
 have h1:H a=some (.lst xs):=by simpa using h1
 exact⟨h1,[z],c9,rfl,fun w hw=>by rw[l6.mp hw];exact D9.put h1 _ _ hz⟩
theorem a1N.kept(h:a1N c H x N rs)(hB:Bag H b d)(h2:∀l∈N,l.length<=2)(k:E3 b H H'):a1N c H' x N rs:=by
 obtain⟨dx,fs,n,r,g1,g2,g3,g4,g5,g6⟩:=h.ex
 obtain⟨bs,hb⟩:=hB.lst
 exact⟨dx,fs,n,r,k.1 _ _ g1 (K0 g1 hb (by intro z;cases z)),g2,g3.kept hB h2 k,g4,k.1 _ _ g5 (a0x hB g5),g6⟩
theorem Cho.kept(h:Cho K c H cx x dd N rs ds Do Sp B F P O Y G)(hB:Bag H b d)(h2:∀l∈N,l.length<=2)(k:E3 b H H'):Cho K c H' cx x dd N rs ds Do Sp B F P O Y G:=by
 obtain⟨dx,fs,h1,⟨a,a1,a2⟩,⟨q,b1,b2⟩,⟨r,d1,d2⟩,⟨e,e1,e2⟩⟩:=h.ex
 obtain⟨bs,hb⟩:=hB.lst
 have t:=k.ts hB
 have dk:∀ {a:Addr} {kvs:List (Key×V)},H a=some (.dK kvs)->H' a=some (.dK kvs):=fun e=>k.1 _ _ e (K0 e hb (by intro z;cases z))
 obtain⟨bd,u1,u2⟩:=h1.br
 obtain⟨fa,v1,v2⟩:=h1.fl
 exact⟨dx,fs,⟨k.1 _ _ h1.hx (K0 h1.hx hb (by intro z;cases z)),h1.lp,h1.ld,⟨bd,u1,u2.kept hB k⟩,⟨fa,v1,dk v2⟩,h1.no,h1.plan.kept hB h2 k,h1.pat.kept hB h2 k,h1.deed.ts t,h1.sat.ts t⟩,⟨a,a1,a2.kept hB k⟩,⟨q,b1,dk b2⟩,⟨r,d1,dk d2⟩,⟨e,e1,dk e2⟩⟩
theorem c5X(ck:a0v K c)(hB:Bag H b d)(h:Cho K c H cx x dd N rs ds Do Sp B F P O Y G)(h2:∀l∈N,l.length<=2)
  (k:∀f pl ol yl H',H' f=some (.tup [.ref pl,.ref ol,.ref yl])->U1 K H' pl P->H' ol=some (.lst (IL O))->H' yl=some (.lst (IL Y))->H pl=none->H ol=none->H yl=none->pl≠ol->pl≠yl->ol≠yl->Bag H' b d->E3 b H H'->Q (.ref f) H'):b0S K c [.ref b,.ref cx] H Q E:=by
 refine⟨rfl,?_⟩
 unfold c1W
 nofun
 refine Q5 hB (by decide) (by decide) fun n1 H1 _ _ B1 k1=>?_
 have h1:=h.kept hB h2 k1
 obtain⟨dx,fs,cf,_⟩:=id h1.ex
 ext
 refine a3f (fun _=>?_) (fun _=>?_)
 ·nofun
  specialize M6 ?_
  exists ⟨cx,dx,_,rfl,cf.hx,cf.no _ (by decide),?_⟩
  exists b3C ck h1 fun pl H2 hpl P2 s2=>?_
  nofun
  specialize M6 ?_
  exists ⟨cx,dx,_,rfl,s2 _ _ cf.hx,cf.no _ (by decide),?_⟩
  refine b3D ck (h1.same s2) fun ol H3 hol O3 s3=>?_
  have s13:=s2.trans s3
  ext
  nofun
  specialize M6 ?_
  exists ⟨cx,dx,_,rfl,s13 _ _ cf.hx,cf.no _ (by decide),?_⟩
  refine b0P ck (h1.same s13) fun yl H4 hyl Y4 s4=>?_
  have s14:=s13.trans s4
  ext
  refine G9 (by simp) fun f H5 hf e5 s5=>?_
  have s15:=s14.trans s5
  obtain⟨ps,p1,_,_⟩:=id P2.ex
  exact k f pl ol yl H5 e5 (((P2.same s3).same s4).same s5) (s5 _ _ (s4 _ _ O3)) (s5 _ _ Y4) (k1.none hpl) (k1.none (s2.free hol)) (k1.none (s13.free hyl)) (c8 p1 hol) (c8 (s3 _ _ p1) hyl) (c8 O3 hyl) (B1.same s15) (k1.trans (E3.of_same s15))
 ·exact_mod_cast a8G ?_
  nofun
  specialize M6 ?_
  exists ⟨cx,dx,_,rfl,cf.hx,cf.no _ (by decide),?_⟩
  exists b0P ck h1 fun yl H2 hyl Y2 s2=>?_
  nofun
  specialize M6 ?_
  exists ⟨cx,dx,_,rfl,s2 _ _ cf.hx,cf.no _ (by decide),?_⟩
  refine b3D ck (h1.same s2) fun ol H3 hol O3 s3=>?_
  have s13:=s2.trans s3
  ext
  nofun
  specialize M6 ?_
  exists ⟨cx,dx,_,rfl,s13 _ _ cf.hx,cf.no _ (by decide),?_⟩
  refine b3C ck (h1.same s13) fun pl H4 hpl P4 s4=>?_
  have s14:=s13.trans s4
  ext
  refine G9 (by simp) fun f H5 hf e5 s5=>?_
  have s15:=s14.trans s5
  exact k f pl ol yl H5 e5 (P4.same s5) (s5 _ _ (s4 _ _ O3)) (s5 _ _ (s4 _ _ (s3 _ _ Y2))) (k1.none (s13.free hpl)) (k1.none (s2.free hol)) (k1.none hyl) (c8 O3 hpl).symm (c8 (s3 _ _ Y2) hpl).symm (c8 Y2 hol).symm (B1.same s15) (k1.trans (E3.of_same s15))
theorem c3F{ta:TA}(hn:n<=400)(hta:∀R:List V->Hp->Prop,R [.int (n:Int)] H->ta σ H R)
  (htt:∀(t:Nat) H',t<n->j5 H H'->∀R:Bool->Hp->Prop,R (f t) H'->tt (some (.int (t:Int))::σ) H' R)
  (k:∀D H',H D=none->H' D=some (.lst (IL ((t8 n).filter f)))->j5 H H'->Q (.ref D) H'):V6 (a2Z ta) tt (b4 0) σ H Q:=by
 exact_mod_cast a0c (a2e ?_)
 refine hta _ ?_
 refine⟨(n:Int),rfl,by omega,by omega,fun D hD=>?_⟩
 rw[A3]
 refine b5i (J:=Itr 0 n) n (fun i ys H9=>ys=IL ((t8 i).filter f)/\H9 D=some (.lst ys)/\j5 H H9) ⟨rfl,c9,A0 hD⟩ ?_ ?_ ?_ ?_
 ·rintro i ys H9 ⟨_,h,_⟩
  exact h
 ·rintro ys H9 ⟨rfl,hd,s9⟩
  exact⟨j6 _,k D H9 hD hd s9⟩
 ·rintro i ys H9 hi _
  exact hi
 ·rintro i ys H9' hi ⟨rfl,hd,s9⟩ v H9 ⟨rfl,rfl⟩ R S' hR hS
  rw[a0a]
  have tk:(t8 (i+1)).filter f=(t8 i).filter f++if f i=true then [i] else []:=by
   rw[a0d,N4]
   congr 1
   simp only[a3v,a4x]
  refine htt i H9 hi s9 _ ?_
  cases hb:f i with
  | false=>
   rw[hb,if_neg (by decide),M4]at tk
   exact v9 rfl (hS _ ⟨by rw[tk],hd,s9⟩)
  | true=>
   rw[hb,if_pos rfl]at tk
   exists C6 rfl ?_
   have lle:((t8 i).filter f).length<=i:=by
    have h1:=o6 f (t8 i)
    rw[R1]at h1
    exact h1
   exact hR _ _ hd (F8 (by rw[F3];omega)) ⟨by rw[tk];simp[IL],c9,fun b o e=>by rw[i9 (c8 e hD)];exact s9 _ _ e⟩
end
structure Tld(K:Fg)(H:Hp)(b e f:Addr)(P:List Stp)(O Y:List Nat):Prop where
 ex:∃pl ol yl,∃ps:List Addr,H f=some (.tup [.ref pl,.ref ol,.ref yl])/\(pl≠b/\pl≠e)/\(ol≠b/\ol≠e)/\(yl≠b/\yl≠e)/\a7a H pl (ps.map V.ref) 1/\ps.length=P.length/\(∀(i:Nat) p s,ps[i]? = some p->P[i]? = some s->a0I K H p s)/\a7a H ol (IL O) 1/\a7a H yl (IL Y) 1
section
variable {K:Fg}{e x f y:Addr}{Sp:Nat->Bool}{P:List Stp}{F O G:List Nat}{E:XK}
theorem Tld.same(h:Tld K H b e f P O Y)(s:j5 H H'):Tld K H' b e f P O Y:=by
 obtain⟨pl,ol,yl,ps,h1,h2,h3,h4,h5,h6,h7,h8,h9⟩:=h.ex
 exact⟨pl,ol,yl,ps,s _ _ h1,h2,h3,h4,h5.same s,h6,fun i p s' a c=>(h7 i p s' a c).ts (j5.ts s),h8.same s,h9.same s⟩
theorem Tld.kept(h:Tld K H b e f P O Y)(hB:Bag H b d)(k:E3 b H H'):Tld K H' b e f P O Y:=by
 obtain⟨pl,ol,yl,ps,h1,h2,h3,h4,h5,h6,h7,h8,h9⟩:=h.ex
 have t:=k.ts hB
 exact⟨pl,ol,yl,ps,t _ _ h1,h2,h3,h4,h5.kept h2.1 hB k,h6,fun i p s' a c=>(h7 i p s' a c).ts t,h8.kept h3.1 hB k,h9.kept h4.1 hB k⟩
theorem d3D(hz:H z=some (.tup [.int 0,.int 0]))(hy:H y=some (.tup [.int 0,.int 0])):Dq K H (n+1) (.ref z) (.ref y):=by
 refine .tup (SqT.of hz) (SqT.of hy) rfl fun j u v e1 e2=>?_
 rw[e1]at e2
 cases e2
 rcases j with _ | _ | j
 ·cases e1;exact .flat rfl
 ·cases e1;exact .flat rfl
 ·simp at e1
theorem b7X(h:a7a H a xs 1)(he:H e=some (.lst (ys++[.ref z])))(hz:H z=some (.tup [.int 0,.int 0]))(hl:xs.length=ys.length)(hx:∀(j:Nat) u v,xs[j]? = some u->ys[j]? = some v->Dq K H (n+1) u v):Dq K H (n+1+1) (.ref a) (.ref e):=by
 obtain⟨zs,h1,h2,h3⟩:=h
 obtain⟨w,rfl⟩:∃w,zs=[w]:=by
  match zs,h2 with
  | [w],_=>exact⟨w,rfl⟩
 refine .lst (SqL.of h1) (SqL.of he) (by simp[hl]) fun j u v e1 e2=>?_
 by_cases hj:j<xs.length
 ·rw[o0 hj]at e1
  rw[o0 (by omega)]at e2
  exact hx j u v e1 e2
 ·rw[K7 (by omega)]at e1
  rw[K7 (by omega),<-hl]at e2
  cases hq:j - xs.length with
  | zero=>
   rw[hq]at e1 e2
   cases e1
   cases e2
   exact d3D (h3 w (by simp)) hz
  | succ m=>rw[hq]at e1;simp at e1
theorem c0Q(hi:σ[i]? = some (some (.ref a)))(h:a7a H a xs 0)(lx:xs.length<=2000)(k:∀z Hz,H z=none->j5 H Hz->Hz a=some (.lst xs)->a7a (upd Hz a (.lst (xs++[.ref z]))) a xs 1->D.nx σ (upd Hz a (.lst (xs++[.ref z])))):a0o (tBM K "list" V3 (b4 i) (a9 (a3c (a9 (tC (.int 0)) (a9 (tC (.int 0)) g0))) g0)) D σ H:=by
 obtain⟨zs,h1,h2,_⟩:=id h
 obtain rfl:zs=[]:=a4D.mp h2
 have h1:H a=some (.lst xs):=by simpa using h1
 exact_mod_cast b7v ?_
 exact_mod_cast a7o ?_
 refine U5 hi ?_
 exists ⟨a0g h1,?_⟩
 exists G9 (by simp) fun z Hz hz ez sz=>?_
 refine a0q (sz _ _ h1) (F8 (by omega)) ?_
 exact k z Hz hz sz (sz _ _ h1) ((h.same sz).app ez).2
theorem b1P(ck:a0v K c)(hB:Bag H b d)(h:Cho K c H cx x dd N rs ds Do Sp B F ((C4 N).filter (puF N Do B F)) (a6X N Do F) (inF N Do F) G)(hr:H ra=some (.lst (rs.map V.ref)))(lr:rs.length=N.length)(hn:L8 H na N)(hv:a1a N)(dq:a1h H dd ds)
  (k:∀H',Bag H' b d->E3 b H H'->Q (.bl true) H'):a9e K c [.ref b,.ref cx,.ref ra,.ref na,.ref dd] H Q E:=by
 have h400:=hv.le
 have lst:=a5I hv.two
 obtain⟨dx,fs,cf,_⟩:=id h.ex
 have sat:=cf.sat
 refine⟨rfl,?_⟩
 unfold c4K
 nofun
 exists G9 (by simp) fun D H1 hD e1 s1=>?_
 exact_mod_cast M9 ?_
 specialize a1o (Z6 ?_)
 refine c3r (hn.same s1) h400 hv.two fun w H2 hw W2 s2=>?_
 obtain⟨ps,w1,w2,w3⟩:=id W2.ex
 have s02:=s1.trans s2
 have ndw:D≠w:=c8 e1 hw
 refine⟨w,rfl,⟨_,SqL.of w1⟩,a4u (xs:=ps.map V.ref) (fun j σ H5=>∃y6 ts,σ=[some (.ref b),some (.ref cx),some (.ref ra),some (.ref na),some (.ref dd),some (.ref D),y6,none,none,none,none,none,none,none]/\H5 D=some (.lst ((ts:List Addr).map V.ref))/\ts.length=(((C4 N).take j).filter (puF N Do B F)).length/\(∀(i:Nat) y s,ts[i]? = some y->(((C4 N).take j).filter (puF N Do B F))[i]? = some s->a0I K H2 y s)/\H5 w=some (.lst (ps.map V.ref))/\D9 H2 H5/\j5 H H5) ?_ ?_ ?_ ?_⟩
 ·exact⟨_,[],rfl,s2 _ _ e1,rfl,(fun i y s e=>nomatch e),w1,D9.refl _,s02⟩
 ·rintro j σ H5 _ ⟨_,_,_,_,_,_,q,_⟩
  exact SqL.of q
 ·rintro j v _ H5 hy ⟨y6,ts,rfl,d5,lt5,at5,w5,t5,s5⟩
  rw[b6]at hy
  obtain⟨p,hp',rfl⟩:=z8.mp hy
  have hj:=(gI hp')
  obtain⟨s,hs'⟩:∃s,(C4 N)[j]? = some s:=⟨_,c7 (by rw[<-w2];exact hj)⟩
  have is:=a3S (mI hs')
  have st:a0I K H5 p s:=.inl (t5 _ _ (w3 j p s hp' hs'))
  have tk:=a6F (f:=puF N Do B F) hs'
  have cf5:=cf.same s5
  have skip:puF N Do B F s=false->∃y6 ts',[some (V.ref b),some (.ref cx),some (.ref ra),some (.ref na),some (.ref dd),some (.ref D),some (.ref p),none,none,none,none,none,none,none]=[some (.ref b),some (.ref cx),some (.ref ra),some (.ref na),some (.ref dd),some (.ref D),y6,none,none,none,none,none,none,none]/\H5 D=some (.lst ((ts':List Addr).map V.ref))/\ts'.length=(((C4 N).take (j+1)).filter (puF N Do B F)).length/\(∀(i:Nat) y s,ts'[i]? = some y->(((C4 N).take (j+1)).filter (puF N Do B F))[i]? = some s->a0I K H2 y s)/\H5 w=some (.lst (ps.map V.ref))/\D9 H2 H5/\j5 H H5:=fun e=>by
   rw[tk,e,if_neg (by decide),M4]
   exact⟨_,ts,rfl,d5,lt5,at5,w5,t5,s5⟩
  ext
  specialize M6 ?_
  exists ⟨cx,dx,_,rfl,cf5.hx,cf5.no _ (by decide),?_⟩
  refine b2M ck cf5 st is ?_
  refine⟨_,rfl,?_⟩
  cases hw':wtF Do B F s with
  | false=>
   refine v9 rfl ?_
   exists v9 rfl ?_
   exact skip (by unfold puF;rw[hw'];rfl)
  | true=>
   exists C6 rfl ?_
   specialize M6 ?_
   exists ⟨cx,dx,_,rfl,cf5.hx,cf5.no _ (by decide),?_⟩
   exists d0X (hn.same s5) st is ?_
   refine a2s (t:=V7 N s) ck cf5 ?_
   refine⟨_,rfl,?_⟩
   have ep:puF N Do B F s=decide (V7 N s∈F):=by unfold puF;rw[hw',a5H]
   by_cases hf:V7 N s∈F
   ·exists C6 (by rw[d5l hf];rfl) ?_
    specialize a7o ?_
    exists ⟨a0g d5,?_⟩
    have lle:(((C4 N).take j).filter (puF N Do B F)).length<=(C4 N).length:=by
     have h1:=o6 (puF N Do B F) ((C4 N).take j)
     rw[D8]at h1
     omega
    exists a0q d5 (F8 (by rw[b9];omega)) ?_
    rw[ep,d5l hf,if_pos rfl]at tk
    refine⟨_,ts++[p],rfl,by rw[c9,E1];rfl,by rw[tk,o5,o5,lt5];rfl,fun i y u f1 f2=>?_,by rw[i9 (Ne.symm ndw)];exact w5,fun q ys e=>D9.put d5 _ _ (t5 _ _ e),fun q o e=>by rw[i9 (c8 e hD)];exact s5 _ _ e⟩
    rw[tk]at f2
    rcases a0C f1 with ⟨j1,j2⟩ | ⟨j1,j2⟩
    ·rw[o0 (by omega)]at f2
     exact at5 i y u j2 f2
    ·rw[j1,lt5,K7 (j6 _),c4b]at f2
     cases f2
     subst j2
     exact .inl (w3 j _ s hp' hs')
   ·exists v9 (by rw[d5k hf];rfl) ?_
    exact skip (by rw[ep];exact d5k hf)
 rintro _ H5 ⟨y6,ts,rfl,d5,lt5,at5,_,t5,s05⟩
 rw[b9,w2,G0]at lt5 at5
 have P5:U1 K H5 D ((C4 N).filter (puF N Do B F)):=⟨ts,d5,lt5,fun i y s e1 e2=>(at5 i y s e1 e2).ts t5⟩
 ext
 exact_mod_cast M9 ?_
 refine b4z ?_
 refine c3F (n:=N.length) (f:=Do) h400 (fun R hR=>?_) (fun t H' ht s' R hR=>?_) fun ga H6 hga e6 s6=>?_
 ·ext
  refine O5 (s05 _ _ hr) ?_
  rw[b9,lr]
  exact hR
 ·have s0':=s05.trans s'
  obtain⟨rx,hrx⟩:∃rx,rs[t]? = some rx:=⟨_,c7 (by omega)⟩
  obtain⟨xs,y1,y2,y3⟩:=(sat.ts (j5.ts s0')) t rx hrx
  ext
  exists O1 (s0' _ _ hr) (a0z (by rw[b6,hrx];rfl)) ?_
  refine b9C y1 (dq.ts (j5.ts s0')) ?_
  rw[y2]
  exact⟨_,rfl,hR⟩
 have s06:=s05.trans s6
 have lD:((t8 N.length).filter Do).length<=2000:=by
  have:=o6 Do (t8 N.length)
  rw[R1]at this
  omega
 ext
 exact_mod_cast M9 ?_
 refine b4z ?_
 refine b1o (L:=(t8 N.length).filter Do) (f:=fun t => !(!decide (t∈F))) lD (fun R hR=>U5 rfl (hR ga H6 e6 (j5.refl _))) (fun t H' ht s' R hR=>?_) fun oa H7 hoa e7 s7=>?_
 ·have cf':=cf.same (s06.trans s')
  ext
  specialize M6 ?_
  exists ⟨cx,dx,_,rfl,cf'.hx,cf'.no _ (by decide),?_⟩
  refine a2s (t:=t) ck cf' ?_
  exact⟨_,rfl,hR⟩
 have s07:=s06.trans s7
 ext
 exact_mod_cast M9 ?_
 refine b4z ?_
 refine b1o (L:=(t8 N.length).filter Do) (f:=fun t => !decide (t∈F)) lD (fun R hR=>U5 rfl (hR ga H7 (s7 _ _ e6) (j5.refl _))) (fun t H' ht s' R hR=>?_) fun ya H8 hya e8 s8=>?_
 ·have cf':=cf.same (s07.trans s')
  ext
  specialize M6 ?_
  exists ⟨cx,dx,_,rfl,cf'.hx,cf'.no _ (by decide),?_⟩
  refine a2s (t:=t) ck cf' ?_
  exact⟨_,rfl,hR⟩
 have s08:=s07.trans s8
 have s58:=(s6.trans s7).trans s8
 have B8:=hB.same s08
 have P8:=P5.same s58
 have O8:H8 oa=some (.lst (IL (a6X N Do F))):=s8 _ _ e7
 have Y8:H8 ya=some (.lst (IL (inF N Do F))):=e8
 have noa:oa≠b:=((hB.same s06).nb hoa).1
 have nya:ya≠b:=((hB.same s07).nb hya).1
 have C8:=h.same s08
 have k08:E3 b H H8:=E3.of_same s08
 ext
 nofun
 refine G9 (by simp) fun ea H9 hea e9 s9=>?_
 have nea:=B8.nb hea
 ext
 exact_mod_cast M9 ?_
 specialize a1o (a2e ?_)
 refine⟨2,rfl,by omega,by omega,?_⟩
 refine a1k (fun i σ Hi=>∃y11 y12 y13,∃fl:List Addr,σ=[some (.ref b),some (.ref cx),some (.ref ra),some (.ref na),some (.ref dd),some (.ref D),y6,some (.ref ga),some (.ref oa),some (.ref ya),some (.ref ea),y11,y12,y13]/\Hi ea=some (.lst (fl.map V.ref))/\fl.length=i/\(∀f∈fl,Tld K Hi b ea f ((C4 N).filter (puF N Do B F)) (a6X N Do F) (inF N Do F))/\Bag Hi b d/\E3 b H8 Hi) ⟨_,_,_,[],rfl,e9,rfl,by simp,B8.same s9,E3.of_same s9⟩ ?_ ?_
 ·rintro i _ Hi hi ⟨y11,y12,y13,fl,rfl,ei,li,tl,Bi,ki⟩
  ext
  nofun
  refine c5X ck Bi (C8.kept B8 hv.two ki) hv.two fun f pl ol yl H10 f10 P10 O10 Y10 hpl hol hyl n1 n2 n3 B10 k10=>?_
  have k810:=ki.trans k10
  have npl:pl≠b:=(Bi.nb hpl).1
  have nol:ol≠b:=(Bi.nb hol).1
  have nyl:yl≠b:=(Bi.nb hyl).1
  have nple:ea≠pl:=c8 ei hpl
  have nole:ea≠ol:=c8 ei hol
  have nyle:ea≠yl:=c8 ei hyl
  have ei10:=k10.1 _ _ ei nea.1
  have tl10:∀f∈fl,Tld K H10 b ea f ((C4 N).filter (puF N Do B F)) (a6X N Do F) (inF N Do F):=fun f hf=>(tl f hf).kept Bi k10
  ext
  nofun
  exists a0e f10 (a3g _ _) ?_
  refine b7g P10 ⟨_,rfl,?_⟩
  exists v9 rfl ?_
  exists a0e f10 (a3g _ _) ?_
  refine⟨pl,D,2,rfl,rfl,by decide,b8S P10 (P8.kept B8 k810),?_⟩
  refine⟨_,rfl,?_⟩
  exists v9 rfl ?_
  nofun
  exists a0e f10 (b0s _ _ _) ?_
  refine b2W O10 (k810.1 _ _ O8 noa) fun H11 s11=>⟨_,rfl,?_⟩
  exists v9 rfl ?_
  exists a0e (s11 _ _ f10) (c3X _ _ _ _) ?_
  refine b2W (s11 _ _ Y10) (s11 _ _ (k810.1 _ _ Y8 nya)) fun H12 s12=>⟨_,rfl,?_⟩
  exists v9 rfl ?_
  have s1012:=s11.trans s12
  have f12:=s1012 _ _ f10
  have P12:=P10.same s1012
  obtain⟨qs,q1,q2,q3⟩:=id P12.ex
  exact_mod_cast M9 ?_
  specialize a1o (c9J ?_)
  refine⟨f,rfl,⟨_,SqT.of f12⟩,?_⟩
  refine b2X 3 (fun j σ Hj=>∃y13,σ=[some (.ref b),some (.ref cx),some (.ref ra),some (.ref na),some (.ref dd),some (.ref D),y6,some (.ref ga),some (.ref oa),some (.ref ya),some (.ref ea),some (.int ((0:Int)+(i:Int))),some (.ref f),y13]/\a7a Hj pl (qs.map V.ref) (if 0<j then 1 else 0)/\a7a Hj ol (IL (a6X N Do F)) (if 1<j then 1 else 0)/\a7a Hj yl (IL (inF N Do F)) (if 2<j then 1 else 0)/\Bag Hj b d/\D9 H12 Hj/\E3 b Hi Hj/\Hj ea=some (.lst (fl.map V.ref))) ⟨_,rfl,⟨[],by simpa using q1,rfl,by simp⟩,⟨[],by simpa using s1012 _ _ O10,rfl,by simp⟩,⟨[],by simpa using s1012 _ _ Y10,rfl,by simp⟩,B10.same s1012,D9.refl _,k10.trans (E3.of_same s1012),s1012 _ _ ei10⟩ ?_ ?_ ?_
  ·rintro _ Hj ⟨y13,rfl,z1,z2,z3,Bj,tj,kj,ej⟩
   exists ⟨⟨_,SqT.of (tj _ _ f12),by simp⟩,?_⟩
   specialize a7o ?_
   exists ⟨a0g ej,?_⟩
   exists a0q ej (F8 (by rw[b9];omega)) ?_
   have tj':D9 Hj (upd Hj ea (.lst (fl.map V.ref++[.ref f]))):=D9.put ej
   refine⟨_,_,_,fl++[f],rfl,by rw[c9,E1];rfl,by simp[li],fun g hg=>?_,Bj.put nea.1 nea.2,(ki.trans kj).put hea⟩
   rcases u4.mp hg with q | q
   ·obtain⟨pl',ol',yl',ps',h1,h2,h3,h4,h5,h6,h7,h8,h9⟩:=((tl g q).kept Bi kj).ex
    exact⟨pl',ol',yl',ps',tj' _ _ h1,h2,h3,h4,h5.put ej h2.2,h6,fun i p s a c=>(h7 i p s a c).ts tj',h8.put ej h3.2,h9.put ej h4.2⟩
   ·rw[l6.mp q]
    exact⟨pl,ol,yl,qs,tj' _ _ (tj _ _ f12),⟨npl,nple.symm⟩,⟨nol,nole.symm⟩,⟨nyl,nyle.symm⟩,z1.put ej nple.symm,q2,fun i p s a c=>((q3 i p s a c).ts tj).ts tj',z2.put ej nole.symm,z3.put ej nyle.symm⟩
  ·rintro j _ Hj hj ⟨y13,rfl,z1,z2,z3,Bj,tj,kj,ej⟩
   exact⟨_,([V.ref pl,V.ref ol,V.ref yl])[j]'(by simpa using hj),SqT.of (tj _ _ f12),by simp⟩
  ·rintro j _ Hj hj ⟨y13,rfl,z1,z2,z3,Bj,tj,kj,ej⟩ v Hj' ⟨rfl,gv⟩
   have gv:=gv _ (SqT.of (tj _ _ f12))
   rcases j with _ | _ | _ | j
   ·cases gv
    ext
    refine c0Q (xs:=qs.map V.ref) rfl (by exact z1) (by rw[b9,q2];have:=o6 (puF N Do B F) (C4 N);omega) fun z Hz hz sz e0 z1'=>?_
    exact⟨_,rfl,z1',(z2.same sz).put e0 n1.symm,(z3.same sz).put e0 n2.symm,(Bj.same sz).put (Bi.nb hpl).1 (Bi.nb hpl).2,fun q ys e=>D9.put e0 _ _ (sz _ _ (tj _ _ e)),(kj.trans (E3.of_same sz)).put hpl,by rw[i9 nple];exact sz _ _ ej⟩
   ·cases gv
    ext
    refine c0Q (xs:=IL (a6X N Do F)) rfl (by exact z2) (by rw[F3];exact D4 (o6 _ _) lD) fun z Hz hz sz e0 z2'=>?_
    exact⟨_,rfl,(z1.same sz).put e0 n1,z2',(z3.same sz).put e0 n3.symm,(Bj.same sz).put (Bi.nb hol).1 (Bi.nb hol).2,fun q ys e=>D9.put e0 _ _ (sz _ _ (tj _ _ e)),(kj.trans (E3.of_same sz)).put hol,by rw[i9 nole];exact sz _ _ ej⟩
   ·cases gv
    ext
    refine c0Q (xs:=IL (inF N Do F)) rfl (by exact z3) (by rw[F3];exact D4 (o6 _ _) lD) fun z Hz hz sz e0 z3'=>?_
    exact⟨_,rfl,(z1.same sz).put e0 n2,(z2.same sz).put e0 n3,z3',(Bj.same sz).put (Bi.nb hyl).1 (Bi.nb hyl).2,fun q ys e=>D9.put e0 _ _ (sz _ _ (tj _ _ e)),(kj.trans (E3.of_same sz)).put hyl,by rw[i9 nyle];exact sz _ _ ej⟩
   ·omega
 ·rintro _ Hi ⟨y11,y12,y13,fl,rfl,ei,li,tl,Bi,ki⟩
  obtain⟨f0,r,rfl⟩:∃f0 r,fl=f0::r:=by
   match fl,li with
   | f0::r,_=>exact⟨f0,r,rfl⟩
  have T0:=tl f0 (by simp)
  have Pi:=P8.kept B8 ki
  obtain⟨us,u1,u2,u3⟩:=id Pi.ex
  have Oi:=ki.1 _ _ O8 noa
  have Yi:=ki.1 _ _ Y8 nya
  have lP:us.length<=2000:=by
   have:=o6 (puF N Do B F) (C4 N)
   omega
  have lO:(a6X N Do F).length<=2000:=D4 (o6 _ _) lD
  have lY:(inF N Do F).length<=2000:=D4 (o6 _ _) lD
  ext
  exists O1 ei (a3g _ _) ?_
  exists G9 (by simp) fun x1 J1 _ g1 r1=>?_
  exists G9 (by simp) fun x2 J2 _ g2 r2=>?_
  have r12:=r1.trans r2
  refine b7z (r12 _ _ u1) g2 (G9 (by rw[b9];simp;omega) fun a1 J3 _ g3 r3=>?_)
  have r13:=r12.trans r3
  ext
  exists G9 (by simp) fun x4 J4 _ g4 r4=>?_
  exists G9 (by simp) fun x5 J5 _ g5 r5=>?_
  have r35:=r4.trans r5
  have r15:=r13.trans r35
  refine b7z (r15 _ _ Oi) g5 (G9 (by rw[F3];simp;omega) fun a2 J6 _ g6 r6=>?_)
  have r36:=r35.trans r6
  have r16:=r15.trans r6
  ext
  exists G9 (by simp) fun x7 J7 _ g7 r7=>?_
  exists G9 (by simp) fun x8 J8 _ g8 r8=>?_
  have r68:=r7.trans r8
  have r18:=r16.trans r68
  refine b7z (r18 _ _ Yi) g8 (G9 (by rw[F3];simp;omega) fun a3 J9 _ g9 r9=>?_)
  have r69:=r68.trans r9
  have r19:=r18.trans r9
  ext
  refine G9 (by simp) fun tt J10 _ g10 r10=>?_
  have r110:=r19.trans r10
  have r610:=r69.trans r10
  have r310:=r36.trans r610
  obtain⟨pl,ol,yl,ps',h1,_,_,_,h5,h6,h7,h8,h9⟩:=(T0.same r110).ex
  have il:∀ {X:List Nat} (j:Nat) u v,(IL X)[j]? = some u->(IL X)[j]? = some v->Dq K J10 1 u v:=fun {X} j u v e1 e2=>by
   rw[e1]at e2
   cases e2
   unfold IL at e1
   rw[b6]at e1
   obtain⟨_,_,rfl⟩:=z8.mp e1
   exact .flat rfl
  refine⟨f0,tt,3,rfl,rfl,by decide,?_,k J10 (Bi.same r110) ((k08.trans ki).trans (E3.of_same r110))⟩
  refine .tup (SqT.of h1) (SqT.of g10) rfl fun j u v e1 e2=>?_
  rcases j with _ | _ | _ | j
  ·cases e1
   cases e2
   refine b7X (n:=0) h5 (r310 _ _ g3) ((r2.trans (r3.trans r310)) _ _ g1) (by rw[b9,b9,h6,u2]) fun j u v e1 e2=>?_
   rw[b6]at e1 e2
   obtain⟨p1,q1,rfl⟩:=z8.mp e1
   obtain⟨p2,q2,rfl⟩:=z8.mp e2
   obtain⟨s,hs⟩:∃s,((C4 N).filter (puF N Do B F))[j]? = some s:=⟨_,c7 (by have:=(gI q1);omega)⟩
   refine .tup (h7 j p1 s q1 hs).sq ((u3 j p2 s q2 hs).ts (j5.ts r110)).sq rfl fun i x y g1 g2=>?_
   rw[g1]at g2
   cases g2
   rcases i with _ | _ | i
   ·cases g1;exact .flat rfl
   ·cases g1;exact .flat rfl
   ·simp at g1
  ·cases e1
   cases e2
   exact b7X (n:=0) h8 (r610 _ _ g6) ((r5.trans (r6.trans r610)) _ _ g4) rfl il
  ·cases e1
   cases e2
   exact b7X (n:=0) h9 (r10 _ _ g9) ((r8.trans (r9.trans r10)) _ _ g7) rfl il
  ·simp at e1
end
section
variable {K:Fg}{c1 c2 x:Addr}{Sp:Nat->Bool}{B' P P':List Stp}{F F' O O' Y' G G':List Nat}{E:XK}
theorem c6m{e:Addr}{X:List Nat}(h1:H a=some (.lst (IL X)))(h2:H e=some (.lst (IL X)))(k:Q (.bl true) H):qEq (.ref a) (.ref e) H Q:=by
 refine⟨_,c2n h1 h2 (b3M _) (b3M _),?_⟩
 rw[b9J _ (b3M _)]
 exact k
theorem b9O(ck:a0v K c)(h1:Cho K c H c1 x dd N rs ds Do Sp B F P O Y G)(h2:Cho K c H c2 x dd N rs ds Do Sp B' F' P' O Y' G')(hi:σ[i]? = some (some (.ref c1)))(hj:σ[j]? = some (some (.ref c2)))(k:∀H',j5 H H'->Q (.bl true) H'):tOp qEq (F7 c.o4 "outs" (S0 K) [] E0 (b4 i) g0) (F7 c.o4 "outs" (S0 K) [] E0 (b4 j) g0) σ H Q:=by
 obtain⟨dx1,fs1,f1,_⟩:=id h1.ex
 obtain⟨dx2,fs2,f2,_⟩:=id h2.ex
 refine b9c (M6 (U5 hi ⟨c1,dx1,_,rfl,f1.hx,f1.no _ (by decide),a2Y ?_⟩))
 refine b3D ck h1 fun a H3 _ e3 s3=>?_
 refine M6 (U5 hj ⟨c2,dx2,_,rfl,s3 _ _ f2.hx,f2.no _ (by decide),a2Y ?_⟩)
 exact b3D ck (h2.same s3) fun e H4 _ e4 s4=>c6m (s4 _ _ e3) e4 (k H4 (s3.trans s4))
theorem b6K(ck:a0v K c)(h1:Cho K c H c1 x dd N rs ds Do Sp B F P O Y G)(h2:Cho K c H c2 x dd N rs ds Do Sp B' F' P' O' Y G')(hi:σ[i]? = some (some (.ref c1)))(hj:σ[j]? = some (some (.ref c2)))(k:∀H',j5 H H'->Q (.bl true) H'):tOp qEq (F7 c.o4 "stays" (P7 K) [] E0 (b4 i) g0) (F7 c.o4 "stays" (P7 K) [] E0 (b4 j) g0) σ H Q:=by
 obtain⟨dx1,fs1,f1,_⟩:=id h1.ex
 obtain⟨dx2,fs2,f2,_⟩:=id h2.ex
 refine b9c (M6 (U5 hi ⟨c1,dx1,_,rfl,f1.hx,f1.no _ (by decide),a2Y ?_⟩))
 refine b0P ck h1 fun a H3 _ e3 s3=>?_
 refine M6 (U5 hj ⟨c2,dx2,_,rfl,s3 _ _ f2.hx,f2.no _ (by decide),a2Y ?_⟩)
 exact b0P ck (h2.same s3) fun e H4 _ e4 s4=>c6m (s4 _ _ e3) e4 (k H4 (s3.trans s4))
theorem b5l(ck:a0v K c)(lY:Y.length<=400)(h1:Cho K c H c1 x dd N rs ds Do Sp B F P O Y G)(h2:Cho K c H c2 x dd N rs ds Do Sp B' F' P' O' Y G')(eG:∀t,t∈G↔t∈G')(hi:σ[i]? = some (some (.ref c1)))(hj:σ[j]? = some (some (.ref c2)))(k:∀H',j5 H H'->Q (.bl true) H'):tOp qEq (F7 c.o4 "stores" (U0 K) [] E0 (b4 i) g0) (F7 c.o4 "stores" (U0 K) [] E0 (b4 j) g0) σ H Q:=by
 obtain⟨dx1,fs1,f1,_⟩:=id h1.ex
 obtain⟨dx2,fs2,f2,_⟩:=id h2.ex
 refine b9c (M6 (U5 hi ⟨c1,dx1,_,rfl,f1.hx,f1.no _ (by decide),a2Y ?_⟩))
 refine b6w ck h1 lY fun a H3 _ e3 s3=>?_
 refine M6 (U5 hj ⟨c2,dx2,_,rfl,s3 _ _ f2.hx,f2.no _ (by decide),a2Y ?_⟩)
 refine b6w ck (h2.same s3) lY fun e H4 _ e4 s4=>?_
 have eg:(Y.filter fun t=>decide (t∈G))=Y.filter fun t=>decide (t∈G'):=a4Z fun t _=>decide_eq_decide.mpr (eG t)
 rw[eg]at e3
 exact c6m (s4 _ _ e3) e4 (k H4 (s3.trans s4))
theorem b9N(ck:a0v K c)(h1:Cho K c H c1 x dd N rs ds Do Sp B F P O Y G)(h2:Cho K c H c2 x dd N rs ds Do Sp B' F' P O' Y' G')(hi:σ[i]? = some (some (.ref c1)))(hj:σ[j]? = some (some (.ref c2)))(k:∀H',j5 H H'->Q (.bl true) H'):tOp (c2Y K) (F7 c.o4 "puts" (R8 K) [] E0 (b4 i) g0) (F7 c.o4 "puts" (R8 K) [] E0 (b4 j) g0) σ H Q:=by
 obtain⟨dx1,fs1,f1,_⟩:=id h1.ex
 obtain⟨dx2,fs2,f2,_⟩:=id h2.ex
 refine b9c (M6 (U5 hi ⟨c1,dx1,_,rfl,f1.hx,f1.no _ (by decide),a2Y ?_⟩))
 refine b3C ck h1 fun a H3 _ e3 s3=>?_
 refine M6 (U5 hj ⟨c2,dx2,_,rfl,s3 _ _ f2.hx,f2.no _ (by decide),a2Y ?_⟩)
 exact b3C ck (h2.same s3) fun e H4 _ e4 s4=>⟨a,e,2,rfl,rfl,by decide,b8S (e3.same s4) e4,k H4 (s3.trans s4)⟩
theorem b9K(ck:a0v K c)(hB:Bag H b d)(hp:a1N c H x N rs)(hq:a6I c H x N rs)(hz:a0O K c H x N)(hv:a1a N)(dq:a1h H dd ds)(dn:a6i H dd)(sat:a5G H rs ds Do Sp)(hL:H la=some (.lst (IL L)))(lL:L.length<=400)(ltL:∀t∈L,t<N.length)(h:Cho K c H cx x dd N rs ds Do Sp B F ((C4 N).filter (puF N Do B F)) (a6X N Do F) (inF N Do F) G)(bk:BkL N Do Sp B)(al:∀t,t∈F↔Fal N Do B L t)(lv:∀t,t∈G↔Liv N ((C4 N).filter (puF N Do B F)) (a6X N Do F) (inF N Do F) t)
  (k:∀H',Bag H' b d->E3 b H H'->Q (.bl true) H'):a8E K c [.ref b,.ref x,.ref dd,.ref la,.ref cx] H Q E:=by
 have h400:=hv.le
 refine⟨rfl,?_⟩
 unfold c1X
 exact_mod_cast M9 ?_
 exact_mod_cast b9e ?_
 refine b2S ck hp hq hz hv dq dn sat ltL lL rfl rfl (fun R hR=>c7k (a0p (U5 rfl (a2Y (a6z hL fun l H'' _ e'' s''=>hR l H'' e'' s''))))) fun c2 H1 B' F' G' hc2 bk2 al2 lv2 C1 s1=>?_
 obtain rfl:=bk.uniq hv bk2
 have eF:∀t,decide (t∈F')=decide (t∈F):=fun t=>decide_eq_decide.mpr ((al2 t).trans (al t).symm)
 have eP:(C4 N).filter (puF N Do B F')=(C4 N).filter (puF N Do B F):=a4Z fun s _=>by unfold puF wtF;rw[eF,eF]
 have eO:a6X N Do F'=a6X N Do F:=a4Z fun t _=>by rw[eF]
 have eY:inF N Do F'=inF N Do F:=a4Z fun t _=>by rw[eF]
 rw[eP,eO,eY]at lv2 C1
 have eG:∀t,t∈G'↔t∈G:=fun t=>(lv2 t).trans (lv t).symm
 have lY:(inF N Do F).length<=400:=by
  refine D4 (o6 _ _) ?_
  have:=o6 Do (t8 N.length)
  rw[R1]at this
  omega
 have B1:=hB.same s1
 ext
 nofun
 refine Q5 B1 (by decide) (by decide) fun n2 H2 _ _ B2 k2=>?_
 have C2:=C1.kept B1 hv.two k2
 have h2:=(h.same s1).kept B1 hv.two k2
 have k02:=(E3.of_same (b:=b) s1).trans k2
 have fin:∀H',j5 H2 H'->Q (.bl true) H':=fun H' s'=>k H' (B2.same s') (k02.trans (E3.of_same s'))
 ext
 nofun
 refine a3f (fun _=>?_) (fun _=>?_)
 ·exact_mod_cast b4B ?_
  exact_mod_cast b4F ?_
  exists b9O ck C2 h2 rfl rfl fun H3 s3=>?_
  refine C6 rfl ?_
  exact b6K ck (C2.same s3) (h2.same s3) rfl rfl fun H4 s4=>fin H4 (s3.trans s4)
 exact_mod_cast a8G ?_
 nofun
 refine a3f (fun _=>?_) (fun _=>?_)
 ·exact_mod_cast b4B ?_
  exact_mod_cast b4F ?_
  exists b6K ck C2 h2 rfl rfl fun H3 s3=>?_
  refine C6 rfl ?_
  exact b9N ck (C2.same s3) (h2.same s3) rfl rfl fun H4 s4=>fin H4 (s3.trans s4)
 exact_mod_cast a8G ?_
 nofun
 refine a3f (fun _=>?_) (fun _=>?_)
 ·exact_mod_cast b4B ?_
  exact_mod_cast b4F ?_
  exists b5l ck lY C2 h2 eG rfl rfl fun H3 s3=>?_
  refine C6 rfl ?_
  exact b9O ck (C2.same s3) (h2.same s3) rfl rfl fun H4 s4=>fin H4 (s3.trans s4)
 exact_mod_cast a8G ?_
 exact_mod_cast b4B ?_
 exact_mod_cast b4F ?_
 exists b9N ck C2 h2 rfl rfl fun H3 s3=>?_
 refine C6 rfl ?_
 exact b5l ck lY (C2.same s3) (h2.same s3) eG rfl rfl fun H4 s4=>fin H4 (s3.trans s4)
end
theorem law_reading(K:Fg)(hl:ns.length<=63)(hO:c8I H)(hS:SqL K H a (ns.map V.int)):b4p K [.ref a] H (fun v _=>v=.bl true) (fun _ _ _=>False):=by
 have p64:(2:Int) ^ 64=18446744073709551616:=by decide
 have nmA:NmS "a" := ⟨by decide +kernel,by decide +kernel⟩
 have nmB:NmS "k0" := ⟨by decide +kernel,by decide +kernel⟩
 refine⟨rfl,fun c ck=>?_⟩
 unfold c4O
 nofun
 refine d1r hS hl fun b d H1 B1 s1 _=>?_
 ext
 nofun
 refine c7B B1 fun p1 ra na da N H2 e2 R2 T2 P2 hv l24 nra nna B2 k2=>?_
 refine⟨p1,_,rfl,SqT.of e2,rfl,_,_,rfl,_,_,rfl,_,_,rfl,rfl,?_⟩
 obtain⟨ps,hps,nps,lps,dps⟩:=id P2.ex
 obtain⟨rs,hrs,lrs,_⟩:=id R2.ex
 have pos:=hv.pos
 nofun
 specialize a7o ?_
 refine⟨a0g hps,?_⟩
 ext
 refine G9 (by simp) fun n3 H3 hn3 e3 s3=>?_
 ext
 have B3:=B2.same s3
 refine c2p (E:=E0) B3 ⟨["a","k0"],e3,by simp,by simp,fun s hs=>by
  rcases u5.mp hs with rfl | hs
  ·exact nmA
  ·rw[l6.mp hs];exact nmB⟩ fun dp H4 hdp hdn B4 k4=>?_
 ext
 have hps4:H4 da=some (.lst (ps.map V.ref)):=k4.1 _ _ (s3 _ _ hps) (a0x B3 (s3 _ _ hps))
 refine a0q hps4 (F8 (by rw[b9];omega)) ?_
 have ea:ps.map V.ref++[V.ref dp]=(ps++[dp]).map V.ref:=by rw[E1];rfl
 rw[ea]
 obtain⟨H5,hH5⟩:∃H5,H5=upd H4 da (.lst ((ps++[dp]).map V.ref)):=⟨_,rfl⟩
 rw[<-hH5]
 have t5:D9 H4 H5:=hH5 ▸ D9.put hps4
 have hda5:H5 da=some (.lst ((ps++[dp]).map V.ref)):=hH5 ▸ c9
 have R5:a0E H5 ra N:=hH5 ▸ ((R2.same s3).kept B3 k4).app hps4 nra
 have T5:L8 H5 na N:=hH5 ▸ ((T2.same s3).kept B3 hv.two k4).app hps4 nps nna
 have hra5:H5 ra=some (.lst (rs.map V.ref)):=by
  rw[hH5,i9 nra]
  exact k4.1 _ _ (s3 _ _ hrs) (a0x B3 (s3 _ _ hrs))
 have hd5:∀q∈ps++[dp],a6i H5 q:=fun q hq=>by
  rcases u4.mp hq with hq | hq
  ·exact(((dps q hq).ts (j5.ts s3)).ts (k4.ts B3)).ts t5
  ·have:q=dp:=by simpa using hq
   subst this
   exact hdp.ts t5
 have B5:Bag H5 b d:=by
  rw[hH5]
  refine B4.put (a0x B4 hps4) fun z=>?_
  obtain⟨i0,i1,i2,nsb,hb,hc,_⟩:=B4.ex
  rw[<-z,hps4]at hc
  have hc:=HO.lst.inj (Option.some.inj hc)
  cases ps with
  | nil=>exact nps rfl
  | cons p0 ps0=>
   cases nsb with
   | nil=>cases hc
   | cons n0 nsb=>cases hc
 have lq:0<(ps++[dp]).length/\(ps++[dp]).length<=9:=⟨by simp,by simp;omega⟩
 generalize ps++[dp]=qs at hda5 hd5 lq
 obtain⟨lq0,lq9⟩:=lq
 nofun
 exists O5 hda5 ?_
 rw[b9]
 refine Q5 (E:=E0) B5 (by omega) (by omega) fun n1 H6 a0 a1 B6 k6=>?_
 obtain⟨n,rfl⟩:∃n:Nat,n1=(n:Int):=⟨n1.toNat,by omega⟩
 obtain⟨q1,hq1⟩:∃q1,qs[n]? = some q1:=⟨_,c7 (by omega)⟩
 have hda6:=k6.1 _ _ hda5 (a0x B5 hda5)
 exists O1 hda6 (a0z (by rw[b6,hq1];rfl)) ?_
 nofun
 exists O5 hda6 ?_
 rw[b9]
 refine Q5 (E:=E0) B6 (by omega) (by omega) fun m1 H7 b0 b1 B7 k7=>?_
 obtain⟨m,rfl⟩:∃m:Nat,m1=(m:Int):=⟨m1.toNat,by omega⟩
 obtain⟨q2,hq2⟩:∃q2,qs[m]? = some q2:=⟨_,c7 (by omega)⟩
 exists O1 (k7.1 _ _ hda6 (a0x B6 hda6)) (a0z (by rw[b6,hq2];rfl)) ?_
 have k57:=k6.trans k7
 have R7:=R5.kept B5 k57
 have T7:=T5.kept B5 hv.two k57
 have hra7:=k57.1 _ _ hra5 (a0x B5 hra5)
 have D1:=(hd5 q1 (mI hq1)).ts (k57.ts B5)
 have D2:=(hd5 q2 (mI hq2)).ts (k57.ts B5)
 nofun
 specialize b4C ?_
 refine a6z hra7 fun ra' H8 hra' e8 s8=>?_
 ext
 refine c1C (T7.same s8) hv.le rfl fun na' H9 T9 s9=>?_
 ext
 intro x dx hx hdx hne
 have sm:j5 H9 (upd (upd H9 dx (.own x)) x (.ins c.P0 dx [])):=fun b o e=>by
  rw[i9 (c8 e hx),i9 (c8 e hdx)];exact e
 obtain⟨H10,hH10⟩:∃H10,H10=upd (upd H9 dx (.own x)) x (.ins c.P0 dx []):=⟨_,rfl⟩
 have x10:H10 x=some (.ins c.P0 dx []):=hH10 ▸ c9
 rw[<-hH10]at sm ⊢
 have s79:=s8.trans s9
 have s710:=s79.trans sm
 have R9:a0E H9 ra' N:=by
  obtain⟨rs',q1,q2,q3⟩:=id (R7.same s79).ex
  rw[s79 _ _ hra7]at q1
  obtain rfl:rs'=rs:=(a7e (f:=V.ref) (fun a b h=>V.ref.inj h) |>.mp (HO.lst.inj (Option.some.inj q1))).symm
  exact⟨rs',s9 _ _ e8,q2,q3⟩
 refine b7E (E:=E0) ck (sm _ _ (s9 _ _ e8)) (R9.same sm) (T9.same sm) hv x10 fun H11 pz old=>⟨rfl,?_⟩
 have s711:j5 H7 H11:=fun b o e=>old b o (s710 _ _ e) (c8 (s79 _ _ e) hx)
 have h400:=hv.le
 have B11:=B7.same s711
 have T11:=T7.same s711
 have R11:=R7.same s711
 have hra11:=s711 _ _ hra7
 have D1':=D1.ts (j5.ts s711)
 have D2':=D2.ts (j5.ts s711)
 ext
 nofun
 exists O5 hra11 ?_
 rw[b9,lrs]
 refine c8v (E:=E0) B11 pos h400 fun la L H12 nla e12 lL hL B12 k12=>?_
 ext
 have t12:=k12.ts B11
 have pz12:=pz.kept B11 hv.two k12
 have hra12:=k12.1 _ _ hra11 (a0x B11 hra11)
 have T12:=T11.kept B11 hv.two k12
 have R12:=R11.kept B11 k12
 have D1:=D1'.ts t12
 have D2:=D2'.ts t12
 obtain⟨ds1,dq1⟩:=D1.q
 obtain⟨ds2,dq2⟩:=D2.q
 obtain⟨Do1,Sp1,sat1⟩:=a5G.ex R12 hra12 ds1
 obtain⟨Do2,Sp2,sat2⟩:=a5G.ex R12 hra12 ds2
 exact_mod_cast M9 ?_
 exact_mod_cast b9e ?_
 refine b2S ck pz12.r pz12.q pz12.at hv dq1 D1 sat1 hL lL rfl rfl (fun R hR=>c7k (a0p (U5 rfl (a2Y (a6z e12 fun l H'' _ e'' s''=>hR l H'' e'' s''))))) fun c1 H13 B1' F1 G1 hc1 bk1 al1 lv1 C1 s13=>?_
 ext
 exact_mod_cast M9 ?_
 exact_mod_cast b9e ?_
 have pz13:=pz12.same s13
 refine b7O ck pz13.r pz13.q pz13.at hv (dq2.ts (j5.ts s13)) (D2.ts (j5.ts s13)) (sat2.ts (j5.ts s13)) rfl rfl fun c2 H14 B2' F2 G2 hc2 bk2 al2 lv2 C2 s14=>?_
 ext
 have s1214:=s13.trans s14
 have B14:=B12.same s1214
 have pz14:=pz12.same s1214
 have C1:=C1.same s14
 have hra14:=s1214 _ _ hra12
 have T14:=T12.same s1214
 have t14:=j5.ts s1214
 have e14:=s1214 _ _ e12
 nofun
 refine b1P (E:=E0) ck B14 C1 hra14 lrs T14 hv (dq1.ts t14) fun H15 B15 k15=>⟨_,rfl,?_⟩
 refine v9 rfl ?_
 ext
 refine b1P (E:=E0) ck B15 (C2.kept B14 hv.two k15) (k15.1 _ _ hra14 (a0x B14 hra14)) lrs (T14.kept B14 hv.two k15) hv ((dq2.ts t14).ts (k15.ts B14)) fun H16 B16 k16=>⟨_,rfl,?_⟩
 refine v9 rfl ?_
 ext
 have k1416:=k15.trans k16
 have t16:=k1416.ts B14
 have pz16:=pz14.kept B14 hv.two k1416
 nofun
 refine b9K (E:=E0) ck B16 pz16.r pz16.q pz16.at hv ((dq1.ts t14).ts t16) ((D1.ts t14).ts t16) ((sat1.ts t14).ts t16) (k1416.1 _ _ e14 nla) lL hL (C1.kept B14 hv.two k1416) bk1 al1 lv1 fun H17 B17 k17=>⟨_,rfl,?_⟩
 refine v9 rfl ?_
 ext
 have k1417:=k1416.trans k17
 have t17:=k1417.ts B14
 have pz17:=pz14.kept B14 hv.two k1417
 refine G9 (by simp) fun ea H18 hea e18 s18=>?_
 ext
 have k1418:=k1417.trans (E3.of_same s18)
 have t18:=k1418.ts B14
 have pz18:=pz17.same s18
 refine b9K (E:=E0) (L:=[]) ck (B17.same s18) pz18.r pz18.q pz18.at hv ((dq2.ts t14).ts t18) ((D2.ts t14).ts t18) ((sat2.ts t14).ts t18) e18 (by simp) (by simp) (C2.kept B14 hv.two k1418) bk2 al2 lv2 fun H19 B19 k19=>⟨_,rfl,?_⟩
 refine v9 rfl ?_
 ext
 have k1419:=k1418.trans k19
 exact b1P (E:=E0) ck B19 (C1.kept B14 hv.two k1419) (k1419.1 _ _ hra14 (a0x B14 hra14)) lrs (T14.kept B14 hv.two k1419) hv ((dq1.ts t14).ts (k1419.ts B14)) fun H20 _ _=>rfl
end RD
set_option maxHeartbeats 0
namespace PR
open PySem L2 RD Y
abbrev d3J:Str:="__init__"
abbrev d3K:Str:="_law_script"
abbrev d3L:Str:="_law_bag"
abbrev d3M:Str:="_law_bag_here"
abbrev d3N:Str:="_law_many"
abbrev d3O:Str:="_law_take"
abbrev d3P:Str:="_law_nexts"
abbrev d3Q:Str:="_law_k"
abbrev d3R:Str:="_law_some"
abbrev d3S:Str:="_law_way"
abbrev d3T:Str:="_law_net"
abbrev d3U:Str:="_law_good"
abbrev d3V:Str:="_law_turn"
abbrev d3W:Str:="_law_reached"
abbrev d3X:Str:="_law_one"
abbrev d3Y:Str:="_law_order"
abbrev d3Z:Str:="_law_mended"
abbrev d4a:Str:="_law_name"
abbrev d4b:Str:="_law_found"
abbrev d4c:Str:="_law_names"
abbrev d4d:Str:="_law_names_here"
abbrev d4e:Str:="_law_operand"
abbrev d4f:Str:="_law_deed"
abbrev d4g:Str:="_law_deeds"
abbrev d4h:Str:="_law_row"
abbrev d4i:Str:="_law_rows"
abbrev d4j:Str:="_law_plan"
abbrev d4k:Str:="_law_held"
abbrev d4l:Str:="_law_steps"
abbrev d4m:Str:="_law_step"
abbrev d4n:Str:="_law_deed_here"
abbrev d4o:Str:="_law_does"
abbrev d4p:Str:="self"
abbrev d4q:Str:="_law_choice"
abbrev d4r:Str:="_law_puts"
abbrev d4s:Str:="_law_outs"
abbrev d4t:Str:="_law_stays"
abbrev d4u:Str:="_law_lists"
abbrev d4v:Str:="_law_int"
abbrev d4w:Str:="_law_step_list"
abbrev d4x:Str:="_law_int_list"
abbrev d4y:Str:="deed"
abbrev d4z:Str:="place"
abbrev d4A:Str:="step"
abbrev d4B:Str:="_law_doing"
abbrev d4C:Str:="_law_elder"
abbrev d4D:Str:="_law_told"
abbrev d4E:Str:="thing"
abbrev d4F:Str:="is_whole"
abbrev d4G:Str:="is_value"
abbrev d4H:Str:="is_operand"
abbrev d4I:Str:="check_length"
abbrev d4J:Str:="is_below"
abbrev d4K:Str:="check_each"
abbrev d4L:Str:="plan"
abbrev d4M:Str:="held"
abbrev d4N:Str:="check_held"
abbrev d4O:Str:="nexts"
abbrev d4P:Str:="steps"
abbrev d4Q:Str:="following"
abbrev d4R:Str:="steps_of"
abbrev d4S:Str:="order"
abbrev d4T:Str:="target"
abbrev d4U:Str:="unwaiting_places"
abbrev d4V:Str:="places_alive_behind"
abbrev d4W:Str:="ready_behind"
abbrev d4X:Str:="is_spoilt_ahead"
abbrev d4Y:Str:="wanted_behind"
abbrev d4Z:Str:="unready_steps"
abbrev d5a:Str:="unwanted_ends"
abbrev d5b:Str:="unwanted_steps"
abbrev d5c:Str:="_law_plan_here"
abbrev d5d:Str:="_law_held_here"
abbrev d5e:Str:="_law_first"
abbrev d5f:Str:="are_nexts"
abbrev d5g:Str:="rows"
abbrev d5h:Str:="check_nexts"
abbrev d5i:Str:="stops_of"
abbrev d5j:Str:="check_ways"
section
def top(i:Nat):Stmt:=PySem.Challenge.pw_oncedone_k53_puts_outs_stays.main.body.getD i (.Pass ⟨0,0,0,0⟩)
abbrev c2c:Stmt:=top 56
abbrev c0M:Stmt:=top 57
abbrev c5b:Stmt:=top 58
abbrev a7n:Stmt:=top 59
abbrev b7r:Stmt:=top 60
abbrev b7q:Stmt:=top 61
abbrev b2d:Stmt:=top 62
abbrev c0P:Stmt:=top 63
abbrev c4Z:Stmt:=top 64
abbrev c0N:Stmt:=top 65
abbrev b0a:Stmt:=top 81
abbrev b7p:Stmt:=top 68
abbrev c9F:Stmt:=top 69
abbrev a9V:Stmt:=top 66
abbrev a6P:Stmt:=v6 (top 54) 6
abbrev a6Q:Stmt:=v6 (top 54) 7
abbrev a5X:Stmt:=v6 (top 54) 8
abbrev b7s:Stmt:=top 82
abbrev c5d:Stmt:=top 78
abbrev a8F:Stmt:=top 79
abbrev a9Z:Stmt:=top 80
abbrev b2f:Stmt:=top 14
abbrev c0O:Stmt:=top 16
abbrev a4k:Stmt:=v6 (top 54) 1
abbrev a4j:Stmt:=v6 (top 54) 2
abbrev b2a:Stmt:=top 83
abbrev a3s:Stmt:=v6 (top 54) 9
abbrev a9h:Stmt:=top 9
abbrev a9W:Stmt:=top 7
abbrev a9X:Stmt:=top 8
abbrev a7H:Stmt:=top 10
abbrev b2e:Stmt:=top 11
abbrev a5W:Stmt:=top 27
abbrev a9Y:Stmt:=top 26
abbrev a7L:Stmt:=top 28
abbrev a5D:Stmt:=top 51
abbrev b0Z:Stmt:=top 50
abbrev a7G:Stmt:=top 37
abbrev a7M:Stmt:=v6 (top 38) 1
abbrev a5q:Stmt:=v6 (top 38) 2
abbrev a3B:Stmt:=top 52
abbrev a4i:Stmt:=v6 (top 38) 3
abbrev a2f:Stmt:=top 53
abbrev a5Y:Stmt:=v6 (top 48) 3
abbrev a5r:Stmt:=v6 (top 54) 3
abbrev a3D:Stmt:=v6 (top 46) 1
abbrev a3C:Stmt:=v6 (top 46) 3
abbrev b4A:Stmt:=top 15
abbrev b4y:Stmt:=top 17
abbrev a4K:Stmt:=v6 (top 42) 1
abbrev a2y:Stmt:=v6 (top 42) 2
abbrev a4J:Stmt:=v6 (top 42) 3
abbrev a1v:Stmt:=v6 (top 48) 2
abbrev a0L:Stmt:=v6 (top 46) 2
abbrev a4l:Stmt:=v6 (top 48) 1
abbrev b2c:Stmt:=top 40
abbrev a5p:Stmt:=top 41
abbrev a4h:Stmt:=v6 (top 42) 0
abbrev a5o:Stmt:=top 44
abbrev a2O:Stmt:=top 45
abbrev a6O:Stmt:=v6 (top 46) 0
abbrev a4U:Stmt:=v6 (top 48) 0
abbrev a1u:Stmt:=v6 (top 54) 0
abbrev b7u:Stmt:=top 84
abbrev b4D:Stmt:=top 12
abbrev a6y:Stmt:=top 31
abbrev a4T:Stmt:=top 32
abbrev b2b:Stmt:=top 35
abbrev b0Y:Stmt:=top 34
abbrev a7F:Stmt:=top 33
abbrev a7K:Stmt:=top 36
abbrev a3R:Stmt:=v6 (top 38) 0
abbrev b9d:Stmt:=top 85
structure Txt(K:Fg)(mg:Str->Option Value)(c:Cn):Prop where
 d2Y:mg "abs" = none
 c6M:mg "all" = none
 d2X:mg "any" = none
 c6L:mg "bool" = none
 c1P:mg "dict" = none
 a1O:mg "enumerate" = none
 c9s:mg "int" = none
 Q6:mg "isinstance" = none
 T6:mg "len" = none
 a1x:mg "list" = none
 d2W:mg "min" = none
 a1f:mg "range" = none
 c6K:mg "sorted" = none
 d2V:mg "str" = none
 b8y:mg "tuple" = none
 c9r:mg "zip" = none
 c8N:∃u,mg "BOUND" = some u/\L5 (.int 1000000000000) u
 b8x:∃u,mg "DEED_KINDS" = some u/\L5 (.ref c.a8c) u
 c4f:∃u,mg "FIGURES" = some u/\L5 (.str "0123456789") u
 a0P:∃u,mg "FIRST_STEP" = some u/\L5 (.ref c.O9) u
 b6S:∃u,mg "LETTERS" = some u/\L5 (.str "abcdefghijklmnopqrstuvwxyz") u
 b5z:∃u,mg "LONGEST_NAME" = some u/\L5 (.int 8) u
 d1G:∃u,mg "MOST" = some u/\L5 (.int 400) u
 d1F:∃u,mg "Plan" = some u/\L5 (.ref c.P0) u
abbrev scF(ns:List (Str×a9C)):Scope:={ kind:=.function,names:=ns,isGenerator:=false,isCoroutine:=false,more:=[] }
local macro_rules | `(tactic| walk_at "c0") => `(tactic| exact ⟨rfl, by decide +kernel, by decide +kernel, rfl, by decide +kernel, by decide +kernel, rfl, by decide +kernel⟩)
local macro_rules | `(tactic| walk_at "c1") => `(tactic| exact ⟨rfl, by decide +kernel, by decide +kernel, rfl, c2l (by decide +kernel), by decide +kernel, rfl, by decide +kernel⟩)
local macro_rules | `(tactic| walk_at "c2") => `(tactic| exact ⟨rfl, by decide +kernel, by decide +kernel, rfl, rfl, by decide +kernel, by decide +kernel, rfl, rfl, by decide +kernel⟩)
local macro_rules | `(tactic| walk_at "c3") => `(tactic| exact ⟨rfl, by decide +kernel, by decide +kernel, rfl, rfl, c2l (by decide +kernel), by decide +kernel, rfl, rfl, by decide +kernel⟩)
def c1N(f:List Value->Prop):List Str->Prop
 | []=>f []
 | _::r=>∀u,c1N (fun us=>f (u::us)) r
theorem c1N.mp:∀ {ps:List Str} {f:List Value->Prop},c1N f ps->∀us,us.length=ps.length->f us
 | [],_,h,[],_=>h
 | _::_,_,h,u::us,e=>c1N.mp (h u) us (Nat.succ.inj e)
section
variable {P:D0}{w:World}{K:Fg}{mg:Str->Option Value}{base h:Heap}{c:Cn}{f C:Addr}{fd:a1g}{x q:Str}{st:Stmt}{N ps:List Str}{k:Nat}{t:TS}{pm cd:Value}{sp:Sp}
open PySem.Spec PyProof.Rows in
theorem fk(F:Fun K x q st f fd)(S:v0 N ps (f6 st))(b:∀cdv A outer s H E,W0 k (A.deeper (b2L q (f6 st) s.heap.objs.size f cdv))->N.Nodup->b3g (b5h CX0 P w K mg base N q (f6 st) f cdv A outer s H E).nox (a0y st) t):G8 P w K mg base CX0 (k+1) f fd ps (spD ps.length N.length t):=
 b8H F S (fun _ _ _ _ h=>h.1) fun cdv A outer s H _ _ E hr h=>⟨t,b cdv A outer s H E hr S.nd,h.2⟩
abbrev fdM(x q:Str)(st:Stmt)(pm cd:Value):a1g:=Z3 x q (a2k st) (a0y st) (f6 st) .none .none .none pm none cd .none
structure FnI(K:Fg)(x q:Str)(st:Stmt)(f:Addr)(pm cd:Value):Prop where
 l:K.lookup f=some ⟨.type "function",none,.func (fdM x q st pm cd),#[]⟩
 c:a4C K cd q=true
 k:V5 K (.ref f)=true
structure FnG(K:Fg)(x:Str)(st:Stmt)(f:Addr)(pm cd:Value):Prop where
 i:FnI K x x st f pm cd
 a:C9 K A2 x=some (some (.ref f))
structure FnM(K:Fg)(C:Addr)(x q:Str)(st:Stmt)(f:Addr)(pm cd:Value):Prop where
 i:FnI K x q st f pm cd
 a:u6 K (.ref C) x=some (some (.ref f))
 n:a8p K (.ref f)=true
theorem FnI.F(h:FnI K x q st f pm cd):Fun K x q st f (fdM x q st pm cd):=d1m h.l h.c h.k
abbrev BdA(x q:Str)(st:Stmt)(ps:List Str):Prop:=∀(kV doc pm:Value) (an:Option Addr) (cdv ct:Value),c1N (fun us=>bindArgs (Z3 x q (a2k st) (a0y st) (f6 st) .none kV doc pm an cdv ct) ⟨us,[]⟩=pure (ps.zip us)) ps
theorem mkC(X:K.In h)(G:h.Ns A2 mg)(g:FnG K x st f pm cd)(O:G8 P w K mg base CX0 k f (fdM x x st pm cd) ps sp)(B:BdA x x st ps):F4 P w K mg base k x ps sp:=c3N g.i.F O (V4 X G g.a) (g.i.F.binds fun _ _ _ _ _ _ us hl=>(B _ _ _ _ _ _).mp us hl)
theorem mkM(g:FnM K C x q st f pm cd)(cl:Cls K C)(O:G8 P w K mg base CX0 k f (fdM x q st pm cd) ps sp)(B:BdA x q st ps):W9 P w K mg base k x C ps sp:=⟨_,_,O,cl,⟨g.a,g.n,g.i.k⟩,g.i.F.binds fun _ _ _ _ _ _ us hl=>(B _ _ _ _ _ _).mp us hl⟩
theorem mkK{y:Str}(X:K.In h)(G:h.Ns A2 mg)(g:FnM K C d3J q st f pm cd)(y1:C9 K A2 y=some (some (.ref C)))(m:a3U K C=true)(kc:V5 K (.ref C)=true)(O:G8 P w K mg base CX0 k f (fdM d3J q st pm cd) ps sp)(B:BdA d3J q st ps):a9N P w K mg base k y C ps sp:=⟨_,_,O,V4 X G y1,⟨m,g.a,g.n,kc⟩,g.i.F.binds fun _ _ _ _ _ _ us hl=>(B _ _ _ _ _ _).mp us hl⟩
variable {D:Addr}{its:Array Value}{n:Nat}
abbrev fdD(x q:Str)(st:Stmt)(D:Addr)(pm cd:Value):a1g:=Z3 x q (a2k st) (a0y st) (f6 st) (.ref D) .none .none pm none cd .none
structure FnD(K:Fg)(C:Addr)(x q:Str)(st:Stmt)(D f:Addr)(pm cd:Value)(its:Array Value)(n:Nat):Prop where
 l:K.lookup f=some ⟨.type "function",none,.func (fdD x q st D pm cd),#[]⟩
 c:a4C K cd q=true
 k:V5 K (.ref f)=true
 a:u6 K (.ref C) x=some (some (.ref f))
 fn:a8p K (.ref f)=true
 t:K.lookup D=some ⟨.type "tuple",none,.seq its n,#[]⟩
theorem FnD.F(h:FnD K C x q st D f pm cd its n):c0d K x q st D f (fdD x q st D pm cd):=⟨⟨_,_,_,_,_,_,_,_,_,rfl,h.l,h.c⟩⟩
open PySem.Spec PyProof.Rows in
theorem fkD(F:c0d K x q st D f fd)(S:v0 N ps (f6 st))(b:∀cdv A outer s H E,W0 k (A.deeper (b2L q (f6 st) s.heap.objs.size f cdv))->N.Nodup->b3g (b5h CX0 P w K mg base N q (f6 st) f cdv A outer s H E).nox (a0y st) t):G8 P w K mg base CX0 (k+1) f fd ps (spD ps.length N.length t):=
 c2J F S (fun _ _ _ _ h=>h.1) fun cdv A outer s H _ _ E hr h=>⟨t,b cdv A outer s H E hr S.nd,h.2⟩
abbrev BdD(x q:Str)(st:Stmt)(D:Addr)(its:Array Value)(ps:List Str):Prop:=∀(kV doc pm:Value) (an:Option Addr) (cdv ct:Value),c1N (fun us=>∃k,bindArgs (Z3 x q (a2k st) (a0y st) (f6 st) (.ref D) kV doc pm an cdv ct) ⟨us,[]⟩=(seqItems? (.ref D) >>= k)/\k (some its)=pure (ps.zip us)) ps
theorem d3v{y:Str}(X:K.In h)(G:h.Ns A2 mg)(g:FnD K C d3J q st D f pm cd its n)(y1:C9 K A2 y=some (some (.ref C)))(m:a3U K C=true)(kc:V5 K (.ref C)=true)(O:G8 P w K mg base CX0 k f (fdD d3J q st D pm cd) ps sp)(B:BdD d3J q st D its ps):a9N P w K mg base k y C ps sp:=⟨_,_,O,V4 X G y1,⟨m,g.a,g.fn,kc⟩,g.F.binds (ds:=[]) g.t rfl fun _ _ _ _ _ _ us hl=>by rw[M4]at hl ⊢;exact(B _ _ _ _ _ _).mp us hl⟩
abbrev BdE(x q:Str)(st:Stmt)(D:Addr)(its:Array Value)(qs ps:List Str):Prop:=∀(kV doc pm:Value) (an:Option Addr) (cdv ct:Value),c1N (fun us=>∃k,bindArgs (Z3 x q (a2k st) (a0y st) (f6 st) (.ref D) kV doc pm an cdv ct) ⟨us,[]⟩=(seqItems? (.ref D) >>= k)/\k (some its)=pure (ps.zip (us++[.none]))) qs
theorem d3u{y:Str}{qs:List Str}(X:K.In h)(G:h.Ns A2 mg)(g:FnD K C d3J q st D f pm cd its n)(y1:C9 K A2 y=some (some (.ref C)))(m:a3U K C=true)(kc:V5 K (.ref C)=true)(O:G8 P w K mg base CX0 k f (fdD d3J q st D pm cd) ps sp)(e:qs.length+1=ps.length)(B:BdE d3J q st D its qs ps):b8o P w K mg base k y C ps [.non] sp:=⟨_,_,[.none],O,V4 X G y1,⟨m,g.a,g.fn,kc⟩,g.F.binds (ds:=[.none]) g.t rfl fun _ _ _ _ _ _ us hl=>(B _ _ _ _ _ _).mp us (by rw[o5,<-e]at hl;exact Nat.succ.inj hl),.cons rfl .nil⟩
end
section
variable {P:D0}{w:World}{K:Fg}{mg:Str->Option Value}{base:Heap}{c:Cn}{D:Addr}{f:Addr}{fd:a1g}(T:Txt K mg c)
abbrev c5L:List Str:=[d3K]
theorem c9E:v0 [d3K] c5L (f6 c2c):=by walk_at "sc"
theorem c6z:O7 [d3K] (f6 c2c) (scF [ (".0",.local),("_law_cell",.local),("abs",.globalImplicit)]) "_law_cell" := by walk_at "c0"
include T in
theorem d0S(F:Fun K d3L d3L c2c f fd):G8 P w K mg base CX0 1 f fd c5L (b7k K):=fk F c9E fun _ _ _ _ _ _ hr nd=>c5 (j7 (K9 (b8E c6 c6 c6 (M7 c6z rfl (E8 (a5M c2D (b8 0) a7g (a7f c6))) (fun _ _ _ _ _=>N8) (fun _ _ _ _ _=>l5 b8K rfl T.d2Y PyProof.Rows.boot_abs (j8 (b8 0)))))))
variable(c2x:F4 P w K mg base 1 d3L c5L (b7k K))
abbrev c1a:List Str:=[d3M,d3N]
theorem c7c:v0 [d3M,d3N,"_law_more","_law_cell","_law_value","_law_first_here","_law_second"] c1a (f6 c0M):=by walk_at "sc"
include T in
theorem c7Z(F:Fun K d3O d3O c0M f fd):G8 P w K mg base CX0 1 f fd c1a (M8 K):=fk F c7c fun _ _ _ _ _ _ hr nd=>b5 (A4 (F6 (D6 hr) (z6 (b8 0) c6) c6) (b5 (A6 2 nd c6) (b5 (A4 (F6 a1H (z6 (b8 0) c6) (l5 u8 rfl T.T6 l7 (j8 (z6 (b8 0) c6)))) (b5 (A6 3 nd (z6 (z6 (b8 0) c6) (z6 (b8 0) c6))) (b5 (c2E (b8 0) c6 c6S c6 a8x b3w) (b5 (A4 (F6 c4z (b8 3) c6) (c5 (b0A (b8 3) (b3W (b8 0) c6 b3w))) p8) (c5 (A6 2 nd (N6 a0b (N6 a3P (b8 3) c6) c6)))))) p8) (c5 (b0A (N6 a3P (N6 a0b (N6 a7h (z6 (b8 0) c6) c6) (b8 2)) c6) (b3W (b8 0) c6 b3w))))) p8) (b5 (A4 (F6 a5e (z6 (b8 0) c6) c6) (b5 (A6 4 nd (N6 a3P (z6 (b8 0) c6) (b8 1))) (b5 (b0A (N6 b6p (z6 (b8 0) c6) (b8 1)) (b3W (b8 0) c6 b3w)) (c5 (j7 (b8 4))))) p8) (b5 (A6 5 nd (N6 a3P (N6 a7h (z6 (b8 0) c6) c6) c6)) (b5 (A6 6 nd (N6 a3P (N6 a7h (b8 5) c6) c6)) (b5 (A4 (F6 a5e (b8 1) c6) (c5 (j7 (N6 a3P (N6 a0b (N6 a7h (b8 6) c6) (b8 5)) (b8 1)))) p8) (c5 (j7 (N6 a3P (N6 b6p (b8 6) c6) (b8 1))))))))
variable(F0:F4 P w K mg base 1 d3O c1a (M8 K))
abbrev c5J:List Str:=[d3M,d3N]
theorem c9C:v0 [d3M,d3N,d3P,d3Q,"_law_near",d3R,d3S] c5J (f6 c5b):=by walk_at "sc"
include T F0 in
theorem d0P(F:Fun K d3T d3T c5b f fd):G8 P w K mg base CX0 2 f fd c5J (b7j K):=fk F c9C fun _ _ _ _ _ _ hr nd=>b5 (A6 2 nd (K9 a0m)) (b5 (L6 PassesOwn.never rfl (N3 rfl T.a1f (j8 (b8 1))) (O4 3 nd) (b5 (A6 4 nd (l5 (b8I rfl) rfl T.d2W PyProof.Rows.boot_min (A9 (N6 a0b (b8 3) c6) (N6 b1I (b8 1) c6)))) (b5 (A6 5 nd (K9 (A9 (b8 4) (p5 F0 hr (A9 (b8 0) (b8 1)))))) (b5 (A6 6 nd (p5 F0 hr (A9 (b8 0) c6))) (b5 (A4 (F6 a1H (b8 6) c6) (c5 (A6 5 nd (K9 (A9 (z6 (b8 5) c6) (b8 4))))) p8) (b5 (A4 (F6 (D6 hr) (b8 6) c6) (c5 (A6 5 nd (K9 (A9 (z6 (b8 5) c6) (p5 F0 hr (A9 (b8 0) (b8 1))))))) p8) (b5 (A4 (R0 (a0f (R0 (a2q (F6 a5e (b8 6) c6) (a2I (F6 a1H (b8 6) c6)))) (X9 (F6 (D6 hr) (b8 1) c6)))) (c5 (A6 5 nd (K9 (j8 (b8 4))))) p8) (b5 (A4 (R0 (a2q (F6 (D6 hr) (b8 6) c6) (a2I (F6 a5e (b8 1) c6)))) (c5 (A6 5 nd (K9 (j8 (z6 (b8 5) c6))))) p8) (b5 (A4 (R0 (a0f (F6 (D6 hr) (b8 3) (N6 b1I (b8 1) c6)) (X9 (R0 (a2q (F6 (D6 hr) (b8 6) c6) (a2I (F6 (D6 hr) (p5 F0 hr (A9 (b8 0) c6)) c6))))))) (c5 (A6 5 nd (K9 a0m))) p8) (c5 (G7 (a0w v8 A8 A7 N7 (b8 2) (j8 (b8 5)))))))))))))) (c5 (j7 (b8 2))))
variable(c2w:F4 P w K mg base 2 d3T c5J (b7j K))
abbrev b4Q:List Str:=[d3P]
theorem c2S:v0 [d3P,d3U,d3V,d3Q,d3W,d3X,d3Y] b4Q (f6 a7n):=by walk_at "sc"
theorem b9U:O7 [d3P,d3U,d3V,d3Q,d3W,d3X,d3Y] (f6 a7n) (scF [ (".0",.local),(d3X,.local),(d3U,.free)]) d3X := by walk_at "c0"
theorem b9T:O7 [d3P,d3U,d3V,d3Q,d3W,d3X,d3Y] (f6 a7n) (scF [ (".0",.local),(d3Q,.local),("len",.globalImplicit),(d3U,.free),(d3P,.free)]) d3Q := by walk_at "c0"
theorem b9S:O7 [d3P,d3U,d3V,d3Q,d3W,d3X,d3Y] (f6 a7n) (scF [ (".0",.local),(d3Q,.local),(d3P,.free),(d3Y,.free)]) d3Q := by walk_at "c0"
theorem b9R(env:Env):O7 [d3Q,d3P,d3U,d3V,"._law_k",d3W,d3X,d3Y] (b1G (scF [ (".0",.local),(d3Q,.local),(d3P,.free),(d3Y,.free)]) env) (scF [ (".0",.local),(d3X,.local),(d3Y,.free)]) d3X := by walk_at "c1"
include T in
theorem c3j(F:Fun K d3Z d3Z a7n f fd):G8 P w K mg base CX0 1 f fd b4Q (a9f K):=fk F c2S fun _ _ _ _ _ _ hr nd=>b5 (A6 1 nd a7z) (b5 (L6 PassesOwn.never rfl (N3 rfl T.a1f (j8 (l5 u8 rfl T.T6 l7 (j8 (b8 0))))) (O4 2 nd) (c5 (L6 PassesOwn.never rfl (N3 rfl T.a1f (j8 (l5 u8 rfl T.T6 l7 (j8 (b8 0))))) (O4 3 nd) (c5 (A4 (R0 (a0f (F6 (D6 hr) (z6 (b8 0) (b8 3)) (K9 a0m)) (X9 (D3 (l5 (b8J rfl) rfl T.d2X PyProof.Rows.boot_any (j8 (M7 b9U rfl (E8 (z6 (b8 0) (b8 3))) (fun _ _ _ _ _=>N8) (fun _ _ _ _ _=>c4w hr (b8 0) (b8 2) rfl)))))))) (c5 (a2J hr (b8 1) (b8 3) T8)) p8))))) (b5 (A6 0 nd (M7 b9T rfl (N3 rfl T.a1f (j8 (l5 u8 rfl T.T6 l7 (j8 (b8 0))))) (fun _ _ _ _ _=>N8) (fun _ _ _ _ _=>a5N (b3U hr (b8 0) (b8 2) rfl) (z6 (b8 1) (b8 0)) (N6 a0b (K9 (j8 (N6 b1I (l5 u8 rfl T.T6 l7 (j8 (b8 1))) c6))) (a5M b6V (z6 (b8 1) (b8 0)) (a7f c6) a7g))))) (b5 (A6 4 nd (b6o (b3V c6 T8 b6n))) (b5 (L6 PassesOwn.never rfl (N3 rfl T.a1f (j8 (l5 u8 rfl T.T6 l7 (j8 (b8 0))))) (O4 2 nd) (c5 (L6 PassesOwn.never rfl (N3 rfl T.a1f (j8 (l5 u8 rfl T.T6 l7 (j8 (b8 0))))) (O4 3 nd) (c5 (A4 (b3U hr (b8 3) (b8 4) rfl) (c5 (L6 PassesOwn.never rfl (E8 (z6 (b8 0) (b8 3))) (O4 5 nd) (c5 (a2J hr (b8 4) (b8 5) T8)))) p8))))) (b5 (A6 6 nd (l5 b4a rfl T.c6K PyProof.Rows.boot_sorted (j8 (L7 (a2a rfl) rfl T.a1x v5 (j8 (b8 4)))))) (c5 (j7 (M7 b9S rfl (E8 (b8 6)) (fun _ _ _ _ _=>N8) (fun _ _ _ _ _=>M7 (b9R _) rfl (E8 (z6 (b8 1) (b8 0))) (fun _ _ _ _ _=>N8) (fun _ _ _ _ _=>a0w v8 b8z PySem.F.type_list_index b8G (b8 8) (j8 (b8 0))))))))))))
variable(b1s:F4 P w K mg base 1 d3Z b4Q (a9f K))
abbrev c1c:List Str:=[d3M,d3Q]
theorem c7e:v0 [d3M,d3Q,"_law_size","_law_signs"] c1c (f6 b7r):=by walk_at "sc"
theorem c3K:O7 [d3M,d3Q,"_law_size","_law_signs"] (f6 b7r) (scF [ (".0",.local),(d3V,.local),(d3O,.globalImplicit),(d3M,.free),("_law_signs",.free)]) d3V := by walk_at "c0"
include T F0 in
theorem c8b(F:Fun K d4a d4a b7r f fd):G8 P w K mg base CX0 2 f fd c1c (b3A K):=fk F c7e fun _ _ _ _ _ _ hr nd=>b5 (A4 (F6 (D6 hr) (p5 F0 hr (A9 (b8 0) c6)) c6) (c5 (j7 (z6 (K9 (Z2 G5 (b3Z G5 G5 G5 G5 G5))) (p5 F0 hr (A9 (b8 0) c6))))) p8) (b5 (A6 2 nd (N6 a0b (N6 a7h (p5 F0 hr (A9 (b8 0) c6)) c6) (N6 a3P (b8 1) c6))) (b5 (A6 3 nd G5) (c5 (j7 (N6 a0b (z6 (b8 3) (p5 F0 hr (A9 (b8 0) c6))) (a0w PySem.F.plainAttrs_str PySem.F.slot_str_join PySem.F.type_str_join c0n G5 (j8 (M7 c3K rfl (N3 rfl T.a1f (j8 (b8 2))) (fun _ _ _ _ _=>N8) (fun _ _ _ _ _=>z6 (b8 4) (p5 F0 hr (A9 (b8 1) c6)))))))))))
variable(b8h:F4 P w K mg base 2 d4a c1c (b3A K))
abbrev b7H:List Str:=[d3M]
theorem c4U:v0 [d3M,d4b,d3Q] b7H (f6 b7q):=by walk_at "sc"
include T F0 b8h in
theorem c5N(F:Fun K d4c d4c b7q f fd):G8 P w K mg base CX0 3 f fd b7H (b0R K):=fk F c4U fun _ _ _ _ _ _ hr nd=>b5 (A6 1 nd a7z) (b5 (L6 PassesOwn.never rfl (N3 rfl T.a1f (j8 (N6 a0b c6 (p5 F0 hr (A9 (b8 0) c6))))) (O4 2 nd) (c5 (a2J hr (b8 1) (p5 b8h hr (A9 (b8 0) (b8 2))) T8))) (c5 (j7 (L7 (a2a rfl) rfl T.a1x v5 (j8 (b8 1))))))
variable(b3K:F4 P w K mg base 3 d4c b7H (b0R K))
abbrev b2j:List Str:=[d3M,d4d]
theorem c0H:v0 [d3M,d4d,d3S] b2j (f6 b2d):=by walk_at "sc"
include T F0 in
theorem c1j(F:Fun K d4e d4e b2d f fd):G8 P w K mg base CX0 2 f fd b2j (a2u K):=fk F c0H fun _ _ _ _ _ _ hr nd=>b5 (A4 (F6 a5e (p5 F0 hr (A9 (b8 0) c6)) c6) (c5 (j7 (z6 (b8 1) (p5 F0 hr (A9 (b8 0) (l5 u8 rfl T.T6 l7 (j8 (b8 1)))))))) p8) (b5 (A6 2 nd (p5 F0 hr (A9 (b8 0) c6))) (b5 (A4 (F6 a1H (b8 2) c6) (c5 (j7 (b8 2))) p8) (b5 (A4 (F6 (D6 hr) (b8 2) c6) (c5 (j7 c6)) p8) (c5 (j7 (p5 F0 hr (A9 (b8 0) c6)))))))
variable(a1l:F4 P w K mg base 2 d4e b2j (a2u K))
abbrev c1f:List Str:=[d3M,d4d]
theorem c7h:v0 [d3M,d4d,"_law_kind"] c1f (f6 c0P):=by walk_at "sc"
include T F0 a1l in
theorem c8e(F:Fun K d4f d4f c0P f fd):G8 P w K mg base CX0 3 f fd c1f (b0T K):=fk F c7h fun _ _ _ _ _ _ hr nd=>b5 (A6 2 nd (z6 (K9 (b3Z G5 G5 G5 G5 G5)) (p5 F0 hr (A9 (b8 0) c6)))) (c5 (j7 (O0 (a5z (b8 2) (p5 a1l hr (A9 (b8 0) (b8 1))) (p5 a1l hr (A9 (b8 0) (b8 1)))))))
variable(b0r:F4 P w K mg base 3 d4f c1f (b0T K))
abbrev c5I:List Str:=[d3M,d4d,d4g]
theorem c9B:v0 [d3M,d4d,d4g,d3S,"_law_name_here"] c5I (f6 c4Z):=by walk_at "sc"
include T F0 a1l in
theorem d0O(F:Fun K d4h d4h c4Z f fd):G8 P w K mg base CX0 3 f fd c5I (b7i K):=fk F c9B fun _ _ _ _ _ _ hr nd=>b5 (A6 3 nd (p5 F0 hr (A9 (b8 0) c6))) (b5 (A6 4 nd (z6 (b8 1) (p5 F0 hr (A9 (b8 0) (l5 u8 rfl T.T6 l7 (j8 (b8 1))))))) (b5 (A4 (F6 a1H (b8 3) c6) (c5 (j7 (O0 (a5z G5 (b8 4) (z6 (b8 2) (p5 F0 hr (A9 (b8 0) (l5 u8 rfl T.T6 l7 (j8 (b8 2)))))))))) p8) (b5 (A4 (F6 (D6 hr) (b8 3) c6) (c5 (j7 (O0 (a5z G5 (b8 4) (p5 a1l hr (A9 (b8 0) (b8 1))))))) p8) (b5 (A4 (F6 (D6 hr) (b8 3) c6) (c5 (j7 (O0 (A9 G5 (b8 4))))) p8) (c5 (j7 (z6 (K9 (A9 (O0 (A9 G5 (p5 a1l hr (A9 (b8 0) (b8 1))))) (O0 (j8 G5)))) (p5 F0 hr (A9 (b8 0) c6)))))))))
variable(c2v:F4 P w K mg base 3 d4h c5I (b7i K))
abbrev c1b:List Str:=[d3M]
theorem c7d:v0 [d3M,"_law_large",d3N,d3P,d4d,d4g,d3Q,d4i,d3R] c1b (f6 c0N):=by walk_at "sc"
include T F0 c2w b1s b3K a1l b0r c2v in
theorem c8a(F:Fun K d4j d4j c0N f fd):G8 P w K mg base CX0 4 f fd c1b (b3z K):=fk F c7d fun _ _ _ _ _ _ hr nd=>b5 (A6 1 nd (a2r (D6 hr) (p5 F0 hr (A9 (b8 0) c6)) c6)) (b5 (A6 2 nd (N6 a0b c6 (p5 F0 hr (A9 (b8 0) c6)))) (b5 (A4 (D3 (b8 1)) (c5 (A6 2 nd (N6 a0b c6 (p5 F0 hr (A9 (b8 0) c6))))) p8) (b5 (A6 3 nd (p5 b1s hr (j8 (p5 c2w hr (A9 (b8 0) (b8 2)))))) (b5 (A6 4 nd (p5 b3K hr (j8 (b8 0)))) (b5 (A6 5 nd (K9 a0m)) (b5 (L6 PassesOwn.never rfl (N3 rfl T.a1f (j8 (N6 a0b c6 (p5 F0 hr (A9 (b8 0) c6))))) (O4 6 nd) (c5 (G7 (a0w v8 A8 A7 N7 (b8 5) (j8 (p5 b0r hr (A9 (b8 0) (a5M b6V (b8 4) a7g (a7f c6))))))))) (b5 (A6 7 nd (K9 a0m)) (b5 (L6 PassesOwn.never rfl (E8 (b8 3)) (O4 8 nd) (c5 (A4 (F6 (D6 hr) (l5 u8 rfl T.T6 l7 (j8 (b8 8))) c6) (c5 (G7 (a0w v8 A8 A7 N7 (b8 7) (j8 (O0 (A9 G5 (p5 a1l hr (A9 (b8 0) (b8 4))))))))) (c5 (G7 (a0w v8 A8 A7 N7 (b8 7) (j8 (p5 c2v hr (a5z (b8 0) (b8 4) (b8 5)))))))))) (c5 (j7 (O0 (a5z (b8 7) (b8 3) (b8 5)))))))))))))
variable(b8g:F4 P w K mg base 4 d4j c1b (b3z K))
abbrev c1d:List Str:=[d3M,d3N]
theorem c7f:v0 [d3M,d3N] c1d (f6 b0a):=by walk_at "sc"
theorem c3M:O7 [d3M,d3N] (f6 b0a) (scF [(".0",.local),(d3Q,.local)]) d3Q := by walk_at "c0"
theorem c3L:O7 [d3M,d3N] (f6 b0a) (scF [ (".0",.local),(d3Q,.local),(d3O,.globalImplicit),(d3M,.free),(d3N,.free)]) d3Q := by walk_at "c0"
include T F0 in
theorem c8c(F:Fun K d4k d4k b0a f fd):G8 P w K mg base CX0 2 f fd c1d (b3B K):=fk F c7f fun _ _ _ _ _ _ hr nd=>b5 (A4 (F6 (D6 hr) (p5 F0 hr (A9 (b8 0) c6)) c6) (c5 (j7 (M7 c3M rfl (N3 rfl T.a1f (j8 (b8 1))) (fun _ _ _ _ _=>N8) (fun _ _ _ _ _=>b8 0)))) p8) (c5 (j7 (M7 c3L rfl (N3 rfl T.a1f (j8 (p5 F0 hr (A9 (b8 0) c6)))) (fun _ _ _ _ _=>N8) (fun _ _ _ _ _=>p5 F0 hr (A9 (b8 1) (b8 2))))))
variable(b8i:F4 P w K mg base 2 d4k c1d (b3B K))
abbrev b7G:List Str:=[d3P]
theorem c4T:v0 [d3P,"_law_steps_here",d3Q,"_law_at"] b7G (f6 b7p):=by walk_at "sc"
include T in
theorem c5M(F:Fun K d4l d4l b7p f fd):G8 P w K mg base CX0 1 f fd b7G (b0Q K):=fk F c4T fun _ _ _ _ _ _ hr nd=>b5 (A6 1 nd (K9 (j8 (O0 (A9 (c6P c4q c6) c6))))) (b5 (L6 PassesOwn.never rfl (N3 rfl T.a1f (j8 (l5 u8 rfl T.T6 l7 (j8 (b8 0))))) (O4 2 nd) (c5 (L6 PassesOwn.never rfl (N3 rfl T.a1f (j8 (l5 u8 rfl T.T6 l7 (j8 (z6 (b8 0) (b8 2)))))) (O4 3 nd) (c5 (G7 (a0w v8 A8 A7 N7 (b8 1) (j8 (O0 (A9 (b8 2) (b8 3)))))))))) (c5 (j7 (b8 1))))
variable(b3J:F4 P w K mg base 1 d4l b7G (b0Q K))
abbrev d0z:List Str:=[d3P,d4m]
theorem d1X:v0 [d3P,d4m] d0z (f6 c9F):=by walk_at "sc"
include T in
theorem d2J(F:Fun K "_law_to" "_law_to" c9F f fd):G8 P w K mg base CX0 1 f fd d0z (c1Z K):=fk F d1X fun _ _ _ _ _ _ hr nd=>b5 (A4 (F6 a1H (a7y a9b (b8 1) c6 (fun _ _=>rfl)) c6) (c5 (j7 c6)) p8) (c5 (j7 (z6 (z6 (b8 0) (a7y a9b (b8 1) c6 (fun _ _=>rfl))) (a7y a9b (b8 1) c6 (fun _ _=>rfl)))))
variable(c8C:F4 P w K mg base 1 "_law_to" d0z (c1Z K))
abbrev b0e:List Str:=["_law_row_here",d4n]
theorem b8X:v0 ["_law_row_here",d4n] b0e (f6 a9V):=by walk_at "sc"
include T in
theorem b9o(F:Fun K d4o d4o a9V f fd):G8 P w K mg base CX0 1 f fd b0e (a6u K):=fk F b8X fun _ _ _ _ _ _ hr nd=>c5 (j7 (P6 (a2r (D6 hr) (z6 (b8 0) c6) G5) (Q4 (a2r (D6 hr) (z6 (b8 0) c6) (b8 1)))))
variable(a7Z:F4 P w K mg base 1 d4o b0e (a6u K))
abbrev a6U:List Str:=[d4p]
theorem b4u:v0 [d4p] a6U (f6 a6P):=by walk_at "sc"
include T in
theorem b4V(F:Fun K "puts" "Choice.puts" a6P f fd):G8 P w K mg base CX0 1 f fd a6U (R8 K):=fk F b4u fun _ _ _ _ _ _ hr nd=>c5 (j7 (L7 (a9D rfl) rfl T.a1x v5 (j8 (C5 (b8 0)))))
variable(V0:W9 P w K mg base 1 "puts" c.o4 a6U (R8 K))
abbrev a6V:List Str:=[d4p]
theorem b4v:v0 [d4p] a6V (f6 a6Q):=by walk_at "sc"
include T in
theorem b4W(F:Fun K "outs" "Choice.outs" a6Q f fd):G8 P w K mg base CX0 1 f fd a6V (S0 K):=fk F b4v fun _ _ _ _ _ _ hr nd=>c5 (j7 (L7 (a2a rfl) rfl T.a1x v5 (j8 (C5 (b8 0)))))
variable(V1:W9 P w K mg base 1 "outs" c.o4 a6V (S0 K))
abbrev a6a:List Str:=[d4p]
theorem b3j:v0 [d4p] a6a (f6 a5X):=by walk_at "sc"
include T in
theorem b3n(F:Fun K "stays" "Choice.stays" a5X f fd):G8 P w K mg base CX0 1 f fd a6a (P7 K):=fk F b3j fun _ _ _ _ _ _ hr nd=>c5 (j7 (L7 (a2a rfl) rfl T.a1x v5 (j8 (C5 (b8 0)))))
variable(S9:W9 P w K mg base 1 "stays" c.o4 a6a (P7 K))
abbrev b7I:List Str:=[d3M,d4q]
theorem c4V:v0 [d3M,d4q,d4r,d4s,d4t] b7I (f6 b7s):=by walk_at "sc"
include T F0 V0 V1 S9 in
theorem c5O(F:Fun K d4u d4u b7s f fd):G8 P w K mg base CX0 2 f fd b7I (b0S K c):=fk F c4V fun _ _ _ _ _ _ hr nd=>b5 (A4 (F6 (D6 hr) (p5 F0 hr (A9 (b8 0) c6)) c6) (b5 (A6 2 nd (K6 V0 hr (by decide) (b8 1))) (b5 (A6 3 nd (K6 V1 hr (by decide) (b8 1))) (b5 (A6 4 nd (K6 S9 hr (by decide) (b8 1))) (c5 (j7 (O0 (a5z (b8 2) (b8 3) (b8 4)))))))) p8) (b5 (A6 4 nd (K6 S9 hr (by decide) (b8 1))) (b5 (A6 3 nd (K6 V1 hr (by decide) (b8 1))) (b5 (A6 2 nd (K6 V0 hr (by decide) (b8 1))) (c5 (j7 (O0 (a5z (b8 2) (b8 3) (b8 4))))))))
variable(b3L:F4 P w K mg base 2 d4u b7I (b0S K c))
abbrev c5K:List Str:=[d4b]
theorem c9D:v0 [d4b] c5K (f6 c5d):=by walk_at "sc"
include T in
theorem d0R(F:Fun K d4v d4v c5d f fd):G8 P w K mg base CX0 1 f fd c5K (b1T K):=fk F c9D fun _ _ _ _ _ _ hr nd=>c5 (j7 (P6 (l5 Z5 rfl T.Q6 A1 (A9 (b8 0) (a0U rfl T.c9s b6l rfl))) (Q4 (a8t (l5 Z5 rfl T.Q6 A1 (A9 (b8 0) (a0U rfl T.c6L b5B rfl)))))))
variable(b3c:F4 P w K mg base 1 d4v c5K (b1T K))
abbrev a8I:List Str:=[d4b]
theorem b7m:v0 [d4b,d4m] a8I (f6 a8F):=by walk_at "sc"
include T b3c in
theorem b7K(F:Fun K d4w d4w a8F f fd):G8 P w K mg base CX0 2 f fd a8I (a5A K):=fk F b7m fun _ _ _ _ _ _ hr nd=>b5 (A4 (K8 (D3 (l5 Z5 rfl T.Q6 A1 (A9 (b8 0) (a0U rfl T.a1x v5 rfl))))) (c5 (j7 T8)) p8) (b5 (L6 PassesOwn.never rfl (E8 (b8 0)) (O4 1 nd) (c5 (A4 (R0 (a0f (K8 (D3 (l5 b6X rfl T.Q6 A1 (A9 (b8 1) (a0U rfl T.b8y a6J rfl))))) (a0f (F6 (a8w hr) (l5 b6W rfl T.T6 l7 (j8 (b8 1))) c6) (a0f (K8 (D3 (p5 b3c hr (j8 (a7y a9b (b8 1) c6 (fun _ _=>rfl)))))) (X9 (K8 (D3 (p5 b3c hr (j8 (a7y a9b (b8 1) c6 (fun _ _=>rfl))))))))))) (c5 (j7 T8)) p8))) (c5 (j7 T8)))
variable(a6G:F4 P w K mg base 2 d4w a8I (a5A K))
abbrev b0i:List Str:=[d4b,"_law_due"]
theorem b9b:v0 [d4b,"_law_due",d3X,"_law_other"] b0i (f6 a9Z):=by walk_at "sc"
include T b3c in
theorem b9s(F:Fun K d4x d4x a9Z f fd):G8 P w K mg base CX0 2 f fd b0i (a5k K):=fk F b9b fun _ _ _ _ _ _ hr nd=>b5 (A4 (R0 (a0f (K8 (D3 (l5 Z5 rfl T.Q6 A1 (A9 (b8 0) (a0U rfl T.a1x v5 rfl))))) (X9 (F6 (a8w hr) (l5 u8 rfl T.T6 l7 (j8 (b8 0))) (l5 u8 rfl T.T6 l7 (j8 (b8 1))))))) (c5 (j7 T8)) p8) (b5 (L6 PassesOwn.never rfl (b8D rfl T.c9r (A9 (b8 0) (b8 1))) (a5d rfl (R3 (O4 2 nd) (R3 (O4 3 nd) a3O))) (c5 (A4 (R0 (a0f (K8 (D3 (p5 b3c hr (j8 (b8 2))))) (X9 (F6 (a8w hr) (b8 2) (b8 3))))) (c5 (j7 T8)) p8))) (c5 (j7 T8)))
variable(a6h:F4 P w K mg base 2 d4x b0i (a5k K))
abbrev b2m:List Str:=["row"]
theorem c0K:v0 ["row"] b2m (f6 b2f):=by walk_at "sc"
include T in
theorem c1m(F:Fun K "deed_of" "deed_of" b2f f fd):G8 P w K mg base CX0 1 f fd b2m (a9Q K):=fk F c0K fun _ _ _ _ _ _ hr nd=>c5 (j7 (a5N (F6 (D6 hr) (z6 (b8 0) c6) G5) (z6 (b8 0) c6) a8u))
variable(a9l:F4 P w K mg base 1 "deed_of" b2m (a9Q K))
abbrev c1e:List Str:=["row",d4y]
theorem c7g:v0 ["row",d4y] c1e (f6 c0O):=by walk_at "sc"
include T a9l in
theorem c8d(F:Fun K "does" "does" c0O f fd):G8 P w K mg base CX0 2 f fd c1e (a4f K):=fk F c7g fun _ _ _ _ _ _ hr nd=>c5 (j7 (a2r (D6 hr) (p5 a9l hr (j8 (b8 0))) (b8 1)))
variable(a0Y:F4 P w K mg base 2 "does" c1e (a4f K))
abbrev a4r:List Str:=[d4p,d4z]
theorem a9T:v0 [d4p,d4z] a4r (f6 a4k):=by walk_at "sc"
include T in
theorem b0l(F:Fun K "waits_at" "Choice.waits_at" a4k f fd):G8 P w K mg base CX0 1 f fd a4r (M5 K):=fk F a9T fun _ _ _ _ _ _ hr nd=>c5 (j7 (a8v hr (b8 1) (C5 (b8 0)) rfl))
variable(C7:W9 P w K mg base 1 "waits_at" c.o4 a4r (M5 K))
abbrev a4q:List Str:=[d4p,d4A]
theorem a9S:v0 [d4p,d4A] a4q (f6 a4j):=by walk_at "sc"
include T a0Y C7 in
theorem b0k(F:Fun K "waits_on" "Choice.waits_on" a4j f fd):G8 P w K mg base CX0 3 f fd a4q (a0W K c):=fk F a9S fun _ _ _ _ _ _ hr nd=>b5 (A4 (c4r hr (b8 1) (C5 (b8 0)) rfl) (c5 (j7 T8)) p8) (c5 (j7 (P6 (a1i (a9a hr) (b8 1) (R6 T.a0P rfl) (a4O _)) (P6 (P3 C7 hr (by decide) (b8 0) (j8 (z6 (b8 1) c6))) (Q4 (a8t (p5 a0Y hr (A9 (z6 (C5 (C5 (b8 0))) (z6 (b8 1) c6)) (C5 (b8 0))))))))))
variable(Y7:W9 P w K mg base 3 "waits_on" c.o4 a4q (a0W K c))
abbrev c0Z:List Str:=[d3M,d4q,d4i,d3P,d4n]
theorem c7b:v0 [d3M,d4q,d4i,d3P,d4n,d4r,d4m,d4B,d4s,d4t,d4C,d3V,d4b,d3R] c0Z (f6 b2a):=by walk_at "sc"
theorem c3J:O7 [d3M,d4q,d4i,d3P,d4n,d4r,d4m,d4B,d4s,d4t,d4C,d3V,d4b,d3R] (f6 b2a) (scF [ (".0",.local),(d3Q,.local),(d4o,.globalImplicit),(d4n,.free),(d4i,.free)]) d3Q := by walk_at "c0"
theorem c3I:O7 [d3M,d4q,d4i,d3P,d4n,d4r,d4m,d4B,d4s,d4t,d4C,d3V,d4b,d3R] (f6 b2a) (scF [ (".0",.local),(d3Q,.local),(d4q,.free)]) d3Q := by walk_at "c0"
theorem c3H:O7 [d3M,d4q,d4i,d3P,d4n,d4r,d4m,d4B,d4s,d4t,d4C,d3V,d4b,d3R] (f6 b2a) (scF [ (".0",.local),(d3Q,.local),(d4q,.free)]) d3Q := by walk_at "c0"
include T b3J c8C a7Z b3L a6G a6h C7 Y7 in
theorem c7Y(F:Fun K d4D d4D b2a f fd):G8 P w K mg base CX0 4 f fd c0Z (a9e K c):=fk F c7b fun _ _ _ _ _ _ hr nd=>b5 (A6 5 nd (K9 a0m)) (b5 (L6 PassesOwn.never rfl (E8 (p5 b3J hr (j8 (b8 3)))) (O4 6 nd) (c5 (A4 (R0 (a2q (D3 (P3 Y7 hr (by decide) (b8 1) (j8 (b8 6)))) (a2I (K8 (D3 (P3 C7 hr (by decide) (b8 1) (j8 (p5 c8C hr (A9 (b8 3) (b8 6)))))))))) (c5 (G7 (a0w v8 A8 A7 N7 (b8 5) (j8 (b8 6))))) p8))) (b5 (a4c (n:=7) nd rfl rfl c3J rfl (N3 rfl T.a1f (j8 (l5 u8 rfl T.T6 l7 (j8 (b8 2))))) (fun _ _ _ _ _=>a1Z (D3 (p5 a7Z hr (A9 (z6 (b8 3) (b8 0)) (b8 5))))) (fun _ _ _ _ _=>b8 0)) (b5 (a4c (n:=8) nd rfl rfl c3I rfl (E8 (b8 7)) (fun _ _ _ _ _=>a1Z (K8 (D3 (P3 C7 hr (by decide) (b8 2) (j8 (b8 0)))))) (fun _ _ _ _ _=>b8 0)) (b5 (a4c (n:=9) nd rfl rfl c3H rfl (E8 (b8 7)) (fun _ _ _ _ _=>a1Z (D3 (P3 C7 hr (by decide) (b8 2) (j8 (b8 0))))) (fun _ _ _ _ _=>b8 0)) (b5 (A6 10 nd (K9 a0m)) (b5 (L6 PassesOwn.never rfl (N3 rfl T.a1f (j8 c6)) (O4 11 nd) (b5 (A6 12 nd (p5 b3L hr (A9 (b8 0) (b8 1)))) (b5 (A4 (R0 (a0f (K8 (D3 (p5 a6G hr (j8 (z6 (b8 12) c6))))) (X9 (a3M (c2G hr) (z6 (b8 12) c6) (b8 5) (a4O _))))) (c5 (j7 T8)) p8) (b5 (A4 (R0 (a0f (K8 (D3 (p5 a6h hr (A9 (z6 (b8 12) c6) (b8 8))))) (X9 (K8 (D3 (p5 a6h hr (A9 (z6 (b8 12) c6) (b8 9)))))))) (c5 (j7 T8)) p8) (b5 (L6 PassesOwn.never rfl (c4t (b8 12)) (O4 13 nd) (c5 (G7 (a0w v8 A8 A7 N7 (b8 13) (j8 (O0 (A9 c6 c6))))))) (c5 (G7 (a0w v8 A8 A7 N7 (b8 10) (j8 (b8 12)))))))))) (c5 (j7 (a1i (b1J hr) (z6 (b8 10) c6) (O0 (a5z (N6 a0b (b8 5) (K9 (j8 (O0 (A9 c6 c6))))) (N6 a0b (b8 8) (K9 (j8 (O0 (A9 c6 c6))))) (N6 a0b (b8 9) (K9 (j8 (O0 (A9 c6 c6))))))) (a4O _))))))))))
variable(b2D:F4 P w K mg base 4 d4D c0Z (a9e K c))
abbrev a5v:List Str:=[d4p]
theorem b1Y:v0 [d4p] a5v (f6 a3s):=by walk_at "sc"
theorem b0q:O7 [d4p] (f6 a3s) (scF [ (".0",.local),(d4z,.local),(d4p,.free)]) d4z := by walk_at "c0"
include T in
theorem b2q(F:Fun K "stores" "Choice.stores" a3s f fd):G8 P w K mg base CX0 1 f fd a5v (U0 K):=fk F b1Y fun _ _ _ _ _ _ hr nd=>c5 (j7 (c0m b0q rfl (C5 (b8 0)) (fun _ _ _ _ _=>a1Z (b3U hr (b8 0) (C5 (b8 1)) rfl)) (fun _ _ _ _ _=>b8 0)))
variable(a0D:W9 P w K mg base 1 "stores" c.o4 a5v (U0 K))
abbrev b2k:List Str:=[d4E]
theorem c0I:v0 [d4E] b2k (f6 a9h):=by walk_at "sc"
theorem b8c:O7 [d4E] (f6 a9h) (scF [ (".0",.local),("sign",.local),("LETTERS",.globalImplicit),("FIGURES",.globalImplicit)]) "sign" := by walk_at "c0"
include T in
theorem c1k(F:Fun K "is_name" "is_name" a9h f fd):G8 P w K mg base CX0 1 f fd b2k (a1P K):=fk F c0I fun _ _ _ _ _ _ hr nd=>b5 (A4 (R0 (a0f (K8 (D3 (l5 Z5 rfl T.Q6 A1 (A9 (b8 0) (a0U rfl T.d2V PyProof.Rows.boot_str rfl))))) (X9 (K8 (c0l b0B b0B c6 (l5 u8 rfl T.T6 l7 (j8 (b8 0))) (R6 T.b5z rfl)))))) (c5 (j7 T8)) p8) (c5 (j7 (P6 (a1i a7i (z6 (b8 0) c6) (R6 T.b6S rfl) rfl) (Q4 (l5 (a8y rfl) rfl T.c6M a7w (j8 (M7 b8c rfl (c4u (b8 0)) (fun _ _ _ _ _=>N8) (fun _ _ _ _ _=>a1i a7i (b8 0) (N6 a0b (R6 T.b6S rfl) (R6 T.c4f rfl)) rfl))))))))
variable(a2R:F4 P w K mg base 1 "is_name" b2k (a1P K))
abbrev b0f:List Str:=[d4E]
theorem b8Y:v0 [d4E] b0f (f6 a9W):=by walk_at "sc"
include T in
theorem b9p(F:Fun K d4F d4F a9W f fd):G8 P w K mg base CX0 1 f fd b0f (a5i K):=fk F b8Y fun _ _ _ _ _ _ hr nd=>c5 (j7 (P6 (l5 Z5 rfl T.Q6 A1 (A9 (b8 0) (a0U rfl T.c9s b6l rfl))) (Q4 (a8t (l5 Z5 rfl T.Q6 A1 (A9 (b8 0) (a0U rfl T.c6L b5B rfl)))))))
variable(a3I:F4 P w K mg base 1 d4F b0f (a5i K))
abbrev b0g:List Str:=[d4E]
theorem b8Z:v0 [d4E] b0g (f6 a9X):=by walk_at "sc"
include T a3I in
theorem b9q(F:Fun K d4G d4G a9X f fd):G8 P w K mg base CX0 2 f fd b0g (a6v K):=fk F b8Z fun _ _ _ _ _ _ hr nd=>c5 (j7 (P6 (p5 a3I hr (j8 (b8 0))) (Q4 (b3Y b0B a1H c6 (b8 0) (R6 T.c8N rfl)))))
variable(a8a:F4 P w K mg base 2 d4G b0g (a6v K))
abbrev a7O:List Str:=[d4E]
theorem b5L:v0 [d4E] a7O (f6 a7H):=by walk_at "sc"
include T a2R a8a in
theorem b5V(F:Fun K d4H d4H a7H f fd):G8 P w K mg base CX0 3 f fd a7O (a1s K):=fk F b5L fun _ _ _ _ _ _ hr nd=>c5 (j7 (b3x (p5 a2R hr (j8 (b8 0))) (Q4 (p5 a8a hr (j8 (b8 0))))))
variable(a0M:F4 P w K mg base 3 d4H a7O (a1s K))
abbrev b2l:List Str:=[d4E]
theorem c0J:v0 [d4E] b2l (f6 b2e):=by walk_at "sc"
include T a0M in
theorem c1l(F:Fun K "is_deed" "is_deed" b2e f fd):G8 P w K mg base CX0 4 f fd b2l (a5V K c):=fk F c0J fun _ _ _ _ _ _ hr nd=>b5 (A4 (R0 (a0f (K8 (D3 (l5 Z5 rfl T.Q6 A1 (A9 (b8 0) (a0U rfl T.b8y a6J rfl))))) (X9 (F6 (a8w hr) (l5 u8 rfl T.T6 l7 (j8 (b8 0))) c6)))) (c5 (j7 T8)) p8) (c5 (j7 (P6 (a1i c2H (z6 (b8 0) c6) (R6 T.b8x rfl) rfl) (P6 (p5 a0M hr (j8 (z6 (b8 0) c6))) (Q4 (p5 a0M hr (j8 (z6 (b8 0) c6))))))))
variable(a3T:F4 P w K mg base 4 "is_deed" b2l (a5V K c))
abbrev a5Z:List Str:=["things","at","least"]
theorem b3i:v0 ["things","at","least"] a5Z (f6 a5W):=by walk_at "sc"
include T in
theorem b3m(F:Fun K d4I d4I a5W f fd):G8 P w K mg base CX0 1 f fd a5Z (a1j K):=fk F b3i fun _ _ _ _ _ _ hr nd=>b5 (A4 (R0 (a0f (K8 (D3 (l5 Z5 rfl T.Q6 A1 (A9 (b8 0) (a0U rfl T.a1x v5 rfl))))) (X9 (F6 a1H (l5 u8 rfl T.T6 l7 (j8 (b8 0))) (b8 2))))) (c5 a3z) p8) (c5 (A4 (F6 a5e (l5 u8 rfl T.T6 l7 (j8 (b8 0))) (R6 T.d1G rfl)) (c5 a3z) p8))
variable(a0Z:F4 P w K mg base 1 d4I a5Z (a1j K))
abbrev b0h:List Str:=[d4E,"many"]
theorem b9a:v0 [d4E,"many"] b0h (f6 a9Y):=by walk_at "sc"
include T a3I in
theorem b9r(F:Fun K d4J d4J a9Y f fd):G8 P w K mg base CX0 2 f fd b0h (a5j K):=fk F b9a fun _ _ _ _ _ _ hr nd=>c5 (j7 (P6 (p5 a3I hr (j8 (b8 0))) (Q4 (b3Y b0B a1H c6 (b8 0) (b8 1)))))
variable(a3J:F4 P w K mg base 2 d4J b0h (a5j K))
abbrev a7R:List Str:=["rights"]
theorem b5O:v0 ["rights","k","right"] a7R (f6 a7L):=by walk_at "sc"
include T in
theorem b5Y(F:Fun K d4K d4K a7L f fd):G8 P w K mg base CX0 1 f fd a7R (a2b K):=fk F b5O fun _ _ _ _ _ _ hr nd=>c5 (L6 PassesOwn.never rfl (a3N rfl T.a1O (j8 (b8 0))) (a5d rfl (R3 (O4 1 nd) (R3 (O4 2 nd) a3O))) (c5 (A4 (K8 (D3 (b8 2))) (c5 a3z) p8)))
variable(a0h:F4 P w K mg base 1 d4K a7R (a2b K))
abbrev a7Q:List Str:=[d4L,d4M,"at"]
theorem b5N:v0 [d4L,d4M,"at"] a7Q (f6 a5D):=by walk_at "sc"
theorem b3t:O7 [d4L,d4M,"at"] (f6 a5D) (scF [ (".0",.local),(d4z,.local),(d4J,.globalImplicit),("len",.globalImplicit),(d4L,.free)]) d4z := by walk_at "c0"
include T a0Z a3J a0h in
theorem b5X(F:Fun K d4N d4N a5D f fd):G8 P w K mg base CX0 3 f fd a7Q (a3l K):=fk F b5N fun _ _ _ _ _ _ hr nd=>c5 (A4 (F6 b8F (b8 1) a8u) (b5 (G7 (p5 a0Z hr (a5z (b8 1) (b8 2) c6))) (c5 (G7 (p5 a0h hr (j8 (M7 b3t rfl (E8 (b8 1)) (fun _ _ _ _ _=>N8) (fun _ _ _ _ _=>p5 a3J hr (A9 (b8 0) (l5 u8 rfl T.T6 l7 (j8 (C5 (b8 1)))))))))))) p8)
variable(a4v:F4 P w K mg base 3 d4N a7Q (a3l K))
abbrev b4R:List Str:=["things"]
theorem c2T:v0 ["things"] b4R (f6 b0Z):=by walk_at "sc"
theorem b9V:O7 ["things"] (f6 b0Z) (scF [(".0",.local),(d4E,.local)]) d4E := by walk_at "c0"
include T in
theorem c3k(F:Fun K "marked" "marked" b0Z f fd):G8 P w K mg base CX0 1 f fd b4R (a2M K):=fk F c2T fun _ _ _ _ _ _ hr nd=>c5 (j7 (L7 (b5G rfl hr) rfl T.c1P a7d (j8 (M7 b9V rfl (E8 (b8 0)) (fun _ _ _ _ _=>N8) (fun _ _ _ _ _=>O0 (A9 (b8 0) T8))))))
variable(a2B:F4 P w K mg base 1 "marked" b4R (a2M K))
abbrev b0d:List Str:=[d4O]
theorem b8W:v0 [d4O,d4P,d4z,d4Q] b0d (f6 a7G):=by walk_at "sc"
theorem b6g:O7 [d4O,d4P,d4z,d4Q] (f6 a7G) (scF [ (".0",.local),("at",.local),(d4z,.free)]) "at" := by walk_at "c0"
include T in
theorem b9n(F:Fun K d4R d4R a7G f fd):G8 P w K mg base CX0 1 f fd b0d (a5h K c):=fk F b8W fun _ _ _ _ _ _ hr nd=>b5 (A6 1 nd (K9 (j8 (R6 T.a0P rfl)))) (b5 (L6 PassesOwn.never rfl (a3N rfl T.a1O (j8 (b8 0))) (a5d rfl (R3 (O4 2 nd) (R3 (O4 3 nd) a3O))) (c5 (G7 (a0w v8 b8u b8t b0C (b8 1) (j8 (M7 b6g rfl (N3 rfl T.a1f (j8 (l5 u8 rfl T.T6 l7 (j8 (b8 3))))) (fun _ _ _ _ _=>N8) (fun _ _ _ _ _=>O0 (A9 (b8 3) (b8 0))))))))) (c5 (j7 (b8 1))))
variable(a3H:F4 P w K mg base 1 d4R b0d (a5h K c))
abbrev a7T:List Str:=[d4p]
theorem b5Q:v0 [d4p] a7T (f6 a7M):=by walk_at "sc"
include T a3H in
theorem b6a(F:Fun K d4P "Plan.steps" a7M f fd):G8 P w K mg base CX0 2 f fd a7T (a2c K c):=fk F b5Q fun _ _ _ _ _ _ hr nd=>c5 (j7 (p5 a3H hr (j8 (C5 (b8 0)))))
variable(Y6:W9 P w K mg base 2 d4P c.P0 a7T (a2c K c))
abbrev a5u:List Str:=[d4p,d4A]
theorem b1X:v0 [d4p,d4A] a5u (f6 a5q):=by walk_at "sc"
include T in
theorem b2p(F:Fun K "leads_to" "Plan.leads_to" a5q f fd):G8 P w K mg base CX0 1 f fd a5u (W3 K c):=fk F b1X fun _ _ _ _ _ _ hr nd=>b5 (A4 (a3M (b1K hr) (b8 1) (R6 T.a0P rfl) (a4O _)) (c5 (j7 c6)) p8) (c5 (j7 (z6 (z6 (C5 (b8 0)) (z6 (b8 1) c6)) (z6 (b8 1) c6))))
variable(L4:W9 P w K mg base 1 "leads_to" c.P0 a5u (W3 K c))
abbrev a3E:List Str:=[d4L,d4y,"brinks",d4M]
theorem a9n:v0 [d4L,d4y,"brinks",d4M,"fallen",d4A,d4S,"done",d4z,"at",d4T] a3E (f6 a3B):=by walk_at "sc"
include T a0Y a2B Y6 L4 in
theorem a9r(F:Fun K d4U d4U a3B f fd):G8 P w K mg base CX0 3 f fd a3E (a1D K c):=fk F a9n fun _ _ _ _ _ _ hr nd=>b5 (A6 4 nd (p5 a2B hr (j8 (b8 3)))) (b5 (L6 PassesOwn.never rfl (E8 (K6 Y6 hr (by decide) (b8 0))) (O4 5 nd) (c5 (A4 (R0 (a2q (a8s hr (b8 5) (b8 2) rfl) (a2I (R0 (a0f (a3M (b1K hr) (b8 5) (R6 T.a0P rfl) (a4O _)) (X9 (D3 (p5 a0Y hr (A9 (z6 (C5 (b8 0)) (z6 (b8 5) c6)) (b8 1)))))))))) (c5 (a2J hr (b8 4) (P3 L4 hr (by decide) (b8 0) (j8 (b8 5))) T8)) p8))) (b5 (A6 6 nd (L7 (a2a rfl) rfl T.a1x v5 (j8 (b8 4)))) (b5 (A6 7 nd c6) (b5 (a5L PassesOwn.never (F6 a1H (b8 7) (l5 u8 rfl T.T6 l7 (j8 (b8 6)))) (b5 (A6 8 nd (z6 (b8 6) (b8 7))) (b5 (b0z (n:=7) nd rfl (Or.inl rfl) c6 a8x) (c5 (L6 PassesOwn.never rfl (a3N rfl T.a1O (j8 (z6 (C5 (b8 0)) (b8 8)))) (a5d rfl (R3 (O4 9 nd) (R3 (O4 10 nd) a3O))) (c5 (A4 (R0 (a2q (a8s hr (O0 (A9 (b8 8) (b8 9))) (b8 2) rfl) (a2I (a1M hr (b8 10) (b8 4) rfl)))) (b5 (a2J hr (b8 4) (b8 10) T8) (c5 (G7 (a0w v8 A8 A7 N7 (b8 6) (j8 (b8 10)))))) p8))))))) (c5 (j7 (b8 4)))))))
variable(a0X:F4 P w K mg base 3 d4U a3E (a1D K c))
abbrev a4p:List Str:=[d4p,d4z]
theorem a9R:v0 [d4p,d4z] a4p (f6 a4i):=by walk_at "sc"
include T in
theorem b0j(F:Fun K "steps_into" "Plan.steps_into" a4i f fd):G8 P w K mg base CX0 1 f fd a4p (a0V K):=fk F a9R fun _ _ _ _ _ _ hr nd=>c5 (j7 (L7 a1m rfl T.a1x v5 (j8 (z6 (C5 (b8 0)) (b8 1)))))
variable(Y5:W9 P w K mg base 1 "steps_into" c.P0 a4p (a0V K))
abbrev a2g:List Str:=[d4L,"puts","outs","stays"]
theorem a7E:v0 [d4L,"puts","outs","stays","found",d4S,"done","here",d4A,d4z] a2g (f6 a2f):=by walk_at "sc"
include T Y5 in
theorem a7U(F:Fun K d4V d4V a2f f fd):G8 P w K mg base CX0 2 f fd a2g (a0K K c):=fk F a7E fun _ _ _ _ _ _ hr nd=>b5 (A6 4 nd a7z) (b5 (A6 5 nd (L7 (a2a rfl) rfl T.a1x v5 (j8 (b8 2)))) (b5 (A6 6 nd c6) (b5 (a5L PassesOwn.never (F6 a1H (b8 6) (l5 u8 rfl T.T6 l7 (j8 (b8 5)))) (b5 (A6 7 nd (z6 (b8 5) (b8 6))) (b5 (b0z (n:=6) nd rfl (Or.inl rfl) c6 a8x) (c5 (L6 PassesOwn.never rfl (E8 (P3 Y5 hr (by decide) (b8 0) (j8 (b8 7)))) (O4 8 nd) (b5 (A6 9 nd (a7y a9b (b8 8) c6 (fun _ _=>rfl))) (c5 (A4 (R0 (a2q (a3M (a9a hr) (b8 8) (R6 T.a0P rfl) (a4O _)) (a2q (a8s hr (b8 8) (b8 1) rfl) (a2I (a1M hr (b8 9) (b8 4) rfl))))) (b5 (a2J hr (b8 4) (b8 9) T8) (c5 (A4 (a1M hr (b8 9) (b8 3) rfl) (c5 (G7 (a0w v8 A8 A7 N7 (b8 5) (j8 (b8 9))))) p8))) p8)))))))) (c5 (j7 (b8 4))))))
variable(Z9:F4 P w K mg base 2 d4V a2g (a0K K c))
abbrev a6b:List Str:=[d4p]
theorem b3k:v0 [d4p] a6b (f6 a5Y):=by walk_at "sc"
include T in
theorem b3o(F:Fun K d4P "Brinks.steps" a5Y f fd):G8 P w K mg base CX0 1 f fd a6b (a3r K):=fk F b3k fun _ _ _ _ _ _ hr nd=>c5 (j7 (L7 (a9D rfl) rfl T.a1x v5 (j8 (C5 (b8 0)))))
variable(a2C:W9 P w K mg base 1 d4P c.F5 a6b (a3r K))
abbrev a5w:List Str:=[d4p,d4A]
theorem b1Z:v0 [d4p,d4A] a5w (f6 a5r):=by walk_at "sc"
include T C7 Y7 L4 in
theorem b2r(F:Fun K "is_put" "Choice.is_put" a5r f fd):G8 P w K mg base CX0 4 f fd a5w (a2N K c):=fk F b1Z fun _ _ _ _ _ _ hr nd=>c5 (j7 (P6 (P3 Y7 hr (by decide) (b8 0) (j8 (b8 1))) (Q4 (a8t (P3 C7 hr (by decide) (b8 0) (j8 (P3 L4 hr (by decide) (C5 (b8 0)) (j8 (b8 1)))))))))
variable(a1W:W9 P w K mg base 4 "is_put" c.o4 a5w (a2N K c))
abbrev a3G:List Str:=[d4p,d4z]
theorem a9p:v0 [d4p,d4z] a3G (f6 a3D):=by walk_at "sc"
include T in
theorem a9t(F:Fun K "wanted_at" "Wanted.wanted_at" a3D f fd):G8 P w K mg base CX0 1 f fd a3G (a0F K):=fk F a9p fun _ _ _ _ _ _ hr nd=>c5 (j7 (a8v hr (b8 1) (C5 (b8 0)) rfl))
variable(V9:W9 P w K mg base 1 "wanted_at" c.V2 a3G (a0F K))
abbrev a3F:List Str:=[d4p,d4A]
theorem a9o:v0 [d4p,d4A] a3F (f6 a3C):=by walk_at "sc"
include T L4 V9 in
theorem a9s(F:Fun K "wanted_on" "Wanted.wanted_on" a3C f fd):G8 P w K mg base CX0 2 f fd a3F (a1E K c):=fk F a9o fun _ _ _ _ _ _ hr nd=>c5 (j7 (P3 V9 hr (by decide) (b8 0) (j8 (P3 L4 hr (by decide) (C5 (b8 0)) (j8 (b8 1))))))
variable(a1T:W9 P w K mg base 2 "wanted_on" c.V2 a3F (a1E K c))
abbrev b4P:List Str:=["row"]
theorem c2R:v0 ["row"] b4P (f6 b4A):=by walk_at "sc"
include T in
theorem c3i(F:Fun K "set_by" "set_by" b4A f fd):G8 P w K mg base CX0 1 f fd b4P (b1S K):=fk F c2R fun _ _ _ _ _ _ hr nd=>c5 (j7 (a5N (a3M a7i (z6 (b8 0) c6) (O0 (a5z G5 G5 G5)) rfl) (z6 (b8 0) c6) a8u))
variable(b1r:F4 P w K mg base 1 "set_by" b4P (b1S K))
abbrev b4O:List Str:=["row",d4y]
theorem c2Q:v0 ["row",d4y] b4O (f6 b4y):=by walk_at "sc"
include T b1r in
theorem c3h(F:Fun K "spoils" "spoils" b4y f fd):G8 P w K mg base CX0 2 f fd b4O (a4I K):=fk F c2Q fun _ _ _ _ _ _ hr nd=>c5 (j7 (a1i a7i (p5 b1r hr (j8 (b8 0))) (a5M b6V (b8 1) (a7f c6) a7g) rfl))
variable(a1I:F4 P w K mg base 2 "spoils" b4O (a4I K))
abbrev a4N:List Str:=[d4p,d4z]
theorem b0W:v0 [d4p,d4z] a4N (f6 a4K):=by walk_at "sc"
include T in
theorem b1f(F:Fun K "ready_at" "Ready.ready_at" a4K f fd):G8 P w K mg base CX0 1 f fd a4N (a2j K):=fk F b0W fun _ _ _ _ _ _ hr nd=>c5 (j7 (a8v hr (b8 1) (C5 (b8 0)) rfl))
variable(a2T:W9 P w K mg base 1 "ready_at" c.a0B a4N (a2j K))
abbrev a2z:List Str:=[d4p,d4z]
theorem a8l:v0 [d4p,d4z,"row"] a2z (f6 a2y):=by walk_at "sc"
include T a0Y a1I a2T in
theorem a8n(F:Fun K d4W "Ready.ready_behind" a2y f fd):G8 P w K mg base CX0 3 f fd a2z (a1d K c):=fk F a8l fun _ _ _ _ _ _ hr nd=>b5 (A6 2 nd (z6 (C5 (C5 (b8 0))) (b8 1))) (b5 (A4 (D3 (p5 a1I hr (A9 (b8 2) (C5 (b8 0))))) (c5 (j7 T8)) p8) (c5 (j7 (b3x (p5 a0Y hr (A9 (b8 2) (C5 (b8 0)))) (Q4 (P3 a2T hr (by decide) (b8 0) (j8 (b8 1))))))))
variable(a1p:W9 P w K mg base 3 d4W c.a0B a2z (a1d K c))
abbrev a4M:List Str:=[d4p,d4A]
theorem b0V:v0 [d4p,d4A] a4M (f6 a4J):=by walk_at "sc"
include T a1p in
theorem b1e(F:Fun K "ready_on" "Ready.ready_on" a4J f fd):G8 P w K mg base CX0 4 f fd a4M (a2i K c):=fk F b0V fun _ _ _ _ _ _ hr nd=>c5 (j7 (P6 (a1i (a9a hr) (b8 1) (R6 T.a0P rfl) (a4O _)) (Q4 (P3 a1p hr (by decide) (b8 0) (j8 (z6 (b8 1) c6))))))
variable(a2S:W9 P w K mg base 4 "ready_on" c.a0B a4M (a2i K c))
abbrev a1w:List Str:=[d4p,d4A]
theorem a6l:v0 [d4p,d4A] a1w (f6 a1v):=by walk_at "sc"
include T a1I in
theorem a6n(F:Fun K d4X "Brinks.is_spoilt_ahead" a1v f fd):G8 P w K mg base CX0 3 f fd a1w (U4 K):=fk F a6l fun _ _ _ _ _ _ hr nd=>c5 (j7 (p5 a1I hr (A9 (z6 (C5 (C5 (b8 0))) (z6 (b8 1) c6)) (C5 (b8 0)))))
variable(a0i:W9 P w K mg base 3 d4X c.F5 a1w (U4 K))
abbrev a1R:List Str:=[d4p,d4z]
theorem a7m:v0 [d4p,d4z,d4Q] a1R (f6 a0L):=by walk_at "sc"
theorem a6o:O7 [d4p,d4z,d4Q] (f6 a0L) (scF [ (".0",.local),(d4T,.local),(d4p,.free)]) d4T := by walk_at "c0"
include T V9 in
theorem a7q(F:Fun K d4Y "Wanted.wanted_behind" a0L f fd):G8 P w K mg base CX0 2 f fd a1R (W1 K c):=fk F a7m fun _ _ _ _ _ _ hr nd=>b5 (A6 2 nd (z6 (C5 (C5 (b8 0))) (b8 1))) (c5 (j7 (P6 (a2r a5e (l5 u8 rfl T.T6 l7 (j8 (b8 2))) c6) (Q4 (l5 (a8y rfl) rfl T.c6M a7w (j8 (M7 a6o rfl (E8 (b8 2)) (fun _ _ _ _ _=>N8) (fun _ _ _ _ _=>P3 V9 hr (by decide) (b8 1) (j8 (b8 0))))))))))
variable(a0N:W9 P w K mg base 2 d4Y c.V2 a1R (W1 K c))
abbrev a4s:List Str:=[d4p,d4A]
theorem a9U:v0 [d4p,d4A] a4s (f6 a4l):=by walk_at "sc"
include T a1T a2S a0i a0N in
theorem b0m(F:Fun K "is_brink" "Brinks.is_brink" a4l f fd):G8 P w K mg base CX0 5 f fd a4s (a1Q K c):=fk F a9U fun _ _ _ _ _ _ hr nd=>b5 (A4 (R0 (a0f (K8 (D3 (P3 a1T hr (by decide) (C5 (b8 0)) (j8 (b8 1))))) (X9 (D3 (P3 a2S hr (by decide) (C5 (b8 0)) (j8 (b8 1))))))) (c5 (j7 T8)) p8) (c5 (j7 (b3x (a1i (b1K hr) (b8 1) (R6 T.a0P rfl) (a4O _)) (b3x (P3 a0i hr (by decide) (b8 0) (j8 (b8 1))) (Q4 (a8t (P3 a0N hr (by decide) (C5 (b8 0)) (j8 (z6 (b8 1) c6)))))))))
variable(a2l:W9 P w K mg base 5 "is_brink" c.F5 a4s (a1Q K c))
abbrev b2i:List Str:=[d4L,d4z,"come_by",d4S]
theorem c0G:v0 [d4L,d4z,"come_by",d4S,"at",d4T] b2i (f6 b2c):=by walk_at "sc"
include T in
theorem c1i(F:Fun K "pass_on" "pass_on" b2c f fd):G8 P w K mg base CX0 1 f fd b2i (a5U K):=fk F c0G fun _ _ _ _ _ _ hr nd=>c5 (L6 PassesOwn.never rfl (a3N rfl T.a1O (j8 (z6 (C5 (b8 0)) (b8 1)))) (a5d rfl (R3 (O4 4 nd) (R3 (O4 5 nd) a3O))) (c5 (A4 (a1M hr (b8 5) (b8 2) rfl) (b5 (a2J hr (b8 2) (b8 5) (O0 (A9 (b8 1) (b8 4)))) (c5 (G7 (a0w v8 A8 A7 N7 (b8 3) (j8 (b8 5)))))) p8)))
variable(a7s:F4 P w K mg base 1 "pass_on" b2i (a5U K))
abbrev a5t:List Str:=[d4L,"made","broken"]
theorem b1W:v0 [d4L,"made","broken","come_by",d4S,d4z,"done"] a5t (f6 a5p):=by walk_at "sc"
include T a7s in
theorem b2o(F:Fun K d4Z d4Z a5p f fd):G8 P w K mg base CX0 2 f fd a5t (a2L K c):=fk F b1W fun _ _ _ _ _ _ hr nd=>b5 (A6 3 nd (b6o (b3V c6 (R6 T.a0P rfl) b6n))) (b5 (A6 4 nd (K9 (j8 c6))) (b5 (L6 PassesOwn.never rfl (N3 rfl T.a1f (j8 (l5 u8 rfl T.T6 l7 (j8 (C5 (b8 0)))))) (O4 5 nd) (c5 (A4 (D3 (z6 (b8 2) (b8 5))) (c5 (G7 (p5 a7s hr (b8E (b8 0) (b8 5) (b8 3) (b8 4))))) p8))) (b5 (A6 6 nd c6) (b5 (a5L PassesOwn.never (F6 a1H (b8 6) (l5 u8 rfl T.T6 l7 (j8 (b8 4)))) (b5 (A6 5 nd (z6 (b8 4) (b8 6))) (b5 (b0z (n:=6) nd rfl (Or.inl rfl) c6 a8x) (c5 (A4 (K8 (D3 (z6 (b8 1) (b8 5)))) (c5 (G7 (p5 a7s hr (b8E (b8 0) (b8 5) (b8 3) (b8 4))))) p8))))) (c5 (j7 (b8 3)))))))
variable(a3u:F4 P w K mg base 2 d4Z a5t (a2L K c))
abbrev a7S:List Str:=[d4p,d4L,d4y]
theorem b5P:v0 [d4p,d4L,d4y,"made"] a7S (f6 a4h):=by walk_at "sc"
theorem b3v:O7 [d4p,d4L,d4y,"made"] (f6 a4h) (scF [ (".0",.local),("row",.local),("does",.globalImplicit),(d4y,.free)]) "row" := by walk_at "c0"
theorem b3u:O7 [d4p,d4L,d4y,"made"] (f6 a4h) (scF [ (".0",.local),("row",.local),("spoils",.globalImplicit),(d4y,.free)]) "row" := by walk_at "c0"
include T a0Y a1I a3u in
theorem b5Z(F:Fun K d3J "Ready.__init__" a4h f fd):G8 P w K mg base CX0 3 f fd a7S (a3m K c):=fk F b5P fun _ _ _ _ _ _ hr nd=>b5 (U9 (b8 0) (b8 1)) (b5 (U9 (b8 0) (b8 2)) (b5 (a4c (n:=3) nd rfl rfl b3v rfl (E8 (C5 (b8 1))) (fun _ _ _ _ _=>N8) (fun _ _ _ _ _=>p5 a0Y hr (A9 (b8 0) (b8 3)))) (c5 (U9 (b8 0) (p5 a3u hr (a5z (b8 1) (b8 3) (M7 b3u rfl (E8 (C5 (b8 1))) (fun _ _ _ _ _=>N8) (fun _ _ _ _ _=>p5 a1I hr (A9 (b8 0) (b8 3))))))))))
variable(b3F:a9N P w K mg base 3 "Ready" c.a0B a7S (a3m K c))
abbrev a5s:List Str:=[d4L,d4y]
theorem b1V:v0 [d4L,d4y,"ends",d4z,"row"] a5s (f6 a5o):=by walk_at "sc"
include T a0Y a1I in
theorem b2n(F:Fun K d5a d5a a5o f fd):G8 P w K mg base CX0 3 f fd a5s (a2K K):=fk F b1V fun _ _ _ _ _ _ hr nd=>b5 (A6 2 nd (K9 a0m)) (b5 (L6 PassesOwn.never rfl (a3N rfl T.a1O (j8 (C5 (b8 0)))) (a5d rfl (R3 (O4 3 nd) (R3 (O4 4 nd) a3O))) (c5 (A4 (R0 (a2q (K8 (D3 (p5 a0Y hr (A9 (b8 4) (b8 1))))) (a2I (R0 (a0f (D3 (p5 a1I hr (A9 (b8 4) (b8 1)))) (X9 (F6 (D6 hr) (l5 u8 rfl T.T6 l7 (j8 (z6 (C5 (b8 0)) (b8 3)))) c6))))))) (c5 (G7 (a0w v8 A8 A7 N7 (b8 2) (j8 (b8 3))))) p8))) (c5 (j7 (b8 2))))
variable(a3t:F4 P w K mg base 3 d5a a5s (a2K K))
abbrev a4L:List Str:=[d4L,d4y]
theorem b0U:v0 [d4L,d4y,d4S,"goes_by","done","here",d4A] a4L (f6 a2O):=by walk_at "sc"
theorem a9u:O7 [d4L,d4y,d4S,"goes_by","done","here",d4A] (f6 a2O) (scF [(".0",.local),(d4z,.local)]) d4z := by walk_at "c0"
include T a0Y Y5 a3t in
theorem b1d(F:Fun K d5b d5b a2O f fd):G8 P w K mg base CX0 4 f fd a4L (a2h K c):=fk F b0U fun _ _ _ _ _ _ hr nd=>b5 (A6 2 nd (p5 a3t hr (A9 (b8 0) (b8 1)))) (b5 (A6 3 nd (L7 (b5H rfl) rfl T.c1P a7d (j8 (M7 a9u rfl (E8 (b8 2)) (fun _ _ _ _ _=>N8) (fun _ _ _ _ _=>O0 (A9 (b8 0) a8u)))))) (b5 (A6 4 nd c6) (b5 (a5L PassesOwn.never (F6 a1H (b8 4) (l5 u8 rfl T.T6 l7 (j8 (b8 2)))) (b5 (A6 5 nd (z6 (b8 2) (b8 4))) (b5 (b0z (n:=4) nd rfl (Or.inl rfl) c6 a8x) (c5 (L6 PassesOwn.never rfl (E8 (P3 Y5 hr (by decide) (b8 0) (j8 (b8 5)))) (O4 6 nd) (c5 (A4 (R0 (a2q (a3M (a9a hr) (b8 6) (R6 T.a0P rfl) (a4O _)) (a2q (a1M hr (z6 (b8 6) c6) (b8 3) rfl) (a2I (K8 (D3 (p5 a0Y hr (A9 (z6 (C5 (b8 0)) (z6 (b8 6) c6)) (b8 1))))))))) (b5 (a2J hr (b8 3) (z6 (b8 6) c6) (b8 6)) (c5 (G7 (a0w v8 A8 A7 N7 (b8 2) (j8 (z6 (b8 6) c6)))))) p8))))))) (c5 (j7 (b8 3))))))
variable(a2Q:F4 P w K mg base 4 d5b a4L (a2h K c))
abbrev a6T:List Str:=[d4p,d4L,d4y]
theorem b4t:v0 [d4p,d4L,d4y] a6T (f6 a6O):=by walk_at "sc"
include T a2Q in
theorem b4U(F:Fun K d3J "Wanted.__init__" a6O f fd):G8 P w K mg base CX0 5 f fd a6T (a2v K c):=fk F b4t fun _ _ _ _ _ _ hr nd=>b5 (U9 (b8 0) (b8 1)) (c5 (U9 (b8 0) (p5 a2Q hr (A9 (b8 1) (b8 2)))))
variable(b1j:a9N P w K mg base 5 "Wanted" c.V2 a6T (a2v K c))
abbrev a6W:List Str:=[d4p,d4L,d4y]
theorem b4x:v0 [d4p,d4L,d4y] a6W (f6 a4U):=by walk_at "sc"
theorem b2C:O7 [d4p,d4L,d4y] (f6 a4U) (scF [ (".0",.local),(d4A,.local),(d4p,.free)]) d4A := by walk_at "c0"
include T Y6 a2l b3F b1j in
theorem b4X(F:Fun K d3J "Brinks.__init__" a4U f fd):G8 P w K mg base CX0 7 f fd a6W (a2w K c):=fk F b4x fun _ _ _ _ _ _ hr nd=>b5 (U9 (b8 0) (b8 1)) (b5 (U9 (b8 0) (b8 2)) (b5 (U9 (b8 0) (b1H b3F hr (A9 (b8 1) (b8 2)))) (b5 (U9 (b8 0) (b1H b1j hr (A9 (b8 1) (b8 2)))) (c5 (U9 (b8 0) (L7 (b5F rfl hr) rfl T.c1P a7d (j8 (M7 b2C rfl (E8 (K6 Y6 hr (by decide) (b8 1))) (fun _ _ _ _ _=>a1Z (D3 (P3 a2l hr (by decide) (b8 1) (j8 (b8 0))))) (fun _ _ _ _ _=>O0 (A9 (b8 0) T8))))))))))
variable(a8P:a9N P w K mg base 7 "Brinks" c.F5 a6W (a2w K c))
abbrev a4V:List Str:=[d4p,d4L,d4y,d4M]
theorem b4w:v0 [d4p,d4L,d4y,d4M,"doing"] a4V (f6 a1u):=by walk_at "sc"
theorem b2B:a4Y [d4p,d4L,d4y,d4M,"doing"] (f6 a1u) (scF [ (".0",.local),(d4z,.local),("row",.local),("does",.globalImplicit),(d4y,.free)]) d4z "row" := by walk_at "c2"
theorem b2A:O7 [d4p,d4L,d4y,d4M,"doing"] (f6 a1u) (scF [ (".0",.local),(d4A,.local),(d4p,.free)]) d4A := by walk_at "c0"
theorem b2z:O7 [d4p,d4L,d4y,d4M,"doing"] (f6 a1u) (scF [ (".0",.local),(d4z,.local),(d4p,.free)]) d4z := by walk_at "c0"
theorem b2y:O7 [d4p,d4L,d4y,d4M,"doing"] (f6 a1u) (scF [ (".0",.local),(d4z,.local),(d4p,.free)]) d4z := by walk_at "c0"
include T a0Y C7 a3T a4v a2B Y6 a0X Z9 a2C a1W a8P in
theorem a8L(F:c0d K d3J "Choice.__init__" a1u D f fd):G8 P w K mg base CX0 9 f fd a4V (Y0 K c):=fkD F b4w fun _ _ _ _ _ _ hr nd=>b5 (A4 (K8 (D3 (l5 b6Y rfl T.Q6 A1 (A9 (b8 1) (R6 T.d1F rfl))))) (c5 a3z) p8) (b5 (A4 (K8 (D3 (p5 a3T hr (j8 (b8 2))))) (c5 a3z) p8) (b5 (G7 (p5 a4v hr (a5z (b8 1) (b8 3) c6))) (b5 (U9 (b8 0) (b8 1)) (b5 (U9 (b8 0) (b8 2)) (b5 (U9 (b8 0) (p5 a2B hr (j8 (K6 a2C hr (by decide) (b1H a8P hr (A9 (b8 1) (b8 2))))))) (b5 (U9 (b8 0) (p5 a0X hr (b8E (b8 1) (b8 2) (C5 (b8 0)) (a5N (F6 c4y (b8 3) a8u) (K9 a0m) (b8 3))))) (b5 (b5E (n:=4) nd rfl rfl b2B rfl (a3N rfl T.a1O (j8 (C5 (b8 1)))) (fun _ _ _ _ _=>a1Z (D3 (p5 a0Y hr (A9 (b8 1) (b8 4))))) (fun _ _ _ _ _=>b8 0)) (b5 (U9 (b8 0) (p5 a2B hr (j8 (M7 b2A rfl (E8 (K6 Y6 hr (by decide) (b8 1))) (fun _ _ _ _ _=>a1Z (D3 (P3 a1W hr (by decide) (b8 1) (j8 (b8 0))))) (fun _ _ _ _ _=>b8 0))))) (b5 (U9 (b8 0) (p5 a2B hr (j8 (M7 b2z rfl (E8 (b8 4)) (fun _ _ _ _ _=>a1Z (K8 (D3 (P3 C7 hr (by decide) (b8 1) (j8 (b8 0)))))) (fun _ _ _ _ _=>b8 0))))) (b5 (U9 (b8 0) (p5 a2B hr (j8 (M7 b2y rfl (E8 (b8 4)) (fun _ _ _ _ _=>a1Z (D3 (P3 C7 hr (by decide) (b8 1) (j8 (b8 0))))) (fun _ _ _ _ _=>b8 0))))) (c5 (U9 (b8 0) (p5 Z9 hr (b8E (b8 1) (C5 (b8 0)) (C5 (b8 0)) (C5 (b8 0))))))))))))))))
variable(a6d:a9N P w K mg base 9 "Choice" c.o4 a4V (Y0 K c))
variable(md_Choice:b8o P w K mg base 9 "Choice" c.o4 a4V [.non] (Y0 K c))
abbrev b7J:List Str:=[d3M,d5c,d4n,d5d,d4q]
theorem c4X:v0 [d3M,d5c,d4n,d5d,d4q,"_law_fresh",d3S] b7J (f6 b7u):=by walk_at "sc"
include T F0 V0 V1 S9 a0D a6d in
theorem c5P(F:Fun K d5e d5e b7u f fd):G8 P w K mg base CX0 11 f fd b7J (a8E K c):=fk F c4X fun _ _ _ _ _ _ hr nd=>b5 (A6 5 nd (b1H a6d hr (a5z (b8 1) (b8 2) (L7 a1m rfl T.a1x v5 (j8 (b8 3)))))) (b5 (A6 6 nd (p5 F0 hr (A9 (b8 0) c6))) (b5 (A4 (F6 (D6 hr) (b8 6) c6) (c5 (j7 (P6 (a2r (D6 hr) (K6 V1 hr (by decide) (b8 5)) (K6 V1 hr (by decide) (b8 4))) (Q4 (a2r (D6 hr) (K6 S9 hr (by decide) (b8 5)) (K6 S9 hr (by decide) (b8 4))))))) p8) (b5 (A4 (F6 (D6 hr) (b8 6) c6) (c5 (j7 (P6 (a2r (D6 hr) (K6 S9 hr (by decide) (b8 5)) (K6 S9 hr (by decide) (b8 4))) (Q4 (a1i (b1J hr) (K6 V0 hr (by decide) (b8 5)) (K6 V0 hr (by decide) (b8 4)) (a4O _)))))) p8) (b5 (A4 (F6 (D6 hr) (b8 6) c6) (c5 (j7 (P6 (a2r (D6 hr) (K6 a0D hr (by decide) (b8 5)) (K6 a0D hr (by decide) (b8 4))) (Q4 (a2r (D6 hr) (K6 V1 hr (by decide) (b8 5)) (K6 V1 hr (by decide) (b8 4))))))) p8) (c5 (j7 (P6 (a1i (b1J hr) (K6 V0 hr (by decide) (b8 5)) (K6 V0 hr (by decide) (b8 4)) (a4O _)) (Q4 (a2r (D6 hr) (K6 a0D hr (by decide) (b8 5)) (K6 a0D hr (by decide) (b8 4)))))))))))
variable(b1u:F4 P w K mg base 11 d5e b7J (a8E K c))
abbrev b4S:List Str:=[d4E]
theorem c2U:v0 [d4E,"kind","rest"] b4S (f6 b4D):=by walk_at "sc"
include T a2R a0M a3T in
theorem c3l(F:Fun K "is_row" "is_row" b4D f fd):G8 P w K mg base CX0 5 f fd b4S (a9g K c):=fk F c2U fun _ _ _ _ _ _ hr nd=>b5 (A4 (R0 (a0f (K8 (D3 (l5 Z5 rfl T.Q6 A1 (A9 (b8 0) (a0U rfl T.b8y a6J rfl))))) (X9 (F6 (D6 hr) (l5 u8 rfl T.T6 l7 (j8 (b8 0))) c6)))) (c5 (j7 T8)) p8) (b5 (A6 1 nd (z6 (b8 0) c6)) (b5 (A6 2 nd (a5M b6V (b8 0) (a7f c6) a7g)) (b5 (A4 (F6 (D6 hr) (b8 1) G5) (c5 (j7 (P6 (a2r (D6 hr) (l5 u8 rfl T.T6 l7 (j8 (b8 2))) c6) (P6 (p5 a2R hr (j8 (z6 (b8 2) c6))) (Q4 (p5 a3T hr (j8 (z6 (b8 2) c6)))))))) p8) (b5 (A4 (F6 (D6 hr) (b8 1) G5) (c5 (j7 (P6 (a2r (D6 hr) (l5 u8 rfl T.T6 l7 (j8 (b8 2))) c6) (P6 (p5 a2R hr (j8 (z6 (b8 2) c6))) (Q4 (p5 a0M hr (j8 (z6 (b8 2) c6)))))))) p8) (b5 (A4 (F6 (D6 hr) (b8 1) G5) (c5 (j7 (P6 (a2r (D6 hr) (l5 u8 rfl T.T6 l7 (j8 (b8 2))) c6) (Q4 (p5 a2R hr (j8 (z6 (b8 2) c6))))))) p8) (b5 (A4 (a3M a7i (b8 1) (O0 (A9 G5 G5)) rfl) (c5 (j7 (P6 (a2r (D6 hr) (l5 u8 rfl T.T6 l7 (j8 (b8 2))) c6) (Q4 (p5 a0M hr (j8 (z6 (b8 2) c6))))))) p8) (c5 (j7 (P6 (a2r (D6 hr) (b8 1) G5) (Q4 (a2r (D6 hr) (l5 u8 rfl T.T6 l7 (j8 (b8 2))) c6)))))))))))
variable(b1t:F4 P w K mg base 5 "is_row" b4S (a9g K c))
abbrev a8J:List Str:=["row",d4Q,"many"]
theorem b7n:v0 ["row",d4Q,"many","wanted"] a8J (f6 a6y):=by walk_at "sc"
theorem b5n:O7 ["row",d4Q,"many","wanted"] (f6 a6y) (scF [ (".0",.local),(d4z,.local),(d4J,.globalImplicit),("many",.free)]) d4z := by walk_at "c0"
include T a3J in
theorem b7L(F:Fun K d5f d5f a6y f fd):G8 P w K mg base CX0 3 f fd a8J (a5B K):=fk F b7n fun _ _ _ _ _ _ hr nd=>b5 (A4 (K8 (D3 (l5 Z5 rfl T.Q6 A1 (A9 (b8 1) (a0U rfl T.a1x v5 rfl))))) (c5 (j7 T8)) p8) (b5 (A6 3 nd (a5N (F6 (D6 hr) (z6 (b8 0) c6) G5) (O0 (j8 c6)) (O0 (A9 c6 c6)))) (c5 (j7 (P6 (a1i a7i (l5 u8 rfl T.T6 l7 (j8 (b8 1))) (b8 3) rfl) (Q4 (l5 (a8y rfl) rfl T.c6M a7w (j8 (M7 b5n rfl (E8 (b8 1)) (fun _ _ _ _ _=>N8) (fun _ _ _ _ _=>p5 a3J hr (A9 (b8 0) (b8 3)))))))))))
variable(a6H:F4 P w K mg base 3 d5f a8J (a5B K))
abbrev a6S:List Str:=[d5g,d4O]
theorem b4s:v0 [d5g,d4O] a6S (f6 a4T):=by walk_at "sc"
theorem b2x:a4Y [d5g,d4O] (f6 a4T) (scF [ (".0",.local),("row",.local),(d4Q,.local),(d5f,.globalImplicit),("len",.globalImplicit),(d5g,.free)]) "row" d4Q := by walk_at "c2"
include T a0h a6H in
theorem b4T(F:Fun K d5h d5h a4T f fd):G8 P w K mg base CX0 4 f fd a6S (a4g K):=fk F b4s fun _ _ _ _ _ _ hr nd=>b5 (A4 (R0 (a0f (K8 (D3 (l5 Z5 rfl T.Q6 A1 (A9 (b8 1) (a0U rfl T.a1x v5 rfl))))) (X9 (F6 (a8w hr) (l5 u8 rfl T.T6 l7 (j8 (b8 1))) (l5 u8 rfl T.T6 l7 (j8 (b8 0))))))) (c5 a3z) p8) (c5 (G7 (p5 a0h hr (j8 (b3X b2x rfl (b8D rfl T.c9r (A9 (b8 0) (b8 1))) (fun _ _ _ _ _=>N8) (fun _ _ _ _ _=>p5 a6H hr (a5z (b8 0) (b8 1) (l5 u8 rfl T.T6 l7 (j8 (b8 2))))))))))
variable(a4X:F4 P w K mg base 4 d5h a6S (a4g K))
abbrev b2h:List Str:=["begins","leads"]
theorem c0F:v0 ["begins","leads","seen","waiting",d4z] b2h (f6 b2b):=by walk_at "sc"
include T in
theorem c1h(F:Fun K "reached" "reached" b2b f fd):G8 P w K mg base CX0 1 f fd b2h (a5T K):=fk F c0F fun _ _ _ _ _ _ hr nd=>b5 (A6 2 nd a7z) (b5 (A6 3 nd (L7 a1m rfl T.a1x v5 (j8 (b8 0)))) (b5 (a5L PassesOwn.never (F6 a5e (l5 u8 rfl T.T6 l7 (j8 (b8 3))) c6) (b5 (A6 4 nd (c4x v8 PySem.F.slot_list_pop PySem.F.type_list_pop c2I (b8 3))) (c5 (A4 (a1M hr (b8 4) (b8 2) rfl) (b5 (a2J hr (b8 2) (b8 4) T8) (c5 (G7 (a0w v8 b8u b8t b0C (b8 3) (j8 (z6 (b8 1) (b8 4))))))) p8)))) (c5 (j7 (b8 2)))))
variable(a7r:F4 P w K mg base 1 "reached" b2h (a5T K))
abbrev b4N:List Str:=[d4O]
theorem c2P:v0 [d4O,"sources",d4z,d4Q,d4T] b4N (f6 b0Y):=by walk_at "sc"
theorem b9Q:O7 [d4O,"sources",d4z,d4Q,d4T] (f6 b0Y) (scF [(".0",.local),(d4Q,.local)]) d4Q := by walk_at "c0"
include T in
theorem c3g(F:Fun K "turned" "turned" b0Y f fd):G8 P w K mg base CX0 1 f fd b4N (a9d K):=fk F c2P fun _ _ _ _ _ _ hr nd=>b5 (a4c (n:=1) nd rfl rfl b9Q rfl (E8 (b8 0)) (fun _ _ _ _ _=>N8) (fun _ _ _ _ _=>K9 a0m)) (b5 (L6 PassesOwn.never rfl (a3N rfl T.a1O (j8 (b8 0))) (a5d rfl (R3 (O4 2 nd) (R3 (O4 3 nd) a3O))) (c5 (L6 PassesOwn.never rfl (E8 (b8 3)) (O4 4 nd) (c5 (G7 (a0w v8 A8 A7 N7 (z6 (b8 1) (b8 4)) (j8 (b8 2)))))))) (c5 (j7 (b8 1))))
variable(b1q:F4 P w K mg base 1 "turned" b4N (a9d K))
abbrev b0c:List Str:=[d4O]
theorem b8V:v0 [d4O] b0c (f6 a7F):=by walk_at "sc"
theorem b6f:a4Y [d4O] (f6 a7F) (scF [ (".0",.local),(d4z,.local),(d4Q,.local),("len",.globalImplicit)]) d4z d4Q := by walk_at "c2"
include T in
theorem b9m(F:Fun K d5i d5i a7F f fd):G8 P w K mg base CX0 1 f fd b0c (a6t K):=fk F b8V fun _ _ _ _ _ _ hr nd=>c5 (j7 (b3X b6f rfl (a3N rfl T.a1O (j8 (b8 0))) (fun _ _ _ _ _=>a1Z (F6 (D6 hr) (l5 u8 rfl T.T6 l7 (j8 (b8 1))) c6)) (fun _ _ _ _ _=>b8 0)))
variable(a7Y:F4 P w K mg base 1 d5i b0c (a6t K))
abbrev a7P:List Str:=[d4O]
theorem b5M:v0 [d4O,"begun","ending",d4z] a7P (f6 a7K):=by walk_at "sc"
include T a7r b1q a7Y in
theorem b5W(F:Fun K d5j d5j a7K f fd):G8 P w K mg base CX0 2 f fd a7P (a4S K):=fk F b5M fun _ _ _ _ _ _ hr nd=>b5 (A6 1 nd (p5 a7r hr (A9 (K9 (j8 c6)) (b8 0)))) (b5 (A6 2 nd (p5 a7r hr (A9 (p5 a7Y hr (j8 (b8 0))) (p5 b1q hr (j8 (b8 0)))))) (c5 (L6 PassesOwn.never rfl (N3 rfl T.a1f (j8 (l5 u8 rfl T.T6 l7 (j8 (b8 0))))) (O4 3 nd) (c5 (A4 (R0 (a0f (a1M hr (b8 3) (b8 1) rfl) (X9 (a1M hr (b8 3) (b8 2) rfl)))) (c5 a3z) p8)))))
variable(a5F:F4 P w K mg base 2 d5j a7P (a4S K))
abbrev a8K:List Str:=[d4p,d5g,d4O]
theorem b7o:v0 [d4p,d5g,d4O,d4A] a8K (f6 a3R):=by walk_at "sc"
theorem b5q:O7 [d4p,d5g,d4O,d4A] (f6 a3R) (scF [ (".0",.local),("row",.local),("is_row",.globalImplicit)]) "row" := by walk_at "c0"
theorem b5p:O7 [d4p,d5g,d4O,d4A] (f6 a3R) (scF [ (".0",.local),(d4Q,.local),("list",.globalImplicit)]) d4Q := by walk_at "c0"
theorem b5o:O7 [d4p,d5g,d4O,d4A] (f6 a3R) (scF [(".0",.local),("row",.local)]) "row" := by walk_at "c0"
include T a0Z a0h a3H L4 b1t a4X a5F in
theorem b7M(F:Fun K d3J "Plan.__init__" a3R f fd):G8 P w K mg base CX0 6 f fd a8K (a5C K c):=fk F b7o fun _ _ _ _ _ _ hr nd=>b5 (G7 (p5 a0Z hr (a5z (b8 1) c6 c6))) (b5 (G7 (p5 a0h hr (j8 (M7 b5q rfl (E8 (b8 1)) (fun _ _ _ _ _=>N8) (fun _ _ _ _ _=>p5 b1t hr (j8 (b8 0))))))) (b5 (G7 (p5 a4X hr (A9 (b8 1) (b8 2)))) (b5 (G7 (p5 a5F hr (j8 (b8 2)))) (b5 (U9 (b8 0) (L7 a1m rfl T.a1x v5 (j8 (b8 1)))) (b5 (U9 (b8 0) (M7 b5p rfl (E8 (b8 2)) (fun _ _ _ _ _=>N8) (fun _ _ _ _ _=>L7 a1m rfl T.a1x v5 (j8 (b8 0))))) (b5 (U9 (b8 0) (M7 b5o rfl (E8 (b8 1)) (fun _ _ _ _ _=>N8) (fun _ _ _ _ _=>K9 a0m))) (c5 (L6 PassesOwn.never rfl (E8 (p5 a3H hr (j8 (C5 (b8 0))))) (O4 3 nd) (c5 (G7 (a0w v8 A8 A7 N7 (z6 (C5 (b8 0)) (P3 L4 hr (by decide) (b8 0) (j8 (b8 3)))) (j8 (b8 3)))))))))))))
variable(b7P:a9N P w K mg base 6 "Plan" c.P0 a8K (a5C K c))
abbrev c9h:List Str:=[d3K]
theorem c4W:v0 [d3K,d3M,d4i,d3P,d4g,d3X,"_law_other",d5c,d5d,"_law_left","_law_right"] c9h (f6 b9d):=by walk_at "sc"
theorem c6y:O7 [d3K,d3M,d4i,d3P,d4g,d3X,"_law_other",d5c,d5d,"_law_left","_law_right"] (f6 b9d) (scF [ (".0",.local),(d3R,.local),("list",.globalImplicit)]) d3R := by walk_at "c0"
include T c2x F0 b0r b8g b8i b2D a6d md_Choice b1u b7P in
theorem d0Q(ck:a0v K c)(F:Fun K "law" "law" b9d f fd):G8 P w K mg base CX0 12 f fd c9h (b4p K):=by
 refine b8H F c4W (fun vs H Q E h=>h.1) (fun cdv A outer s H vs Q E hr h=>⟨c4O K c,?_,h.2 c ck⟩)
 have nd:=c4W.nd
 exact b5 (A6 1 nd (p5 c2x hr (j8 (b8 0)))) (b5 (b0A (p5 b8g hr (j8 (b8 1))) (a5d rfl (R3 (O4 2 nd) (R3 (O4 3 nd) (R3 (O4 4 nd) a3O))))) (b5 (G7 (a0w v8 A8 A7 N7 (b8 4) (j8 (p5 b0r hr (A9 (b8 1) (K9 (A9 G5 G5))))))) (b5 (A6 5 nd (z6 (b8 4) (p5 F0 hr (A9 (b8 1) (l5 u8 rfl T.T6 l7 (j8 (b8 4))))))) (b5 (A6 6 nd (z6 (b8 4) (p5 F0 hr (A9 (b8 1) (l5 u8 rfl T.T6 l7 (j8 (b8 4))))))) (b5 (A6 7 nd (b1H b7P hr (A9 (L7 a1m rfl T.a1x v5 (j8 (b8 2))) (M7 c6y rfl (E8 (b8 3)) (fun _ _ _ _ _=>N8) (fun _ _ _ _ _=>L7 a1m rfl T.a1x v5 (j8 (b8 0))))))) (b5 (A6 8 nd (p5 b8i hr (A9 (b8 1) (l5 u8 rfl T.T6 l7 (j8 (b8 2)))))) (b5 (A6 9 nd (b1H a6d hr (a5z (b8 7) (b8 5) (L7 a1m rfl T.a1x v5 (j8 (b8 8)))))) (b5 (A6 10 nd (c6R md_Choice hr (A9 (b8 7) (b8 6)))) (b5 (A4 (R0 (a0f (K8 (D3 (p5 b2D hr (b3Z (b8 1) (b8 9) (b8 2) (b8 3) (b8 5))))) (X9 (K8 (D3 (p5 b2D hr (b3Z (b8 1) (b8 10) (b8 2) (b8 3) (b8 6)))))))) (c5 (j7 T8)) p8) (b5 (A4 (R0 (a0f (K8 (D3 (p5 b1u hr (b3Z (b8 1) (b8 7) (b8 5) (b8 8) (b8 9))))) (X9 (K8 (D3 (p5 b1u hr (b3Z (b8 1) (b8 7) (b8 6) (K9 a0m) (b8 10)))))))) (c5 (j7 T8)) p8) (c5 (j7 (p5 b2D hr (b3Z (b8 1) (b8 9) (b8 2) (b8 3) (b8 5)))))))))))))))
end
end
structure ClF(K:Fg)(y:Str)(C:Addr):Prop where
 y:C9 K A2 y=some (some (.ref C))
 pg:a5l K C Str.empty=true
 hd:a7c K C=true
 po:b2I K C=true
 sa:u6 K (.ref C) "__setattr__" = some (some (.builtin "object.__setattr__"))
 mm:a3U K C=true
 kc:V5 K (.ref C)=true
abbrev pm0:Value:=(.str "law_oncedone_k53_puts_outs_stays" 962)
abbrev pm1:Value:=(.str "oncedone.choices" 814)
abbrev pm2:Value:=(.str "oncedone.deeds" 253)
abbrev pm3:Value:=(.str "oncedone.words" 194)
abbrev pm4:Value:=(.str "oncedone.checks" 405)
abbrev pm5:Value:=(.str "oncedone.plans" 435)
abbrev pm6:Value:=(.str "oncedone.brinks" 742)
abbrev pm7:Value:=(.str "oncedone.wanted" 662)
abbrev pm8:Value:=(.str "oncedone.ready" 565)
theorem d1t{l:PySem.W.OpenLaw}{w:World}{K:Fg}{h:Heap}{mg:Str->Option Value}{fa:Addr}(X:K.In h)(G:h.Ns A2 mg)(hfa:mg "law" = some (.ref fa))
  (y_Brinks:ClF K "Brinks" 478)
  (a4A:u6 K (.ref 478) d4y = some none)
  (a3y:u6 K (.ref 478) "found" = some none)
  (a4z:u6 K (.ref 478) d4L = some none)
  (a3x:u6 K (.ref 478) "ready" = some none)
  (a1L:u6 K (.ref 478) "wanted" = some none)
  (y_Choice:ClF K "Choice" 583)
  (a1K:u6 K (.ref 583) "brinks" = some none)
  (a4y:u6 K (.ref 583) d4y = some none)
  (a2X:u6 K (.ref 583) "fallen" = some none)
  (a0A:u6 K (.ref 583) "left_in" = some none)
  (a1b:u6 K (.ref 583) "left_out" = some none)
  (a2W:u6 K (.ref 583) "living" = some none)
  (a2G:u6 K (.ref 583) d4L = some none)
  (a1J:u6 K (.ref 583) "put_in" = some none)
  (y_Plan:ClF K "Plan" 297)
  (a1Y:u6 K (.ref 297) "entries" = some none)
  (X6:u6 K (.ref 297) d4O = some none)
  (U2:u6 K (.ref 297) d5g = some none)
  (y_Ready:ClF K "Ready" 365)
  (a2V:u6 K (.ref 365) "come_by" = some none)
  (a3o:u6 K (.ref 365) d4y = some none)
  (a5b:u6 K (.ref 365) d4L = some none)
  (y_Wanted:ClF K "Wanted" 424)
  (a2m:u6 K (.ref 424) "goes_by" = some none)
  (a2F:u6 K (.ref 424) d4L = some none)
  (ha_Plan:u6 K (.ref 297) "__class__" = some (some (.builtin "object.__class__"))) (hn_Plan:a7b K (.builtin "object.__class__") "__get__" = some (some (.builtin "getset_descriptor.__get__"))) (tk_Plan:b5w K (.builtin "object.__class__")=some true) (hm_Plan:b8s K 297 (.type "object")=some true)
  (y_DEED_KINDS:C9 K A2 "DEED_KINDS" = some (some (.ref 22))) (l_DEED_KINDS:K.lookup 22=some ⟨.type "tuple",none,.seq (([(.str "plus" 204),(.str "minus" 205),(.str "times" 206),(.str "less" 207),(.str "same" 208)]:List Value).toArray) 0,#[]⟩)
  (y_FIRST_STEP:C9 K A2 "FIRST_STEP" = some (some (.ref 201))) (l_FIRST_STEP:K.lookup 201=some ⟨.type "tuple",none,.seq (([(.int (-1) 438),(.int (0) 439)]:List Value).toArray) 0,#[]⟩)
  (x0:FnG K d3L c2c 592 pm0 (.ref 591))
  (x1:FnG K d3O c0M 599 pm0 (.ref 598))
  (x2:FnG K d3T c5b 606 pm0 (.ref 605))
  (x3:FnG K d3Z a7n 611 pm0 (.ref 610))
  (x4:FnG K d4a b7r 616 pm0 (.ref 615))
  (x5:FnG K d4c b7q 623 pm0 (.ref 622))
  (x6:FnG K d4e b2d 630 pm0 (.ref 629))
  (x7:FnG K d4f c0P 637 pm0 (.ref 636))
  (x8:FnG K d4h c4Z 644 pm0 (.ref 643))
  (x9:FnG K d4j c0N 651 pm0 (.ref 650))
  (x10:FnG K d4k b0a 751 pm0 (.ref 750))
  (x11:FnG K d4l b7p 672 pm0 (.ref 671))
  (x12:FnG K "_law_to" c9F 679 pm0 (.ref 678))
  (x13:FnG K d4o a9V 658 pm0 (.ref 657))
  (x14:FnM K 583 "puts" "Choice.puts" a6P 561 pm1 (.ref 560))
  (x15:FnM K 583 "outs" "Choice.outs" a6Q 568 pm1 (.ref 567))
  (x16:FnM K 583 "stays" "Choice.stays" a5X 575 pm1 (.ref 574))
  (x17:FnG K d4u b7s 758 pm0 (.ref 757))
  (x18:FnG K d4v c5d 732 pm0 (.ref 731))
  (x19:FnG K d4w a8F 739 pm0 (.ref 738))
  (x20:FnG K d4x a9Z 746 pm0 (.ref 745))
  (x21:FnG K "deed_of" b2f 69 pm2 (.ref 68))
  (x22:FnG K "does" c0O 83 pm2 (.ref 82))
  (x23:FnM K 583 "waits_at" "Choice.waits_at" a4k 526 pm1 (.ref 525))
  (x24:FnM K 583 "waits_on" "Choice.waits_on" a4j 533 pm1 (.ref 532))
  (x25:FnG K d4D b2a 763 pm0 (.ref 762))
  (x26:FnM K 583 "stores" "Choice.stores" a3s 580 pm1 (.ref 579))
  (x27:FnG K "is_name" a9h 41 pm3 (.ref 40))
  (x28:FnG K d4F a9W 29 pm3 (.ref 28))
  (x29:FnG K d4G a9X 36 pm3 (.ref 35))
  (x30:FnG K d4H a7H 48 pm3 (.ref 47))
  (x31:FnG K "is_deed" b2e 55 pm3 (.ref 54))
  (x32:FnG K d4I a5W 193 pm4 (.ref 192))
  (x33:FnG K d4J a9Y 186 pm4 (.ref 185))
  (x34:FnG K d4K a7L 200 pm4 (.ref 199))
  (x35:FnG K d4N a5D 492 pm1 (.ref 491))
  (x36:FnG K "marked" b0Z 487 pm1 (.ref 486))
  (x37:FnG K d4R a7G 240 pm5 (.ref 239))
  (x38:FnM K 297 d4P "Plan.steps" a7M 259 pm5 (.ref 258))
  (x39:FnM K 297 "leads_to" "Plan.leads_to" a5q 266 pm5 (.ref 265))
  (x40:FnG K d4U a3B 499 pm1 (.ref 498))
  (x41:FnM K 297 "steps_into" "Plan.steps_into" a4i 273 pm5 (.ref 272))
  (x42:FnG K d4V a2f 506 pm1 (.ref 505))
  (x43:FnM K 478 d4P "Brinks.steps" a5Y 461 pm6 (.ref 460))
  (x44:FnM K 583 "is_put" "Choice.is_put" a5r 540 pm1 (.ref 539))
  (x45:FnM K 424 "wanted_at" "Wanted.wanted_at" a3D 402 pm7 (.ref 401))
  (x46:FnM K 424 "wanted_on" "Wanted.wanted_on" a3C 414 pm7 (.ref 413))
  (x47:FnG K "set_by" b4A 76 pm2 (.ref 75))
  (x48:FnG K "spoils" b4y 90 pm2 (.ref 89))
  (x49:FnM K 365 "ready_at" "Ready.ready_at" a4K 334 pm8 (.ref 333))
  (x50:FnM K 365 d4W "Ready.ready_behind" a2y 341 pm8 (.ref 340))
  (x51:FnM K 365 "ready_on" "Ready.ready_on" a4J 348 pm8 (.ref 347))
  (x52:FnM K 478 d4X "Brinks.is_spoilt_ahead" a1v 454 pm6 (.ref 453))
  (x53:FnM K 424 d4Y "Wanted.wanted_behind" a0L 407 pm7 (.ref 406))
  (x54:FnM K 478 "is_brink" "Brinks.is_brink" a4l 447 pm6 (.ref 446))
  (x55:FnG K "pass_on" b2c 308 pm8 (.ref 307))
  (x56:FnG K d4Z a5p 315 pm8 (.ref 314))
  (x57:FnM K 365 d3J "Ready.__init__" a4h 327 pm8 (.ref 326))
  (x58:FnG K d5a a5o 376 pm7 (.ref 375))
  (x59:FnG K d5b a2O 381 pm7 (.ref 380))
  (x60:FnM K 424 d3J "Wanted.__init__" a6O 395 pm7 (.ref 394))
  (x61:FnM K 478 d3J "Brinks.__init__" a4U 440 pm6 (.ref 439))
  (x62:FnD K 583 d3J "Choice.__init__" a1u 514 519 pm1 (.ref 518) (([.none]:List Value).toArray) 0)
  (x63:FnG K d5e b7u 770 pm0 (.ref 769))
  (x64:FnG K "is_row" b4D 62 pm3 (.ref 61))
  (x65:FnG K d5f a6y 206 pm5 (.ref 205))
  (x66:FnG K d5h a4T 211 pm5 (.ref 210))
  (x67:FnG K "reached" b2b 228 pm5 (.ref 227))
  (x68:FnG K "turned" b0Y 221 pm5 (.ref 220))
  (x69:FnG K d5i a7F 216 pm5 (.ref 215))
  (x70:FnG K d5j a7K 235 pm5 (.ref 234))
  (x71:FnM K 297 d3J "Plan.__init__" a3R 252 pm5 (.ref 251))
  (x72:FnG K "law" b9d 775 pm0 (.ref 774))
  (z_abs:C9 K A2 "abs" = some none)
  (z_all:C9 K A2 "all" = some none)
  (z_any:C9 K A2 "any" = some none)
  (z_bool:C9 K A2 "bool" = some none)
  (z_dict:C9 K A2 "dict" = some none)
  (z_enumerate:C9 K A2 "enumerate" = some none)
  (z_int:C9 K A2 "int" = some none)
  (z_isinstance:C9 K A2 "isinstance" = some none)
  (z_len:C9 K A2 "len" = some none)
  (z_list:C9 K A2 "list" = some none)
  (z_min:C9 K A2 "min" = some none)
  (z_range:C9 K A2 "range" = some none)
  (z_sorted:C9 K A2 "sorted" = some none)
  (z_str:C9 K A2 "str" = some none)
  (z_tuple:C9 K A2 "tuple" = some none)
  (z_zip:C9 K A2 "zip" = some none)
  (y_BOUND:C9 K A2 "BOUND" = some (some (.int (1000000000000) 196)))
  (y_FIGURES:C9 K A2 "FIGURES" = some (some (.str "0123456789" 200)))
  (y_LETTERS:C9 K A2 "LETTERS" = some (some (.str "abcdefghijklmnopqrstuvwxyz" 198)))
  (y_LONGEST_NAME:C9 K A2 "LONGEST_NAME" = some (some (.int (8) 202)))
  (y_MOST:C9 K A2 "MOST" = some (some (.int (400) 407)))
  : ∃fd:a1g,(∀(s:k8) (v:Value),c4p s fd ⟨[v],[]⟩ [(d3K,v)])/\∀base:Heap,K.In base->base.Ns A2 mg->G8 l.prog w K mg base CX0 12 fa fd [d3K] (b4p K):=by
 have e:=hfa.symm.trans (V4 X G x72.a)
 cases e
 let c:Cn:=⟨478,583,297,365,424,22,201⟩
 have ck:a0v K c:=⟨⟨y_Brinks.pg,y_Brinks.hd,y_Brinks.po,y_Brinks.sa⟩,a4A,a3y,a4z,a3x,a1L,⟨y_Choice.pg,y_Choice.hd,y_Choice.po,y_Choice.sa⟩,a1K,a4y,a2X,a0A,a1b,a2W,a2G,a1J,⟨y_Plan.pg,y_Plan.hd,y_Plan.po,y_Plan.sa⟩,a1Y,X6,U2,⟨y_Ready.pg,y_Ready.hd,y_Ready.po,y_Ready.sa⟩,a2V,a3o,a5b,⟨y_Wanted.pg,y_Wanted.hd,y_Wanted.po,y_Wanted.sa⟩,a2m,a2F,fun H=>.inr ⟨_,([(.str "plus" 204),(.str "minus" 205),(.str "times" 206),(.str "less" 207),(.str "same" 208)]:List Value).toArray,0,l_DEED_KINDS,rfl,rfl,by decide,.cons ⟨_,rfl⟩ ( .cons ⟨_,rfl⟩ ( .cons ⟨_,rfl⟩ ( .cons ⟨_,rfl⟩ ( .cons ⟨_,rfl⟩ ( .nil)))))⟩,fun H=>.inr ⟨_,([(.int (-1) 438),(.int (0) 439)]:List Value).toArray,0,l_FIRST_STEP,rfl,rfl,by decide,.cons ⟨_,rfl⟩ ( .cons ⟨_,rfl⟩ ( .nil))⟩,⟨⟨y_Plan.pg,y_Plan.hd,y_Plan.po,y_Plan.sa⟩,ha_Plan,hn_Plan,tk_Plan,hm_Plan⟩⟩
 have T:Txt K mg c:=⟨E4 X G z_abs,E4 X G z_all,E4 X G z_any,E4 X G z_bool,E4 X G z_dict,E4 X G z_enumerate,E4 X G z_int,E4 X G z_isinstance,E4 X G z_len,E4 X G z_list,E4 X G z_min,E4 X G z_range,E4 X G z_sorted,E4 X G z_str,E4 X G z_tuple,E4 X G z_zip,⟨_,V4 X G y_BOUND,⟨_,rfl⟩⟩,⟨_,V4 X G y_DEED_KINDS,rfl⟩,⟨_,V4 X G y_FIGURES,⟨_,rfl⟩⟩,⟨_,V4 X G y_FIRST_STEP,rfl⟩,⟨_,V4 X G y_LETTERS,⟨_,rfl⟩⟩,⟨_,V4 X G y_LONGEST_NAME,⟨_,rfl⟩⟩,⟨_,V4 X G y_MOST,⟨_,rfl⟩⟩,⟨_,V4 X G y_Plan.y,rfl⟩⟩
 refine⟨fdM "law" "law" b9d pm0 (.ref 774),fun s v=>.of_eq rfl,fun base _ _=>?_⟩
 have c2x:=mkC X G x0 (d0S (P:=l.prog) (w:=w) (base:=base) T x0.i.F) fun _ _ _ _ _ _ _=>rfl
 have F0:=mkC X G x1 (c7Z (P:=l.prog) (w:=w) (base:=base) T x1.i.F) fun _ _ _ _ _ _ _ _=>rfl
 have c2w:=mkC X G x2 (d0P T F0 x2.i.F) fun _ _ _ _ _ _ _ _=>rfl
 have b1s:=mkC X G x3 (c3j (P:=l.prog) (w:=w) (base:=base) T x3.i.F) fun _ _ _ _ _ _ _=>rfl
 have b8h:=mkC X G x4 (c8b T F0 x4.i.F) fun _ _ _ _ _ _ _ _=>rfl
 have b3K:=mkC X G x5 (c5N T F0 b8h x5.i.F) fun _ _ _ _ _ _ _=>rfl
 have a1l:=mkC X G x6 (c1j T F0 x6.i.F) fun _ _ _ _ _ _ _ _=>rfl
 have b0r:=mkC X G x7 (c8e T F0 a1l x7.i.F) fun _ _ _ _ _ _ _ _=>rfl
 have c2v:=mkC X G x8 (d0O T F0 a1l x8.i.F) fun _ _ _ _ _ _ _ _ _=>rfl
 have b8g:=mkC X G x9 (c8a T F0 c2w b1s b3K a1l b0r c2v x9.i.F) fun _ _ _ _ _ _ _=>rfl
 have b8i:=mkC X G x10 (c8c T F0 x10.i.F) fun _ _ _ _ _ _ _ _=>rfl
 have b3J:=mkC X G x11 (c5M (P:=l.prog) (w:=w) (base:=base) T x11.i.F) fun _ _ _ _ _ _ _=>rfl
 have c8C:=mkC X G x12 (d2J (P:=l.prog) (w:=w) (base:=base) T x12.i.F) fun _ _ _ _ _ _ _ _=>rfl
 have a7Z:=mkC X G x13 (b9o (P:=l.prog) (w:=w) (base:=base) T x13.i.F) fun _ _ _ _ _ _ _ _=>rfl
 have V0:=mkM x14 ck.E2 (b4V (P:=l.prog) (w:=w) (base:=base) T x14.i.F) fun _ _ _ _ _ _ _=>rfl
 have V1:=mkM x15 ck.E2 (b4W (P:=l.prog) (w:=w) (base:=base) T x15.i.F) fun _ _ _ _ _ _ _=>rfl
 have S9:=mkM x16 ck.E2 (b3n (P:=l.prog) (w:=w) (base:=base) T x16.i.F) fun _ _ _ _ _ _ _=>rfl
 have b3L:=mkC X G x17 (c5O T F0 V0 V1 S9 x17.i.F) fun _ _ _ _ _ _ _ _=>rfl
 have b3c:=mkC X G x18 (d0R (P:=l.prog) (w:=w) (base:=base) T x18.i.F) fun _ _ _ _ _ _ _=>rfl
 have a6G:=mkC X G x19 (b7K T b3c x19.i.F) fun _ _ _ _ _ _ _=>rfl
 have a6h:=mkC X G x20 (b9s T b3c x20.i.F) fun _ _ _ _ _ _ _ _=>rfl
 have a9l:=mkC X G x21 (c1m (P:=l.prog) (w:=w) (base:=base) T x21.i.F) fun _ _ _ _ _ _ _=>rfl
 have a0Y:=mkC X G x22 (c8d T a9l x22.i.F) fun _ _ _ _ _ _ _ _=>rfl
 have C7:=mkM x23 ck.E2 (b0l (P:=l.prog) (w:=w) (base:=base) T x23.i.F) fun _ _ _ _ _ _ _ _=>rfl
 have Y7:=mkM x24 ck.E2 (b0k T a0Y C7 x24.i.F) fun _ _ _ _ _ _ _ _=>rfl
 have b2D:=mkC X G x25 (c7Y T b3J c8C a7Z b3L a6G a6h C7 Y7 x25.i.F) fun _ _ _ _ _ _ _ _ _ _ _=>rfl
 have a0D:=mkM x26 ck.E2 (b2q (P:=l.prog) (w:=w) (base:=base) T x26.i.F) fun _ _ _ _ _ _ _=>rfl
 have a2R:=mkC X G x27 (c1k (P:=l.prog) (w:=w) (base:=base) T x27.i.F) fun _ _ _ _ _ _ _=>rfl
 have a3I:=mkC X G x28 (b9p (P:=l.prog) (w:=w) (base:=base) T x28.i.F) fun _ _ _ _ _ _ _=>rfl
 have a8a:=mkC X G x29 (b9q T a3I x29.i.F) fun _ _ _ _ _ _ _=>rfl
 have a0M:=mkC X G x30 (b5V T a2R a8a x30.i.F) fun _ _ _ _ _ _ _=>rfl
 have a3T:=mkC X G x31 (c1l T a0M x31.i.F) fun _ _ _ _ _ _ _=>rfl
 have a0Z:=mkC X G x32 (b3m (P:=l.prog) (w:=w) (base:=base) T x32.i.F) fun _ _ _ _ _ _ _ _ _=>rfl
 have a3J:=mkC X G x33 (b9r T a3I x33.i.F) fun _ _ _ _ _ _ _ _=>rfl
 have a0h:=mkC X G x34 (b5Y (P:=l.prog) (w:=w) (base:=base) T x34.i.F) fun _ _ _ _ _ _ _=>rfl
 have a4v:=mkC X G x35 (b5X T a0Z a3J a0h x35.i.F) fun _ _ _ _ _ _ _ _ _=>rfl
 have a2B:=mkC X G x36 (c3k (P:=l.prog) (w:=w) (base:=base) T x36.i.F) fun _ _ _ _ _ _ _=>rfl
 have a3H:=mkC X G x37 (b9n (P:=l.prog) (w:=w) (base:=base) T x37.i.F) fun _ _ _ _ _ _ _=>rfl
 have Y6:=mkM x38 ck.Q2 (b6a T a3H x38.i.F) fun _ _ _ _ _ _ _=>rfl
 have L4:=mkM x39 ck.Q2 (b2p (P:=l.prog) (w:=w) (base:=base) T x39.i.F) fun _ _ _ _ _ _ _ _=>rfl
 have a0X:=mkC X G x40 (a9r T a0Y a2B Y6 L4 x40.i.F) fun _ _ _ _ _ _ _ _ _ _=>rfl
 have Y5:=mkM x41 ck.Q2 (b0j (P:=l.prog) (w:=w) (base:=base) T x41.i.F) fun _ _ _ _ _ _ _ _=>rfl
 have Z9:=mkC X G x42 (a7U T Y5 x42.i.F) fun _ _ _ _ _ _ _ _ _ _=>rfl
 have a2C:=mkM x43 ck.Z1 (b3o (P:=l.prog) (w:=w) (base:=base) T x43.i.F) fun _ _ _ _ _ _ _=>rfl
 have a1W:=mkM x44 ck.E2 (b2r T C7 Y7 L4 x44.i.F) fun _ _ _ _ _ _ _ _=>rfl
 have V9:=mkM x45 ck.a2H (a9t (P:=l.prog) (w:=w) (base:=base) T x45.i.F) fun _ _ _ _ _ _ _ _=>rfl
 have a1T:=mkM x46 ck.a2H (a9s T L4 V9 x46.i.F) fun _ _ _ _ _ _ _ _=>rfl
 have b1r:=mkC X G x47 (c3i (P:=l.prog) (w:=w) (base:=base) T x47.i.F) fun _ _ _ _ _ _ _=>rfl
 have a1I:=mkC X G x48 (c3h T b1r x48.i.F) fun _ _ _ _ _ _ _ _=>rfl
 have a2T:=mkM x49 ck.a2d (b1f (P:=l.prog) (w:=w) (base:=base) T x49.i.F) fun _ _ _ _ _ _ _ _=>rfl
 have a1p:=mkM x50 ck.a2d (a8n T a0Y a1I a2T x50.i.F) fun _ _ _ _ _ _ _ _=>rfl
 have a2S:=mkM x51 ck.a2d (b1e T a1p x51.i.F) fun _ _ _ _ _ _ _ _=>rfl
 have a0i:=mkM x52 ck.Z1 (a6n T a1I x52.i.F) fun _ _ _ _ _ _ _ _=>rfl
 have a0N:=mkM x53 ck.a2H (a7q T V9 x53.i.F) fun _ _ _ _ _ _ _ _=>rfl
 have a2l:=mkM x54 ck.Z1 (b0m T a1T a2S a0i a0N x54.i.F) fun _ _ _ _ _ _ _ _=>rfl
 have a7s:=mkC X G x55 (c1i (P:=l.prog) (w:=w) (base:=base) T x55.i.F) fun _ _ _ _ _ _ _ _ _ _=>rfl
 have a3u:=mkC X G x56 (b2o T a7s x56.i.F) fun _ _ _ _ _ _ _ _ _=>rfl
 have b3F:=mkK X G x57 y_Ready.y y_Ready.mm y_Ready.kc (b5Z T a0Y a1I a3u x57.i.F) fun _ _ _ _ _ _ _ _ _=>rfl
 have a3t:=mkC X G x58 (b2n T a0Y a1I x58.i.F) fun _ _ _ _ _ _ _ _=>rfl
 have a2Q:=mkC X G x59 (b1d T a0Y Y5 a3t x59.i.F) fun _ _ _ _ _ _ _ _=>rfl
 have b1j:=mkK X G x60 y_Wanted.y y_Wanted.mm y_Wanted.kc (b4U T a2Q x60.i.F) fun _ _ _ _ _ _ _ _ _=>rfl
 have a8P:=mkK X G x61 y_Brinks.y y_Brinks.mm y_Brinks.kc (b4X T Y6 a2l b3F b1j x61.i.F) fun _ _ _ _ _ _ _ _ _=>rfl
 have a6d:=d3v X G x62 y_Choice.y y_Choice.mm y_Choice.kc (a8L T a0Y C7 a3T a4v a2B Y6 a0X Z9 a2C a1W a8P x62.F) fun _ _ _ _ _ _ _ _ _ _=>⟨_,rfl,rfl⟩
 have md_Choice:=d3u (qs:=[d4p,d4L,d4y]) X G x62 y_Choice.y y_Choice.mm y_Choice.kc (a8L T a0Y C7 a3T a4v a2B Y6 a0X Z9 a2C a1W a8P x62.F) rfl fun _ _ _ _ _ _ _ _ _=>⟨_,rfl,rfl⟩
 have b1u:=mkC X G x63 (c5P T F0 V0 V1 S9 a0D a6d x63.i.F) fun _ _ _ _ _ _ _ _ _ _ _=>rfl
 have b1t:=mkC X G x64 (c3l T a2R a0M a3T x64.i.F) fun _ _ _ _ _ _ _=>rfl
 have a6H:=mkC X G x65 (b7L T a3J x65.i.F) fun _ _ _ _ _ _ _ _ _=>rfl
 have a4X:=mkC X G x66 (b4T T a0h a6H x66.i.F) fun _ _ _ _ _ _ _ _=>rfl
 have a7r:=mkC X G x67 (c1h (P:=l.prog) (w:=w) (base:=base) T x67.i.F) fun _ _ _ _ _ _ _ _=>rfl
 have b1q:=mkC X G x68 (c3g (P:=l.prog) (w:=w) (base:=base) T x68.i.F) fun _ _ _ _ _ _ _=>rfl
 have a7Y:=mkC X G x69 (b9m (P:=l.prog) (w:=w) (base:=base) T x69.i.F) fun _ _ _ _ _ _ _=>rfl
 have a5F:=mkC X G x70 (b5W T a7r b1q a7Y x70.i.F) fun _ _ _ _ _ _ _=>rfl
 have b7P:=mkK X G x71 y_Plan.y y_Plan.mm y_Plan.kc (b7M T a0Z a0h a3H L4 b1t a4X a5F x71.i.F) fun _ _ _ _ _ _ _ _ _=>rfl
 exact d0Q T c2x F0 b0r b8g b8i b2D a6d md_Choice b1u b7P ck x72.i.F
theorem walk{l:PySem.W.OpenLaw}{q:D0}{loose:List Str}{XP:(Str->Option Value)->Heap->Prop}{YP:World->Heap->Prop}{d:DefRec}{K:Params->Fg}(hn:l.most=some 63)(hdf:d.params.defaults=[])
  (hY:∀(w:World) (h:Heap),YP w h->(K w.params).In h)
  (F:∀(w:World) (mg:Str->Option Value) (fa:Addr) (h:Heap),(K w.params).In h->h.Ns A2 mg->mg d.name=some (.ref fa) ->
   ∃fd:a1g,(∀(s:k8) (u:Value),c4p s fd ⟨[u],[]⟩ [(d3K,u)])/\∀base:Heap,(K w.params).In base->base.Ns A2 mg->G8 l.prog w (K w.params) mg base CX0 12 fa fd [d3K] (b4p (K w.params))) :
  PySem.W.WalkO q loose XP YP l.row.toRowW d [] (fun f vs=>b8r f vs):=
 L2.c6V (n:=63) (k:=12) (x := d3K) (CX:=fun _=>CX0) (sp:=fun w=>b4p (K w.params)) hn (by decide) hdf ⟨rfl,by decide,by decide⟩ hY F (fun _ _ a ns hl hO hS=>RD.law_reading _ hl hO hS) fun _ _ _ _ _ z=>z
end PR
open PySem PySem.W PyProof.Rows
set_option maxRecDepth 100000 in
set_option maxHeartbeats 0 in
theorem PySem.Challenge.cw_oncedone_k53_puts_outs_stays_holds : PySem.Challenge.rw_oncedone_k53_puts_outs_stays.Holds := by
 refine HD.fin fun d hd hdf=>PR.walk (l:=HD.row) (K:=HD.K) rfl hdf (fun w h Y=>PySem.W.kIn_of Y) ?F
 intro w mg fa h KX G hmg
 rw[hd]at hmg
 apply PR.d1t KX G hmg <;> first | kernel_rfl | exact⟨⟨by kernel_rfl,by kernel_rfl,by kernel_rfl⟩,by kernel_rfl⟩ | exact⟨⟨by kernel_rfl,by kernel_rfl,by kernel_rfl⟩,by kernel_rfl,by kernel_rfl⟩ | exact⟨by kernel_rfl,by kernel_rfl,by kernel_rfl,by kernel_rfl,by kernel_rfl,by kernel_rfl,by kernel_rfl⟩ | exact⟨by kernel_rfl,by kernel_rfl,by kernel_rfl,by kernel_rfl,by kernel_rfl,by kernel_rfl⟩
