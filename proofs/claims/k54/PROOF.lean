import PyProof.Rows.All
import Wide.All
import OpenK.AllK
import Wide.FinOn
import Lean
import PyProof.EqAt
import PyProof.EqKinds
import PyProof.TupleCall
import PySem.Challenge.RW_dullglass_k54_desk_rows_refused
set_option Elab.async false
set_option linter.all false
set_option maxRecDepth 100000
set_option maxHeartbeats 4000000
set_option genSizeOf false
set_option genInjectivity false
open PySem.W renaming Frag->Qa,kitOne->Qs,keepIn->Z4,findIn->Ye,excIn->Yj,emptyDict->Y5,kitAny->Vw,fnOf->Vx,kia_one->V0,instObj->Jc,hideAll->Js,hideAll_get->Jy,of_hideAll->Qaf,nsIn->Qan,looks_findIn->Qaz,callWith_K->Qbu,mg_of->Qbx,cellsFrom_some->Qcj,kitx_dict->Qcl,codeIn->Qcs,plainGet->Qdc,plainGet_of->Qdt,lookIn->Qen,methodObj->Qev,hasDictIn->Qew,isFn->Qgl,takerIn->Qgm,makesIn->Qgn,OpenLaw->Qgs,hideAll_none->Qhj,kitx_tuple->Qie,plainOver->Qis,kitx_none->Qiv,kitx_bool->Qiw,kitx_list->Qix,handedIn->Qjt,kitx_int->Qjx,kitx_str->Qjy,kia_tup->Qko,WalkO->Qlr,KitX->Qlx
open PySem.Str renaming ofString->Qc,join->Q8,empty->Zf
open PySem.Challenge renaming pw_dullglass_k54_desk_rows_refused->Qd,rw_dullglass_k54_desk_rows_refused->Ym
open PySem renaming wpAny_bind->Qe,PyData->Qh,starEach->Qi,Shared->Ql,sizeLine->Qo,wpAny_pure->Qx,intText?->Zd,mainGlobals->Zg,bootBuiltins->Zj,Program->Zk,foldedSetIterable->Zn,compareOp->Zs,wpAny_mono->Zu,wpAny_truthy_bool->Zy,Around->Z1,attributeBase->Z2,backTo->Z5,sizeLine_eq->Yb,wpAny_loadPart'->Yd,wpAny_field->Y3,behindInMarks->Vd,keywordEach->Ve,wpAny_callSpecial?_slot->Vf,Spec->Vg,assignEach->Vj,wpAny_call_entry->Vl,mem_of_lookup->Vo,sysModules->V4,wpAny_Call_Name_kw->V5,wpAny_typeNameOfWhole_valiter->V6,cellsFrom->V7,swapsWith->V8,wpAny_loadPart_at->Jb,Keyword->Jj,binaryOp->Jn,wpAny_setField_rec->Jo,wpAny_seqItems->Jp,intBits_le_of_natAbs->Jr,wpAny_passesOwn->Jw,FuncData->J5,call_meets->Qac,recursionLimit->Qad,notedBy->Qae,backToKw->Qai,DictEntry->Qao,letOwnedTupleGo->Qap,wpAny_isOneOf_valiter->Qaq,strLen_append->Qat,typeIs_str->Qau,wpAny_holding->Qav,wpAny_newObj_type->Qaw,wpAny_pyIter_list->Qax,rawInt->Qay,IsPair->Qbc,NameKind->Qbe,excClassObj->Qbj,wpAny_isSubtype_exc->Qbk,Params->Qby,codeAmong->Qbz,codeAny->Qca,comprehension->Qcb,strValues->Qcc,treeTable->Qcd,tupleKind_room_in1->Qce,valueAt->Qcf,wpAny_standAt->Qcg,sliceBounds->Qcq,wpAny_dictEntries->Qcr,wpAny_setField->Qct,codeAny_mono->Qcy,noteFrame->Qcz,holding->Qdf,assign->Qdi,wpAny_updateSeq_pair->Qdj,wpAny_attempt->Qdo,builtinsNs->Qdq,wpAny_execs_nil->Qeb,wpAny_pyIter_tuple->Qem,pushCells->Qfk,wpAny_assign_Name->Qfl,wpAny_rule->Qfm,wpAny_onRaise->Qfy,pyNext->Qgd,Arguments->Qgu,codeAny_builtin->Qgw,exec_Assign_Name_used->Qgx,getMethod->Qgz,limitOf->Qha,pushCells_keeps->Qhb,standAt->Qhc,tupleKind->Qhd,wpAny_dictEpoch->Qhe,wpAny_isTrue_Compare1->Qhf,wpAny_notOrdered_dict->Qhg,bindArgs->Qhi,codeAny_call_builtin->Qhr,dictSetDefault->Qhv,newFunctionEnv->Qhw,callerA->Qhz,subscripted->Qia,wpAny_letGo->Qib,TriplesOk->Qim,compPost->Qin,eval_ListComp->Qio,swappedStores->Qiq,swapsWithSole->Qir,list_append->Qiu,BindsTo->Qjj,wpAny_call->Qjk,Within->Qjl,concat_meets->Qjr,seqIndex_neg->Qjs,ZipApart->Qkh,Str->Qki,Fin->Qkr,OwnTail->Qkw,PassesOwn->Qkx,getItem->Qky,lastMarks->Qkz,newList->Qla,relabel->Qlb,seqIndex_of->Qlc,wpAny_throw->Qld,call->Qll,isTrue->Qln,passOn->Qlw
open PySem.Heap renaming get?_push_of_some->Qf,lt_size->Qm,get?_push_size->Qq,size_push->Yf,get?_update_other->Yh,SameBut->Y4,get?_update_self->Vz,ExtBut->Qkp
abbrev LL:=List (List Int)
abbrev LI:=List Int
open List renaming getElem?_map->Qg,length_map->Qj,getElem?_eq_getElem->Qp,map_cons->Qr,mem_cons_of_mem->Qt,mem_append_right->Qw,mem_of_getElem?->Qz,mem_map->Q1,mem_cons->Q2,all_eq_true->Q4,getElem?_eq_some_iff->Q6,mem_singleton->Ze,map_map->Zi,length_cons->Zl,Nodup->Zm,size_toArray->Zq,mem_append_left->Zx,mem_append->Zz,range->Z9,append_nil->Yc,getElem?_append_left->Yg,length_set->Yk,exists_cons_of_ne_nil->Ys,length_append->Yu,filterMap_cons->Y1,map_congr_left->Y2,getElem?_of_mem->Vi,any_eq_true->Vk,take_of_length_le->Vm,take_add_one->Vp,append_assoc->Vs,getElem?_range->Vt,map_append->V1,getElem?_append_right->Jg,any_cons->Jl,find?_cons->Ju,length->Jz,toList_toArray->J0,getElem?_cons_succ->J3,take_length->J6,not_mem_nil->J7,replicate->Qab,getElem?_eq_none->Qak,mem_range->Qba,getElem?_zip_eq_some->Qbb,lookup_cons->Qbd,replicate_succ->Qbg,map_nil->Qbl,mem_filterMap->Qbq,nodup_cons->Qbs,all_cons->Qbt,length_eq_zero_iff->Qbv,getElem?_set_self->Qci,ext_getElem?->Qcm,flatMap_cons->Qcp,all_map->Qcw,getElem_mem->Qdd,getElem?_set_ne->Qdg,sum_cons->Qdn,forIn_cons->Qdw,contains_cons->Qef,getElem?_drop->Qek,getElem?_take_of_lt->Qey,getElem?_set->Qfc,nodup_append->Qfe,length_range->Qfg,mem_flatten->Qfz,length_take->Qga,length_drop->Qgb,drop_of_length_le->Qgj,of_mem_zip->Qgo,forIn_nil->Qhs,nodup_nil->Qht,take_left->Qhu,getElem_of_mem->Qhx,filter_append->Qik,zip_map_right->Qil,flatten_cons->Qit,foldl_append->Qje,cons_append->Qjz,zipIdx_cons->Qka,isEmpty_iff->Qkf,mem_flatMap->Qkg,mem_filter->Qkl,zipIdx_nil->Qkq,nil_append->Qkv,drop_zero->Qlh,drop_drop->Qli,drop_left->Qlj,map_tail->Qlu,map_drop->Qlv,zipWith->Qly
open Nat renaming le_trans->Qk,le_refl->Qn,le_of_ble_eq_true->Qu,ne_of_lt->Q3,lt_of_lt_of_le->Zh,ne_of_gt->Z6,lt_trans->Z7,add_le_add_right->Yt,not_lt->Y6,zero_le->Vb,le_of_lt->Vy,lt_irrefl->Jx,le_add_right->Qde,le_of_eq->Qed,lt_of_succ_lt->Qff,le_of_dvd->Qft,toDigits_of_lt_base->Qfv,add_sub_add_right->Qgq,mul_le_mul_right->Qhq,eq_zero_or_pos->Qii,lt_trichotomy->Qjg,zero_add->Qjo,toDigits->Qjq,lt_succ_self->Qju,le_succ->Qkm,not_lt_zero->Qks,gcd->Qls,dvd_trans->Qlt
open Bool renaming and_eq_true->Qy,false_ne_true->Zb,true_and->Yq,false_and->Yz,and_eq_true_iff->Jq,or_eq_true->Qam,eq_iff_iff->Qbw,not_eq_true'->Qcn,false_eq_true->Qeg,and_false->Qes,false_or->Qih,true_or->Qjn
open PySem.Builtin.Str renaming occurrences->Q5,strSub->Q9,partsBetween->Zr,strSliceIndices->Z3,strKind->Vr
open False renaming elim->Q7
open Option.some renaming inj->Za
open PySem.PyData renaming str->Zc,int->Yp,eqv->Yx,strOk->Qal,bool->Qbi,canLay0->Qep,canLayAll0->Qfa,list->Qfw,tuple->Qjm,keyHash->Qle
open PySem.Value renaming ref->Zo,none->Yn,bool->Qdp,str->Qdr,type->Qeu,builtin->Qfq,noConfusion->Qiy,int->Qkk,isStrOf->Qlo,isInt->Qlz,bytes->Qma,float->Qmb
open PySem.Builtin.SmallTypes renaming nextOf->Zp,ownedTupleIsFree->Zv,ownedTupleHandOut->Ja
open Or renaming inr->Zt,inl->Yi
open Array renaming length_toList->Zw,mk->Vu,getElem?_eq_some_iff->Jf,getElem?_setIfInBounds->Qdk,toList_append->Qds,getElem?_eq_getElem->Qer,toList_push->Qfi,all_eq_true'->Qij,size_push->Qkt
open PySem.Obj renaming mapFields->Z0,mapSeq->Yo,data_mapFields->V3,isFreed_of_fields->Qaj,data_mapDictKeys->Qho,cls_mapFields->Qiz
open PySem.Txt renaming split->Z8,splitMax->Yl,join->Y8,startswith->Va,contains->Qcv,mul->Qjc
open PySem.W.Fast renaming te14364793385576792824->Ya,te10110043849684766642->Qbf,te5923862056798008813->Qbp
open Int renaming eq_ofNat_of_zero_le->Yr,emod_lt_of_pos->Yw,emod_nonneg->Yy,gcd->Vc,natCast_dvd_natCast->J4,le_of_lt->Qbn,natAbs_dvd_natAbs->Qcx,gcd_pos_of_ne_zero_right->Qdm,toNat_of_nonneg->Qdu,lt_or_le->Qej,zero_add->Qel,toNat_natCast->Qfd,dvd_trans->Qfu,mul_ediv_cancel'->Qhp,gcd_dvd_right->Qjd,gcd_dvd_left->Qkc,natCast_mul->Qku
open PySem.F renaming slot_dict_valueiterator_next->Yv,plainAttrs_str->Je,excBase_ValueError->Jh,slot_tuple_iterator_next->Ji,entry_str_split->Jv,slot_str_split->J8,args_dict_valueiterator_next_1->Qch,entry_dict_valueiterator_next->Qco,typeOf_object_class->Qcu,args_tuple_iterator_next_1->Qdl,entry_tuple_iterator_next->Qdv,slot_zip_next->Qdx,args_str_split_2->Qeh,args_str_split_3->Qei,slot_dict_getitem->Qeq,args_tuple_add_2->Qez,slot_list_append->Qfb,entry_tuple_add->Qfo,plainAttrs_list->Qfp,slot_dict_values_iter->Qfr,plainAttrs_dict->Qfs,slot_tuple_add->Qge,slot_str_split->Qgg,type_str_split->Qgh,excAttr_ValueError->Qhm,slot_gs_get->Qig,args_zip_next_1->Qja,entry_zip_next->Qkb
open PySem.StrLaws renaming partsFrom->Y7,glued_eq_join->V2,partsBetween_eq->V9,join_split->Qah,subAt_one->Qas,occBody->Qdz,occ_length_le->Qgt,At->Qhh,sub_whole->Qjh,occ_head->Qkd,subAt_eq->Qke,occ_eq->Qlk
open Ne renaming symm->Y9
open True renaming intro->Vh
open PySem.W.SharedT renaming mk->Vn
open PySem.Heap.SameBut renaming update->Vq
open Option renaming isNone_iff_eq_none->Vv,getD_some->Jk,isSome_iff_exists->Jt,isSome_some->Qee,map_eq_some_iff->Qgf,isSome_map->Qjb,getD_none->Qjv,none->Qmd
open PyProof.Rows renaming callWith_type1->Jd,len_partsBetween->J9,seqObj->Qaa,envOfC->Qbo,signs_ofString->Qdy,AllBare->Qea,split_weight->Qet,kindOf->Qfj,listUpdate_at->Qfx,split_pos->Qgi,subscriptTail_builtinR->Qgk,IntsAre->Qgv,get?_update_seq->Qgy,subscriptTail->Qip
open PySem.SeqAt renaming shaped->Jm
open PySem.Builtin.Dict_items renaming ownsTuple->Qag,newIterator->Qjp,dictOf->Qlg
open PySem.NameKind renaming cell->Qar,free->Qif
open PySem.Builtin.Int renaming intBits->Qbh
open PySem.Sem renaming wp_bind'->Qbm,wp_load_of->Qlf
open PySem.Calls renaming spliced_cons->Qbr,callWith_builtin->Qck,evalArgs_plain->Qdh,Name_function_global->Qec,spliced_nil->Qex
open Sum renaming inl->Qda,inr->Qdb
open PySem.Builtin.Tuple renaming tupleHashOf->Qeo
open PySem.IntMulOk renaming of_right->Qfh,of_left->Qgc
open PySem.Paired renaming length->Qfn,snoc->Qmf
open PySem.PassesOwn renaming never->Qgp
open PySem.Builtin.Dict renaming showsAll->Qgr
open PySem.Around renaming frames_deeper->Qhk,under_plainId->Qhn
open PySem.SeqAt.EqAt renaming bool_bool->Qhl,int_str->Qic,str_int->Qid
open Sum.inr renaming inj->Qhy
open Char renaming toNat->Qjf
open Decidable renaming not_not->Qji
open PySem.IsL renaming update->Qjw
open PySem.Shared renaming mk->Qkj,heap->Qme
open PyProof.Rows.IsTup renaming new->Qkn
open PySem.Walks renaming list->Qlm
open PySem.Builtin.Range renaming rangeSize->Qlp
open PySem.Heap.FunFrames renaming of_keeps->Qlq
open PySem.CmpOp renaming NotIn->Qmc
open PySem.W.Looks renaming here->Qmg,ld->Qmk
open PySem.Heap.IsSliceOf renaming new->Qmh
open List.Pairwise renaming nil->Qmi,map->Qmj
abbrev Nd0(x:Qki):Prop:=(x==("__debug__":Qki))=false
abbrev Nd1(x:Qki):Prop:=(x==("__classdict__":Qki))=false
namespace L2
open PySem PySem.Spec PyProof.Rows
def defArgs(s:Stmt):Qgu:=match s with
 |.FunctionDef _ a _ _ _ _ _ _ _ _=>a
 |_=>{ posonlyargs:=[],args:=[],vararg:=none,kwonlyargs:=[],kw_defaults:=[],kwarg:=none,defaults:=[] }
def defBody(s:Stmt):List Stmt:=match s with
 |.FunctionDef _ _ b _ _ _ _ _ _ _=>b
 |_=>[]
def defScope(s:Stmt):Scope:=match s with
 |.FunctionDef _ _ _ _ _ _ sc _ _ _=>sc
 |_=>{ kind :=.function,names:=[],isGenerator:=false,isCoroutine:=false }
end L2
namespace My
noncomputable section
open PySem PySem.W PySem.Calls PyProof.Rows
def en0(P:Qby)(x:Str)(t:Nat)(v:Value):Qao:=⟨Qle P x,.str x t,v⟩
def tu0(vs:List Value):Obj:=⟨.type "tuple",none,.seq vs.toArray 0,#[]⟩
def em0:Obj:=⟨.none,none,.fields #[],#[]⟩
def fo0(n q:Str)(s:Stmt)(pm:Value)(c:Nat):Obj:=⟨.type "function",none,.func (Vx n q (L2.defArgs s) (L2.defBody s) (L2.defScope s) .none .none .none pm none (.ref c) .none),#[]⟩
def pr0(n q:Str)(s:Stmt):Obj:=⟨.none,none,.func ⟨n,q,L2.defArgs s,.stmts (L2.defBody s),L2.defScope s,0,[],.none,.none,.none,.none,none,.none,.none,0⟩,#[]⟩
def co0(n q:Str)(t:Nat)(l ac fl:Int)(a:Nat)(b:Bool)(x y z:Value)(u:Nat):Obj:=⟨.type "code",none,.fields #[.str n t,.str q (t+1),.str "/claim/cut.py" (t+2),.int l 0,.int ac 0,.int 0 0,.int 0 0,.int fl 0,.ref a,.bool b,.int 181 0,.ref (a+1),.none,x,y,z,.int u 0,.int l 0,.str "/claim/cut.py" (u+1)],#[]⟩
def qha:Env:={ scope:=Qd.main.scope,locals:=mainNs,globals:=mainNs,cells:=[],code:=(.ref 13),frame:=some 14 }
def cE0:Code :=.body (behindTheImports Qd) qha
def ls0:List Str:=(Qd.main.scope.names.map (·.1)).filter λx => !(x == "__name__" || x == "law")
def lf0:Life:=⟨[],[],[],0,[],[],false,#[],[],0,false,false,false,0,[2000,10,10],false,0,true,[],[],0,false⟩
def dx0:Stmt->Str×Nat×Nat
 |.FunctionDef n _ _ _ _ _ _ _ _ p=>(n,p.line,p.col)
 |.ClassDef n _ _ _ _ _ _ _ _ _ p=>(n,p.line,p.col)
 |_=>(Zf,0,0)
def vs0(b:Bool)(s:Stmt):List Str:=(L2.defScope s).names.filterMap λp=>match p.2 with |.local=>bif b then none else some p.1 |.cell=>some p.1|_=>none
def tS0(vs:List Str)(t:Nat):Obj:=tu0 ((vs.zipIdx t).map λp => .str p.1 p.2)
def bi0(c:String)(vs:List Value):Obj:=⟨.type c,none,.fields vs.toArray,#[]⟩
def di0(es:List Qao)(k:Nat):Obj:=⟨.type "dict",none,.dict es.toArray k,#[]⟩
def fd0(b:Bool)(q:Str)(s:Stmt)(pm:Value)(a t:Nat):List Obj :=
 let n:=(dx0 s).1;let l:=(dx0 s).2.1;let c:=(L2.defArgs s).args.length;let vs:=vs0 false s;let ce:=vs0 true s
 bif b then[tu0 [],em0,pr0 n q s,co0 n q t l c 3 a true .none .none (.ref (a+2)) (t+3),fo0 n q s pm (a+3)]
 else[tu0 [],em0,tS0 vs (t+3),tS0 ce (t+3+vs.length),pr0 n q s,co0 n q t l c 3 a true (.ref (a+2)) (.ref (a+3)) (.ref (a+4)) (t+3+vs.length+ce.length),fo0 n q s pm (a+5)]
def fr0(c l:Nat)(pm:Value):Obj:=⟨.type "frame",none,.plain,#[some (.ref c),some (.ref 3),some (.ref l),none,some pm,none,some (.ref 0)]⟩
abbrev It0:=List Obj×List Qao×List Value
def rw0(s:Stmt)(c:Nat):List Value:=[.int (dx0 s).2.1 0,.int (dx0 s).2.2 0,.ref c]
def fi0(P:Qby)(b:Bool)(q:Str)(s:Stmt)(pm:Value)(a t:Nat):It0×Nat×Nat :=
 let os:=fd0 b q s pm a t;let e:=a+os.length;let u:=t+5+bif b then 0 else(vs0 false s).length+(vs0 true s).length
 ((os,[en0 P (dx0 s).1 u (.ref (e-1))],rw0 s (e-2)),e,u+1)
def me0(P:Qby)(q:Str)(m:Nat)(pm:Value):List Stmt->Nat->Nat->Nat->(List It0->Nat->Nat->List It0)->List It0
 |[],_,a,t,k=>k [] a t
 |.FunctionDef n x1 x2 x3 x4 x5 x6 x7 x8 x9::ss,j,a,t,k=>let r:=fi0 P (m.testBit j) (q++n) (.FunctionDef n x1 x2 x3 x4 x5 x6 x7 x8 x9) pm a t
  me0 P q m pm ss (j+1) r.2.1 r.2.2 λrs a t=>k (r.1::rs) a t
 |_::ss,j,a,t,k=>me0 P q m pm ss (j+1) a t k
def cl0(n:Str)(k d:Nat)(x:Option Value)(t:Nat)(subs:List Value):Obj :=
 let ms:List Value:=[.type "ValueError",.type "Exception",.type "BaseException",.type "object"]
 ⟨.type "type",none,.cls ⟨n,(match k with|0=>[.ref 24]|1=>[.type "ValueError"]|_=>[.type "object"]),.ref (d+1)::(match k with|0 => .ref 24::ms|1=>ms|_=>[.type "object"]),d,n,true,[],subs,false,none,false⟩,#[x,none,some (.str n t),some (.str n (t+8)),some (.builtin (match k with|2 => "object.__new__" |_ => "ValueError.__new__")),some (.bool true)]⟩
def ci0(P:Qby)(k:Nat)(s:Stmt)(sa:List Str)(pm:Value)(a t:Nat)(subs:List Value)(rs:List It0)(a' t':Nat):It0×Nat×Nat :=
 let n:=(dx0 s).1;let l:=(dx0 s).2.1;let e:=t'+sa.length;let self:Value :=.ref (a'+2)
 let mo:=en0 P "__module__" (t+7) pm;let fl:=en0 P "__firstlineno__" (t+11) (.int l (t+10));let st:=en0 P "__static_attributes__" e (.ref a');let es:=rs.flatMap (·.2.1)
 let wr:=λu=>bi0 "getset_descriptor" [.str "__weakref__" u,self,.builtin "ExceptionGroup.__weakref__",.none]
 let (gs,ge,u):List Obj×List Qao×Nat:=match k with
  |0=>([],[],e)
  |1=>([wr (e+1)],[en0 P "__weakref__" (e+2) (.ref (a'+3))],e+2)
  |_=>([bi0 "getset_descriptor" [.str "__dict__" (e+1),self,.builtin "function.__dict__",.builtin "function.__dict__#set"],wr (e+3)],[en0 P "__dict__" (e+2) (.ref (a'+3)),en0 P "__weakref__" (e+4) (.ref (a'+4))],e+4)
 (([tu0 (match k with|0=>[.ref 24]|1=>[.type "ValueError"]|_=>[]),bi0 "builtin_function_or_method" [.builtin "type.__prepare__",.type "type"],di0 ([mo,en0 P "__qualname__" (t+9) (.str n (t+8)),fl]++es++[st]) (4+es.length),tu0 [],⟨.none,none,.fields (rs.flatMap (·.2.2)).toArray,#[]⟩,
  co0 n n (t+2) l 0 0 (a+3) false .none .none .none (t+5),fr0 (a+5) (a+2) pm]++rs.flatMap (·.1)++[tS0 sa t',di0 ([mo,fl]++es++[st]++ge++[en0 P "__doc__" (u+1) .none]) (k+2),cl0 n k (a'+1) (match k with|2=>none|_=>some (.ref a)) t subs]++gs++[bi0 "super" [self,self,self],bi0 "builtin_function_or_method" [.builtin "object.__init_subclass__",self]],
  [en0 P n (u+3) self],rw0 s (a+5)),a'+5+gs.length,u+4)
def kn0:Const->Nat->Value
 |.int i,t => .int i t
 |.str s,t => .str s t
 |_,_ => .none
def xi0(P:Qby):Nat->It0×Nat
 |115=>(([(tu0 [(.str "glass" 1038),(.str "dulling" 1039),(.str "payoffs" 1040)])],[en0 P "TEXTS" 1041 (.ref 651)],[]),1042)
 |116=>(([⟨(.type "dict"),none,(.dict #[en0 P "glass" 1042 (.ref 653),en0 P "dull" 1045 (.ref 654),en0 P "beside" 1049 (.ref 655),en0 P "join" 1053 (.ref 656),en0 P "least" 1058 (.ref 657),en0 P "show" 1061 (.ref 658),en0 P "best" 1063 (.ref 659),en0 P "compare" 1066 (.ref 660),en0 P "by" 1069 (.ref 661),en0 P "alike" 1072 (.ref 662),en0 P "curve" 1075 (.ref 663)] 11),#[]⟩,(tu0 [(.str "new" 1043),(.str "glass" 1044)]),(tu0 [(.str "new" 1046),(.str "name" 1047),(.str "dulling" 1048)]),(tu0 [(.str "new" 1050),(.str "name" 1051),(.str "name" 1052)]),(tu0 [(.str "new" 1054),(.str "name" 1055),(.str "number" 1056),(.str "number" 1057)]),(tu0 [(.str "new" 1059),(.str "name" 1060)]),(tu0 [(.str "name" 1062)]),(tu0 [(.str "name" 1064),(.str "payoffs" 1065)]),(tu0 [(.str "name" 1067),(.str "name" 1068)]),(tu0 [(.str "name" 1070),(.str "name" 1071)]),(tu0 [(.str "name" 1073),(.str "name" 1074)]),(tu0 [(.str "name" 1076)])],[en0 P "FORMS" 1088 (.ref 652)],[]),1089)
 |_=>(([],[],[]),0)
def znu(P:Qby):List Stmt->Nat->Nat->Nat->Value->List It0
 |[],_,_,_,_=>[]
 |.Assign [.Name x _] (.Constant c _ _) _::ss,i,a,t,pm=>bif Nat.testBit 85073187879912101550170850365780529153 i then znu P ss (i+1) a (t+2) (kn0 c t)else([],[en0 P x (t+1) (kn0 c t)],[])::znu P ss (i+1) a (t+2) pm
 |.ClassDef n x1 x2 b x4 x5 x6 x7 x8 sa x9::ss,i,a,t,pm=>let s:=Stmt.ClassDef n x1 x2 b x4 x5 x6 x7 x8 sa x9;let k:=match i,x1 with|1,_=>1|_,[]=>2|_,_=>0
  me0 P (n ++ ".") ((([(56,39),(117,2)]:List (Nat×Nat)).lookup i).getD 0) pm b 0 (a+7) (t+12) λrs a' t'=>let r:=ci0 P k s sa pm a t (match k with|1=>(Z9 10).map λj => .ref (37+12*j)|_=>[]) rs a' t'
   r.1::znu P ss (i+1) r.2.1 r.2.2 pm
 |.FunctionDef n x1 x2 x3 x4 x5 x6 x7 x8 x9::ss,i,a,t,pm=>let r:=fi0 P (Nat.testBit 11277503662395585423169732774683117355008 i) n (.FunctionDef n x1 x2 x3 x4 x5 x6 x7 x8 x9) pm a t
  r.1::znu P ss (i+1) r.2.1 r.2.2 pm
 |_::ss,i,a,_,pm=>let r:=(xi0 P i).1;r::znu P ss (i+1) (a+r.1.length) (xi0 P i).2 pm
def ev0:Bool->List Obj->List Obj
 |_,[]=>[]
 |true,x::xs=>x::ev0 false xs
 |false,_::xs=>ev0 true xs
def br0:Nat->List Obj->BT
 |n+1,x::xs => .node x (br0 n (ev0 true xs)) (br0 n (ev0 false xs))
 |_,_ => .nil
def q0(P:Qby):List It0:=znu P Qd.main.body 0 15 187 .none
def ba0(P:Qby)(g:Obj)(t:Obj):List Obj:=[boot_o_0 P,boot_o_1 P,boot_o_2 P,g,boot_o_4 P,boot_o_5 P,boot_o_6 P,boot_o_7 P,boot_o_8 P,boot_o_9 P,boot_o_10 P,tu0 [],t,co0 "<module>" "<module>" 182 1 0 0 11 false .none .none .none 185,fr0 13 3 (.str "__main__" 164)]
def ol0(P:Qby):List Obj:=ba0 P (di0 ([en0 P "__name__" 165 (.str "law_dullglass_k54_desk_rows_refused" 1204),en0 P "__doc__" 166 .none,en0 P "__package__" 167 .none,en0 P "__loader__" 168 (.builtin "__main__.__loader__#opaque"),en0 P "__spec__" 169 .none,en0 P "__annotations__" 170 (.ref 6),en0 P "__builtins__" 171 (.ref 4),en0 P "__file__" 173 (.str "/claim/cut.py" 172),en0 P "__cached__" 174 .none]++(q0 P).flatMap (·.2.1)) 133) ⟨.none,none,.fields ((q0 P).flatMap (·.2.2)).toArray,#[]⟩++(q0 P).flatMap (·.1)
def tA0(P:Qby):BT:=br0 4 (ba0 P (boot_o_3 P) em0)
def tE0(P:Qby):BT:=br0 12 (ol0 P)
def xbb(w:World):(λos=>topGo Qcd Qd w 11 (some (.ref 6)) 12 (Qkj (boot_heap w.params) (Vu []) boot_drawn boot_toks os) (topStub Qd))=λos=>some ((Vn (tA0 w.params) 15 lf0 (Vu []) boot_drawn 187 os).abs,Thread.mk (denote Qcd cE0) cE0 ⟨0,0,0,0⟩ [topFrame ⟨0,0,0,0⟩]):=by
 rewrite [PySem.W.Fast.te15667345088766844465,Ya,PySem.W.Fast.te11892475500146522536]
 kernel_rfl
def zrl(w:World):(λos=>segRun Qcd Qd w 11 (some (.ref 6)) 1 1 (Vn (tA0 w.params) 15 lf0 (Vu []) boot_drawn 187 os).abs (blockOf (behindTheImports Qd) qha cE0 ⟨0,0,0,0⟩ [topFrame ⟨0,0,0,0⟩]))=λos=>some (.next,(Vn (tA0 w.params) 15 lf0 (Vu []) boot_drawn 187 os).abs,cE0,⟨0,0,0,0⟩):=by
 rewrite [PySem.W.Fast.te14374325043358763698,Ya]
 kernel_rfl
def qyz(w0:World):(λ(w:World)=>((λos=>segRunT Qcd Qd w 11 (some (.ref 6)) 1 6172 (Vn (tA0 w.params) 15 lf0 (Vu []) boot_drawn 187 os) (piecesOf (behindTheImports Qd) qha cE0 ⟨0,0,0,0⟩ [topFrame ⟨0,0,0,0⟩]))=λos=>some (.next,(Vn (tE0 w.params) 820 lf0 (Vu []) boot_drawn 1293 os),cE0,⟨558,0,580,112⟩))) (w0.withFollow "special-get-raises" false):=by
 show(λos=>segRunT Qcd Qd (w0.withFollow "special-get-raises" false) 11 (some (.ref 6)) 1 6172 (Vn (tA0 (w0.withFollow "special-get-raises" false).params) 15 lf0 (Vu []) boot_drawn 187 os) (piecesOf (behindTheImports Qd) qha cE0 ⟨0,0,0,0⟩ [topFrame ⟨0,0,0,0⟩]))=λos=>some (.next,(Vn (tE0 (w0.withFollow "special-get-raises" false).params) 820 lf0 (Vu []) boot_drawn 1293 os),cE0,⟨558,0,580,112⟩)
 rewrite [Qbf,Ya]
 kernel_rfl
def zby(w0:World):(λ(w:World)=>((λos=>segRunT Qcd Qd w 11 (some (.ref 6)) 1 6172 (Vn (tA0 w.params) 15 lf0 (Vu []) boot_drawn 187 os) (piecesOf (behindTheImports Qd) qha cE0 ⟨0,0,0,0⟩ [topFrame ⟨0,0,0,0⟩]))=λos=>some (.next,(Vn (tE0 w.params) 820 lf0 (Vu []) boot_drawn 1293 os),cE0,⟨558,0,580,112⟩))) (w0.withFollow "special-get-raises" true):=by
 show(λos=>segRunT Qcd Qd (w0.withFollow "special-get-raises" true) 11 (some (.ref 6)) 1 6172 (Vn (tA0 (w0.withFollow "special-get-raises" true).params) 15 lf0 (Vu []) boot_drawn 187 os) (piecesOf (behindTheImports Qd) qha cE0 ⟨0,0,0,0⟩ [topFrame ⟨0,0,0,0⟩]))=λos=>some (.next,(Vn (tE0 (w0.withFollow "special-get-raises" true).params) 820 lf0 (Vu []) boot_drawn 1293 os),cE0,⟨558,0,580,112⟩)
 rewrite [Qbf,Ya]
 kernel_rfl
def xbf(w:World):(λos=>segRunT Qcd Qd w 11 (some (.ref 6)) 1 6172 (Vn (tA0 w.params) 15 lf0 (Vu []) boot_drawn 187 os) (piecesOf (behindTheImports Qd) qha cE0 ⟨0,0,0,0⟩ [topFrame ⟨0,0,0,0⟩]))=λos=>some (.next,(Vn (tE0 w.params) 820 lf0 (Vu []) boot_drawn 1293 os),cE0,⟨558,0,580,112⟩):=by
 have e:=World.withFollow_self w "special-get-raises";cases hb:w.params.followText "special-get-raises" <;> rw[hb]at e
 ·have q:=qyz w;rw[e]at q;exact q
 ·have q:=zby w;rw[e]at q;exact q
def xal(w:World):(λos=>topRun Qcd Qd w 11 (some (.ref 6)) 2 (Vn (tE0 w.params) 820 lf0 (Vu []) boot_drawn 1293 os).abs ⟨doneF .next,cE0,⟨558,0,580,112⟩,[topFrame ⟨0,0,0,0⟩]⟩)=λos=>some (Vn (tE0 w.params) 820 lf0 (Vu []) boot_drawn 1293 os).abs:=by
 rewrite [PySem.W.Fast.te14082659384304107361,Ya]
 kernel_rfl
def xau(w:World)(os:OsState):topRun Qcd Qd w 11 (some (.ref 6)) (12+(1+(6172+2))) (Qkj (boot_heap w.params) (Vu []) boot_drawn boot_toks os) (topStub Qd)=some (Vn (tE0 w.params) 820 lf0 (Vu []) boot_drawn 1293 os).abs :=
 go_top (congrFun (xbb w) os) (piece_block (congrFun (zrl w) os) (by
  have q:=piece_app (rest:=[]) (segRun_of (congrFun (xbf w) os)) (piece_nil (congrFun (xal w) os))
  rwa [Yc]at q))
def zwr:opening Qd=plainProg Qd.main.scope.names:=by kernel_rfl
def zul(s:Ql):fenceModules? Qd s=some s:=by kernel_rfl
def zyh(w:World):((boot_heap w.params).isNs Zg&&(Vu []:Array GenState).size==0,(boot_heap w.params).objs.size,(boot_heap w.params).nsMap Zg "__annotations__")=(true,11,(some (.ref 6))):=by kernel_rfl
def xbn(w:World):(λos=>(staticsOk (importedModules Qd.main.body) (boot_heap w.params) (absHeap (tE0 w.params) 820 lf0)&&namesBound Qd (absHeap (tE0 w.params) 820 lf0)&&gensDone (Qkj (absHeap (tE0 w.params) 820 lf0) (Vu []) boot_drawn 1293 os)&&laidKept (boot_heap w.params) (absHeap (tE0 w.params) 820 lf0)))=λ_=>true:=by
 rewrite [Qbp]
 kernel_rfl
def xan(w:World):(λos=>openSeen (view Qd [135]) ls0 (importedModules Qd.main.body) (λ_=>true) true (Qkj (absHeap (tE0 w.params) 820 lf0) (Vu []) boot_drawn 1293 os))=λ_=>openGood (view Qd [135]) ls0:=by
 rewrite [PySem.W.Fast.te4187177175401517315,Qbp]
 kernel_rfl
def fr9:List Addr:=[2,3,23,24,25,36,37,48,49,60,61,72,73,84,85,96,97,108,109,120,121,132,133,144,145,153,154,160,161,167,168,174,175,181,182,188,189,195,196,202,203,209,210,214,215,219,220,224,225,231,232,236,237,241,242,246,247,251,252,258,259,265,266,270,271,275,276,280,281,287,288,292,293,297,298,302,303,309,310,314,315,321,322,328,329,333,334,340,341,347,348,354,355,359,360,371,372,376,377,381,382,388,389,395,396,400,401,402,403,404,405,406,412,413,417,418,424,425,431,432,438,439,445,446,450,451,455,456,460,461,465,466,470,471,475,476,480,481,487,488,492,493,497,498,502,503,509,510,514,515,519,520,526,527,533,534,538,539,543,544,550,551,555,556,562,563,567,568,574,575,579,580,584,585,589,590,594,595,601,602,608,609,613,614,618,619,625,626,632,633,637,638,642,643,649,650,651,652,653,654,655,656,657,658,659,660,661,662,663,676,677,681,682,688,689,695,696,702,703,704,705,706,707,708,714,715,721,722,728,729,735,736,740,741,747,748,754,755,759,760,766,767,771,772,778,779,785,786,792,793,799,800,804,805,811,812,818,819,4]
def K0(P:Qby):Frag:=fr9.map λa=>(a,(ol0 P).getD a em0)
def K1(P:Qby):Frag:=[(483,em0),(522,em0)]++K0 P
def as0:List Addr:=[483,522]++fr9
def zuk(w:World):(λ(os:OsState)=>as0.map (absHeap (tE0 w.params) 820 lf0).get?)=λ_=>(K1 w.params).map λp=>some p.2:=by kernel_rfl
def left0:LeftO Qd (view Qd [135]) ls0 (λ_=>true) (λs=>as0.map s.heap.get?) (λw=>(K1 w.params).map λp=>some p.2) 100000 :=
 LeftO.of_pieces (H₀:=boot_heap) (H₁:=λP=>absHeap (tE0 P) 820 lf0) (gs₁:=Vu []) (d₁:=boot_drawn) (k₁:=1293) (boot_open zwr rfl zul) zyh xau rfl λw=>by
  funext os
  exact congr (congrArg Prod.mk (congrFun (xbn w) os)) (congr (congrArg Prod.mk (congrFun (xan w) os)) (congrFun (zuk w) os))
def sd0:Ym.wellSaid=true:=by
 rewrite [PySem.W.Fast.te9446332074065402090]
 kernel_rfl
def ik0(P:Qby):as0=(K1 P).map (·.1):=by kernel_rfl
def tn0(P:Qby):(([(483,487),(522,526)]:List (Addr×Addr)).all λp=>((K0 P).lookup p.1).isNone)=true:=by kernel_rfl
end
end My
namespace L2
open PySem PySem.Spec PyProof.Rows
abbrev Key:=Sum Int Str
def qya:Key->Value->Bool
 |.inl k,v=>Qlz k v
 |.inr x,v=>Qlo x v
def xft(w:World):Key->Int
 |.inl k=>hashInt k
 |.inr x=>hashStr w x
def qap:∀{k:Key}{v:Value},qya k v=true->(∃i t,k=Qda i/\v=Qkk i t)\/(∃x t,k=Qdb x/\v=Qdr x t)
 |.inl i,v,h=>by
  obtain⟨t,e⟩:=Value.isInt_shape (k:=i) (v:=v) h;grind
 |.inr x,v,h=>by
  obtain⟨t,e⟩:=Value.isStrOf_shape (x:=x) (v:=v) h;grind
def zix(i:Int)(t:Tok):qya (.inl i) (.int i t)=true:=by simp[qya,Qlz]
def zir(x:Str)(t:Tok):qya (.inr x) (.str x t)=true:=by simp[qya,Qlo]
def zwv(a b:Int):decide ((Qda a:Key)=Qda b)=(a==b):=by
 grind
def zwd(a b:Str):decide ((Qdb a:Key)=Qdb b)=decide (a=b):=by
 grind
def zwt(a:Int)(b:Str):decide ((Qda a:Key)=Qdb b)=false:=decide_eq_false (λq=>nomatch q)
def zxs(a:Str)(b:Int):decide ((Qdb a:Key)=Qda b)=false:=decide_eq_false (λq=>nomatch q)
def qao(prog:Zk)(w:World):PySem.KeyKind prog w Key where
 is:=qya
 hash:=xft w
 inj:=λv a b ha hb=>by
  rcases qap ha with⟨i,t,rfl,rfl⟩|⟨x,t,rfl,rfl⟩
  ·rcases qap hb with⟨j,u,rfl,e⟩|⟨y,u,rfl,e⟩
   ·injection e with e1 _;rw[e1]
   ·exact nomatch e
  ·rcases qap hb with⟨j,u,rfl,e⟩|⟨y,u,rfl,e⟩
   ·exact nomatch e
   ·injection e with e1 _;rw[e1]
 byValue:=λk v h=>by
  rcases qap h with⟨i,t,rfl,rfl⟩|⟨x,t,rfl,rfl⟩ <;> rfl
 pyHash:=λhv h=>by
  rcases qap hv with⟨i,t,rfl,rfl⟩|⟨x,t,rfl,rfl⟩
  ·exact wpAny_pyHash_int h
  ·exact wpAny_pyHash_str h
 eqBool:=λhu hv h=>by
  rcases qap hu with⟨i,t,rfl,rfl⟩|⟨x,t,rfl,rfl⟩
  ·rcases qap hv with⟨j,u,rfl,rfl⟩|⟨y,u,rfl,rfl⟩
   ·rw[zwv]at h;exact wpAny_eqBool_int h
   ·rw[zwt]at h;exact Qic i t y u _ _ _ _ h
  ·rcases qap hv with⟨j,u,rfl,rfl⟩|⟨y,u,rfl,rfl⟩
   ·rw[zxs]at h;exact Qid x t j u _ _ _ _ h
   ·rw[zwd]at h;exact wpAny_eqBool_str h
 «strs»:=λk x t v h=>by
  rcases qap h with⟨i,u,rfl,e⟩|⟨y,u,rfl,e⟩
  ·exact nomatch e
  ·injection e with e1 _;subst e1;cases v <;> rfl
theorem qyt(prog:Zk)(w:World)(i:Int)(t:Tok):(qao prog w).is (.inl i) (.int i t)=true:=zix i t
theorem qhd(prog:Zk)(w:World)(x:Str)(t:Tok):(qao prog w).is (.inr x) (.str x t)=true:=zir x t
inductive V where
 |non|bl (b:Bool)|int (i:Int)|str (x:Str)|byt (b:Array UInt8)|flt (b:UInt64)|ref (a:Addr)|ty (n:String)
 deriving DecidableEq
def RelV:V->Value->Prop
 |.non,u=>u=Yn
 |.bl b,u=>u=Qdp b
 |.int i,u =>∃t,u=Qkk i t
 |.str x,u =>∃t,u=Qdr x t
 |.byt b,u =>∃t,u=Qma b t
 |.flt b,u =>∃t,u=Qmb b t
 |.ref a,u=>u=Zo a
 |.ty n,u=>u=Qeu n
abbrev Vals:List V->List Value->Prop:=Paired RelV
theorem Vals.length(r:Vals xs us):xs.length=us.length:=Qfn r
def Vals.get:∀{xs:List V}{us:List Value}{i:Nat}{x:V},Vals xs us->xs[i]?=some x ->∃u,us[i]?=some u/\RelV x u
 |_,_,_,_,.nil,e=>by simp at e
 |_,_,0,_,.cons r _,e=>by grind
 |_,_,i+1,x,.cons _ t,e=>by
  obtain⟨u,h1,h2⟩:=Vals.get (i:=i) (x:=x) t (by simpa using e);grind
def Vals.set(r:RelV x u):∀{xs:List V}{us:List Value}(i:Nat),Vals xs us->Vals (xs.set i x) (us.set i u)
 |_,_,_,.nil => .nil
 |_,_,0,.cons _ t => .cons r t
 |_,_,i+1,.cons q t => .cons q (Vals.set r i t)
def Vals.append:∀{xs ys:List V}{us ws:List Value},Vals xs us->Vals ys ws->Vals (xs++ys) (us++ws)
 |_,_,_,_,.nil,s=>s
 |_,_,_,_,.cons r t,s => .cons r (Vals.append t s)
def Vals.take:∀{xs:List V}{us:List Value}(n:Nat),Vals xs us->Vals (xs.take n) (us.take n)
 |_,_,0,_ => .nil
 |_,_,_+1,.nil => .nil
 |_,_,n+1,.cons r t => .cons r (Vals.take n t)
def Vals.drop:∀{xs:List V}{us:List Value}(n:Nat),Vals xs us->Vals (xs.drop n) (us.drop n)
 |_,_,0,r=>r
 |_,_,_+1,.nil => .nil
 |_,_,n+1,.cons _ t=>Vals.drop n t
def RelO:Option V->Option Value->Prop
 |some v,some u=>RelV v u
 |none,none=>True
 |_,_=>False
def KV{κ:Type}:List (κ×V)->List (κ×Value)->Prop:=Paired λ(p:κ×V) (q:κ×Value)=>p.1=q.1/\RelV p.2 q.2
def kV:Key->V
 |.inl i => .int i
 |.inr x => .str x
inductive HO where
 |lst (xs:List V)
 |tup (xs:List V)
 |dK (kvs:List (Key×V))|dT (kvs:List (List Key×V))
 |set (S:Int->Bool) (n:Nat)
 |ins (C dx:Addr) (fs:List (Str×V))
 |own (x:Addr)
 |xd (fs:List (Str×V))
 |met (f x:Addr)
 |rng (lo hi:Int)
 |frz (o:Obj) (u:HO)
 |tbl (ps:Array Value)
 |ext (φ:Heap->Prop)
abbrev Hp:=Addr->Option HO
def upd(H:Hp)(a:Addr)(o:HO):Hp:=λb=>if b=a then some o else H b
theorem qp:upd H a o a=some o:=by unfold upd;rw[if_pos rfl]
theorem qo(h:b≠a):upd H a o b=H b:=by unfold upd;rw[if_neg h]
def ztf:upd (upd H a o) a u=upd H a u:=by
 funext b;unfold upd;split <;> rfl
def zvq{H:Hp}(h:H a=some o)(h':H b=some u)(d:o≠u):a≠b:=by
 grind
def qq{H:Hp}(h:H a=some o)(h':H b=none):a≠b:=by
 intro e;subst e;rw[h]at h';cases h'
section
variable(P:Zk)(w:World)
def ObjOk(H:Hp)(h:Heap)(a:Addr):HO->Prop
 |.lst xs=>xs.length<=Qo /\ ∃(its:List Value)(n:Nat),Vals xs its/\h.get? a=some { cls :=.type "list",data :=.seq its.toArray n }
 |.tup xs=>xs.length<=Qo /\ ∃its:List Value,Vals xs its/\IsTup h a its.toArray
 |.dK kvs=>kvs.length<=Qo/\(a==V4)=false /\ ∃vs,KV kvs vs/\h.DictOf (qao P w) a vs
 |.dT kvs=>kvs.length<=Qo/\(a==V4)=false /\ ∃xs:List (List Key×Addr×Value),
  Paired (λ(p:List Key×V) (q:List Key×Addr×Value)=>p.1=q.1/\H q.2.1=some (.tup (p.1.map kV))/\RelV p.2 q.2.2) kvs xs /\
  ∃o es ep,h.get? a=some o/\o.ExactDict/\o.data = .dict es ep/\es.toList=xs.map (entryOfKey (Qhd (qao P w)))/\(xs.map (·.1)).Nodup
 |.set S n=>h.SetOf (intKind P w) a S n
 |.ins C dx fs=>H dx=some (.own a)/\fs.length<=1000/\dx≠a/\h.get? a=some (Jc C dx) /\
  ∃mA,h.Ns1 dx mA/\(∀f,RelO (fs.lookup f) (mA f))/\Qjl mA (fs.map (·.1))
 |.own _ =>∃o,h.get? a=some o
 |.xd fs =>∃mA,h.Ns1 a mA /\ ∀f,RelO (fs.lookup f) (mA f)
 |.rng lo hi =>∃t u v,h.get? a=some { cls :=.type "range",data :=.fields #[.int lo t,.int hi u,.int 1 v] }
 |.frz o u=>h.get? a=some o/\ObjOk H h a u
 |.tbl ps=>h.get? a=some { cls :=.none,data :=.fields ps }
 |.met f x=>h.get? a=some (Qev (.ref f) (.ref x))
 |.ext φ=>φ h/\(∃o,h.get? a=some o) /\ ∀h1 h2:Heap,φ h1->(∀o,h1.get? a=some o->h2.get? a=some o)->φ h2
def HOk(H:Hp)(h:Heap):Prop :=∀a o,H a=some o->ObjOk P w H h a o
end
section
variable{P:Zk}{w:World}{H H':Hp}{h h':Heap}{a:Addr}{o:HO}
def ObjOk.lt(x:ObjOk P w H h a o):a<h.objs.size:=by
 cases o with
 |lst xs=>obtain⟨_,_,_,_,e⟩:=x;exact Qm e
 |tup xs=>obtain⟨_,_,_,p⟩:=x;exact p.lt
 |dK kvs=>obtain⟨_,_,_,_,o,_,_,e,_⟩:=x;exact Qm e
 |dT kvs=>obtain⟨_,_,_,_,o,_,_,e,_⟩:=x;exact Qm e
 |set S n=>obtain⟨o,_,_,_,e,_⟩:=x;exact Qm e
 |ins C dx fs=>obtain⟨_,_,_,e,_⟩:=x;exact Qm e
 |own y=>obtain⟨_,e⟩:=x;exact Qm e
 |xd fs=>obtain⟨_,⟨_,_,_,e,_⟩,_⟩:=x;exact Qm e
 |rng lo hi=>obtain⟨_,_,_,e⟩:=x;exact Qm e
 |frz ob u=>obtain⟨e,_⟩:=x;exact Qm e
 |tbl ps=>exact Qm (show h.get? a=some _ from x)
 |met f y=>exact Qm (show h.get? a=some _ from x)
 |ext φ=>obtain⟨_,⟨_,e⟩,_⟩:=x;exact Qm e
def Paired.mapP:∀{l₁:List α}{l₂:List β},Paired F l₁ l₂->(∀a b,F a b->G a b)->Paired G l₁ l₂
 |_,_,.nil,_ => .nil
 |_,_,.cons r t,f => .cons (f _ _ r) (Paired.mapP t f)
def ObjOk.stay(x:ObjOk P w H h a o)(k:∀b u,(b=a\/H b=some (.own a))->h.get? b=some u->h'.get? b=some u)(ho:∀b,H b=some (.own a)->H' b=some (.own a))(ht:∀b xs,H b=some (.tup xs)->H' b=some (.tup xs)):ObjOk P w H' h' a o:=by
  induction o with
  |lst xs=>obtain⟨z,its,n,r,e⟩:=x;exact⟨z,its,n,r,k _ _ (.inl rfl) e⟩
  |tup xs=>obtain⟨z,its,r,ob,e,c⟩:=x;exact⟨z,its,r,ob,k _ _ (.inl rfl) e,c⟩
  |dK kvs=>obtain⟨z,y,vs,r,ob,es,ep,e,c⟩:=x;exact⟨z,y,vs,r,ob,es,ep,k _ _ (.inl rfl) e,c⟩
  |dT kvs =>
   obtain⟨z,y,xs,r,ob,es,ep,e,c⟩:=x;exact⟨z,y,xs,Paired.mapP r λp q z=>⟨z.1,ht _ _ z.2.1,z.2.2⟩,ob,es,ep,k _ _ (.inl rfl) e,c⟩
  |set S n=>obtain⟨ob,es,ep,t,e,c⟩:=x;exact⟨ob,es,ep,t,k _ _ (.inl rfl) e,c⟩
  |ins C dx fs =>
   obtain⟨d,z,ne,e,mA,⟨od,es,ep,e2,c⟩,r⟩:=x;exact⟨ho _ d,z,ne,k _ _ (.inl rfl) e,mA,⟨od,es,ep,k _ _ (.inr d) e2,c⟩,r⟩
  |own y=>obtain⟨ob,e⟩:=x;exact⟨ob,k _ _ (.inl rfl) e⟩
  |xd fs=>obtain⟨mA,⟨od,es,ep,e,c⟩,r⟩:=x;exact⟨mA,⟨od,es,ep,k _ _ (.inl rfl) e,c⟩,r⟩
  |rng lo hi=>obtain⟨t,u,v,e⟩:=x;exact⟨t,u,v,k _ _ (.inl rfl) e⟩
  |frz ob u ih=>obtain⟨e,q⟩:=x;exact⟨k _ _ (.inl rfl) e,ih q⟩
  |tbl ps =>
   have e:h.get? a=some { cls :=.none,data :=.fields ps }:=x;show h'.get? a=some { cls :=.none,data :=.fields ps };grind
  |met f y =>
   have e:h.get? a=some (Qev (.ref f) (.ref y)):=x;show h'.get? a=some (Qev (.ref f) (.ref y));grind
  |ext φ=>obtain⟨p,⟨o,e⟩,st⟩:=x;exact⟨st _ _ p λo q=>k _ _ (.inl rfl) q,⟨o,k _ _ (.inl rfl) e⟩,st⟩
def HOk.lt(x:HOk P w H h)(e:H a=some o):a<h.objs.size:=(x a o e).lt
def HOk.fresh(x:HOk P w H h)(e:h.objs.size<=a):H a=none:=by
 cases q:H a with
 |none=>rfl
 |some u=>exact absurd (Zh (x.lt q) e) (Jx _)
def HOk.kept(x:HOk P w H h)(k:∀b u,h.get? b=some u->h'.get? b=some u):HOk P w H h':=λa o e =>
 (x a o e).stay (λb u _ q=>k b u q) (λ_ q=>q) λ_ _ q=>q
def HOk.laid(x:HOk P w H h)(k:∀b u,h.get? b=some u->h'.get? b=some u)(hp:h.objs.size<=a)(new:ObjOk P w (upd H a o) h' a o):HOk P w (upd H a o) h':=λb u e=>by
 have hn:=x.fresh hp;by_cases hb:b=a
 ·grind[qp]
 ·rw[qo hb]at e;exact(x b u e).stay (λc v _ q=>k c v q) (λc q=>by rw[qo (qq q hn)];exact q) λc xs q=>by rw[qo (qq q hn)];exact q
end
def Rd(H:Hp)(a:Addr)(u:HO):Prop:=H a=some u \/ ∃o,H a=some (.frz o u)
def Rd.ok(r:Rd H a u)(x:HOk P w H h):ObjOk P w H h a u:=by
 rcases r with r|⟨o,r⟩
 ·exact x a u r
 ·obtain⟨_,q⟩:=x a _ r;exact q
def Mut:Option HO->Prop
 |some (.lst _)=>True
 |some (.dK _)=>True
 |some (.dT _)=>True
 |some (.set _ _)=>True
 |some (.ins _ _ _)=>True
 |some (.ext _)=>True
 |_=>False
section
variable{P:Zk}{w:World}{H:Hp}{h h':Heap}{x e:Addr}{o':HO}
def HOk.write(ok:HOk P w H h)(mu:Mut (H x))(he:e=x\/H e=some (.own x))(k:∀b u,b≠e->h.get? b=some u->h'.get? b=some u)(heo:∃u,h'.get? e=some u)(new:ObjOk P w (upd H x o') h' x o'):HOk P w (upd H x o') h':=λb u q=>by
  have nown:∀c y,H c=some (.own y)->c≠x:=λc y r z=>by subst z;rw[r]at mu;exact mu
  have ntup:∀c xs,H c=some (.tup xs)->c≠x:=λc xs r z=>by subst z;rw[r]at mu;exact mu
  by_cases hb:b=x
  ·grind[qp]
  ·rw[qo hb]at q;by_cases hbe:b=e
   ·have q':H b=some (.own x):=by
     grind
    rw[q]at q';cases q';obtain⟨v,hv⟩:=heo;exact⟨v,by grind⟩
   ·refine(ok b u q).stay (λc v hc r=>k c v ?_ r) (λc r=>by grind[qo]) λc xs r=>by grind[qo]
    rcases hc with rfl|hc
    ·exact hbe
    ·rintro rfl;rcases he with z|z
     ·grind
     ·rw[hc]at z;cases z;exact hb rfl
end
def zzp(o:Obj):Prop :=∃vs q t,o.data = .fields vs/\vs[1]?=some (.str q t)
structure GoodT(H:Hp)(ps:Array Value):Prop where
 tr:Qim ps.toList
 co:∀(pos:Pos)(v:Value),Qbz pos ps.toList=some v ->∃c o u,v = .ref c/\H c=some (.frz o u)/\zzp o
def GoodT.nil:GoodT H #[]:=⟨trivial,λpos v h=>by simp[Qbz]at h⟩
def GoodT.mono(g:GoodT H ps)(f:∀b o u,H b=some (.frz o u)->H' b=some (.frz o u)):GoodT H' ps:=⟨g.tr,λpos v h=>by
 obtain⟨c,o,u,z,e,k⟩:=g.co pos v h;grind⟩
def qon:∀{a b:List Value},Qim a->Qim b->Qim (a++b)
 |[],_,_,h=>h
 |.int _ _ :: .int _ _::_::r,_,g,h=>qon (a:=r) g h
def qvf:∀{a b:List Value},Qim a->Qbz pos (a++b)=some v->Qbz pos a=some v\/Qbz pos b=some v
 |[],_,_,h => .inr h
 |.int i _ :: .int j _::x::r,b,g,h=>by
  have h:(if i==pos.line&&j==pos.col then some x else Qbz pos (r++b))=some v:=h;show(if i==pos.line&&j==pos.col then some x else Qbz pos r)=some v\/_;split at h
  ·grind
  ·rw[if_neg (by assumption)];exact qvf (a:=r) g h
def GoodT.app(g:GoodT H a)(k:GoodT H b):GoodT H (a++b):=⟨by rw[Qds];exact qon g.tr k.tr,λpos v h=>by
 rw[Qds]at h;rcases qvf g.tr h with h|h
 ·exact g.co pos v h
 ·exact k.co pos v h⟩
structure Un(fs ex:List Addr)(H H':Hp)(h h':Heap):Prop where
 keep:∀b o,h.get? b=some o->H b=none->b∉fs->b∉ex->h'.get? b=some o
 slot:∀b o,h.get? b=some o->H b=none->b∈fs->b∉ex ->∃sl,h'.get? b=some { o with slots:=sl }
 free:∀b o,h.get? b=some o->H b=none->b∉ex->H' b=none
 there:∀b o,h.get? b=some o->b∉ex ->∃o',h'.get? b=some o'
 tups:∀b xs,H b=some (.tup xs)->H' b=some (.tup xs)
 frzs:∀b o u,H b=some (.frz o u)->H' b=some (.frz o u)
 tbls:∀b ps,H b=some (.tbl ps) ->∃more,H' b=some (.tbl (ps++more))/\GoodT H' more
section
variable{fs fs' ex ex':List Addr}{H H1 H2:Hp}{h h1 h2 h':Heap}{a x e:Addr}{o:HO}
def Un.any(u:Un fs ex H H1 h h1)(q:h.get? b=some ob)(n:H b=none)(hx:b∉ex):∃sl,h1.get? b=some { ob with slots:=sl }:=by
 by_cases hb:b∈fs
 ·exact u.slot b ob q n hb hx
 ·exact⟨ob.slots,u.keep b ob q n hb hx⟩
def Un.kept(k:∀b u,h.get? b=some u->h'.get? b=some u):Un fs ex H H h h' :=
 ⟨λb ob q _ _ _=>k b ob q,λb ob q _ _ _=>⟨ob.slots,k b ob q⟩,λ_ _ _ n _=>n,λb ob q _=>⟨ob,k b ob q⟩,λ_ _ q=>q,λ_ _ _ q=>q,λ_ ps q=>⟨#[],by rw[q];simp,.nil⟩⟩
def Un.refl:Un fs ex H H h h:=Un.kept λ_ _ q=>q
def Un.laid(k:∀b u,h.get? b=some u->h'.get? b=some u)(hp:h.objs.size<=a)(hn:H a=none):Un fs ex H (upd H a o) h h' where
 keep:=λb u q _ _ _=>k b u q
 slot:=λb u q _ _ _=>⟨u.slots,k b u q⟩
 free:=λb u q n _=>by rw[qo (Q3 (Zh (Qm q) hp))];exact n
 there:=λb u q _=>⟨u,k b u q⟩
 tups:=λb xs q=>by rw[qo (qq q hn)];exact q
 frzs:=λb u xs q=>by rw[qo (qq q hn)];exact q
 tbls:=λb ps q=>⟨#[],by rw[qo (qq q hn),q];simp,.nil⟩
def Un.write(mu:Mut (H x))(he:e=x\/H e=some (.own x))(k:∀b u,b≠e->h.get? b=some u->h'.get? b=some u)(heo:∃u,h'.get? e=some u):Un fs ex H (upd H x o) h h':=by
 have hx:∀b,H b=none->b≠x:=λb n z=>by subst z;rw[n]at mu;exact mu
 have hb:∀b,H b=none->b≠e:=λb n z=>by
  grind
 have hm:∀b u,H b=some u -> ¬ Mut (some u)->b≠x:=λb u q nm z=>by grind
 refine⟨λb u q n _ _=>k b u (hb b n) q,λb u q n _ _=>⟨u.slots,k b u (hb b n) q⟩,λb u q n _=>by grind[qo],λb u q _=>?_,
  λb xs q=>by rw[qo (hm b _ q λz=>z)];exact q,λb u xs q=>by rw[qo (hm b _ q λz=>z)];exact q,λb ps q=>⟨#[],by rw[qo (hm b _ q λz=>z),q];simp,.nil⟩⟩
 grind
end
def trk(h:Heap)(H:Hp):List Addr:=(Z9 h.objs.size).filter λa=>(H a).isSome
def zbx(h:Heap)(H:Hp):Heap:=Js h (trk h H)
def zig(h:Heap)(H:Hp):(zbx h H).objs.size=h.objs.size:=PySem.W.hideAll_size _ _
def zne(e:h.get? b=some o)(n:H b=none):(zbx h H).get? b=some o :=
 Jy _ e λhm=>by
  have q:(H b).isSome=true:=(Qkl.mp hm).2;grind
def zry(e:(zbx h H).get? b=some o):h.get? b=some o/\H b=none:=by
 have e':h.get? b=some o:=Qaf (trk h H) e;refine⟨e',?_⟩;cases q:H b with
 |none=>rfl
 |some x =>
  have hm:b∈trk h H:=Qkl.mpr ⟨Qba.mpr (Qm e'),by simp[q]⟩;have z:(zbx h H).get? b=none:=Qhj (trk h H) hm;grind
def zsn(g h:Heap)(L:Addr):List (Addr×Obj):=(Z9 h.objs.size).filterMap λa=>if a=L\/(g.get? a).isSome=true then none else(h.get? a).map λo=>(a,o)
def rest(g h:Heap)(L d:Addr):List (Addr×Obj):=(zsn g h L).filter λp=>decide (p.1≠d)
structure Mod(K:Qa)(mg:Str->Option Value)(base:Heap):Prop where
 kin:K.In base
 glob:base.Ns Zg mg
 blt:∃mb,base.Ns Qdq mb /\ ∀x:Str,x ≠ "__name__" -> mb x=Zj x
 nolimit:base.NoLimit
structure Cx where
 prog:Zk
 w:World
 K:Qa
 mg:Str->Option Value
 base:Heap
 A:Z1
 N:List Str
 s₀:Ql
 H₀:Hp
 env:Env
 outer:List Env
 stack:List Env
 ex:List Addr
 fn:Str->Bool
 calm:Bool
 pn:List (Addr×Obj)
 xe:Value->Ql->Prop
def frs(l:List Env):List Addr:=l.filterMap (·.frame)
abbrev Cx.fs(X:Cx):List Addr:=frs X.outer
def Vis(sc:Scope)(x:Str):Prop:=sc.names.lookup x=some .local\/sc.names.lookup x=some .cell\/sc.names.lookup x=some .free
def Loc(sc:Scope)(x:Str):Prop:=sc.names.lookup x=some .local\/sc.names.lookup x=some .cell
def xen(env:Env)(h:Heap)(m:Str->Option Value)(x:Str)(u:Value):Prop :=
 (env.kindOf x=some .local/\m x=some u)\/((env.kindOf x=some .cell\/env.kindOf x=some .free) /\ ∃c,env.cells.lookup x=some c/\h.IsCell c (some u))
structure Cx.Ok(X:Cx):Prop where
 mod:Mod X.K X.mg X.base
 kind:X.env.scope.kind = .function
 glob:X.env.globals=Zg
 blt:X.env.builtins=Qdq
 above:X.s₀.heap.objs.size<=X.env.locals
 inj:∀x y c,X.env.cells.lookup x=some c->X.env.cells.lookup y=some c->x=y
 has:∀x,(X.env.kindOf x=some .cell\/X.env.kindOf x=some .free) ->∃c,X.env.cells.lookup x=some c
 cab:∀x c,X.fn x=true->X.env.cells.lookup x=some c->X.s₀.heap.objs.size<=c
 hd:X.calm=true->X.A.handled=none
 frames:X.A.frames=some X.stack
 stk:X.stack=X.outer\/(X.stack=X.env::X.outer/\X.env.frame=some X.env.locals)
 exf:∀b∈X.ex,b≠X.env.locals /\ ∀x c,X.env.cells.lookup x=some c->c≠b
 bs:∀b o,X.base.get? b=some o->X.s₀.heap.get? b=some o/\X.H₀ b=none
 bsz:X.base.objs.size<=X.s₀.heap.objs.size
 noex:∀b o,X.base.get? b=some o->b∉X.ex
 exfs:∀b∈X.ex,b∉X.fs
 funs:X.s₀.heap.FunFrames X.base X.outer
 frf:∀b∈X.fs,X.H₀ b=none
structure Inv(X:Cx)(pins:List (Addr×Obj))(σ:List (Option V))(H:Hp)(s:Ql):Prop where
 ok:X.Ok
 os:s.os=X.s₀.os
 bare:Qea s.gens
 base:Un X.fs X.ex X.H₀ H X.s₀.heap s.heap
 loc:∃m,s.heap.Ns X.env.locals m /\ ∀(i:Nat)(x:Str)(v:V),X.N[i]?=some x->σ[i]?=some (some v)->Vis X.env.scope x ->∃u,RelV v u/\xen X.env s.heap m x u
 cell:∀x c,X.env.cells.lookup x=some c ->∃v,s.heap.IsCell c v
 free:H X.env.locals=none
 freeC:∀x c,X.env.cells.lookup x=some c->H c=none
 pin:∀p∈X.pn++pins,s.heap.get? p.1=some p.2/\H p.1=none/\p.1≠X.env.locals/\p.1∉X.fs /\ ∀v,p.2.data≠.cell v
 hok:HOk X.prog X.w H s.heap
 len:σ.length=X.N.length
section
variable{X:Cx}{pins:List (Addr×Obj)}{σ:List (Option V)}{H H':Hp}{s:Ql}{h':Heap}
def Cx.Ok.nofr(ok:X.Ok)(e:X.base.get? b=some o):b∉X.fs:=λhb=>by
 have:=(ok.funs.mem hb).1;grind
def Inv.bs(I:Inv X pins σ H s):∀b o,X.base.get? b=some o->s.heap.get? b=some o/\H b=none:=λb o e =>
 ⟨I.base.keep b o (I.ok.bs b o e).1 (I.ok.bs b o e).2 (I.ok.nofr e) (I.ok.noex b o e),I.base.free b o (I.ok.bs b o e).1 (I.ok.bs b o e).2 (I.ok.noex b o e)⟩
def Inv.bk(I:Inv X pins σ H s):∀b o,X.base.get? b=some o->s.heap.get? b=some o:=λb o e=>(I.bs b o e).1
def Inv.mod(I:Inv X pins σ H s):Mod X.K X.mg X.base:=I.ok.mod
def Inv.kIn(I:Inv X pins σ H s):X.K.In s.heap:=I.ok.mod.kin.keeps I.bk
def Inv.lt(I:Inv X pins σ H s):X.env.locals<s.heap.objs.size:=let ⟨_,hn,_⟩:=I.loc;hn.lt
def Inv.sz(I:Inv X pins σ H s):X.s₀.heap.objs.size<=s.heap.objs.size:=Qk I.ok.above (Vy I.lt)
def Inv.nofs(I:Inv X pins σ H s){a:Addr}(h:s.heap.objs.size<=a):a∉X.fs:=λhb=>by
 obtain⟨_,o,ho,_⟩:=I.ok.funs.mem hb;exact absurd (Zh (Qm ho) (Qk I.sz h)) (Jx _)
def Inv.cne(I:Inv X pins σ H s):∀x c,X.env.cells.lookup x=some c->c≠X.env.locals:=λx c e z=>by
 obtain⟨v,o,ho,hd⟩:=I.cell x c e;obtain⟨m,⟨o',es,ep,ho',hd',_⟩,_⟩:=I.loc;grind
def Inv.funs(I:Inv X pins σ H s):s.heap.FunFrames X.base X.outer:=by
 have all:∀(l:List Env),(∀b∈frs l,b∈X.fs)->X.s₀.heap.FunFrames X.base l->s.heap.FunFrames X.base l:=by
  intro l
  induction l with
  |nil=>intro _ _;trivial
  |cons env r ih =>
   intro hs hl;obtain⟨hk,⟨L,o,hf,hn,ho,hd⟩,hr⟩:=hl;have hL:L∈X.fs:=hs L (by unfold frs;grind);obtain⟨sl,e⟩:=I.base.slot L o ho (I.ok.frf L hL) hL λz=>I.ok.exfs L z hL;exact⟨hk,⟨L,_,hf,hn,e,hd⟩,ih (λb hb=>hs b (by unfold frs;rw[Y1,hf];exact Qt _ hb)) hr⟩
 exact all X.outer (λ_ hb=>hb) I.ok.funs
def Inv.stack(I:Inv X pins σ H s):s.heap.FunFrames X.base X.stack:=by
 rcases I.ok.stk with e|⟨e,hf⟩
 ·rw[e];exact I.funs
 ·rw[e];obtain⟨m,hn,_⟩:=I.loc;refine .cons (by rw[I.ok.kind];decide) hf hn ?_ I.funs;exact Heap.get?_none_of_le (Qk I.ok.bsz I.ok.above)
def Inv.stkSub(I:Inv X pins σ H s):∀b∈frs X.stack,b∈X.env.locals::X.fs:=λb hb=>by
 rcases I.ok.stk with e|⟨e,hf⟩
 ·grind
 ·rw[e]at hb;unfold frs at hb;rw[Y1,hf]at hb;exact hb
def Inv.stkFree(I:Inv X pins σ H s):∀b∈frs X.stack,H b=none:=λb hb=>by
 rcases Q2.mp (I.stkSub b hb)with e|hb
 ·rw[e];exact I.free
 ·obtain⟨_,o,ho,_⟩:=I.ok.funs.mem hb;exact I.base.free b o ho (I.ok.frf b hb) λz=>I.ok.exfs b z hb
def Inv.step{ch:List Addr}(I:Inv X pins σ H s)(hch:∀b∈ch,(b∈X.ex\/X.s₀.heap.objs.size<=b)/\b≠X.env.locals/\(∀x c,X.env.cells.lookup x=some c->c≠b) /\ ∀p∈X.pn++pins,p.1≠b)(keep:∀b o,b≠X.env.locals->b∉X.fs->b∉ch->s.heap.get? b=some o->H b=none->h'.get? b=some o)(slot:∀b o,b≠X.env.locals->b∈X.fs->b∉ch->s.heap.get? b=some o->H b=none ->∃sl,h'.get? b=some { o with slots:=sl })(free:∀b o,b∉ch->s.heap.get? b=some o->H b=none->H' b=none)(there:∀b o,b∉ch->s.heap.get? b=some o ->∃o',h'.get? b=some o')(tups:∀b xs,H b=some (.tup xs)->H' b=some (.tup xs))(frzs:∀b o u,H b=some (.frz o u)->H' b=some (.frz o u))(tbls:∀b ps,H b=some (.tbl ps) ->∃more,H' b=some (.tbl (ps++more))/\GoodT H' more)(ns:∀m,s.heap.Ns X.env.locals m->h'.Ns X.env.locals m)(hok:HOk X.prog X.w H' h')(hg:Qea g'):
  Inv X pins σ H' { s with heap:=h',gens:=g',drawn:=d',toks:=t' }:=by
  have neL:∀b o,X.s₀.heap.get? b=some o->b≠X.env.locals:=λb o e=>Q3 (Zh (Qm e) I.ok.above);have neC:∀b o,X.s₀.heap.get? b=some o->b∉X.ex->b∉ch:=λb o e hx hb=>by
   rcases(hch b hb).1 with z|z
   ·exact hx z
   ·exact absurd (Zh (Qm e) z) (Jx _)
  have cellK:∀x c,X.env.cells.lookup x=some c ->∀v,s.heap.IsCell c v->h'.IsCell c v:=λx c e v xx1=>by
   obtain⟨o,ho,hd⟩:=xx1;have nch:c∉ch:=λz=>(hch c z).2.2.1 x c e rfl;by_cases hc:c∈X.fs
   ·obtain⟨sl,q⟩:=slot c o (I.cne x c e) hc nch ho (I.freeC x c e);exact⟨_,q,hd⟩
   ·exact⟨o,keep c o (I.cne x c e) hc nch ho (I.freeC x c e),hd⟩
  refine⟨I.ok,I.os,hg,⟨λb o e n hb hx=>?_,λb o e n hb hx=>?_,λb o e n hx=>?_,λb o e hx=>?_,λb xs e=>tups b xs (I.base.tups b xs e),λb o xs e=>frzs b o xs (I.base.frzs b o xs e),λb ps e=>?_⟩,?_,λx c e=>?_,?_,λx c e=>?_,λp hp=>?_,hok,I.len⟩
  ·exact keep b o (neL b o e) hb (neC b o e hx) (I.base.keep b o e n hb hx) (I.base.free b o e n hx)
  ·obtain⟨sl,e1⟩:=I.base.slot b o e n hb hx;obtain⟨sl',e2⟩:=slot b _ (neL b o e) hb (neC b o e hx) e1 (I.base.free b o e n hx);grind
  ·obtain⟨o',e1⟩:=I.base.there b o e hx;exact free b o' (neC b o e hx) e1 (I.base.free b o e n hx)
  ·obtain⟨o',e1⟩:=I.base.there b o e hx;grind
  ·obtain⟨m1,e1,g1⟩:=I.base.tbls b ps e;obtain⟨m2,e2,g2⟩:=tbls b _ e1;exact⟨m1++m2,by grind,(g1.mono frzs).app g2⟩
  ·obtain⟨m,hn,hl⟩:=I.loc;refine⟨m,ns m hn,λi x v e1 e2 e3=>?_⟩;obtain⟨u,r,l⟩:=hl i x v e1 e2 e3;refine⟨u,r,?_⟩;rcases l with l|⟨k,c,e,z⟩
   ·exact .inl l
   ·exact .inr ⟨k,c,e,cellK x c e _ z⟩
  ·obtain⟨v,z⟩:=I.cell x c e;exact⟨v,cellK x c e v z⟩
  ·obtain⟨m,⟨o,_,_,ho,_⟩,_⟩:=I.loc;exact free _ o (λz=>(hch _ z).2.1 rfl) ho I.free
  ·obtain⟨v,o,ho,hd⟩:=I.cell x c e;exact free c o (λz=>(hch c z).2.2.1 x c e rfl) ho (I.freeC x c e)
  ·obtain⟨e,n,ne,nf,d⟩:=I.pin p hp;have nch:p.1∉ch:=λz=>(hch p.1 z).2.2.2 p hp rfl;exact⟨keep p.1 p.2 ne nf nch e n,free p.1 p.2 nch e n,ne,nf,d⟩
def Inv.un(I:Inv X pins σ H s)(u:Un X.fs [] H H' s.heap h')(hok:HOk X.prog X.w H' h'):Inv X pins σ H' { s with heap:=h',toks:=t' }:=by
 obtain⟨m,⟨o,es,ep,ho,r⟩,_⟩:=id I.loc;obtain⟨sl,hL⟩:=u.any ho I.free (by simp);exact I.step (g':=s.gens) (d':=s.drawn) (ch:=[]) (λ_ z=>nomatch z) (λb o _ hb _ e n=>u.keep b o e n hb (by simp)) (λb o _ hb _ e n=>u.slot b o e n hb (by simp)) (λb o _ e n=>u.free b o e n (by simp)) (λb o _ e=>u.there b o e (by simp)) u.tups u.frzs u.tbls (λm' hm=>by
  obtain⟨o',es',ep',ho',r'⟩:=hm;rw[ho]at ho';cases ho';exact⟨_,es',ep',hL,r'⟩) hok I.bare
def Inv.call(I:Inv X pins σ H s)(u:Un (frs X.stack) ch H H' s.heap h')(hok:HOk X.prog X.w H' h')(hg:Qea g')(hch:∀b∈ch,(b∈X.ex\/X.s₀.heap.objs.size<=b)/\b≠X.env.locals/\(∀x c,X.env.cells.lookup x=some c->c≠b) /\ ∀p∈X.pn++pins,p.1≠b):
 Inv X pins σ H' { s with heap:=h',gens:=g',drawn:=d',toks:=t' }:=by
  obtain⟨m,⟨o,es,ep,ho,r⟩,_⟩:=id I.loc;obtain⟨sl,hL⟩:=u.any ho I.free λz=>(hch _ z).2.1 rfl;exact I.step (ch:=ch) hch (λb o hL hb hc e n=>u.keep b o e n (λz=>(Q2.mp (I.stkSub b z)).elim hL hb) hc) (λb o _ _ hc e n=>u.any e n hc) (λb o hc e n=>u.free b o e n hc) (λb o hc e=>u.there b o e hc) u.tups u.frzs u.tbls (λm' hm=>by
   obtain⟨o',es',ep',ho',r'⟩:=hm;rw[ho]at ho';cases ho';exact⟨_,es',ep',hL,r'⟩) hok hg
def Inv.turned(I:Inv X pins σ H s)(k:∀b o,b≠it->s.heap.get? b=some o->h'.get? b=some o)(hn:H it=none)(hL:it≠X.env.locals)(h1:it∈X.ex\/X.s₀.heap.objs.size<=it)(h2:∀x c,X.env.cells.lookup x=some c->c≠it)(h3:∀p∈X.pn++pins,p.1≠it):Inv X pins σ H { s with heap:=h',toks:=t' }:=by
  have nit:∀b u,H b=some u->b≠it:=λb u e z=>by grind
  refine I.step (g':=s.gens) (d':=s.drawn) (ch:=[it]) (λb hb=>?_) (λb o _ _ hc e _=>k b o (λz=>hc (by simp[z])) e) (λb o _ _ hc e _=>⟨o.slots,k b o (λz=>hc (by simp[z])) e⟩) (λ_ _ _ _ n=>n)
   (λb o hc e=>⟨o,k b o (λz=>hc (by simp[z])) e⟩) (λ_ _ e=>e) (λ_ _ _ e=>e) (λb ps e=>⟨#[],by rw[e];simp,.nil⟩) (λm hm=>?_) (λb u e=>?_) I.bare
  ·grind
  ·obtain⟨o,es,ep,ho,r⟩:=hm;exact⟨o,es,ep,k _ o (Y9 hL) ho,r⟩
  ·refine(I.hok b u e).stay (λc v hc q=>k c v ?_ q) (λ_ q=>q) λ_ _ q=>q;grind
def Inv.tok(I:Inv X pins σ H s)(t:Nat):Inv X pins σ H { s with toks:=t }:=I.un (h':=s.heap) (t':=t) Un.refl I.hok
def Inv.kept(I:Inv X pins σ H s)(k:∀b u,s.heap.get? b=some u->h'.get? b=some u):Inv X pins σ H { s with heap:=h',toks:=t' }:=I.un (Un.kept k) (I.hok.kept k)
def Inv.laid{a:Addr}(I:Inv X pins σ H s)(k:∀b u,s.heap.get? b=some u->h'.get? b=some u)(hp:s.heap.objs.size<=a)(new:ObjOk X.prog X.w (upd H a o) h' a o):
 Inv X pins σ (upd H a o) { s with heap:=h',toks:=t' }:=I.un (Un.laid k hp (I.hok.fresh hp)) (I.hok.laid k hp new)
def Inv.write(I:Inv X pins σ H s)(mu:Mut (H x))(he:e=x\/H e=some (.own x))(k:∀b u,b≠e->s.heap.get? b=some u->h'.get? b=some u)(heo:∃u,h'.get? e=some u)(new:ObjOk X.prog X.w (upd H x o) h' x o):Inv X pins σ (upd H x o) { s with heap:=h',toks:=t' }:=I.un (Un.write mu he k heo) (I.hok.write mu he k heo new)
def Inv.pins_of(I:Inv X pins σ H s)(h:∀p∈pins',s.heap.get? p.1=some p.2/\H p.1=none/\p.1≠X.env.locals/\p.1∉X.fs /\ ∀v,p.2.data≠.cell v):Inv X pins' σ H s :=
 ⟨I.ok,I.os,I.bare,I.base,I.loc,I.cell,I.free,I.freeC,λp hp=>(Zz.mp hp).elim (λz=>I.pin p (Zx _ z)) (h p),I.hok,I.len⟩
def qsi{N:List Str}(hN:N.Nodup){i j:Nat}(a:N[i]?=some x)(b:N[j]?=some x):i=j:=by
 grind[List.getElem_inj]
def zhj(I:Inv X pins σ H s)(hN:X.N.Nodup)(hi:X.N[i]?=some x)(hx:Loc X.env.scope x)(r:RelV v u)(h:∀s',Inv X pins (σ.set i (some v)) H s'->(∃a,Y4 a s.heap s'.heap/\(a=X.env.locals\/X.env.cells.lookup x=some a))->Q () s')(hf:X.fn x=true\/X.env.scope.names.lookup x=some .local:=by first|exact .inl rfl|exact .inr rfl|assumption):wpAny M A (storeName X.env x u) Q E s:=by
  obtain⟨m,hn,hl⟩:=id I.loc;have hcls:(X.env.scope.kind == .class||(X.env.scope.kind == .module&&X.env.locals != X.env.globals))=false:=by rw[I.ok.kind];rfl
  have hiσ:i<σ.length:=by rw[I.len];grind
  have cne:=I.cne;have tracked:∀{a:Addr}{h':Heap},(∃o,s.heap.get? a=some o/\H a=none)->Y4 a s.heap h'->HOk X.prog X.w H h':=λ{a h'} ha hs b ob e=>by
   obtain⟨_,_,hfree⟩:=ha;refine(I.hok b ob e).stay (λc w' hc q=>(hs.2 c ?_).trans q) (λ_ q=>q) λ_ _ q=>q;grind
  rcases hx with hk|hk
  ·refine wpAny_storeName_local hk hn (λh' hn' hs=>?_) hcls;obtain⟨oL,_,_,hoL,_⟩:=id hn;refine h _ ⟨I.ok,I.os,I.bare,⟨λb o e n hb hx=>?_,λb o e n hb hx=>?_,I.base.free,λb o e hx=>?_,I.base.tups,I.base.frzs,I.base.tbls⟩,⟨_,hn',λj y v' e1 e2 e3=>?_⟩,λy c e=>?_,I.free,I.freeC,λp hp=>?_,tracked ⟨oL,hoL,I.free⟩ hs,by simpa using I.len⟩ ⟨_,hs,.inl rfl⟩
   ·exact(hs.2 b (Q3 (Zh (Qm e) I.ok.above))).trans (I.base.keep b o e n hb hx)
   ·obtain⟨sl,e1⟩:=I.base.slot b o e n hb hx;exact⟨sl,(hs.2 b (Q3 (Zh (Qm e) I.ok.above))).trans e1⟩
   ·obtain⟨o',e1⟩:=I.base.there b o e hx;exact⟨o',(hs.2 b (Q3 (Zh (Qm e) I.ok.above))).trans e1⟩
   ·by_cases hj:j=i
    ·subst hj;rw[hi]at e1;cases e1;rw[Qci hiσ]at e2;cases e2;exact⟨u,r,.inl ⟨hk,by simp⟩⟩
    ·rw[Qdg (Y9 hj)]at e2;obtain⟨u',r',q⟩:=hl j y v' e1 e2 e3;refine⟨u',r',?_⟩;rcases q with⟨k,e⟩|⟨k,c,e,z⟩
     ·refine .inl ⟨k,?_⟩;have:y≠x:=λe=>hj (qsi hN e1 (e▸hi));simp[this,e]
     ·exact .inr ⟨k,c,e,z.sameBut hs (cne y c e)⟩
   ·obtain⟨w',z⟩:=I.cell y c e;exact⟨w',z.sameBut hs (cne y c e)⟩
   ·obtain⟨e,n,ne,nf,d⟩:=I.pin p hp;exact⟨(hs.2 p.1 ne).trans e,n,ne,nf,d⟩
  ·have hfn:X.fn x=true:=by
    rcases hf with z|z
    ·exact z
    ·rw[z]at hk;cases hk
   obtain⟨c,hc⟩:=I.ok.has x (.inl hk);obtain⟨w',z⟩:=I.cell x c hc;refine wpAny_storeName_cell I.ok.kind hk hc z (λh' hc' hs=>?_);obtain⟨oc,hoc,hocd⟩:=id z;refine h { s with heap:=h' } ⟨I.ok,I.os,I.bare,⟨λb o e n hb hx=>?_,λb o e n hb hx=>?_,I.base.free,λb o e hx=>?_,I.base.tups,I.base.frzs,I.base.tbls⟩,⟨m,hn.sameBut hs (Y9 (cne x c hc)),λj y v' e1 e2 e3=>?_⟩,λy c' e=>?_,I.free,I.freeC,λp hp=>?_,tracked ⟨oc,hoc,I.freeC x c hc⟩ hs,by simpa using I.len⟩ ⟨c,hs,.inr hc⟩
   ·exact(hs.2 b (Q3 (Zh (Qm e) (I.ok.cab x c hfn hc)))).trans (I.base.keep b o e n hb hx)
   ·obtain⟨sl,e1⟩:=I.base.slot b o e n hb hx;exact⟨sl,(hs.2 b (Q3 (Zh (Qm e) (I.ok.cab x c hfn hc)))).trans e1⟩
   ·obtain⟨o',e1⟩:=I.base.there b o e hx;exact⟨o',(hs.2 b (Q3 (Zh (Qm e) (I.ok.cab x c hfn hc)))).trans e1⟩
   ·by_cases hj:j=i
    ·subst hj;rw[hi]at e1;cases e1;rw[Qci hiσ]at e2;cases e2;exact⟨u,r,.inr ⟨.inl hk,c,hc,hc'⟩⟩
    ·rw[Qdg (Y9 hj)]at e2;obtain⟨u',r',q⟩:=hl j y v' e1 e2 e3;refine⟨u',r',?_⟩;rcases q with q|⟨k,c',e,z'⟩
     ·exact .inl q
     ·refine .inr ⟨k,c',e,z'.sameBut hs ?_⟩;rintro rfl;exact hj (qsi hN e1 (I.ok.inj _ _ _ e hc▸hi))
   ·by_cases hcc:c'=c
    ·subst hcc;exact⟨_,hc'⟩
    ·obtain⟨w2,z2⟩:=I.cell y c' e;exact⟨w2,z2.sameBut hs hcc⟩
   ·obtain⟨e,n,ne,nf,d⟩:=I.pin p hp;refine⟨(hs.2 p.1 ?_).trans e,n,ne,nf,d⟩;intro q;rw[q,hoc]at e;have q':oc=p.2:=Za e;exact d w' (by rw[<- q'];exact hocd)
def qhv(I:Inv X pins σ H s)(hN:X.N.Nodup)(hi:X.N[i]?=some x)(hx:Loc X.env.scope x)(r:RelV v u)(h:∀s',Inv X pins (σ.set i (some v)) H s'->Q () s')(hf:X.fn x=true\/X.env.scope.names.lookup x=some .local:=by first|exact .inl rfl|exact .inr rfl|assumption):wpAny M A (storeName X.env x u) Q E s :=
  zhj I hN hi hx r (λs' I' _=>h s' I') hf
def Inv.call'(I:Inv X pins σ H s)(ho:s'.os=s.os)(u:Un (frs X.stack) ch H H' s.heap s'.heap)(hok:HOk X.prog X.w H' s'.heap)(hg:Qea s'.gens)(hch:∀b∈ch,(b∈X.ex\/X.s₀.heap.objs.size<=b)/\b≠X.env.locals/\(∀x c,X.env.cells.lookup x=some c->c≠b) /\ ∀p∈X.pn++pins,p.1≠b):Inv X pins σ H' s':=by
  obtain⟨h',g',d',t',o'⟩:=s';have e:o'=s.os:=ho;subst e;exact I.call (g':=g') (t':=t') (d':=d') u hok hg hch
end
abbrev XK:=Value->Option Addr->Hp->Prop
abbrev St:=List (Option V)
abbrev VK:=V->Hp->Prop
abbrev TE:=St->Hp->VK->Prop
abbrev TT:=St->Hp->(Bool->Hp->Prop)->Prop
abbrev TA:=St->Hp->(List V->Hp->Prop)->Prop
structure Ends where
 nx:St->Hp->Prop
 rt:VK
 bk:St->Hp->Prop:=λ_ _=>False
 ct:St->Hp->Prop:=λ_ _=>False
abbrev TS:=Ends->St->Hp->Prop
def EP(X:Cx)(pins:List (Addr×Obj))(σ:St)(Q:VK)(u:Value)(s':Ql):Prop :=∃v H',Inv X pins σ H' s'/\RelV v u/\Q v H'
def TP(X:Cx)(pins:List (Addr×Obj))(σ:St)(Q:Bool->Hp->Prop)(b:Bool)(s':Ql):Prop :=∃H',Inv X pins σ H' s'/\Q b H'
def AP(X:Cx)(pins:List (Addr×Obj))(σ:St)(Q:List V->Hp->Prop)(us:List Value)(s':Ql):Prop :=∃vs H',Inv X pins σ H' s'/\Vals vs us/\Q vs H'
def SP(X:Cx)(pins:List (Addr×Obj))(D:Ends)(f:Flow)(s':Ql):Prop :=
 match f with
 |.next =>∃σ' H',Inv X pins σ' H' s'/\D.nx σ' H'
 |.brk =>∃σ' H',Inv X pins σ' H' s'/\D.bk σ' H'
 |.cont =>∃σ' H',Inv X pins σ' H' s'/\D.ct σ' H'
 |.ret u =>∃v σ' H',Inv X pins σ' H' s'/\RelV v u/\D.rt v H'
def PE(X:Cx)(e:Expr)(t:TE):Prop :=
 ∀(pins:List (Addr×Obj))(s:Ql)(σ:St)(H:Hp)(Q:VK),Inv X pins σ H s->t σ H Q->wpAny (model X.prog X.w) X.A (eval e X.env) (EP X pins σ Q) X.xe s
def PT(X:Cx)(e:Expr)(t:TT):Prop :=
 ∀(pins:List (Addr×Obj))(s:Ql)(σ:St)(H:Hp)(Q:Bool->Hp->Prop),Inv X pins σ H s->t σ H Q->wpAny (model X.prog X.w) X.A (Qln e X.env (eval e X.env)) (TP X pins σ Q) X.xe s
def PW(X:Cx)(e:Expr)(t:TT):Prop :=
 ∀(whole:Sem Value)(pins:List (Addr×Obj))(s:Ql)(σ:St)(H:Hp)(Q:Bool->Hp->Prop),Inv X pins σ H s->t σ H Q->wpAny (model X.prog X.w) X.A (Qln e X.env whole) (TP X pins σ Q) X.xe s
def PW.pt(h:PW X e t):PT X e t:=h _
def PA(X:Cx)(es:List Expr)(t:TA):Prop :=
 ∀(pos:Pos)(pins:List (Addr×Obj))(s:Ql)(σ:St)(H:Hp)(Q:List V->Hp->Prop),Inv X pins σ H s->t σ H Q->wpAny (model X.prog X.w) X.A (spliced (Z5 pos (Qi es X.env))) (AP X pins σ Q) X.xe s
def PS(X:Cx)(st:Stmt)(t:TS):Prop :=
 ∀(pins:List (Addr×Obj))(s:Ql)(σ:St)(H:Hp)(D:Ends),Inv X pins σ H s->t D σ H->wpAny (model X.prog X.w) X.A (exec st X.env) (SP X pins D) X.xe s
def PSs(X:Cx)(st:List Stmt)(t:TS):Prop :=
 ∀(pins:List (Addr×Obj))(s:Ql)(σ:St)(H:Hp)(D:Ends),Inv X pins σ H s->t D σ H->wpAny (model X.prog X.w) X.A (execs st X.env) (SP X pins D) X.xe s
def thn{Q Q':α->Ql->Prop}(h:wpAny M A t Q E s)(hQ:∀a s,Q a s->Q' a s):wpAny M A t Q' E s:=Zu h hQ λ_ _ x=>x
section
variable{X:Cx}
def zbb(i:Nat):TE:=λσ H Q =>∃v,σ[i]?=some (some v)/\Q v H
def tC(v:V):TE:=λ_ H Q=>Q v H
def qbo{pos:Pos}(hN:X.N[i]?=some x)(hv:Vis X.env.scope x)(hd:Nd0 x:=by decide)(hcd:Nd1 x:=by decide):PE X (.Name x pos) (zbb i):=by
 intro pins s σ H Q I h;obtain⟨v,e,h⟩:=h;obtain⟨m,hn,hl⟩:=I.loc;obtain⟨u,r,l⟩:=hl i x v hN e hv;have fin:EP X pins σ Q u s:=⟨v,H,I,r,h⟩
 rcases l with⟨hk,hm⟩|⟨hk,c,hc,hcell⟩
 ·exact wpAny_Name (wpAny_loadName_local I.ok.kind hk hn hm fin) hd
 ·rcases hk with hk|hk
  ·exact wpAny_Name (wpAny_loadName_cell I.ok.kind hk hc hcell fin) hd
  ·exact wpAny_Name (wpAny_loadName_free I.ok.kind hk hc hcell fin hcd) hd
def zvy{i j pos}:PE X (.Constant (.int i) j pos) (tC (.int i)):=λ_ _ _ H _ I h=>wpAny_Constant_int ⟨.int i,H,I.tok _,⟨_,rfl⟩,h⟩
def zzj{b j pos}:PE X (.Constant (.bool b) j pos) (tC (.bl b)):=λ_ _ _ H _ I h=>Constant_bool ⟨.bl b,H,I,rfl,h⟩
def zwq{j pos}:PE X (.Constant .none j pos) (tC .non):=λ_ _ _ H _ I h=>Constant_none ⟨.non,H,I,rfl,h⟩
def zyd{x j pos}:PE X (.Constant (.str x) j pos) (tC (.str x)):=λ_ _ _ H _ I h=>Calls.Constant_str ⟨.str x,H,I.tok _,⟨_,rfl⟩,h⟩
def Gl(X:Cx)(x:Str):Prop:=X.env.kindOf x=some .globalImplicit
def qdt{σ:St}(I:Inv X pins σ H s)(hg:Gl X x)(hm:X.mg x=some u)(h:Q u s)(hd:Nd0 x:=by decide):wpAny (model X.prog X.w) X.A (eval (.Name x pos) X.env) Q E s :=
  Qec I.ok.kind hg (Calls.loadGlobal_global (by rw[I.ok.glob];exact I.mod.glob.keeps I.bk) hm h) hd
def qli{E:Value->Ql->Prop}{σ:St}{pos:Pos}(I:Inv X pins σ H s)(hg:Gl X x)(hm:X.mg x=none)(hv:Zj x=some u)(h:Q u s)(hn:x ≠ "__name__":=by decide)(hd:Nd0 x:=by decide):wpAny (model X.prog X.w) X.A (eval (.Name x pos) X.env) Q E s:=by
  obtain⟨mb,h1,h2⟩:=I.mod.blt;exact Qec I.ok.kind hg (Calls.loadGlobal_builtin (by rw[I.ok.glob];exact I.mod.glob.keeps I.bk) hm (by rw[I.ok.blt];exact h1.keeps I.bk) ((h2 x hn).trans hv) h) hd
def qbt(hg:Gl X x)(hm:X.mg x=some u)(r:RelV v u)(hd:Nd0 x:=by decide):PE X (.Name x pos) (tC v) :=
 λ_ _ _ H _ I h=>qdt I hg hm ⟨v,H,I,r,h⟩ hd
def qpr{pos:Pos}(hg:Gl X x)(hm:X.mg x=none)(hv:Zj x=some u)(r:RelV v u)(hn:x ≠ "__name__":=by decide)(hd:Nd0 x:=by decide):PE X (.Name x pos) (tC v) :=
 λ_ _ _ H _ I h=>qli I hg hm hv ⟨v,H,I,r,h⟩ hn hd
variable{a b:Expr}{ta tb:TE}{pos:Pos}
def PC(X:Cx)(op:CmpOp)(a b:Expr)(t:TE):Prop :=
 ∀(pins:List (Addr×Obj))(s:Ql)(σ:St)(H:Hp)(Q:VK),Inv X pins σ H s->t σ H Q ->
  wpAny (model X.prog X.w) X.A (eval a X.env) (λv s₁=>wpAny (model X.prog X.w) X.A (eval b X.env) (λu s₂=>wpAny (model X.prog X.w) X.A (Zs op v u) (EP X pins σ Q) X.xe s₂) X.xe s₁) X.xe s
def zki(b:Expr)(h:op≠.In)(h2:op≠.NotIn):Vd op b=false:=by
 have e1:(op==CmpOp.In)=false:=by cases op <;> first|rfl|exact absurd rfl h
 have e2:(op==Qmc)=false:=by cases op <;> first|rfl|exact absurd rfl h2
 cases b <;> simp[Vd,e1,e2]
def tB(t:TE):TT:=λσ H Q=>t σ H λx H1 =>∃c,x = .bl c/\Q c H1
def zpd(h:PC X op a b t)(h1:Vd op b=false:=by first|exact zki _ (by decide) (by decide)|rfl):PT X (.Compare a [op] [b] pos) (tB t):=by
 intro pins s σ H Q I hw;refine Qhf (thn (h pins s σ H _ I hw) λv s1 h1=>thn h1 λu s2 h2=>thn h2 λc s3 xx2=>?_) h1;obtain⟨x,H1,I1,r1,q1⟩:=xx2;obtain⟨d,rfl,q⟩:=q1;cases r1;exact Zy ⟨H1,I1,q⟩
def zyb(h:PE X e t)(he:∀whole,Qln e X.env whole=(do let v <- whole;Qhc e.pos;Qdf [v] (truthy v)):=by intro _;rfl):PT X e (tB t):=by
 intro pins s σ H Q I hw;refine isTrue_plain (thn (h pins s σ H _ I hw) λv s1 xx3=>?_) (he _);obtain⟨x,H1,I1,r1,q1⟩:=xx3;obtain⟨d,rfl,q⟩:=q1;cases r1;exact Zy ⟨H1,I1,q⟩
variable{tA tB':TT}{rest:List Expr}
def xfb(t u:TT):TT:=λσ H Q=>t σ H λc H1=>if c=true then u σ H1 Q else Q false H1
def tOr(t u:TT):TT:=λσ H Q=>t σ H λc H1=>if c=true then Q true H1 else u σ H1 Q
def xfh(t:TT):TT:=λσ H Q=>t σ H λc H1=>Q (!c) H1
def zqk(ha:PT X a tA):PW X (.BoolOp .And [a] pos) tA:=by
 intro wh pins s σ H Q I h;refine isTrue_and (thn (ha pins s σ H Q I h) λc s1 e=>?_);grind[isTrue_and_nil]
def zwc(ha:PT X a tA):PW X (.BoolOp .Or [a] pos) tA:=by
 intro wh pins s σ H Q I h;refine isTrue_or (thn (ha pins s σ H Q I h) λc s1 e=>?_);grind[isTrue_or_nil]
def zya(ha:PT X a tA)(hb:PW X (.BoolOp .And (b::rest) pos) tB'):PW X (.BoolOp .And (a::b::rest) pos) (xfb tA tB'):=by
 intro wh pins s σ H Q I h;refine isTrue_and (thn (ha pins s σ H _ I h) λc s1 xx4=>?_);obtain⟨H1,I1,q1⟩:=xx4;cases c with
 |true=>exact hb wh pins s1 σ H1 Q I1 q1
 |false=>exact⟨H1,I1,q1⟩
def xag(ha:PT X a tA)(hb:PW X (.BoolOp .Or (b::rest) pos) tB'):PW X (.BoolOp .Or (a::b::rest) pos) (tOr tA tB'):=by
 intro wh pins s σ H Q I h;refine isTrue_or (thn (ha pins s σ H _ I h) λc s1 xx5=>?_);obtain⟨H1,I1,q1⟩:=xx5;cases c with
 |true=>exact⟨H1,I1,q1⟩
 |false=>exact hb wh pins s1 σ H1 Q I1 q1
def zxr(ha:PT X a tA):PT X (.UnaryOp .Not a pos) (xfh tA):=by
 intro pins s σ H Q I h;exact isTrue_not (ha pins s σ H (λc H1=>Q (!c) H1) I h)
def xas(ta tb:TE):TE:=λσ H Q=>ta σ H λx H1 =>∃c,x = .bl c/\if c=true then tb σ H1 Q else Q (.bl false) H1
def xfn(ta tb:TE):TE:=λσ H Q=>ta σ H λx H1 =>∃c,x = .bl c/\if c=true then Q (.bl true) H1 else tb σ H1 Q
def xbh(ta:TE):TE:=λσ H Q=>ta σ H λx H1 =>∃c,x = .bl c/\Q (.bl (!c)) H1
def zom{op}(h:PE X a t):PE X (.BoolOp op [a] pos) t:=λpins s σ H Q I hw=>BoolOp_one (h pins s σ H Q I hw)
def zoo(ha:PE X a ta)(hb:PE X (.BoolOp .And (b::rest) pos) tb):PE X (.BoolOp .And (a::b::rest) pos) (xas ta tb):=by
 intro pins s σ H Q I h;refine BoolOp_and (thn (ha pins s σ H _ I h) λv s1 xx6=>?_);obtain⟨x,H1,I1,r1,q1⟩:=xx6;obtain⟨c,rfl,q1⟩:=q1;cases r1;refine Zy ?_;cases c with
 |true=>exact hb pins s1 σ H1 Q I1 q1
 |false=>exact⟨.bl false,H1,I1,rfl,q1⟩
def xcb(ha:PE X a ta)(hb:PE X (.BoolOp .Or (b::rest) pos) tb):PE X (.BoolOp .Or (a::b::rest) pos) (xfn ta tb):=by
 intro pins s σ H Q I h;refine BoolOp_or (thn (ha pins s σ H _ I h) λv s1 xx7=>?_);obtain⟨x,H1,I1,r1,q1⟩:=xx7;obtain⟨c,rfl,q1⟩:=q1;cases r1;refine Zy ?_;cases c with
 |false=>exact hb pins s1 σ H1 Q I1 q1
 |true=>exact⟨.bl true,H1,I1,rfl,q1⟩
def zxd(ha:PE X a ta):PE X (.UnaryOp .Not a pos) (xbh ta):=by
 intro pins s σ H Q I h;refine UnaryOp_ (thn (ha pins s σ H _ I h) λv s1 xx8=>?_);obtain⟨x,H1,I1,r1,q1⟩:=xx8;obtain⟨c,rfl,q1⟩:=q1;cases r1;exact not_of (Zy ⟨.bl (!c),H1,I1,rfl,q1⟩)
def tIf(t:TT)(ta tb:TE):TE:=λσ H Q=>t σ H λc H1=>if c=true then ta σ H1 Q else tb σ H1 Q
def zmg(hc:PT X c tA)(ha:PE X a ta)(hb:PE X b tb):PE X (.IfExp c a b pos) (tIf tA ta tb):=by
 intro pins s σ H Q I h;refine wpAny_IfExp (thn (hc pins s σ H _ I h) λd s1 xx9=>?_);obtain⟨H1,I1,q1⟩:=xx9;cases d with
 |true=>exact ha pins s1 σ H1 Q I1 q1
 |false=>exact hb pins s1 σ H1 Q I1 q1
end
def SqL(K:Qa)(H:Hp)(a:Addr)(xs:List V):Prop :=
 Rd H a (.lst xs) \/
  ∃(o:Obj)(its:Array Value)(n:Nat),K.lookup a=some o/\o.cls = .type "list" /\ o.dict=none/\o.data = .seq its n/\its.size<=Qo/\Vals xs its.toList
def SqT(K:Qa)(H:Hp)(a:Addr)(xs:List V):Prop :=
 Rd H a (.tup xs) \/
  ∃(o:Obj)(its:Array Value)(n:Nat),K.lookup a=some o/\o.cls = .type "tuple" /\ o.data = .seq its n/\its.size<=Qo/\Vals xs its.toList
def xds:Value->Option V
 |.none=>some .non
 |.bool b=>some (.bl b)
 |.int i _=>some (.int i)
 |.str x _=>some (.str x)
 |.bytes b _=>some (.byt b)
 |.float b _=>some (.flt b)
 |.ref a=>some (.ref a)
 |.type n=>some (.ty n)
 |_=>none
def RelV.abs(r:RelV x u):xds u=some x:=by
 cases x with
 |non=>cases r;rfl
 |bl _=>cases r;rfl
 |int _=>obtain⟨t,rfl⟩:=r;rfl
 |str _=>obtain⟨t,rfl⟩:=r;rfl
 |byt _=>obtain⟨t,rfl⟩:=r;rfl
 |flt _=>obtain⟨t,rfl⟩:=r;rfl
 |ref _=>cases r;rfl
 |ty _=>cases r;rfl
theorem RelV.inj(r:RelV x u)(q:RelV y u):x=y:=Za (r.abs.symm.trans q.abs)
theorem Vals.inj:∀{xs ys:List V}{us:List Value},Vals xs us->Vals ys us->xs=ys
 |_,_,_,.nil,.nil=>rfl
 |_,_,_,.cons r t,.cons r' t'=>by rw[r.inj r',Vals.inj t t']
section
variable{X:Cx}{pins:List (Addr×Obj)}{σ:St}{H:Hp}{s:Ql}{a:Addr}{xs ys:List V}
def SqL.of{K:Qa}(h:H a=some (.lst xs)):SqL K H a xs :=.inl (.inl h)
def SqT.of{K:Qa}(h:H a=some (.tup xs)):SqT K H a xs :=.inl (.inl h)
def Inv.list(I:Inv X pins σ H s)(h:SqL X.K H a xs):∃its:List Value,Vals xs its/\PlainL s.heap a its.toArray/\xs.length<=Qo:=by
 rcases h with h|⟨o,its,n,hk,hc,hd,hs,hz,r⟩
 ·obtain⟨z,its,n,r,e⟩:=h.ok I.hok;exact⟨its,r,⟨_,n,e,rfl,rfl,rfl⟩,z⟩
 ·refine⟨its.toList,r,⟨o,n,I.kIn a o hk,hc,hd,by simpa using hs⟩,?_⟩;have e:=r.length;grind
def Inv.tuple(I:Inv X pins σ H s)(h:SqT X.K H a xs):∃its:List Value,Vals xs its/\IsTup s.heap a its.toArray/\xs.length<=Qo:=by
 rcases h with h|⟨o,its,n,hk,hc,hs,hz,r⟩
 ·obtain⟨z,its,r,p⟩:=h.ok I.hok;grind
 ·refine⟨its.toList,r,⟨o,I.kIn a o hk,hc,n,by simpa using hs⟩,?_⟩;have e:=r.length;grind
def Inv.list_inj(I:Inv X pins σ H s)(h:SqL X.K H a xs)(h':SqL X.K H a ys):xs=ys:=by
 obtain⟨its,r,⟨o,n,e,_,_,d⟩,_⟩:=I.list h;obtain⟨its',r',⟨o',n',e',_,_,d'⟩,_⟩:=I.list h';rw[e]at e';cases e';rw[d]at d';injection d' with d1 _;have:its=its':=by grind
 subst this;exact r.inj r'
def Inv.tuple_inj(I:Inv X pins σ H s)(h:SqT X.K H a xs)(h':SqT X.K H a ys):xs=ys:=by
 obtain⟨its,r,⟨o,e,_,n,d⟩,_⟩:=I.tuple h;obtain⟨its',r',⟨o',e',_,n',d'⟩,_⟩:=I.tuple h';rw[e]at e';cases e';rw[d]at d';injection d' with d1 _;have:its=its':=by grind
 subst this;exact r.inj r'
end
abbrev Cx.wish(X:Cx)(E:Value->Ql->Prop):Cx:={ X with xe:=E }
abbrev Cx.nox(X:Cx):Cx:=X.wish λ_ _=>False
def Cx.Ok.wish{X:Cx}(ok:X.Ok)(E:Value->Ql->Prop):(X.wish E).Ok :=
 ⟨ok.mod,ok.kind,ok.glob,ok.blt,ok.above,ok.inj,ok.has,ok.cab,ok.hd,ok.frames,ok.stk,ok.exf,ok.bs,ok.bsz,ok.noex,ok.exfs,ok.funs,ok.frf⟩
def Cx.Ok.unwish{X:Cx}(ok:(X.wish E).Ok):X.Ok :=
 ⟨ok.mod,ok.kind,ok.glob,ok.blt,ok.above,ok.inj,ok.has,ok.cab,ok.hd,ok.frames,ok.stk,ok.exf,ok.bs,ok.bsz,ok.noex,ok.exfs,ok.funs,ok.frf⟩
section
variable{X:Cx}{pins:List (Addr×Obj)}{σ:St}{H:Hp}{s:Ql}{E:Value->Ql->Prop}
def Inv.wish(I:Inv X pins σ H s)(E:Value->Ql->Prop):Inv (X.wish E) pins σ H s:=⟨I.ok.wish E,I.os,I.bare,I.base,I.loc,I.cell,I.free,I.freeC,I.pin,I.hok,I.len⟩
def Inv.unwish(I:Inv (X.wish E) pins σ H s):Inv X pins σ H s:=⟨I.ok.unwish,I.os,I.bare,I.base,I.loc,I.cell,I.free,I.freeC,I.pin,I.hok,I.len⟩
def SP.unwish(h:SP (X.wish E) pins D f s'):SP X pins D f s':=by
 cases f with
 |next=>obtain⟨σ',H',I,q⟩:=h;exact⟨σ',H',I.unwish,q⟩
 |brk=>obtain⟨σ',H',I,q⟩:=h;exact⟨σ',H',I.unwish,q⟩
 |cont=>obtain⟨σ',H',I,q⟩:=h;exact⟨σ',H',I.unwish,q⟩
 |ret u=>obtain⟨v,σ',H',I,r,q⟩:=h;exact⟨v,σ',H',I.unwish,r,q⟩
def PSs.nox{st:List Stmt}(h:PSs X.nox st t):PSs X st t:=λpins s σ H D I hw =>
 Zu (h pins s σ H D (I.wish _) hw) (λ_ _ q=>q.unwish) λ_ _ z=>Q7 z
end
section
variable{X:Cx}{st:Stmt}{rest:List Stmt}{t u:TS}{e:Expr}{te:TE}{pos:Pos}
def zzy:TS:=λD σ H=>D.nx σ H
def xez(t u:TS):TS:=λD σ H=>t { D with nx:=u D } σ H
def zej:PSs X [] zzy:=λ_ _ σ H _ I h=>Qeb ⟨σ,H,I,h⟩
def qdv(h1:PS X st t)(h2:PSs X rest u):PSs X (st::rest) (xez t u):=by
 intro pins s σ H D I h;refine wpAny_execs_cons (thn (h1 pins s σ H { D with nx:=u D } I h) λf s1 q=>?_);cases f with
 |next =>
  obtain⟨σ',H',I',q⟩:=q;exact h2 pins s1 σ' H' D I' q
 |ret v=>exact q
 |brk=>exact q
 |cont=>exact q
def qmp(h1:PS X st t):PSs X [st] t:=by
 intro pins s σ H D I h;refine wpAny_execs_cons (thn (h1 pins s σ H D I h) λf s1 q=>?_);grind[Qeb]
def Inv.quiet{σ:St}(I:Inv X pins σ H s):interactive X.env=false:=by simp[interactive,I.ok.kind]
def zuw(te:TE):TS:=λD σ H=>te σ H λ_ H1=>D.nx σ H1
def qwm(he:PE X e te)(hs:V8 e none pos.line X.env=pure false:=by rfl):PS X (.Expr e pos) (zuw te):=by
 intro pins s σ H D I h;exact wpAny_Expr_any (thn (he pins s σ H _ I h) λv s1 xx12=>by obtain⟨x,H1,I1,r1,q1⟩:=xx12;exact⟨σ,H1,I1,q1⟩) I.quiet hs
def xeh(te:TE):TS:=λD σ H=>te σ H D.rt
def qoz(he:PE X e te):PS X (.Return (some e) pos) (xeh te):=by
 intro pins s σ H D I h;exact wpAny_Return_some (thn (he pins s σ H _ I h) λv s1 xx13=>by obtain⟨x,H1,I1,r1,q1⟩:=xx13;exact⟨x,σ,H1,I1,r1,q1⟩)
def xel(c:TT)(t u:TS):TS:=λD σ H=>c σ H λb H1=>if b=true then t D σ H1 else u D σ H1
def zpq(hc:PT X c tc)(ha:PSs X a t)(hb:PSs X b u):PS X (.If c a b pos) (xel tc t u):=by
 intro pins s σ H D I h;refine wpAny_If (thn (hc pins s σ H _ I h) λd s1 xx14=>?_);obtain⟨H1,I1,q1⟩:=xx14;cases d with
 |true=>exact ha pins s1 σ H1 D I1 q1
 |false=>exact hb pins s1 σ H1 D I1 q1
def zwo:TS:=λ_ _ _=>False
def zja:PSs X sts zwo:=λ_ _ _ _ _ _ h=>h.elim
end
abbrev TG:=V->St->Hp->(St->Hp->Prop)->Prop
abbrev TGs:=List V->St->Hp->(St->Hp->Prop)->Prop
def PG(X:Cx)(target:Expr)(t:TG):Prop :=
 ∀(pins:List (Addr×Obj))(s:Ql)(σ:St)(H:Hp)(v:V)(u:Value)(Q:St->Hp->Prop),Inv X pins σ H s->RelV v u->t v σ H Q ->
  wpAny (model X.prog X.w) X.A (Qdi target X.env u) (λ_ s' =>∃σ' H',Inv X pins σ' H' s'/\Q σ' H') X.xe s
def PGs(X:Cx)(ts:List Expr)(t:TGs):Prop :=
 ∀(pins:List (Addr×Obj))(s:Ql)(σ:St)(H:Hp)(vs:List V)(us:List Value)(Q:St->Hp->Prop),Inv X pins σ H s->Vals vs us->t vs σ H Q ->
  wpAny (model X.prog X.w) X.A (assignInOrder ((Vj ts X.env).map (·.2)) us) (λ_ s' =>∃σ' H',Inv X pins σ' H' s'/\Q σ' H') X.xe s
abbrev xcn:=V->V->V->Hp->(Hp->Prop)->Prop
def xcp(X:Cx)(t:xcn):Prop :=
 ∀(pins:List (Addr×Obj))(s:Ql)(σ:St)(H:Hp)(o i v:V)(ov iv u:Value)(Q:Hp->Prop),Inv X pins σ H s->RelV o ov->RelV i iv->RelV v u->t o i v H Q ->
  wpAny (model X.prog X.w) X.A (setItem ov iv u) (λ_ s' =>∃H',Inv X pins σ H' s'/\Q H') X.xe s
section
variable{X:Cx}{pos:Pos}
def zjt(i:Nat):TG:=λv σ H Q=>Q (σ.set i (some v)) H
def zgj(hN:X.N.Nodup)(hi:X.N[i]?=some x)(hx:Loc X.env.scope x)(hf:X.fn x=true\/X.env.scope.names.lookup x=some .local:=by first|exact .inl rfl|exact .inr rfl|assumption):PG X (.Name x pos) (zjt i):=by
 intro pins s σ H v u Q I r h;exact Qfl (qhv I hN hi hx r (λs' I'=>⟨_,H,I',h⟩) hf)
def xdu:TGs:=λvs σ H Q=>vs=[]/\Q σ H
def xba(t:TG)(u:TGs):TGs:=λvs σ H Q =>∃v r,vs=v::r/\t v σ H λσ' H'=>u r σ' H' Q
def zsl:PGs X [] xdu:=by
 intro pins s σ H vs us Q I r h;obtain⟨e,h⟩:=h;subst e;cases r;exact assignInOrder_nil ⟨σ,H,I,h⟩
def znn(h1:PG X e t)(h2:PGs X es u)(hs:(Vj (e::es) X.env).map (·.2)=Qdi e X.env::(Vj es X.env).map (·.2):=by rfl):PGs X (e::es) (xba t u):=by
  intro pins s σ H vs us Q I r h;obtain⟨v,vr,e1,h⟩:=h;subst e1;cases r with
  |cons r rr =>
   rw[hs];refine assignInOrder_cons (thn (h1 pins s σ H _ _ _ I r h) λ_ s1 xx15=>?_);obtain⟨σ1,H1,I1,q1⟩:=xx15;exact h2 pins s1 σ1 H1 _ _ Q I1 rr q1
def xdv(K:Qa)(n:Nat)(t:TGs):TG:=λv σ H Q =>∃a xs,v = .ref a/\SqT K H a xs/\xs.length=n/\t xs σ H Q
def zxp{k:Nat}(hc:X.calm=true)(h:PGs X es t)(hn:(Vj es X.env).length=n:=by rfl)(hst:(Vj es X.env).findIdx? (·.1)=none:=by rfl):PG X (.Tuple es k pos) (xdv X.K n t):=by
  intro pins s σ H v u Q I r hw;obtain⟨a,xs,e1,hq,hl,hw⟩:=hw;subst e1;cases r;obtain⟨its,rv,ht,hz⟩:=I.tuple hq;refine assign_Tuple_tuple (I.ok.hd hc) ht (by simp[hn,<- hl,rv.length]) hst λh' hx=>?_;have I1:Inv X pins σ H { s with heap:=h' }:=I.kept (t':=s.toks) λb o e=>hx b o (Q3 (Qm e)) e;exact h pins _ σ H xs _ Q I1 (by grind) hw
def xdy(to ti:TE)(t:xcn):TG:=λv σ H Q=>to σ H λo H1=>ti σ H1 λi H2=>t o i v H2 λH3=>Q σ H3
def zyi(ho:PE X o to)(hi:PE X i ti)(hs:xcp X t)(ha:∀v,Qdi (.Subscript o i pos) X.env v=(do
 let ov <- Qdf [v] (eval o X.env)
 let iv <- Qdf [v,ov] (eval i X.env)
 Qhc pos
 Qdf [v,ov,iv] (setItem ov iv v)
 release [v,ov,iv] []):=by intro _;rfl):PG X (.Subscript o i pos) (xdy to ti t):=by
  intro pins s σ H v u Q I r h;rw[ha];refine Qe (Qav (thn (ho pins s σ H _ I h) λov s1 xx18=>?_));obtain⟨x,H1,I1,r1,q1⟩:=xx18;refine Qe (Qav (thn (hi pins s1 σ H1 _ I1 q1) λiv s2 xx17=>?_));obtain⟨y,H2,I2,r2,q2⟩:=xx17;refine Qe (Qcg (Qe (Qav (thn (hs pins s2 σ H2 x y v ov iv u _ I2 r1 r2 r q2) λ_ s3 xx16=>?_))));obtain⟨H3,I3,q3⟩:=xx16;exact wpAny_release ⟨σ,H3,I3,q3⟩
def zvo(te:TE)(g:TG):TS:=λD σ H=>te σ H λx H1=>g x σ H1 D.nx
def znz(he:PE X e te)(hg:PG X tg g)(hs:Qir [tg] e pos.line X.env=pure false:=by rfl)(hw:Qiq [tg] e X.env=pure none:=by rfl)(h1:(Vj [tg] X.env).map (·.2)=[Qdi tg X.env]:=by rfl):PS X (.Assign [tg] e pos) (zvo te g):=by
 intro pins s σ H D I h;refine wpAny_Assign_stores (thn (he pins s σ H _ I h) λv s1 xx19=>?_) hs hw;obtain⟨x,H1,I1,r1,q1⟩:=xx19;rw[h1];exact thn (hg pins s1 σ H1 x v _ I1 r1 q1) λ_ s2 q=>q
def qin(hN:X.N.Nodup)(hi:X.N[i]?=some x)(hx:Loc X.env.scope x)(he:PE X e te)(hs:V8 e (some (.Name x pos')) pos.line X.env=pure false:=by rfl)(hf:X.fn x=true\/X.env.scope.names.lookup x=some .local:=by first|exact .inl rfl|exact .inr rfl|assumption):
 PS X (.Assign [.Name x pos'] e pos) (zvo te (zjt i)):=by
 intro pins s σ H D I h;refine wpAny_Assign_Name (thn (he pins s σ H _ I h) λv s1 xx20=>?_) hs;obtain⟨y,H1,I1,r1,q1⟩:=xx20;exact qhv I1 hN hi hx r1 (λs2 I2=>⟨_,H1,I2,q1⟩) hf
def zwu(c:TT)(tb:TS):TS:=λD σ H =>∃W:Nat->St->Hp->Prop,(∃m,W m σ H) /\ ∀m σ H,W m σ H ->
 c σ H λb H1=>if b=true then∃N:St->Hp->Prop,(∀σ' H',N σ' H' ->∃m',m'<m/\W m' σ' H')/\tb { D with nx:=N,ct:=N,bk:=D.nx } σ H1 else D.nx σ H1
def zln(hp:Qkx (model X.prog X.w) X.A X.env X.xe)(hc:PT X c tc)(hb:PSs X body tb):PS X (.While c body [] pos) (zwu tc tb):=by
 intro pins s σ H D I h;obtain⟨W,⟨m0,w0⟩,turn⟩:=h;refine wpAny_While (codeAny_whileLoop (λn s' =>∃σ' H',Inv X pins σ' H' s'/\W n σ' H') ?_ m0 ⟨σ,H,I,w0⟩);rintro n s1 ⟨σ1,H1,I1,w1⟩;refine Jw hp (thn (hc pins s1 σ1 H1 _ I1 (turn n σ1 H1 w1)) λb s2 xx21=>?_);obtain⟨H2,I2,q2⟩:=xx21;cases b with
 |true =>
  obtain⟨N,hN,q2⟩:=q2;rw[if_pos rfl];refine Jw hp (thn (hb pins s2 σ1 H2 _ I2 q2) λf s3 q3=>?_);cases f with
  |next =>
   obtain⟨σ3,H3,I3,n3⟩:=q3;obtain⟨m',hm,w3⟩:=hN σ3 H3 n3;exact⟨m',hm,σ3,H3,I3,w3⟩
  |cont =>
   obtain⟨σ3,H3,I3,n3⟩:=q3;obtain⟨m',hm,w3⟩:=hN σ3 H3 n3;exact⟨m',hm,σ3,H3,I3,w3⟩
  |brk=>exact q3
  |ret v=>exact q3
 |false =>
  rw[if_neg Zb];exact Qeb ⟨σ1,H2,I2,q2⟩
end
structure It where
 go:Nat->Hp->Prop
 yld:Nat->Hp->V->Hp->Prop
 stop:Nat->Hp->Prop
def zkf(X:Cx)(pins:List (Addr×Obj))(H:Hp)(b:Addr):Prop :=
 H b=none/\b≠X.env.locals/\b∉X.fs/\(b∈X.ex\/X.s₀.heap.objs.size<=b)/\(∀x c,X.env.cells.lookup x=some c->c≠b) /\ ∀p∈X.pn++pins,p.1≠b
def Inv.fpOk{σ:St}{b:Addr}(I:Inv X pins σ H s)(hb:s.heap.objs.size<=b)(hn:H' b=none):zkf X pins H' b:=by
 refine⟨hn,Z6 (Zh I.lt hb),I.nofs hb,.inr (Qk I.sz hb),λx c e z=>?_,λp hp z=>?_⟩
 ·obtain⟨v,q⟩:=I.cell x c e;exact absurd (Zh q.lt (by grind)) (Jx _)
 ·exact absurd (Zh (Qm (I.pin p hp).1) (by grind)) (Jx _)
structure Turn(P:Zk)(w:World)(K:Qa)(tg:Expr)(J:It)(fp:List Addr)(it:Addr)(tn:Nat->Heap->Prop):Prop where
 mem:it∈fp
 obj:∀i h,tn i h ->∀b∈fp,∃o,h.get? b=some o /\ ∀v,o.data≠.cell v
 keep:∀i h h',tn i h->(∀b∈fp,∀o,h.get? b=some o->h'.get? b=some o)->tn i h'
 item:∀(X:Cx),X.prog=P->X.w=w->X.K=K->X.calm=true ->∀(i:Nat)(pins:List (Addr×Obj))(s:Ql)(σ:St)(H:Hp)(E:Value->Ql->Prop),Inv X pins σ H s->(∀b∈fp,zkf X pins H b)->tn i s.heap->J.go i H ->
  wpAny (model P w) X.A (Qgd (.ref it)) (λr s1 =>∃u,r=some u /\
   wpAny (model P w) X.A (Qap tg (.ref it) u) (λ_ s2 =>∃x H',Inv X pins σ H' s2/\RelV x u/\J.yld i H x H'/\tn (i+1) s2.heap /\ ∀b∈fp,H' b=none) E s1) E s
 done:∀(X:Cx),X.prog=P->X.w=w->X.K=K->X.calm=true ->∀(i:Nat)(pins:List (Addr×Obj))(s:Ql)(σ:St)(H:Hp)(E:Value->Ql->Prop),Inv X pins σ H s->(∀b∈fp,zkf X pins H b)->tn i s.heap->J.stop i H ->
  wpAny (model P w) X.A (Qgd (.ref it)) (λr s1=>r=none/\Inv X pins σ H s1) E s
 self:∀(A:Z1)(i:Nat)(s:Ql)(Q:Value->Ql->Prop)(E:Value->Ql->Prop),tn i s.heap->Q (.ref it) s->wpAny (model P w) A (pyIter (.ref it)) Q E s
abbrev TI:=St->Hp->(It->Hp->Prop)->Prop
def PIE(X:Cx)(pins:List (Addr×Obj))(σ:St)(tg:Expr)(R:It->Hp->Prop)(itv:Value)(s2:Ql):Prop :=
 ∃(it:Addr)(fp:List Addr)(tn:Nat->Heap->Prop)(J:It)(H':Hp),itv = .ref it/\Inv X pins σ H' s2/\Turn X.prog X.w X.K tg J fp it tn/\tn 0 s2.heap/\(∀b∈fp,zkf X pins H' b)/\R J H'
def PI(X:Cx)(tg iter:Expr)(wi:TI):Prop :=
 ∀(pins:List (Addr×Obj))(s:Ql)(σ:St)(H:Hp)(R:It->Hp->Prop),Inv X pins σ H s->wi σ H R ->
  wpAny (model X.prog X.w) X.A (eval iter X.env) (λv s1=>wpAny (model X.prog X.w) X.A (pyIter v) (PIE X pins σ tg R) X.xe s1) X.xe s
def zjp(ho:s.heap.get? it=some o)(hc:o.cls = .type n)(hd:o.data = .fields vs)(hn:["enumerate","zip","dict_itemiterator","dict_reverseitemiterator","odict_iterator","itertools.zip_longest","itertools.pairwise"].contains n=false)(hQ:Q () s):wpAny M A (Qap tg (.ref it) u) Q E s:=by
  unfold Qap;cases tg <;> first
   |grind
   | (cases u <;> first
    |exact Qx hQ
    | (refine Qe (wpAny_load ho ?_)
       rw[hc,hd];show wpAny M A (if(["enumerate","zip","dict_itemiterator","dict_reverseitemiterator","odict_iterator","itertools.zip_longest","itertools.pairwise"].contains n&&vs[0]?==some (Qay _))=true then _ else _) Q E s;rw[if_neg (by grind)];exact Qx hQ))
def Itl(K:Qa)(a:Addr):It :=
 ⟨λi H =>∃xs x,SqL K H a xs/\xs[i]?=some x,λi H x H'=>H'=H /\ ∀xs,SqL K H a xs->xs[i]?=some x,λi H =>∃xs,SqL K H a xs/\xs.length<=i⟩
def Itt(K:Qa)(a:Addr):It :=
 ⟨λi H =>∃xs x,SqT K H a xs/\xs[i]?=some x,λi H x H'=>H'=H /\ ∀xs,SqT K H a xs->xs[i]?=some x,λi H =>∃xs,SqT K H a xs/\xs.length<=i⟩
def Itr(lo:Int)(n:Nat):It:=⟨λi _=>i<n,λi H x H'=>H'=H/\x = .int (lo+i),λi _=>n<=i⟩
def zis{K:Qa}(a it:Addr):Turn P w K tg (Itl K a) [it] it (λi h=>h.IsListIter it a i) where
 mem:=by simp
 obj:=λi h st b hb=>by
  have e:b=it:=by grind
  subst e;obtain⟨o,e,c,d⟩:=st;grind
 keep:=λi h h' st k=>st.at λo e=>k it (by simp) o e
 item:=by
  intro X hP hw hK hc i pins s σ H E I hf st hg;subst hP hw hK;obtain⟨xs,x,hq,hx⟩:=hg;obtain⟨its,rv,p,hz⟩:=I.list hq;obtain⟨u,hu,ru⟩:=rv.get hx;obtain⟨f0,f1,f2,f3,f4,f5⟩:=hf it (by simp);refine wpAny_pyNext_list_item st p.isList (x:=u) (by grind) λh' st' sb=>?_;have I1:Inv X pins σ H { s with heap:=h' }:=I.turned (t':=s.toks) (λb o hb e=>(sb.2 b hb).trans e) f0 f1 f3 f4 f5;obtain⟨o,e,c,d⟩:=id st';exact⟨u,rfl,zjp (s:={ s with heap:=h' }) e c d (by decide) ⟨x,H,I1,ru,⟨rfl,λys hy=>by rw[I.list_inj hy hq];exact hx⟩,st',λb hb=>(hf b hb).1⟩⟩
 done:=by
  intro X hP hw hK hc i pins s σ H E I hf st hg;subst hP hw hK;obtain⟨xs,hq,hx⟩:=hg;obtain⟨its,rv,p,hz⟩:=I.list hq;obtain⟨f0,f1,f2,f3,f4,f5⟩:=hf it (by simp);have hl:=rv.length;exact wpAny_pyNext_list_end (I.ok.hd hc) st p.isList (by simp;omega) λh' eb=>⟨rfl,I.turned (t':=s.toks) (λb o hb e=>eb b o hb e) f0 f1 f3 f4 f5⟩
 self:=λ_ _ _ _ _ st h=>wpAny_pyIter_listiter st h
def zde{K:Qa}(a it:Addr):Turn P w K tg (Itt K a) [it] it (λi h=>h.IsTupleIter it a i) where
 mem:=by simp
 obj:=λi h st b hb=>by
  have e:b=it:=by grind
  subst e;obtain⟨o,e,c,d⟩:=st;grind
 keep:=λi h h' st k=>st.at λo e=>k it (by simp) o e
 item:=by
  intro X hP hw hK hc i pins s σ H E I hf st hg;subst hP hw hK;obtain⟨xs,x,hq,hx⟩:=hg;obtain⟨its,rv,p,hz⟩:=I.tuple hq;obtain⟨u,hu,ru⟩:=rv.get hx;obtain⟨f0,f1,f2,f3,f4,f5⟩:=hf it (by simp);refine wpAny_pyNext_tuple_item st (show s.heap.IsTuple a its.toArray from p) (x:=u) (by grind) λh' st' sb=>?_;have I1:Inv X pins σ H { s with heap:=h' }:=I.turned (t':=s.toks) (λb o hb e=>(sb.2 b hb).trans e) f0 f1 f3 f4 f5;obtain⟨o,e,c,d⟩:=id st';exact⟨u,rfl,zjp (s:={ s with heap:=h' }) e c d (by decide) ⟨x,H,I1,ru,⟨rfl,λys hy=>by rw[I.tuple_inj hy hq];exact hx⟩,st',λb hb=>(hf b hb).1⟩⟩
 done:=by
  intro X hP hw hK hc i pins s σ H E I hf st hg;subst hP hw hK;obtain⟨xs,hq,hx⟩:=hg;obtain⟨its,rv,p,hz⟩:=I.tuple hq;obtain⟨f0,f1,f2,f3,f4,f5⟩:=hf it (by simp);have hl:=rv.length;exact wpAny_pyNext_tuple_end (I.ok.hd hc) st (show s.heap.IsTuple a its.toArray from p) (by simp;omega) λh' eb=>⟨rfl,I.turned (t':=s.toks) (λb o hb e=>eb b o hb e) f0 f1 f3 f4 f5⟩
 self:=λ_ _ _ _ _ st h=>wpAny_pyIter_tupleiter st h
def zdi{K:Qa}(it:Addr)(lo:Int)(n:Nat):Turn P w K tg (Itr lo n) [it] it (λi h=>IsRangeIter h it (lo+(i:Nat)*1) ((n:Int)-(i:Nat)) 1) where
 mem:=by simp
 obj:=λi h st b hb=>by
  grind
 keep:=λi h h' st k=>k it (by simp) _ st
 item:=by
  intro X hP hw hK hc i pins s σ H E I hf st hg;subst hP hw hK;obtain⟨f0,f1,f2,f3,f4,f5⟩:=hf it (by simp);have W:=Walks.range (prog:=X.prog) (w:=X.w) (I.ok.hd hc) it lo 1 n;refine W.item i s _ _ hg st λv h' tk hv st' kk=>?_;obtain⟨t,rfl⟩:=hv;have I1:Inv X pins σ H { s with heap:=h',toks:=tk }:=I.turned (λb o hb e=>kk b o (by grind) e) f0 f1 f3 f4 f5;refine⟨_,rfl,zjp (s:={ s with heap:=h',toks:=tk }) (n := "range_iterator") st' rfl rfl (by decide) ⟨.int (lo+i),H,I1,⟨t,?_⟩,⟨rfl,rfl⟩,st',λb hb=>(hf b hb).1⟩⟩;grind
 done:=by
  intro X hP hw hK hc i pins s σ H E I hf st hg;subst hP hw hK;obtain⟨f0,f1,f2,f3,f4,f5⟩:=hf it (by simp);exact wpAny_pyNext_range_end (I.ok.hd hc) st (by have:n<=i:=hg;omega) λh' eb=>⟨rfl,I.turned (t':=s.toks) (λb o hb e=>eb b o hb e) f0 f1 f3 f4 f5⟩
 self:=λ_ _ _ _ _ st h=>wpAny_pyIter_rangeiter st h
section
variable{X:Cx}{tg:Expr}
def zmy{σ:St}{lo hi:Int}(I:Inv X pins σ H s)(h1 : -(2^62)<=lo)(h2:lo<2^62)(h3 : -(2^62)<=hi)(h4:hi<2^62)(q:R (Itr lo (hi-lo).toNat) H):wpAny (model X.prog X.w) X.A (pyIter (.ref s.heap.objs.size)) (PIE X pins σ tg R) E { s with heap:=s.heap.push { cls :=.type "range",data :=.fields #[.int lo t,.int hi u,.int 1 v] },toks:=tk }:=by
  refine wpAny_pyIter_range (IsRange.new ..) (small_one h1 h2 h3 h4) ?_;have I1:Inv X pins σ H { s with heap:=s.heap.push { cls :=.type "range",data :=.fields #[.int lo t,.int hi u,.int 1 v] },toks:=tk }:=I.kept λb o e=>Qf _ e;refine⟨(s.heap.push { cls :=.type "range",data :=.fields #[.int lo t,.int hi u,.int 1 v] }).objs.size,[(s.heap.push { cls :=.type "range",data :=.fields #[.int lo t,.int hi u,.int 1 v] }).objs.size],_,_,H,rfl,
   I1.kept (t':=tk) λb o e=>Qf _ e,zdi _ lo (hi-lo).toNat,?_,λb hb=>?_,q⟩
  ·have e1:lo+((0:Nat):Int)*1=lo:=by simp
   have e2:(((hi-lo).toNat:Nat):Int)-((0:Nat):Int)=Qlp lo hi 1:=by grind[rangeSize_one]
   show IsRangeIter _ _ (lo+((0:Nat):Int)*1) ((((hi-lo).toNat:Nat):Int)-((0:Nat):Int)) 1;rw[e1,e2];exact Qq _ rfl
  ·have e:b=(s.heap.push { cls :=.type "range",data :=.fields #[.int lo t,.int hi u,.int 1 v] }).objs.size:=by grind
   subst e;exact I1.fpOk (Qn _) (I1.hok.fresh (Qn _))
def xay(ta:TA):TI:=λσ H R=>ta σ H λvs H1 =>∃j:Int,vs=[.int j] /\ -(2^62)<=j/\j<2^62/\R (Itr 0 j.toNat) H1
def zhe(hg:Gl X "range")(hm:X.mg "range" = none)(ha:PA X [a] ta)(hs:Qi [a] X.env=[(false,eval a X.env)]:=by rfl):PI X tg (.Call (.Name "range" p) [a] [] pos) (xay ta):=by
 intro pins s σ H R I h;refine Call_ (qli I hg hm boot_range (Jd (thn (ha pos pins s σ H _ I h) λus s1 xx22=>?_) hs rfl));obtain⟨vs,H1,I1,r1,q1⟩:=xx22;obtain⟨j,e,q1,q2,q⟩:=q1;subst e;cases r1 with
 |cons r rr =>
  cases rr;obtain⟨t,rfl⟩:=r;exact call_range_1 (zmy I1 (by omega) (by omega) q1 q2 (by simpa using q))
def xeg(wi:TI)(g:TG)(tb:TS):TS:=λD σ H=>wi σ H λJ H1 =>∃W:Nat->Nat->St->Hp->Prop,(∃m,W 0 m σ H1) /\ ∀i m σ H,W i m σ H ->
 (J.stop i H/\D.nx σ H)\/(J.go i H /\ ∃N:St->Hp->Prop,(∀σ' H',N σ' H' ->∃m',m'<m/\W (i+1) m' σ' H') /\ ∀x H',J.yld i H x H'->g x σ H' λσ2 H2=>tb { D with nx:=N,ct:=N,bk:=D.nx } σ2 H2)
def qxz(fp:List Addr)(h:Heap):List (Addr×Obj):=fp.filterMap λb=>(h.get? b).map λo=>(b,o)
def qft(hb:b∈fp)(e:h.get? b=some o):(b,o)∈qxz fp h:=Qbq.mpr ⟨b,hb,by rw[e];rfl⟩
def zjg(hp:p∈qxz fp h):p.1∈fp/\h.get? p.1=some p.2:=by
 obtain⟨b,hb,e⟩:=Qbq.mp hp;cases q:h.get? b with
 |none=>grind
 |some o =>
  grind
def Inv.pinned{σ:St}(I:Inv X pins σ H s)(hf:∀b∈fp,zkf X pins H b)(ho:∀b∈fp,∃o,s.heap.get? b=some o /\ ∀v,o.data≠.cell v):Inv X (pins++qxz fp s.heap) σ H s :=
 I.pins_of λp hp=>(Zz.mp hp).elim (λz=>I.pin p (Qw _ z)) λz=>by
  obtain⟨hb,e⟩:=zjg z;obtain⟨f0,f1,f2,_⟩:=hf p.1 hb;grind
def Inv.unpinned{σ:St}(I:Inv X (pins++pl) σ H s):Inv X pins σ H s:=I.pins_of λp hp=>I.pin p (Qw _ (Zx _ hp))
def zos(hp:Qkx (model X.prog X.w) X.A X.env X.xe)(hc:X.calm=true)(hi:PI X tg iter wi)(hg:PG X tg g)(hb:PSs X body tb)(hs:∀x,Zn iter X.env x=pure x:=by intro _;rfl):PS X (.For tg iter body [] pos) (xeg wi g tb):=by
  intro pins s σ H D I h;refine wpAny_For (thn (hi pins s σ H _ I h) λv s1 h1=>thn h1 λitv s2 h2=>?_) hs;obtain⟨it,fp,tn,J,H2,e,I2,T,st2,f2,W,⟨m0,w0⟩,turn⟩:=h2;subst e;have stat:∀{H':Hp},(∀b∈fp,H' b=none) ->∀b∈fp,zkf X pins H' b:=λhn b hb=>⟨hn b hb,(f2 b hb).2⟩
  refine codeAny_forLoop_any (λn s' =>∃i σ' H',Inv X pins σ' H' s'/\tn i s'.heap/\(∀b∈fp,H' b=none)/\W i n σ' H') ?_ m0 ⟨0,σ,H2,I2,st2,λb hb=>(f2 b hb).1,w0⟩;rintro n s3 ⟨i,σ3,H3,I3,st3,fr3,w3⟩;rcases turn i n σ3 H3 w3 with⟨stop,qn⟩|⟨go,N,hN,step⟩
  ·refine Jw hp (thn (T.done X rfl rfl rfl hc i pins s3 σ3 H3 X.xe I3 (stat fr3) st3 stop) λr s4 xx26=>?_);obtain⟨hr,I4⟩:=xx26;subst hr;exact Qeb ⟨σ3,H3,I4,qn⟩
  ·refine Jw hp (thn (T.item X rfl rfl rfl hc i pins s3 σ3 H3 X.xe I3 (stat fr3) st3 go) λr s4 xx25=>?_);obtain⟨u,hr,h4⟩:=xx25;subst hr;refine Jw hp (thn h4 λ_ s5 xx24=>?_);obtain⟨x,H5,I5,r5,y5,st5,fr5⟩:=xx24;have I5':=I5.pinned (stat fr5) (T.obj _ _ st5);refine Jw hp (thn (hg _ s5 σ3 H5 x u _ I5' r5 (step x H5 y5)) λ_ s6 xx23=>?_);obtain⟨σ6,H6,I6,q6⟩:=xx23;refine Jw hp (thn (hb _ s6 σ6 H6 _ I6 q6) λf s7 q7=>?_);have again:∀{σ7:St}{H7:Hp},Inv X (pins++qxz fp s5.heap) σ7 H7 s7->N σ7 H7 ->∃m,m<n /\ ∃i σ' H',Inv X pins σ' H' s7/\tn i s7.heap/\(∀b∈fp,H' b=none)/\W i m σ' H':=λ{σ7 H7} I7 n7=>by
    obtain⟨m',hm,w7⟩:=hN σ7 H7 n7;refine⟨m',hm,i+1,σ7,H7,I7.unpinned,T.keep _ _ _ st5 λb hb o e=>(I7.pin (b,o) (Qw _ (Qw _ (qft hb e)))).1,λb hb=>?_,w7⟩;obtain⟨o,e,d⟩:=T.obj _ _ st5 b hb;exact(I7.pin (b,o) (Qw _ (Qw _ (qft hb e)))).2.1
   cases f with
   |next=>obtain⟨σ7,H7,I7,n7⟩:=q7;exact again I7 n7
   |cont=>obtain⟨σ7,H7,I7,n7⟩:=q7;exact again I7 n7
   |brk=>obtain⟨σ7,H7,I7,q7⟩:=q7;exact⟨σ7,H7,I7.unpinned,q7⟩
   |ret v=>obtain⟨x7,σ7,H7,I7,r7,q7⟩:=q7;exact⟨x7,σ7,H7,I7.unpinned,r7,q7⟩
end
abbrev R2:=V->V->Hp->VK->Prop
def OpR(X:Cx)(f:Value->Value->Sem Value)(r:R2):Prop :=
 ∀(pins:List (Addr×Obj))(s:Ql)(σ:St)(H:Hp)(x y:V)(v u:Value)(Q:VK),Inv X pins σ H s->RelV x v->RelV y u->r x y H Q ->
  wpAny (model X.prog X.w) X.A (f v u) (EP X pins σ Q) X.xe s
def UnR(X:Cx)(f:Value->Sem Value)(r:V->Hp->VK->Prop):Prop :=
 ∀(pins:List (Addr×Obj))(s:Ql)(σ:St)(H:Hp)(x:V)(v:Value)(Q:VK),Inv X pins σ H s->RelV x v->r x H Q ->
  wpAny (model X.prog X.w) X.A (f v) (EP X pins σ Q) X.xe s
def CallR(X:Cx)(f:Value)(r:List V->Hp->VK->Prop):Prop :=
 ∀(pins:List (Addr×Obj))(s:Ql)(σ:St)(H:Hp)(xs:List V)(us:List Value)(Q:VK),Inv X pins σ H s->Vals xs us->r xs H Q ->
  wpAny (model X.prog X.w) X.A (call f us) (EP X pins σ Q) X.xe s
def tOp(r:R2)(ta tb:TE):TE:=λσ H Q=>ta σ H λx H1=>tb σ H1 λy H2=>r x y H2 Q
def tUn(r:V->Hp->VK->Prop)(ta:TE):TE:=λσ H Q=>ta σ H λx H1=>r x H1 Q
def rI(C:Int->Int->Prop)(g:Int->Int->V):R2:=λx y H Q =>∃i j,x = .int i/\y = .int j/\C i j/\Q (g i j) H
def rI0(g:Int->Int->V):R2:=λx y H Q =>∃i j,x = .int i/\y = .int j/\Q (g i j) H
def rU(g:Int->V):V->Hp->VK->Prop:=λx H Q =>∃i,x = .int i/\Q (g i) H
section
variable{X:Cx}{a b c:Expr}{ta tb tc:TE}{pos:Pos}
def zzd(ha:PE X a ta)(hb:PE X b tb){σ:St}{R:V->V->Hp->Prop}(I:Inv X pins σ H s)(h:ta σ H λx H1=>tb σ H1 λy H2=>R x y H2){f:Value->Value->Sem Value}(hf:∀v u s2 x y H2,Inv X pins σ H2 s2->RelV x v->RelV y u->R x y H2->wpAny (model X.prog X.w) X.A (f v u) Q X.xe s2):
 wpAny (model X.prog X.w) X.A (eval a X.env) (λv s₁=>wpAny (model X.prog X.w) X.A (eval b X.env) (λu s₂=>wpAny (model X.prog X.w) X.A (f v u) Q X.xe s₂) X.xe s₁) X.xe s:=by
  refine thn (ha pins s σ H _ I h) λv s1 xx28=>?_;obtain⟨x,H1,I1,r1,q1⟩:=xx28;refine thn (hb pins s1 σ H1 _ I1 q1) λu s2 xx27=>?_;obtain⟨y,H2,I2,r2,q2⟩:=xx27;exact hf v u s2 x y H2 I2 r1 r2 q2
def zvl(ho:OpR X (Jn op) r)(ha:PE X a ta)(hb:PE X b tb):PE X (.BinOp a op b pos) (tOp r ta tb):=by
 intro pins s σ H Q I h;exact wpAny_BinOp (zzd ha hb I h λv u s2 x y H2 I2 rx ry q=>ho pins s2 σ H2 x y v u Q I2 rx ry q)
def xby(ho:UnR X (unaryOp op) r)(ha:PE X a ta):PE X (.UnaryOp op a pos) (tUn r ta):=by
 intro pins s σ H Q I h;exact UnaryOp_ (thn (ha pins s σ H _ I h) λv s1 xx29=>by obtain⟨x,H1,I1,r1,q1⟩:=xx29;exact ho pins s1 σ H1 x v Q I1 r1 q1)
def opI{g:Int->Int->Int}(rule:∀(i j:Int)(t u:Tok)(s:Ql)(Q:Value->Ql->Prop)(E:Value->Ql->Prop),C i j->Q (.int (g i j) s.toks) { s with toks:=s.toks+1 }->wpAny (model X.prog X.w) X.A (f (.int i t) (.int j u)) Q E s):
  OpR X f (rI C λi j => .int (g i j)):=by
  intro pins s σ H x y v u Q I rx ry h;obtain⟨i,j,rfl,rfl,hc,q⟩:=h;obtain⟨t,rfl⟩:=rx;obtain⟨t',rfl⟩:=ry;exact rule i j t t' s _ _ hc ⟨.int (g i j),H,I.tok _,⟨_,rfl⟩,q⟩
def xfp{g:Int->Int->Int}(rule:∀(i j:Int)(t u:Tok)(s:Ql)(Q:Value->Ql->Prop)(E:Value->Ql->Prop),Q (.int (g i j) s.toks) { s with toks:=s.toks+1 }->wpAny (model X.prog X.w) X.A (f (.int i t) (.int j u)) Q E s):
  OpR X f (rI0 λi j => .int (g i j)):=by
  intro pins s σ H x y v u Q I rx ry h;obtain⟨i,j,rfl,rfl,q⟩:=h;obtain⟨t,rfl⟩:=rx;obtain⟨t',rfl⟩:=ry;exact rule i j t t' s _ _ ⟨.int (g i j),H,I.tok _,⟨_,rfl⟩,q⟩
def zun{g:Int->Int->Bool}(rule:∀(i j:Int)(t u:Tok)(s:Ql)(Q:Value->Ql->Prop)(E:Value->Ql->Prop),Q (.bool (g i j)) s->wpAny (model X.prog X.w) X.A (f (.int i t) (.int j u)) Q E s):
 OpR X f (rI0 λi j => .bl (g i j)):=by
  intro pins s σ H x y v u Q I rx ry h;obtain⟨i,j,rfl,rfl,q⟩:=h;obtain⟨t,rfl⟩:=rx;obtain⟨t',rfl⟩:=ry;exact rule i j t t' s _ _ ⟨.bl (g i j),H,I,rfl,q⟩
def zwf:OpR X (Jn .Add) (rI0 λi j => .int (i+j)):=xfp λ_ _ _ _ _ _ _ q=>add_int q
def zyz:OpR X (Jn .Mod) (rI (λ_ j=>0<j) λi j => .int (i%j)):=opI λi j _ _ _ _ _ hc q=>by
 grind[mod_int',Int.fmod_eq_emod_of_nonneg]
def unI{g:Int->Int}(rule:∀(i:Int)(t:Tok)(s:Ql)(Q:Value->Ql->Prop)(E:Value->Ql->Prop),Q (.int (g i) s.toks) { s with toks:=s.toks+1 }->wpAny (model X.prog X.w) X.A (f (.int i t)) Q E s):
  UnR X f (rU λi => .int (g i)):=by
  intro pins s σ H x v Q I rx h;obtain⟨i,rfl,q⟩:=h;obtain⟨t,rfl⟩:=rx;exact rule i t s _ _ ⟨.int (g i),H,I.tok _,⟨_,rfl⟩,q⟩
def zyq:UnR X (unaryOp .USub) (rU λi => .int (-i)):=unI λ_ _ _ _ _ q=>neg_int q
def xar:OpR X (Zs .Lt) (rI0 λi j => .bl (decide (i<j))):=zun λ_ _ _ _ _ _ _ q=>lt_int q
def xat:OpR X (Zs .LtE) (rI0 λi j => .bl (decide (i<=j))):=zun λ_ _ _ _ _ _ _ q=>le_int q
def zzr:OpR X (Zs .Gt) (rI0 λi j => .bl (decide (j<i))):=zun λ_ _ _ _ _ _ _ q=>gt_int q
def zzn:OpR X (Zs .GtE) (rI0 λi j => .bl (decide (j<=i))):=zun λ_ _ _ _ _ _ _ q=>ge_int q
def zds(b:Expr)(h:op≠.In:=by decide)(h2:op≠.NotIn:=by decide):Vd op b=false:=by
 have e1:(op==CmpOp.In)=false:=by grind
 have e2:(op==Qmc)=false:=by grind
 cases b <;> simp[Vd,e1,e2]
def zer(ho:OpR X (Zs op) r)(ha:PE X a ta)(hb:PE X b tb)(hm:Vd op b=false):PE X (.Compare a [op] [b] pos) (tOp r ta tb):=by
 intro pins s σ H Q I h;exact wpAny_Compare1 (zzd ha hb I h λv u s2 x y H2 I2 rx ry q=>ho pins s2 σ H2 x y v u Q I2 rx ry q) hm
def zur(t:TE):TT:=λσ H Q=>t σ H λx H' =>∃k,x = .bl k/\Q k H'
def zsg(ho:OpR X (Zs op) r)(ha:PE X a ta)(hb:PE X b tb)(hm:Vd op b=false):PT X (.Compare a [op] [b] pos) (zur (tOp r ta tb)):=by
 intro pins s σ H Q I h;refine Qhf (thn (ha pins s σ H _ I h) λv s1 ⟨x,H1,I1,r1,q1⟩=>thn (hb pins s1 σ H1 _ I1 q1) λu s2 ⟨y,H2,I2,r2,q2⟩ =>
  thn (ho pins s2 σ H2 x y v u _ I2 r1 r2 q2) λc s3 ⟨z,H3,I3,r3,k,e,q3⟩=>?_) hm
 subst e;cases r3;exact Zy ⟨H3,I3,q3⟩
def zpa(r r':R2)(ta tb tc:TE):TE:=λσ H Q=>ta σ H λx H1=>tb σ H1 λy H2=>r x y H2 λz H3 =>∃k,z = .bl k /\
 (if k=true then tc σ H3 λw' H4=>r' y w' H4 Q else Q (.bl false) H3)
def zno(ho:OpR X (Zs op) r)(ho':OpR X (Zs op') r')(ha:PE X a ta)(hb:PE X b tb)(hc:PE X c tc)(hm:Qkz [op,op'] [b,c]=false:=by with_unfolding_all rfl):PT X (.Compare a [op,op'] [b,c] pos) (zur (zpa r r' ta tb tc)):=by
  intro pins s σ H Q I h;refine isTrue_chain (thn (ha pins s σ H _ I h) λv s1 ⟨x,H1,I1,r1,q1⟩=>test_link (thn (hb pins s1 σ H1 _ I1 q1) λu s2 ⟨y,H2,I2,r2,q2⟩ =>
   thn (ho pins s2 σ H2 x y v u _ I2 r1 r2 q2) λd s3 ⟨z,H3,I3,r3,k,e,q3⟩=>?_)) hm
  subst e;cases r3;refine Zy ?_;cases k with
  |false =>
   obtain⟨k',e',q'⟩:=q3;cases e';exact ite_ff ⟨H3,I3,q'⟩
  |true =>
   refine ite_tt (test_last (thn (hc pins s3 σ H3 _ I3 q3) λw' s4 ⟨z',H4,I4,r4,q4⟩=>thn (ho' pins s4 σ H4 y z' u w' _ I4 r2 r4 q4) λd' s5 xx33=>?_));obtain⟨z2,H5,I5,r5,k2,e2,q5⟩:=xx33;subst e2;cases r5;exact Zy ⟨H5,I5,q5⟩
def qpb:(Qo:Nat)<2^63:=by rw[Yb];decide
def zbs:OpR X (Jn .Add) (λx y H Q =>∃i j,x = .str i/\y = .str j/\i.length+j.length<=Qo/\Q (.str (i++j)) H):=by
 intro pins s σ H x y v u Q I rx ry h;obtain⟨i,j,rfl,rfl,hz,q⟩:=h;obtain⟨t,rfl⟩:=rx;obtain⟨t',rfl⟩:=ry;exact add_str (λt' tk=>⟨.str (i++j),H,I.tok _,⟨_,rfl⟩,q⟩) hz
def qlj(r:Vals [x] us):∃u,us=[u]/\RelV x u:=by
 cases r with
 |cons r1 r2=>cases r2;grind
def zjs(r:Vals [x,y] us):∃u w',us=[u,w']/\RelV x u/\RelV y w':=by
 cases r with
 |cons r1 r2 =>
  cases r2 with
  |cons r3 r4=>cases r4;grind
def znq:CallR X (.builtin "abs") (λxs H Q =>∃i,xs=[.int i]/\Q (.int (if i<0 then -i else i)) H):=by
 intro pins s σ H xs us Q I r h;obtain⟨i,rfl,q⟩:=h;obtain⟨u,rfl,t,rfl⟩:=qlj r;exact call_abs_int λu tk=>⟨.int (if i<0 then -i else i),H,I.tok _,⟨_,rfl⟩,q⟩
end
structure ObjM(h:Heap)(x dx C:Addr)(mA:Str->Option Value):Prop where
 obj:h.get? x=some (Jc C dx)
 ns:h.Ns1 dx mA
 ne:dx≠x
def zgv{h:Heap}(n:h.Ns1 dx mA):∃od,h.get? dx=some od /\ ∀name,Qen name od=some (mA name):=by
 obtain⟨o,es,ep,ho,hd,hk,_,hm⟩:=n;refine⟨o,ho,λname=>?_⟩;have e:=hm name;unfold nsFind findBy at e;rw[<- Array.find?_toList]at e;unfold Qen;rw[hd];dsimp only;split
 ·grind
 ·rename_i q;rw[q]at e;have a:es.toList.any (·.refKey)=false:=by
   rw[List.any_eq_false];intro y hy;obtain⟨z,t,hkey⟩:=hk y (Array.mem_toList_iff.mp hy);simp[Qao.refKey,hkey]
  grind
def ObjM.look(I:ObjM h x dx C mA):∃od,PySem.W.InstAt h x (Jc C dx) C (some od) /\ ∀name,Qen name od=some (mA name) :=
 let ⟨od,ho,hl⟩:=zgv I.ns
 ⟨od,⟨I.obj,rfl,rfl,ho⟩,hl⟩
section
variable{prog:Zk}{w:World}{A:Z1}{E:Value->Ql->Prop}{s:Ql}{K:Qa}{x dx C f:Addr}{mA:Str->Option Value}{name:Str}{v:Value}
def zsm(X:K.In s.heap)(I:ObjM s.heap x dx C mA)(hg:Qdc K C name=true)(hh:Qew K C=true)(ha:Ye K (.ref C) name=some none)(hv:mA name=some v)(hv':Qjt v=true)(h:Q v { s with toks:=s.toks+1 }):
  wpAny (model prog w) A (getAttr (.ref x) name expr) Q E s:=by
  obtain⟨od,J,hl⟩:=I.look;exact PySem.W.get_value X J (Qdt hg).1 (PySem.W.findObj_own hh ha rfl (by rw[hl,hv])) hv' h
def zmc(X:K.In s.heap)(I:ObjM s.heap x dx C mA)(hg:Qdc K C name=true)(hf:Ye K (.ref C) name=some (some (.ref f)))(ht:Qgl K (.ref f)=true)(hv:mA name=none)(h:Q (.ref f,[.ref x]) s):
 wpAny (model prog w) A (Qgz (.ref x) name pl) Q E s:=by
  obtain⟨od,J,hl⟩:=I.look;exact PySem.W.method_fn X J (Qdt hg).1 (Qdt hg).2 hf (beq_iff_eq.mp ht) (by show(Qen name od).map (·.isSome)=some false;grind) h
def zuf(X:K.In s.heap)(I:ObjM s.heap x dx C mA)(hs:Ye K (.ref C) "__setattr__" = some (some (.builtin "object.__setattr__")))(hp:Qis K C=true)(ht:Qgm K C name=some none)(hh:Qew K C=true)(hw:Qjl mA ns)(hsz:ns.length<=Qo)(h:∀h',ObjM h' x dx C (λy=>if y=name then some v else mA y)->Y4 dx s.heap h'->Q () { s with heap:=h',toks:=s.toks+2 }):
  wpAny (model prog w) A (setAttr (.ref x) name v) Q E s:=by
  obtain⟨od,J,hl⟩:=I.look;refine PySem.W.set_plain X J hs (PySem.W.osa_open (s:={ s with toks:=s.toks+1 }) (r:=none) X J hp ht λb=>?_);obtain⟨cd,hc,hd'⟩:=PySem.W.any_some hh;have hx:s.heap.get? x=some ⟨.ref C,some dx,.plain,#[]⟩:=I.obj;refine Qe (Qx (Qe (Qe (wpAny_loadPart hx (Qe (Qmg (s:={ s with toks:=s.toks+1 }) (PySem.W.looks_clsIn X hc) ?_))))));rw[hd'];refine Qx (a:=some dx) (Qe (Qx (Qe ?_)));refine wpAny_nsSet1 (s:={ s with toks:=s.toks+1 }) I.ns λh' hn2 hs2=>?_;obtain⟨oD,esD,epD,hoD,hdD,hcD⟩:=hn2.count (Qjl.cons name v hw);refine Qe (wpAny_lookBehind hoD (by grind[pastItsLine_dict,Qk,Zl]) ?_);exact Qx (h _ ⟨(hs2.2 _ (Y9 I.ne)).trans I.obj,hn2,I.ne⟩ hs2)
def zkk(X:K.In s.heap)(hm:Qgn K C=true)(hi:Ye K (.ref C) "__init__" = some (some (.ref f)))(hf:PySem.W.typeIn K (.ref f)=some (.type "function"))(h:Qca (model prog w) (A.under (.builtin "type.__call__" ⟨.ref C::vs,kw⟩)) (.call (.ref f) ⟨.ref (s.heap.objs.size+1)::vs,kw⟩) (PySem.W.InitBack (s.heap.objs.size+1) R)
 { s with heap:=(s.heap.push Y5).push (Jc C s.heap.objs.size) }):
  Qca (model prog w) A (.call (.ref C) ⟨vs,kw⟩) R s:=by
  obtain⟨hh,g,d,t,os⟩:=s;exact PySem.W.make_core (PySem.W.makes_of X hm) (Qaz X hi) (λself=>PySem.W.bind_fn X self hf) (.inl rfl) h
end
def qnu(f:Str)(v:V):List (Str×V)->List (Str×V)
 |[]=>[(f,v)]
 | (g,x)::r=>if g=f then(g,v)::r else(g,x)::qnu f v r
def qnj(f g:Str)(v:V):∀fs:List (Str×V),(qnu f v fs).lookup g=if g=f then some v else fs.lookup g
 |[]=>by
  show List.lookup g [(f,v)]=_;grind
 | (k,x)::r=>by
  have ih:=qnj f g v r;rw[show qnu f v ((k,x)::r)=(if k=f then(k,v)::r else(k,x)::qnu f v r) from rfl];grind
theorem qna(f:Str)(v:V):∀fs:List (Str×V),f∈(qnu f v fs).map (·.1) /\ ∀g,g∈fs.map (·.1)->g∈(qnu f v fs).map (·.1)
 |[]=>⟨by simp[qnu],λg h=>by simp at h⟩
 | (k,x)::r=>by
  obtain⟨i1,i2⟩:=qna f v r;rw[show qnu f v ((k,x)::r)=(if k=f then(k,v)::r else(k,x)::qnu f v r) from rfl];grind
theorem qnz(f:Str)(v:V):∀fs:List (Str×V),(qnu f v fs).length<=fs.length+1
 |[]=>by simp[qnu]
 | (k,x)::r=>by
  have ih:=qnz f v r;rw[show qnu f v ((k,x)::r)=(if k=f then(k,v)::r else(k,x)::qnu f v r) from rfl];grind
def RelO.some_of(r:RelO (some v) o):∃u,o=some u/\RelV v u:=by
 cases o with
 |none=>exact(show False from r).elim
 |some u=>exact⟨u,rfl,r⟩
def RelO.none_of(r:RelO none o):o=none:=by
 cases o with
 |none=>rfl
 |some u=>exact(show False from r).elim
def zhi(r:RelV v u):Qjt u=true:=by
 cases v with
 |non=>cases(show u=Yn from r);rfl
 |bl b=>cases(show u=Qdp b from r);rfl
 |int i=>obtain⟨t,e⟩:=(show∃t,u=Qkk i t from r);cases e;rfl
 |str x=>obtain⟨t,e⟩:=(show∃t,u=Qdr x t from r);cases e;rfl
 |byt b=>obtain⟨t,e⟩:=(show∃t,u=Qma b t from r);cases e;rfl
 |flt b=>obtain⟨t,e⟩:=(show∃t,u=Qmb b t from r);cases e;rfl
 |ref a=>cases(show u=Zo a from r);rfl
 |ty n=>cases(show u=Qeu n from r);rfl
section
variable{P:Zk}{w:World}{H H':Hp}{h h':Heap}{a C dx:Addr}{fs fs':List (Str×V)}
def qwp(hok:HOk P w H h)(e:H a=some (.ins C dx fs)):∃mA,ObjM h a dx C mA/\(∀f,RelO (fs.lookup f) (mA f))/\Qjl mA (fs.map (·.1))/\fs.length<=1000/\H dx=some (.own a):=by
 obtain⟨d,z,ne,ob,mA,n,r,q⟩:=(show ObjOk P w H h a (.ins C dx fs) from hok a _ e)
 exact⟨mA,⟨ob,n,ne⟩,r,q,z,d⟩
end
structure Cls(K:Qa)(C:Addr):Prop where
 pg:Qdc K C Zf=true
 hd:Qew K C=true
 po:Qis K C=true
 sa:Ye K (.ref C) "__setattr__" = some (some (.builtin "object.__setattr__"))
def Cls.get{K:Qa}(c:Cls K C)(f:Str):Qdc K C f=true:=c.pg
def NoAttr(K:Qa)(C:Addr)(f:Str):Prop:=Ye K (.ref C) f=some none
def NoAttr.taker{K:Qa}(n:NoAttr K C f):Qgm K C f=some none:=by
 unfold Qgm;rw[show Ye K (.ref C) f=some none from n];rfl
structure Meth(K:Qa)(C:Addr)(m:Str)(f:Addr):Prop where
 at_:Ye K (.ref C) m=some (some (.ref f))
 fn:Qgl K (.ref f)=true
 kp:Z4 K (.ref f)=true
section
variable{X:Cx}{pins:List (Addr×Obj)}{σ:St}{H:Hp}{s:Ql}{a C dx:Addr}{fs:List (Str×V)}{f:Str}{v:V}{A:Z1}{E:Value->Ql->Prop}
def zdg(I:Inv X pins σ H s)(e:H a=some (.ins C dx fs))(c:Cls X.K C)(n:NoAttr X.K C f)(l:fs.lookup f=some v)(h:∀u s',Inv X pins σ H s'->RelV v u->Q u s'):wpAny (model X.prog X.w) A (getAttr (.ref a) f b) Q E s:=by
  obtain⟨mA,O,r,_,_,_⟩:=qwp I.hok e;obtain⟨u,hu,ru⟩:=RelO.some_of (v:=v) (o:=mA f) (by grind);exact zsm I.kIn O (c.get f) c.hd n hu (zhi ru) (h u _ (I.tok _) ru)
def zcn(I:Inv X pins σ H s)(e:H a=some (.ins C dx fs))(c:Cls X.K C)(k:Meth X.K C m g)(l:fs.lookup m=none)(h:Q (.ref g,[.ref a]) s):wpAny (model X.prog X.w) A (Qgz (.ref a) m pl) Q E s:=by
  obtain⟨mA,O,r,_,_,_⟩:=qwp I.hok e;have hn:mA m=none:=RelO.none_of (by grind);exact zmc I.kIn O (c.get m) k.at_ k.fn hn h
def zcq(I:Inv X pins σ H s)(e:H a=some (.ins C dx fs))(c:Cls X.K C)(n:NoAttr X.K C f)(hl:fs.length<1000)(ry:RelV y u)(h:∀s',Inv X pins σ (upd H a (.ins C dx (qnu f y fs))) s'->Q () s'):wpAny (model X.prog X.w) A (setAttr (.ref a) f u) Q E s:=by
  obtain⟨mA,O,r,wi,_,ho⟩:=qwp I.hok e;have hz:(fs.map (·.1)).length<=Qo:=by grind[Qj,Yb]
  refine zuf I.kIn O c.sa c.po n.taker c.hd wi hz λh' O' sb=>h _ ?_;have hd:∃o,h'.get? dx=some o:=let ⟨o,_,_,e',_⟩:=O'.ns; ⟨o,e'⟩;refine I.write (x:=a) (e:=dx) (by rw[e];exact Vh) (.inr ho) (λb q hb z=>(sb.2 b hb).trans z) hd ?_;refine⟨by grind[qo],?_,O.ne,O'.obj,_,O'.ns,λg=>?_,λg hg=>?_⟩
  ·grind[qnz]
  ·show RelO ((qnu f y fs).lookup g) (if g=f then some u else mA g);rw[qnj];by_cases q:g=f
   ·rw[if_pos q,if_pos q];exact ry
   grind
  ·by_cases q:g=f
   ·grind[qna]
   ·refine(qna f y fs).2 g (wi g λz=>hg ?_);grind
def Inv.made(I:Inv X pins σ H s):Inv X pins σ (upd (upd H s.heap.objs.size (.own (s.heap.objs.size+1))) (s.heap.objs.size+1) (.ins C s.heap.objs.size []))
 { s with heap:=(s.heap.push Y5).push (Jc C s.heap.objs.size) }:=by
  have e1:(s.heap.push Y5).get? s.heap.objs.size=some Y5:=Qq s.heap rfl;have e2:((s.heap.push Y5).push (Jc C s.heap.objs.size)).get? (s.heap.objs.size+1)=some (Jc C s.heap.objs.size):=by
   have:=Qq (s.heap.push Y5) (o:=Jc C s.heap.objs.size) rfl;grind[Yf]
  have e3:(s.heap.push Y5).Ns s.heap.objs.size (λ_=>none):=⟨Y5,#[],_,e1,rfl,(λe he=>absurd he (by simp)),λ_=>rfl⟩
  have I1:=I.laid (a:=s.heap.objs.size) (o :=.own (s.heap.objs.size+1)) (h':=s.heap.push Y5) (t':=s.toks) (λb u q=>Qf _ q) (Qn _) ⟨_,e1⟩;refine I1.laid (a:=s.heap.objs.size+1) (o :=.ins C s.heap.objs.size []) (t':=s.toks) (λb u q=>Qf _ q) (Qed (Yf _ _)) ?_;have ne:s.heap.objs.size≠s.heap.objs.size+1:=Q3 (Qju _);refine⟨by rw[qo ne,qp],Vb _,ne,e2,λ_=>none,(Heap.Ns1.of_empty e3).at λo q=>Qf _ q,λ_=>Vh,λy hy=>absurd rfl hy⟩
def zue(hb:Z2 e f env (eval e env)=eval e env)(h:wpAny (model prog w) A (eval e env) (λo s₁=>wpAny (model prog w) A (getAttr o f true) Q E s₁) E s):wpAny (model prog w) A (eval (.Attribute e f pos) env) Q E s :=
  Attribute_any_ h (by rw[arm_eval_Attribute,hb])
end
def xcv(K:Qa)(ta:TE)(f:Str):TE:=λσ H Q=>ta σ H λx H1 =>∃a C dx fs v,x = .ref a/\H1 a=some (.ins C dx fs)/\Cls K C/\NoAttr K C f/\fs.lookup f=some v/\Q v H1
def xfr(K:Qa)(ta tv:TE)(f:Str):TS:=λD σ H=>tv σ H λy H1=>ta σ H1 λx H2 =>∃a C dx fs,x = .ref a/\H2 a=some (.ins C dx fs)/\Cls K C/\NoAttr K C f/\fs.length<1000 /\
 D.nx σ (upd H2 a (.ins C dx (qnu f y fs)))
section
variable{X:Cx}{o e value:Expr}{f:Str}{pos pos' tpos:Pos}{ta tv:TE}
def qxp(he:PE X e ta)(hb:Z2 e f X.env (eval e X.env)=eval e X.env):PE X (.Attribute e f pos) (xcv X.K ta f):=by
 intro pins s σ H Q I h;refine zue hb (thn (he pins s σ H _ I h) λu s1 xx38=>?_);obtain⟨x,H1,I1,rx,a,C,dx,fs,v,ex,ea,c,n,l,q⟩:=xx38;subst ex;obtain rfl:u=Zo a:=rx;exact zdg I1 ea c n l λu' s2 I2 ru=>⟨v,H1,I2,ru,q⟩
def zwj(ha:PE X o ta)(hv:PE X value tv)(hs:V8 value (some (.Attribute o f pos')) pos.line X.env=pure false):PS X (.Assign [.Attribute o f pos'] value pos) (xfr X.K ta tv f):=by
 intro pins s σ H D I h;refine plainObj_wpAny_Assign_Attribute (thn (hv pins s σ H _ I h) λu s1 ⟨y,H1,I1,ry,q⟩=>thn (ha pins s1 σ H1 _ I1 q) λov s2 xx39=>?_) hs;obtain⟨x,H2,I2,rx,a,C,dx,fs,ex,ea,c,n,l,q2⟩:=xx39;subst ex;obtain rfl:ov=Zo a:=rx;exact zcq I2 ea c n l ry λs3 I3=>⟨σ,_,I3,q2⟩
end
section
variable{X:Cx}{pins:List (Addr×Obj)}{σ:St}{H:Hp}{s:Ql}{A:Z1}{E:Value->Ql->Prop}{Q:Value->Ql->Prop}{c:Value}{b:Bool}
end
structure Room(k:Nat)(A:Z1):Prop where
 hd:A.handled=none
 dp:A.depth+3*k+5<Qad
 un:A.units+16*k+200<cLine
def Room.mono(r:Room k A)(h:j<=k):Room j A:=⟨r.hd,by have:=r.dp;omega,by have:=r.un;omega⟩
def Room.deeper(r:Room (k+1) A)(env:Env):Room k (A.deeper env) :=
 ⟨r.hd,by have:=r.dp;show A.depth+1+3*k+5<_;omega,by have:=r.un;show A.units+3+16*k+200<_;omega⟩
theorem zcv{A:Z1}:(A.under (.builtin "type.__call__" ⟨.ref C::us,kw⟩)).depth=A.depth+1:=by
 first|rfl|grind
theorem zda{A:Z1}:(A.under (.builtin "type.__call__" ⟨.ref C::us,kw⟩)).units=A.units+1:=by
 first|rfl|grind
def Room.make(r:Room (k+1) A)(C:Addr)(us:List Value)(kw:List (Str×Value)):Room k (A.under (.builtin "type.__call__" ⟨.ref C::us,kw⟩)) :=
 ⟨r.hd,by have:=r.dp;grind[zcv],by have:=r.un;grind[zda]⟩
def Room.depth(r:Room k A):A.depth<Qad:=by have:=r.dp;omega
def Room.units(r:Room k A):A.units+64<cLine:=by have:=r.un;omega
def ztm:TA:=λ_ H Q=>Q [] H
def zcw(ta:TE)(tr:TA):TA:=λσ H Q=>ta σ H λx H1=>tr σ H1 λxs H2=>Q (x::xs) H2
section
variable{X:Cx}{e:Expr}{es:List Expr}{te:TE}{t:TA}{pos:Pos}
def qar:PA X [] ztm:=λ_ _ _ _ H Q I h=>Qex ⟨[],H,I,.nil,h⟩
def qF(ha:PE X e te)(hr:PA X es t)(hs:Qi (e::es) X.env=(false,eval e X.env)::Qi es X.env:=by rfl):PA X (e::es) (zcw te t):=by
 intro pos pins s σ H Q I h;rw[hs];show wpAny _ _ (spliced ((false,eval e X.env)::Z5 pos (Qi es X.env))) _ _ s;refine Qbr (thn (ha pins s σ H _ I h) λu s1 xx42=>?_);obtain⟨x,H1,I1,r1,q1⟩:=xx42;exact thn (hr pos pins s1 σ H1 _ I1 q1) λus s2 xx41=>by obtain⟨xs,H2,I2,r2,q2⟩:=xx41;exact⟨x::xs,H2,I2,.cons r1 r2,q2⟩
def xer(t:TA):TE:=λσ H Q=>t σ H λxs H1=>xs.length<=Qo /\ ∀p,H1 p=none->Q (.ref p) (upd H1 p (.tup xs))
def xck(t:TA):TE:=λσ H Q=>t σ H λxs H1=>xs.length<=Qo /\ ∀p,H1 p=none->Q (.ref p) (upd H1 p (.lst xs))
def zdt{x1}(h:PA X es t):PE X (.Tuple es x1 pos) (xer t):=by
 intro pins s σ H Q I hq;refine wpAny_Tuple_spliced (thn (h pos pins s σ H _ I hq) λus s1 ⟨xs,H1,I1,r,z,q⟩=>⟨by rw[<- r.length];exact z,?_⟩);have hf:H1 s1.heap.objs.size=none:=I1.hok.fresh (Qn _);refine⟨.ref s1.heap.objs.size,upd H1 s1.heap.objs.size (.tup xs),I1.laid (t':=s1.toks) (λb u e=>Qf _ e) (Qn _) ?_,rfl,q _ hf⟩;exact⟨z,us,r,⟨_,Qq _ rfl,rfl,_,rfl⟩⟩
def zoy(h:PA X es t):PE X (.List es pos) (xck t):=by
 intro pins s σ H Q I hq;refine wpAny_List_spliced (thn (h pos pins s σ H _ I hq) λus s1 ⟨xs,H1,I1,r,z,q⟩=>⟨by rw[<- r.length];exact z,?_⟩);have hf:H1 s1.heap.objs.size=none:=I1.hok.fresh (Qn _);refine⟨.ref s1.heap.objs.size,upd H1 s1.heap.objs.size (.lst xs),I1.laid (t':=s1.toks) (λb u e=>Qf _ e) (Qn _) ?_,rfl,q _ hf⟩;exact⟨z,us,0,r,Qq _ rfl⟩
end
abbrev Sp:=List V->Hp->VK->XK->Prop
abbrev CXT:=List Env->Hp->Ql->XK->Value->Ql->Prop
structure Env0(P:Zk)(w:World)(K:Qa)(mg:Str->Option Value)(base:Heap)(A:Z1)(outer:List Env)(s:Ql)(H:Hp):Prop where
 frames:A.frames=some outer
 mod:Mod K mg base
 bs:∀b o,base.get? b=some o->s.heap.get? b=some o/\H b=none
 bsz:base.objs.size<=s.heap.objs.size
 funs:s.heap.FunFrames base outer
 frf:∀b∈frs outer,H b=none
 hok:HOk P w H s.heap
 bare:Qea s.gens
def CE(outer:List Env)(P:Zk)(w:World)(H:Hp)(s:Ql)(Q:VK)(u:Value)(s':Ql):Prop :=
 ∃v H',s'.os=s.os/\Qea s'.gens/\Un (frs outer) [] H H' s.heap s'.heap/\HOk P w H' s'.heap/\RelV v u/\Q v H'
def CR(CX:CXT)(outer:List Env)(P:Zk)(w:World)(H:Hp)(s:Ql)(Q:VK)(E:XK)(r:Result)(s':Ql):Prop :=
 match r with
 |.ok (.ret u)=>CE outer P w H s Q u s'
 |.ok _=>False
 |.error e=>CX outer H s E e s'
structure FnOk(P:Zk)(w:World)(K:Qa)(mg:Str->Option Value)(base:Heap)(CX:CXT)(k:Nat)(f:Addr)(fd:J5)(ps:List Str)(sp:Sp):Prop where
 len:∀vs H Q E,sp vs H Q E->vs.length=ps.length
 run:∀(A:Z1)(outer:List Env)(s:Ql)(H:Hp)(args:Args)(us:List Value)(vs:List V)(Q:VK)(E:XK),Room k A->Env0 P w K mg base A outer s H->Qjj s fd args (ps.zip us)->Vals vs us->sp vs H Q E ->
  Qca (model P w) A (.call (.ref f) args) (CR CX outer P w H s Q E) s
def Env0.make{K:Qa}(e:Env0 P w K mg base A outer s H)(C:Addr)(us:List Value)(kw:List (Str×Value)):
 Env0 P w K mg base (A.under (.builtin "type.__call__" ⟨.ref C::us,kw⟩)) outer s H:=⟨by first|exact e.frames|grind,e.mod,e.bs,e.bsz,e.funs,e.frf,e.hok,e.bare⟩
section
variable{X:Cx}{pins:List (Addr×Obj)}{σ:St}{H:Hp}{s s':Ql}
def Inv.env0(I:Inv X pins σ H s):Env0 X.prog X.w X.K X.mg X.base X.A X.stack s H :=
 ⟨I.ok.frames,I.ok.mod,I.bs,Qk I.ok.bsz I.sz,I.stack,I.stkFree,I.hok,I.bare⟩
def Inv.after(I:Inv X pins σ H s)(h:CE X.stack X.prog X.w H s Q u s'):EP X pins σ Q u s':=by
 obtain⟨v,H',os,bare,un,hok,r,q⟩:=h;obtain⟨hh,g,d,t,os'⟩:=s';obtain rfl:os'=s.os:=os;exact⟨v,H',I.call (h':=hh) (g':=g) (d':=d) (t':=t) (ch:=[]) un hok bare (λb z=>absurd z (by simp)),r,q⟩
end
def qjr(sp:Sp)(dvs:List V)(E:XK)(t:TA):TE:=λσ H Q=>t σ H λvs H1=>sp (vs++dvs) H1 Q E
def xbl(C:Addr)(sp:Sp)(dvs:List V)(E:XK)(t:TA):TE:=λσ H Q=>t σ H λvs H1 =>∀x dx,H1 x=none->H1 dx=none->dx≠x ->
 sp (.ref x::(vs++dvs)) (upd (upd H1 dx (.own x)) x (.ins C dx [])) (λv H2=>v = .non/\Q (.ref x) H2) E
def Binds(K:Qa)(fd:J5)(ps:List Str)(ds:List Value):Prop :=
 ∀(s:Ql)(us:List Value),K.In s.heap->(us++ds).length=ps.length->Qjj s fd ⟨us,[]⟩ (ps.zip (us++ds))
def Binds.all{K:Qa}(h:∀us:List Value,us.length=ps.length->Qhi fd ⟨us,[]⟩=pure (ps.zip us)):Binds K fd ps []:=λs us _ hl=>by
 rw[Yc]at hl ⊢;exact .of_eq (h us hl)
def qtm(CX:CXT)(X:Cx)(E:XK):Prop :=∀(pins:List (Addr×Obj))(σ:St)(H:Hp)(s:Ql)(e:Value)(s':Ql),Inv X pins σ H s->CX X.stack H s E e s'->X.xe e s'
section
variable{X:Cx}{CX:CXT}{k:Nat}{f C:Addr}{fd:J5}{ps:List Str}{sp:Sp}{dvs:List V}{ds:List Value}{E:XK}{x m:Str}{p pos apos:Pos}{e o:Expr}{es:List Expr}{ta:TE}{t:TA}
def zyr{σ:St}(F:FnOk X.prog X.w X.K X.mg X.base CX k f fd ps sp)(hr:Room k X.A)(hb:Binds X.K fd ps ds)(hd:Vals dvs ds)(hx:qtm CX X E)(I:Inv X pins σ H s)(r:Vals vs us)(h:sp (vs++dvs) H Q E):wpAny (model X.prog X.w) X.A (call (.ref f) us) (EP X pins σ Q) X.xe s:=by
  have r2:Vals (vs++dvs) (us++ds):=r.append hd;have hl:(us++ds).length=ps.length:=by rw[<- r2.length];exact F.len _ _ _ _ h
  refine Qjk (Qcy (F.run X.A X.stack s H ⟨us,[]⟩ (us++ds) (vs++dvs) Q E hr I.env0 (hb s us I.kIn hl) r2 h) λr s' hq=>?_);cases r with
  |error e=>exact hx pins σ H s e s' I hq
  |ok fl =>
   cases fl with
   |ret u=>exact I.after hq
   |next=>exact Q7 hq
   |brk=>exact Q7 hq
   |cont=>exact Q7 hq
structure Mk(K:Qa)(C f:Addr):Prop where
 makes:Qgn K C=true
 init:Ye K (.ref C) "__init__" = some (some (.ref f))
 fn:Qgl K (.ref f)=true
 kp:Z4 K (.ref C)=true
def zmd{σ:St}(M:Mk X.K C f)(F:FnOk X.prog X.w X.K X.mg X.base CX k f fd ps sp)(hr:Room (k+1) X.A)(hb:Binds X.K fd ps ds)(hd:Vals dvs ds)(hx:qtm CX X E)(I:Inv X pins σ H s)(r:Vals vs us)(h:∀x dx,H x=none->H dx=none->dx≠x->sp (.ref x::(vs++dvs)) (upd (upd H dx (.own x)) x (.ins C dx [])) (λv H2=>v = .non/\Q (.ref x) H2) E):
 wpAny (model X.prog X.w) X.A (call (.ref C) us) (EP X pins σ Q) X.xe s:=by
  have hq:=h (s.heap.objs.size+1) s.heap.objs.size (I.hok.fresh (Qkm _)) (I.hok.fresh (Qn _)) (Q3 (Qju _));have I2:=Inv.made (C:=C) I;have r2:Vals (V.ref (s.heap.objs.size+1)::(vs++dvs)) (Zo (s.heap.objs.size+1)::(us++ds)) :=.cons rfl (r.append hd);have hl:(Zo (s.heap.objs.size+1)::us++ds).length=ps.length:=by
   have e:=r2.length;rw[F.len _ _ _ _ hq]at e;exact e.symm
  refine Qjk (zkk (f:=f) I.kIn M.makes M.init (beq_iff_eq.mp M.fn) (Qcy (F.run _ X.stack _ _ ⟨Zo (s.heap.objs.size+1)::us,[]⟩ (Zo (s.heap.objs.size+1)::(us++ds)) _ _ E (hr.make C us [])
   (I2.env0.make C us []) (hb _ (Zo (s.heap.objs.size+1)::us) I2.kIn hl) r2 hq) λr s' hq'=>?_))
  cases r with
  |error e=>exact hx pins σ _ _ e s' I2 hq'
  |ok fl =>
   cases fl with
   |ret u =>
    obtain⟨v,H',I3,rv,ev,q3⟩:=I2.after hq';subst ev;exact⟨rv,⟨V.ref (s.heap.objs.size+1),H',I3,rfl,q3⟩⟩
   |next=>exact Q7 hq'
   |brk=>exact Q7 hq'
   |cont=>exact Q7 hq'
def zkt(M:Mk X.K C f)(F:FnOk X.prog X.w X.K X.mg X.base CX k f fd ps sp)(hr:Room (k+1) X.A)(hg:Gl X x)(hm:X.mg x=some (.ref C))(hb:Binds X.K fd ps ds)(hd:Vals dvs ds)(hx:qtm CX X E)(hdb:Nd0 x:=by decide):PE X (.Call (.Name x p) [] [] pos) (xbl C sp dvs E ztm):=by
  intro pins s σ H Q I h;refine V5 (qdt I hg hm ?_ hdb);exact PySem.W.callWith_K0 I.kIn M.kp (zmd (us:=[]) M F hr hb hd hx I .nil h)
end
section
variable{X:Cx}{CX:CXT}{k:Nat}{f C:Addr}{fd:J5}{ps ks:List Str}{sp:Sp}{E:XK}{x m:Str}{p pos apos kpos:Pos}{e o:Expr}{es:List Expr}{kws:List Jj}{te ta:TE}{t tk:TA}{nm:Option Str}
variable{g:List Value->List Value->List Value}{gV:List V->List V->List V}
end
structure FnScope(N P:List Str)(sc:Scope):Prop where
 kind:sc.kind = .function
 co:sc.isCoroutine=false
 gen:sc.isGenerator=false
 nd:N.Nodup
 pre:N.take P.length=P
 par:∀x∈P,sc.names.lookup x=some .local\/sc.names.lookup x=some .cell
 nofree:∀y∈sc.names,y.2≠.free
def qul{Qfj:Str->Option Qbe}:∀{binds:List (Str×Value)}{m:Str->Option Value},(∀v,(x,v)∉binds)->bindL Qfj binds m x=m x
 |[],_,_=>rfl
 | (n,v)::r,m,h=>by
  unfold bindL;rw[qul λw hw=>h w (Qt _ hw)];split
  ·grind
  ·rfl
def qvk{Qfj:Str->Option Qbe}:∀{binds:List (Str×Value)}{m:Str->Option Value},(∀v,(x,v)∉binds)->bindC Qfj binds m x=m x
 |[],_,_=>rfl
 | (n,v)::r,m,h=>by
  unfold bindC;rw[qvk λw hw=>h w (Qt _ hw)];split
  ·rfl
  grind
def quq{Qfj:Str->Option Qbe}:∀{P:List Str}{vs:List Value}{i:Nat}{m:Str->Option Value},P.Nodup->P[i]?=some x->vs[i]?=some v->Qfj x=some .local ->
 bindL Qfj (P.zip vs) m x=some v
  |[],_,_,_,_,h,_,_=>by simp at h
  |_::_,[],_,_,_,_,h,_=>by simp at h
  |p::P,w::vs,0,m,nd,h1,h2,hk=>by
   simp at h1 h2;subst h1;subst h2;show bindL Qfj ((p,w)::P.zip vs) m p=_;unfold bindL;rw[qul λv hv=>(Qbs.mp nd).1 (Qgo hv).1,if_pos hk];simp
  |p::P,w::vs,i+1,m,nd,h1,h2,hk=>by
   show bindL Qfj ((p,w)::P.zip vs) m x=_;unfold bindL;exact quq (i:=i) (Qbs.mp nd).2 (by grind) (by grind) hk
def qur{Qfj:Str->Option Qbe}:∀{P:List Str}{vs:List Value}{i:Nat}{m:Str->Option Value},P.Nodup->P[i]?=some x->vs[i]?=some v->Qfj x≠some .local ->
 bindC Qfj (P.zip vs) m x=some v
  |[],_,_,_,_,h,_,_=>by simp at h
  |_::_,[],_,_,_,_,h,_=>by simp at h
  |p::P,w::vs,0,m,nd,h1,h2,hk=>by
   simp at h1 h2;subst h1;subst h2;show bindC Qfj ((p,w)::P.zip vs) m p=_;unfold bindC;rw[qvk λv hv=>(Qbs.mp nd).1 (Qgo hv).1,if_neg hk];simp
  |p::P,w::vs,i+1,m,nd,h1,h2,hk=>by
   show bindC Qfj ((p,w)::P.zip vs) m x=_;unfold bindC;exact qur (i:=i) (Qbs.mp nd).2 (by grind) (by grind) hk
def start(N:List Str)(vs:List V):St:=vs.map some++Qab (N.length-vs.length) none
def qbv(CX:CXT)(P:Zk)(w:World)(K:Qa)(mg:Str->Option Value)(base:Heap)(N:List Str)(qual:Str)(scope:Scope)(f:Addr)(cd:Value)(A:Z1)(outer:List Env)(s:Ql)(H:Hp)(E:XK):Cx where
 prog:=P
 w:=w
 K:=K
 mg:=mg
 base:=base
 A:=A.deeper (Qbo qual scope s.heap.objs.size f cd)
 N:=N
 s₀:=s
 H₀:=H
 env:=Qbo qual scope s.heap.objs.size f cd
 outer:=outer
 stack:=Qbo qual scope s.heap.objs.size f cd::outer
 ex:=[]
 calm:=true
 fn:=λ_=>true
 pn:=[]
 xe:=λe s'=>wpAny (model P w) (A.deeper (Qbo qual scope s.heap.objs.size f cd)) (leaving (Qbo qual scope s.heap.objs.size f cd) e) (λ_ s''=>CX outer H s E e s'') (λe' s''=>CX outer H s E e' s'') s'
def zak{sc:Scope}(h:sc.names.lookup x=some .cell):∃c,(V7 n sc.names []).lookup x=some c:=by
 have q:=Qcj sc.names n [] (.inl h);exact Jt.mp q
def zhn{K:Qa}(S:FnScope N ps scope)(hd:A.handled=none)(e0:Env0 P w K mg base A outer s H)(hl:vs.length=ps.length)(r:Vals vs us)(x:InCallC s s.heap.objs.size (bindL (Qbo qual scope s.heap.objs.size f cd).kindOf (ps.zip us) λ_=>none) (V7 (s.heap.objs.size+1) scope.names []) (bindC (Qbo qual scope s.heap.objs.size f cd).kindOf (ps.zip us) λ_=>none) s1):
 Inv (qbv CX P w K mg base N qual scope f cd A outer s H E) [] (start N vs) H s1:=by
  have hpl:ps.length<=N.length:=by have:=congrArg Jz S.pre;grind
  obtain⟨h1,tk,rfl,hk⟩:=x.done;have noA:∀b:Addr,b∉(qbv CX P w K mg base N qual scope f cd A outer s H E).ex:=λb z=>absurd (show b∈([]:List Addr) from z) (by simp);refine⟨⟨e0.mod,S.kind,rfl,rfl,Qn _,λy z c h1 h2=>?_,λy hy=>?_,λy c _ h=>?_,λ_=>hd,Qhk e0.frames,.inr ⟨rfl,rfl⟩,λb z=>absurd z (noA b),e0.bs,e0.bsz,λb _ _=>noA b,λb z=>absurd z (noA b),e0.funs,e0.frf⟩,
   rfl,e0.bare,Un.kept hk,⟨_,x.toInCall.ns,λi y v h1 h2 h3=>?_⟩,λy c h=>⟨_,x.cell y c h⟩,e0.hok.fresh (Qn _),λy c h=>?_,λp hp=>absurd (show p∈([]:List (Addr×Obj)) from hp) (by simp),e0.hok.kept hk,?_⟩
  ·exact name_of_addr x.apart (Vo h1) (Vo h2)
  ·have hy:scope.names.lookup y=some .cell\/scope.names.lookup y=some .free:=hy;rcases hy with hy|hy
   ·exact zak hy
   ·exact absurd rfl (S.nofree _ (Vo hy))
  ·exact Vy (x.above y c (Vo h))
  ·have hi:i<vs.length:=by
    unfold start at h2;grind
   have ha:vs[i]?=some v:=by
    unfold start at h2;grind
   obtain⟨u,hu,rv⟩:=r.get ha;have hp:ps[i]?=some y:=by
    rw[<- S.pre,Qey (by omega)];exact h1
   have ndP:ps.Nodup:=by rw[<- S.pre];exact S.nd.sublist (List.take_sublist _ _)
   refine⟨u,rv,?_⟩;rcases S.par y (Qz hp)with k|k
   ·exact .inl ⟨k,quq ndP hp hu k⟩
   ·obtain⟨c,e⟩:=zak (n:=s.heap.objs.size+1) k;refine .inr ⟨.inl k,c,e,?_⟩;have q:=x.cell y c e;rw[qur ndP hp hu (by show scope.names.lookup y≠_;rw[k];decide)]at q;exact q
  ·exact e0.hok.fresh (Vy (x.above y c (Vo h)))
  ·unfold start;show _=N.length;rw[Yu,Qj,List.length_replicate];omega
def qyh{K:Qa}{dV kV doc pm cdv ct oc:Value}(lk:K.lookup f=some ⟨oc,od,.func (Vx name qual params body scope dV kV doc pm an cdv ct),osl⟩)(hcd:Qcs K cdv qual=true)(S:FnScope N ps scope)(len:∀vs H Q E,sp vs H Q E->vs.length=ps.length)(hbody:∀(A:Z1)(outer:List Env)(s:Ql)(H:Hp)(vs:List V)(Q:VK)(E:XK),Room k (A.deeper (Qbo qual scope s.heap.objs.size f cdv))->sp vs H Q E ->
 ∃t,PSs (qbv CX P w K mg base N qual scope f cdv A outer s H E) body t/\t { nx:=λ_ H'=>Q .non H',rt:=Q } (start N vs) H):
  FnOk P w K mg base CX (k+1) f (Vx name qual params body scope dV kV doc pm an cdv ct) ps sp:=by
  refine⟨len,λA outer s H args us vs Q E hr e0 hb r hsp=>?_⟩;have hl:=len _ _ _ _ hsp;have KX:K.In s.heap:=e0.mod.kin.keeps λb o e=>(e0.bs b o e).1;have lim:s.heap.NoLimit:=e0.mod.nolimit.keeps λb o e=>(e0.bs b o e).1;have hkind:∀y∈ps.zip us,scope.names.lookup y.1=some .local\/(scope.names.lookup y.1=some .cell/\((V7 (s.heap.objs.size+1) scope.names []).lookup y.1).isSome=true):=λxx45 hy=>by
   obtain⟨n,v⟩:=xx45;rcases S.par n (Qgo hy).1 with q|q
   ·exact .inl q
   ·exact .inr ⟨q,Qcj _ _ _ (.inl q)⟩
  refine codeAny_call_function hr.depth (KX _ _ lk) rfl S.co S.gen rfl (PySem.W.codeRec_of KX hcd) (hb _ _ _ _ ?_);refine wpAny_newFunctionEnv_cells S.kind hkind λenv he s1 x=>?_;subst he;refine⟨lim.keeps x.toInCall.keep,codeAny_func ?_⟩;obtain⟨t,ht,hq⟩:=hbody A outer s H vs Q E (hr.deeper _) hsp;have I:Inv (qbv CX P w K mg base N qual scope f cdv A outer s H E) [] (start N vs) H s1:=zhn S hr.hd e0 hl r x;refine Zu (ht [] s1 (start N vs) H _ I hq) (λfl s' hs=>?_) λe s' hs=>hs;have fin:∀{σ':St}{H':Hp}{v:V}{u:Value},Inv (qbv CX P w K mg base N qual scope f cdv A outer s H E) [] σ' H' s'->RelV v u->Q v H'->CE outer P w H s Q u s' :=
   λ{σ' H' v u} J rv q=>⟨v,H',J.os,J.bare,J.base,J.hok,rv,q⟩
  cases fl with
  |ret u =>
   obtain⟨v,σ',H',J,rv,q⟩:=hs;exact fin J rv q
  |next =>
   obtain⟨σ',H',J,q⟩:=hs;exact fin (v:=V.non) (u:=Yn) J rfl q
  |brk =>
   obtain⟨_,_,_,q⟩:=hs;exact Q7 q
  |cont =>
   obtain⟨_,_,_,q⟩:=hs;exact Q7 q
section
variable{X:Cx}{x:Str}{p pos:Pos}{e:Expr}{es:List Expr}{t:TA}{id T:String}{r:List V->Hp->VK->Prop}
def tCB(r:List V->Hp->VK->Prop)(t:TA):TE:=λσ H Q=>t σ H λvs H1=>r vs H1 Q
def qfd(hc:CallR X (.builtin id) r)(hg:Gl X x)(hm:X.mg x=none)(hv:Zj x=some (.builtin id))(ha:PA X (e::es) t)(hn:x ≠ "__name__":=by decide)(hdb:Nd0 x:=by decide)(he:Qi (e::es) X.env=(false,eval e X.env)::Qi es X.env:=by rfl)(hpl:(Z5 pos (Qi es X.env)).any (·.1)=false:=by rfl):PE X (.Call (.Name x p) (e::es) [] pos) (tCB r t):=by
 intro pins s σ H Q I h;refine V5 (qli I hg hm hv ?_ hn hdb);exact PyProof.Rows.callWith_builtin1 (thn (ha pos pins s σ H _ I h) λus s1 xx46=>by obtain⟨vs,H1,I1,r1,q1⟩:=xx46;exact hc pins s1 σ H1 vs us Q I1 r1 q1) he hpl
def qih(hc:CallR X (.type T) r)(hg:Gl X x)(hm:X.mg x=none)(hv:Zj x=some (.type T))(ha:PA X (e::es) t)(hn:x ≠ "__name__":=by decide)(hdb:Nd0 x:=by decide)(he:Qi (e::es) X.env=(false,eval e X.env)::Qi es X.env:=by rfl)(hpl:(Z5 pos (Qi es X.env)).any (·.1)=false:=by rfl):PE X (.Call (.Name x p) (e::es) [] pos) (tCB r t):=by
 intro pins s σ H Q I h;refine V5 (qli I hg hm hv ?_ hn hdb);exact Jd (thn (ha pos pins s σ H _ I h) λus s1 xx47=>by obtain⟨vs,H1,I1,r1,q1⟩:=xx47;exact hc pins s1 σ H1 vs us Q I1 r1 q1) he hpl
end
end L2
namespace HT
open PySem PyProof.Rows
section
open PySem.SeqAt
open PySem.AutoSeq1 (wpAny_loadPart')
open PySem.MeetsSeq PySem.MeetsSeq2 PySem.MeetsSeq3
end
section
variable{prog:Zk}{w:World}{A:Z1}{E:Value->Ql->Prop}{s:Ql}
def cat_tup(ht:IsTup s.heap t vs.toArray)(hb:IsTup s.heap b ws.toArray)(hv:vs≠[])(h1:ws=[]->Q (.ref t) s)(h2:ws≠[]->Q (.ref s.heap.objs.size) { s with heap:=s.heap.push { cls :=.type "tuple",data :=.seq (vs++ws).toArray } })(hsz:vs.length+ws.length<=Qo):wpAny (model prog w) A (Jn .Add (.ref t) (.ref b)) Q E s:=by
  obtain⟨⟨cls,dd,data,sl⟩,ho,hc,n,hd⟩:=id ht;obtain⟨⟨cls2,dd2,data2,sl2⟩,ho2,hc2,n2,hd2⟩:=id hb;simp only at hc hd hc2 hd2;subst hc hd hc2 hd2;have e:vs.toArray++ws.toArray=(vs++ws).toArray:=by simp
  by_cases hw:ws=[]
  ·exact Qjr ⟨_,ho,rfl⟩ ⟨_,ho2,rfl⟩ noFill_tuple_add seq_tuple_add Qge Qfo (Qez _ _)
    (tuple_addW1 t b vs.toArray ws.toArray n n2 dd dd2 sl sl2 (by grind) (by simp[hw])) ⟨ho,ho2,h1 hw⟩
  ·refine Qjr ⟨_,ho,rfl⟩ ⟨_,ho2,rfl⟩ noFill_tuple_add seq_tuple_add Qge Qfo (Qez _ _)
    (tuple_addW2 t b vs.toArray ws.toArray n n2 dd dd2 sl sl2 (by grind) (by grind) (by grind)) ⟨ho,ho2,?_⟩
   grind
def sIx(n d:Nat):Option Int->Nat
 |none=>d
 |some v=>if v<0 then(v+(n:Int)).toNat else min v.toNat n
def sIx_none(n d:Nat):sIx n d none=d:=rfl
end
end HT
namespace L2
open PySem PySem.Spec PyProof.Rows
abbrev TO:=St->Hp->(Option Int->Hp->Prop)->Prop
def PO(X:Cx)(e:Option Expr)(t:TO):Prop :=
 ∀(pins:List (Addr×Obj))(s:Ql)(σ:St)(H:Hp)(Q:Option Int->Hp->Prop),Inv X pins σ H s->t σ H Q ->
  wpAny (model X.prog X.w) X.A (evalPart e X.env) (λu s' =>∃o H',Inv X pins σ H' s'/\IsPart u o/\Q o H') X.xe s
def zqs:TO:=λ_ H Q=>Q none H
def xaj(t:TE):TO:=λσ H Q=>t σ H λx H1 =>∃i,x = .int i/\Q (some i) H1
def zdc:∀{us:List Value},Vals (ns.map V.int) us->Qgv us ns:=by
 induction ns with
 |nil=>intro us r;rw[Qbl]at r;cases r;exact .nil
 |cons n ns ih =>
  intro us r;rw[Qr]at r;cases r with
  |cons r1 r2 =>
   obtain⟨t,e⟩:=r1;subst e;exact .cons n t (ih r2)
section
variable{X:Cx}{e:Expr}{te:TE}{lo hi:Option Expr}{tl th:TO}{pos p2:Pos}
def ztb:PO X none zqs:=by
 intro pins s σ H Q I h;rw[evalPart_none];exact Qx ⟨none,H,I,.none,h⟩
def zsp(h:PE X e te):PO X (some e) (xaj te):=by
 intro pins s σ H Q I hw;rw[evalPart_some];refine thn (h pins s σ H _ I hw) λu s1 xx48=>?_;obtain⟨x,H1,I1,r1,q1⟩:=xx48;obtain⟨i,rfl,q⟩:=q1;obtain⟨t,rfl⟩:=r1;exact⟨some i,H1,I1,.int i t,q⟩
def SlR(X:Cx)(r:V->Option Int->Option Int->Hp->VK->Prop):Prop :=
 ∀(pins:List (Addr×Obj))(s:Ql)(σ:St)(H:Hp)(x:V)(v vl vu:Value)(lo hi:Option Int)(sl:Addr)(Q:VK),Inv X pins σ H s->RelV x v->s.heap.IsSliceOf sl vl vu .none->IsPart vl lo->IsPart vu hi->r x lo hi H Q ->
  ∃T id,typeLookup (.type T) "__getitem__" = pure (some (.builtin id))/\s.TypeIs v T/\wpAny (model X.prog X.w) X.A (Qky v (.ref sl)) (EP X pins σ Q) X.xe s
def tSl(r:V->Option Int->Option Int->Hp->VK->Prop)(te:TE)(tl th:TO):TE:=λσ H Q=>te σ H λx H1=>tl σ H1 λl H2=>th σ H2 λu H3=>r x l u H3 Q
def qzo(hr:SlR X r)(he:PE X e te)(hl:PO X lo tl)(hu:PO X hi th):PE X (.Subscript e (.Slice lo hi none p2) pos) (tSl r te tl th):=by
 intro pins s σ H Q I h;refine Subscript_ (thn (he pins s σ H _ I h) λv s1 xx51=>?_);obtain⟨x,H1,I1,r1,q1⟩:=xx51;refine wpAny_Slice (thn (hl pins s1 σ H1 _ I1 q1) λvl s2 ⟨l,H2,I2,pl,q2⟩=>thn (hu pins s2 σ H2 _ I2 q2) λvu s3 xx49=>?_);obtain⟨u,H3,I3,pu,q3⟩:=xx49;rw[evalPart_none];refine Qx ?_;have I4:Inv X pins σ H3 { s3 with heap:=s3.heap.push { cls :=.type "slice",data :=.fields #[vl,vu,.none] } }:=I3.kept (t':=s3.toks) λb ob q=>Qf _ q;obtain⟨T,id,hT,ht,hg⟩:=hr pins { s3 with heap:=s3.heap.push { cls :=.type "slice",data :=.fields #[vl,vu,.none] } } σ H3 x v vl vu l u s3.heap.objs.size Q I4 r1 (Qmh ..) pl pu q3;show wpAny (model X.prog X.w) X.A (Qip e (.Slice lo hi none p2) v (.ref s3.heap.objs.size)) (EP X pins σ Q) X.xe { s3 with heap:=s3.heap.push { cls :=.type "slice",data :=.fields #[vl,vu,.none] } };exact tail_any (ops:=[.ref s3.heap.objs.size,v]) ht hT hg (by with_unfolding_all rfl)
def zet(xs:List V)(lo hi:Option Int):List V:=(xs.drop (HT.sIx xs.length 0 lo)).take (HT.sIx xs.length xs.length hi-HT.sIx xs.length 0 lo)
def qyx(xs:List V)(lo hi:Option Int):(zet xs lo hi).length<=xs.length:=by
 unfold zet;grind
def xav(K:Qa):R2:=λx y H Q =>∃a b xs ys,x = .ref a/\y = .ref b/\SqT K H a xs/\SqT K H b ys/\xs≠[]/\xs.length+ys.length<=Qo /\
 (ys=[]->Q (.ref a) H)/\(ys≠[] ->∀p,H p=none->Q (.ref p) (upd H p (.tup (xs++ys))))
def Vals.nil_iff(r:Vals xs us):us=[]↔xs=[]:=by
 cases r with
 |nil=>simp
 |cons _ _=>simp
def ztv:OpR X (Jn .Add) (xav X.K):=by
 intro pins s σ H x y v u Q I rx ry h;obtain⟨a,b,xs,ys,rfl,rfl,ha,hb,hx,hz,q1,q2⟩:=h;cases rx;cases ry;obtain⟨its,r1,p1,_⟩:=I.tuple ha;obtain⟨its2,r2,p2,_⟩:=I.tuple hb;refine HT.cat_tup p1 p2 (λz=>hx (r1.nil_iff.mp z)) (λz=>⟨.ref a,H,I,rfl,q1 (r2.nil_iff.mp z)⟩) (λz=>?_) (by rw[<- r1.length,<- r2.length];exact hz);refine⟨.ref s.heap.objs.size,_,I.laid (t':=s.toks) (o :=.tup (xs++ys)) (λb ob q=>Qf _ q) (Qn _) ?_,rfl,q2 (λw=>z (r2.nil_iff.mpr w)) _ (I.hok.fresh (Qn _))⟩;exact⟨by grind,_,r1.append r2,Qkn _ _⟩
end
def ixN(n:Nat)(i:Int):Option Nat:=if 0<=i then(if i<n then some i.toNat else none)else if -(n:Int)<=i then some (i+n).toNat else none
def atI{α:Type}(xs:List α)(i:Int):Option α:=(ixN xs.length i).bind λj=>xs[j]?
theorem zfy(h:ixN n i=some j):seqIndex? i n=some j/\j<n /\ -(n:Int)<=i/\i<n:=by
 unfold ixN at h;by_cases h0:0<=i
 ·rw[if_pos h0]at h;by_cases h1:i<n
  ·rw[if_pos h1]at h;grind[Za,Qlc]
  grind
 ·rw[if_neg h0]at h;by_cases h1 : -(n:Int)<=i
  ·rw[if_pos h1]at h;grind[Za,Qjs]
  grind
def qwh{v:α}(h:atI xs i=some v):∃j,seqIndex? i xs.length=some j/\xs[j]?=some v/\j<xs.length /\ -(xs.length:Int)<=i/\i<xs.length:=by
 unfold atI at h;cases e:ixN xs.length i with
 |none=>grind
 |some j =>
  grind[zfy]
theorem qK{j:Nat}{v:α}(h:xs[j]?=some v):atI xs (j:Int)=some v:=by
 have hj:j<xs.length:=(Q6.mp h).1;have e:ixN xs.length (j:Int)=some j:=by
  unfold ixN;grind
 unfold atI;grind
def atI_last(xs:List α)(v:α):atI (xs++[v]) (-1)=some v:=by
 have hl:(xs++[v]).length=xs.length+1:=by simp
 have e:ixN (xs++[v]).length (-1)=some xs.length:=by
  unfold ixN;grind
 unfold atI;grind
def qqx(b:Expr):Prop :=∀o i,Qia b false o i=operate [o,i] (Qky o i)
def IxR(X:Cx)(r:R2):Prop :=
 ∀(value slice:Expr)(pins:List (Addr×Obj))(s:Ql)(σ:St)(H:Hp)(x y:V)(v u:Value)(Q:VK),Inv X pins σ H s->RelV x v->RelV y u->r x y H Q ->
  Qia slice false v u=operate [v,u] (Qky v u)->wpAny (model X.prog X.w) X.A (Qip value slice v u) (EP X pins σ Q) X.xe s
def MtR(X:Cx)(id:String)(r:V->List V->Hp->VK->Prop):Prop :=
 ∀(pins:List (Addr×Obj))(s:Ql)(σ:St)(H:Hp)(x:V)(xs:List V)(v:Value)(us:List Value)(Q:VK),Inv X pins σ H s->RelV x v->Vals xs us->r x xs H Q ->
  wpAny (model X.prog X.w) X.A (call (.builtin id) (v::us)) (EP X pins σ Q) X.xe s
section
variable{X:Cx}{a b:Expr}{ta tb:TE}{pos:Pos}
def IxR.or(h:IxR X r)(h':IxR X r'):IxR X (λx y H Q=>r x y H Q\/r' x y H Q):=by
 intro value slice pins s σ H x y v u Q I rx ry q hs;rcases q with q|q
 ·exact h value slice pins s σ H x y v u Q I rx ry q hs
 ·exact h' value slice pins s σ H x y v u Q I rx ry q hs
def zpt(hr:IxR X r)(ha:PE X a ta)(hb:PE X b tb)(hs:qqx b):PE X (.Subscript a b pos) (tOp r ta tb):=by
 intro pins s σ H Q I h;exact Subscript_ (zzd ha hb I h λv u s2 x y H2 I2 rx ry q=>hr a b pins s2 σ H2 x y v u Q I2 rx ry q (hs _ _))
def xcr(K:Qa):R2:=λx y H Q =>∃p xs i v,x = .ref p/\y = .int i/\SqL K H p xs/\atI xs i=some v/\Q v H
def xdc(K:Qa):R2:=λx y H Q =>∃p xs i v,x = .ref p/\y = .int i/\SqT K H p xs/\atI xs i=some v/\Q v H
def xce:R2:=λx y H Q =>∃z i c,x = .str z/\y = .int i/\z.length<=Qo/\atI z.cps.toList i=some c/\Q (.str ⟨#[c]⟩) H
def zrx:IxR X (xcr X.K):=by
 intro value slice pins s σ H x y v u Q I rx ry h hs;obtain⟨p,xs,i,z,rfl,rfl,hq,he,q⟩:=h;cases rx;obtain⟨t,rfl⟩:=ry;obtain⟨its,r,pl,hz⟩:=I.list hq;obtain⟨j,h1,h2,h3,h4,h5⟩:=qwh he;obtain⟨w,ew,rw'⟩:=r.get h2;have hl:=r.length;have hn:=qpb;have fin:EP X pins σ Q w s:=⟨z,H,I,rw',q⟩
 by_cases h0:0<=i
 ·have hj:i.toNat=j:=by
   grind[Qlc,Za]
  exact item_listR pl.isList h0 (by omega) (by grind) fin hs
 ·have hj:(i+(its.toArray.size:Int)).toNat=j:=by
   grind[Qjs,Zq,Za]
  exact Qgk (x:=w) pl.isList.typeIs slot_list_getitem.lookup
   (wpAny_getItem_list_neg (Q:=λr s'=>r=w/\EP X pins σ Q r s') pl.isList (by omega) (by grind) (by omega) (by grind) ⟨rfl,fin⟩) hs
def zxh:IxR X (xdc X.K):=by
 intro value slice pins s σ H x y v u Q I rx ry h hs;obtain⟨p,xs,i,z,rfl,rfl,hq,he,q⟩:=h;cases rx;obtain⟨t,rfl⟩:=ry;obtain⟨its,r,pl,hz⟩:=I.tuple hq;obtain⟨j,h1,h2,h3,h4,h5⟩:=qwh he;obtain⟨w,ew,rw'⟩:=r.get h2;have hl:=r.length;have hn:=qpb;have fin:EP X pins σ Q w s:=⟨z,H,I,rw',q⟩
 exact Qgk (x:=w) pl.typeIs slot_tuple_getitem.lookup
  (getItem_tuple (j:=j) (Q:=λr s'=>r=w/\EP X pins σ Q r s') pl (by omega) (by omega) (by grind) (by grind) ⟨rfl,fin⟩) hs
def zox:IxR X xce:=by
 intro value slice pins s σ H x y v u Q I rx ry h hs;obtain⟨z,i,c,rfl,rfl,hz,he,q⟩:=h;obtain⟨t,rfl⟩:=rx;obtain⟨t',rfl⟩:=ry;obtain⟨j,h1,h2,h3,h4,h5⟩:=qwh he;have hl:z.cps.toList.length=z.length:=by simp[Str.length]
 rw[hl]at h1 h4 h5;have hn:=qpb;exact tail_any (Qau s z t) slot_str_getitem.lookup (getItem_str (c:=c) (by
  grind) (by grind) ⟨.str ⟨#[c]⟩,H,I.tok _,⟨_,rfl⟩,q⟩) hs
def rIx(K:Qa):R2:=λx y H Q=>xcr K x y H Q\/xdc K x y H Q\/xce x y H Q
def zvz:IxR X (rIx X.K):=zrx.or (zxh.or zox)
def zdf(its:List Value)(n j:Nat)(u:Value):Yo (·.setIfInBounds j u) { cls :=.type "list",data :=.seq its.toArray n }={ cls :=.type "list",data :=.seq (its.set j u).toArray n }:=by
 simp[Yo]
def Inv.lst{σ:St}(I:Inv X pins σ H s)(h:H p=some (.lst xs)):
 ∃(its:List Value)(n:Nat),Vals xs its/\s.heap.get? p=some { cls :=.type "list",data :=.seq its.toArray n }/\xs.length<=Qo:=by
  obtain⟨z,its,n,r,e⟩:=I.hok p _ h;grind
def Inv.lstUpd{σ:St}{its its':List Value}(I:Inv X pins σ H s)(h:H p=some (.lst xs))(ho:s.heap.get? p=some { cls :=.type "list",data :=.seq its.toArray n })(hf:f { cls :=.type "list",data :=.seq its.toArray n }={ cls :=.type "list",data :=.seq its'.toArray n' })(r:Vals ys its')(hz:ys.length<=Qo)(t:Nat):
  Inv X pins σ (upd H p (.lst ys)) { s with heap:=s.heap.update p f,toks:=t }:=by
  have e:(s.heap.update p f).get? p=some { cls :=.type "list",data :=.seq its'.toArray n' }:=by
   rw[Vz f ho (by rw[hf] <;> rfl),hf]
  refine I.write (x:=p) (e:=p) (by rw[h];trivial) (.inl rfl) (λb u hb q=>(Yh _ _ (Y9 hb)).trans q) ⟨_,e⟩ ?_;exact⟨hz,its',n',r,e⟩
def xae:V->V->V->Hp->(Hp->Prop)->Prop:=λo i v H Q =>∃p xs k j,o = .ref p/\i = .int k/\H p=some (.lst xs)/\ixN xs.length k=some j/\Q (upd H p (.lst (xs.set j v)))
def zlv:xcp X xae:=by
 intro pins s σ H o i v ov iv u Q I ro ri rv h;obtain⟨p,xs,k,j,rfl,rfl,hp,hj,q⟩:=h;cases ro;obtain⟨t,rfl⟩:=ri;obtain⟨its,n,r,ho,hz⟩:=I.lst hp;obtain⟨h1,h2,h3,h4⟩:=zfy hj;have hl:=r.length;have hn:=qpb;have I':Inv X pins σ (upd H p (.lst (xs.set j v))) { s with heap:=s.heap.update p (Yo (·.setIfInBounds j u)) } :=
  I.lstUpd hp ho (zdf its n j u) (r.set rv j) (by grind) s.toks
 grind[Qlc,Za,PySem.W.ki_setAt,Zq,Qjs,PySem.W.ki_setBack]
def qvr(lo hi:Option Int)(n:Nat):(Qcq lo hi none n).1=((HT.sIx n 0 lo:Nat):Int)/\(Qcq lo hi none n).2.1=((HT.sIx n n hi:Nat):Int)/\(Qcq lo hi none n).2.2=1:=by
 refine⟨?_,?_,rfl⟩
 ·cases lo with
  |none=>simp[Qcq,HT.sIx]
  |some i =>
   simp only[Qcq,HT.sIx,Qjv,show(1:Int)>0 by decide,if_true];grind
 ·cases hi with
  |none=>simp[Qcq,HT.sIx]
  |some i =>
   simp only[Qcq,HT.sIx,Qjv,show(1:Int)>0 by decide,if_true];grind
def qte(its:List Value)(lo hi:Option Int):slicePick its.toArray lo hi none=((its.drop (HT.sIx its.length 0 lo)).take (HT.sIx its.length its.length hi-HT.sIx its.length 0 lo)).toArray:=by
 obtain⟨h1,h2,h3⟩:=qvr lo hi its.toArray.size;unfold slicePick;rw[h1,h2,h3];simp only[sliceRange_one,pick_run,Zq] <;> rfl
def xeo(K:Qa):V->Option Int->Option Int->Hp->VK->Prop:=λx lo hi H Q =>∃a xs,x = .ref a/\SqL K H a xs /\ ∀p,H p=none->Q (.ref p) (upd H p (.lst (zet xs lo hi)))
def ztl:SlR X (xeo X.K):=by
 intro pins s σ H x v vl vu lo hi sl Q I rx hs pl pu h;obtain⟨a,xs,rfl,hx,q⟩:=h;cases rx;obtain⟨its,r,ht,hz⟩:=I.list hx;have hlen:=r.length;refine⟨"list",_,slot_list_getitem.lookup,ht.isList.typeIs,?_⟩;refine wpAny_getItem_list_slice ht.isList hs pl pu .none (by simp) ?_ (by grind);rw[qte,<- hlen];refine⟨.ref s.heap.objs.size,_,I.laid (t':=s.toks) (o :=.lst (zet xs lo hi)) (λb ob q=>Qf _ q) (Qn _) ?_,rfl,q _ (I.hok.fresh (Qn _))⟩;exact⟨Qk (qyx xs lo hi) hz,_,0,(r.drop (HT.sIx xs.length 0 lo)).take (HT.sIx xs.length xs.length hi-HT.sIx xs.length 0 lo),Qq _ rfl⟩
def qll:V->Bool
 |.non=>true
 |.bl _=>true
 |.int _=>true
 |.str _=>true
 |_=>false
def eqV:V->V->Bool
 |.non,.non=>true
 |.bl a,.bl b=>a==b
 |.bl a,.int b=>(if a then 1 else 0)==b
 |.int a,.bl b=>a==(if b then 1 else 0)
 |.int a,.int b=>a==b
 |.str a,.str b=>a==b
 |_,_=>false
theorem zwg(ry:RelV y u)(rx:RelV x v)(fy:qll y=true)(fx:qll x=true):SeqAt.EqAt A s u v (eqV y x):=by
 cases y with
 |non =>
  cases ry;cases x with
  |non=>cases rx;exact SeqAt.EqAt.same _
  |bl b=>cases rx;exact SeqAt.EqAt.none_bool b
  |int b=>obtain⟨t,rfl⟩:=rx;exact SeqAt.EqAt.none_int b t
  |str b=>obtain⟨t,rfl⟩:=rx;exact SeqAt.EqAt.none_str b t
  |_=>exact absurd (show false=true from fx) Zb
 |bl a =>
  cases ry;cases x with
  |non=>cases rx;exact SeqAt.EqAt.bool_none a
  |bl b=>cases rx;exact Qhl a b
  |int b=>obtain⟨t,rfl⟩:=rx;exact SeqAt.EqAt.bool_int a b t
  |str b=>obtain⟨t,rfl⟩:=rx;exact SeqAt.EqAt.bool_str a b t
  |_=>exact absurd (show false=true from fx) Zb
 |int a =>
  obtain⟨t',rfl⟩:=ry;cases x with
  |non=>cases rx;exact SeqAt.EqAt.int_none a t'
  |bl b=>cases rx;exact SeqAt.EqAt.int_bool a t' b
  |int b=>obtain⟨t,rfl⟩:=rx;exact SeqAt.EqAt.int_int a t' b t
  |str b=>obtain⟨t,rfl⟩:=rx;exact Qic a t' b t
  |_=>exact absurd (show false=true from fx) Zb
 |str a =>
  obtain⟨t',rfl⟩:=ry;cases x with
  |non=>cases rx;exact SeqAt.EqAt.str_none a t'
  |bl b=>cases rx;exact SeqAt.EqAt.str_bool a t' b
  |int b=>obtain⟨t,rfl⟩:=rx;exact Qid a t' b t
  |str b=>obtain⟨t,rfl⟩:=rx;exact SeqAt.EqAt.str_str a t' b t
  |_=>exact absurd (show false=true from fx) Zb
 |_=>exact absurd (show false=true from fy) Zb
def eqU(x:V)(u:Value):Bool:=match u with
 |.none=>eqV .non x
 |.bool b=>eqV (.bl b) x
 |.int i _=>eqV (.int i) x
 |.str z _=>eqV (.str z) x
 |_=>false
def zof(r:RelV y u)(f:qll y=true):eqU x u=eqV y x:=by
 cases y with
 |non=>cases r;rfl
 |bl b=>cases r;rfl
 |int i=>obtain⟨t,rfl⟩:=r;rfl
 |str z=>obtain⟨t,rfl⟩:=r;rfl
 |_=>exact absurd (show false=true from f) Zb
def qwo:∀{xs:List V}{us:List Value},Vals xs us->xs.all qll=true->us.any (eqU x)=xs.any λy=>eqV y x
 |_,_,.nil,_=>rfl
 |y::xs,u::us,.cons r t,f=>by
  rw[Qbt,Qy]at f;rw[Jl,Jl,zof r f.1,qwo t f.2]
def qsk(rx:RelV x v)(fx:qll x=true):∀{xs:List V}{us:List Value},Vals xs us->xs.all qll=true ->∀u∈us,SeqAt.EqAt A s u v (eqU x u)
 |_,_,.nil,_=>λu hu=>by cases hu
 |y::xs,u::us,.cons r t,f=>λu' hu=>by
  rw[Qbt,Qy]at f;rcases Q2.mp hu with rfl|hu
  ·rw[zof r f.1];grind[zwg]
  ·exact qsk rx fx t f.2 u' hu
def inV(x:V)(xs:List V):Bool:=xs.any λy=>eqV y x
def rIn(K:Qa)(neg:Bool):R2:=λx y H Q =>∃p xs,y = .ref p/\(SqL K H p xs\/SqT K H p xs)/\qll x=true/\xs.all qll=true/\Q (.bl (if neg then !inV x xs else inV x xs)) H
def qut:OpR X (Zs .In) (rIn X.K false):=by
 intro pins s σ H x y v u Q I rx ry h;obtain⟨p,xs,rfl,hq,fx,fs,q⟩:=h;cases ry;rcases hq with hq|hq
 ·obtain⟨its,r,pl,hz⟩:=I.list hq;refine SeqAt.in_listAt (eqU x) pl.isList (λw hw=>qsk rx fx r fs w (by grind)) ⟨.bl _,H,I,rfl,?_⟩;rw[show its.toArray.any (eqU x)=its.any (eqU x) by simp,qwo r fs];exact q
 ·obtain⟨its,r,pl,hz⟩:=I.tuple hq;refine SeqAt.in_tupleAt (eqU x) pl (λw hw=>qsk rx fx r fs w (by grind)) ⟨.bl _,H,I,rfl,?_⟩;rw[show its.toArray.any (eqU x)=its.any (eqU x) by simp,qwo r fs];exact q
def qvu:CallR X (.builtin "len") (λxs H Q =>∃p ys,xs=[.ref p]/\(SqL X.K H p ys\/SqT X.K H p ys)/\Q (.int ys.length) H):=by
 intro pins s σ H xs us Q I r h;obtain⟨p,ys,rfl,hq,q⟩:=h;obtain⟨u,rfl,rx⟩:=qlj r;cases rx;have hn:=qpb;rcases hq with hq|hq
 ·obtain⟨its,r',pl,hz⟩:=I.list hq;have hlen:=r'.length;exact Calls.call_len_list pl.isList (by grind) ⟨.int ys.length,H,I.tok _,⟨s.toks+1,by grind⟩,q⟩
 ·obtain⟨its,r',pl,hz⟩:=I.tuple hq;have hlen:=r'.length;exact len_tuple pl (by grind) ⟨.int ys.length,H,I.tok _,⟨s.toks+1,by grind⟩,q⟩
def qvp:CallR X (.builtin "len") (λxs H Q =>∃z,xs=[.str z]/\z.length<=Qo/\Q (.int z.length) H):=by
 intro pins s σ H xs us Q I r h;obtain⟨z,rfl,hz,q⟩:=h;obtain⟨u,rfl,t,rfl⟩:=qlj r;have hn:=qpb;exact len_str (by omega) ⟨.int z.length,H,I.tok _,⟨_,rfl⟩,q⟩
def CallR.or(h:CallR X f r)(h':CallR X f r'):CallR X f (λxs H Q=>r xs H Q\/r' xs H Q):=by
 intro pins s σ H xs us Q I rs q;rcases q with q|q
 ·exact h pins s σ H xs us Q I rs q
 ·exact h' pins s σ H xs us Q I rs q
def qvv:CallR X (.type "list") (λxs H Q =>∃p ys,xs=[.ref p]/\(SqL X.K H p ys\/SqT X.K H p ys) /\ ∀l,H l=none->Q (.ref l) (upd H l (.lst ys))):=by
 intro pins s σ H xs us Q I r h;obtain⟨p,ys,rfl,hq,q⟩:=h;obtain⟨u,rfl,rx⟩:=qlj r;cases rx;have fin:∀(its:List Value),Vals ys its->ys.length<=Qo ->∀(h':Heap)(c':Nat),(∀b o',s.heap.get? b=some o'->h'.get? b=some o') ->
  h'.get? s.heap.objs.size=some { cls :=.type "list",dict:=none,data :=.seq its.toArray c',slots := #[] }->EP X pins σ Q (.ref s.heap.objs.size) { s with heap:=h' }:=λits r' hz h' c' kp e =>
  ⟨.ref s.heap.objs.size,_,I.laid (t':=s.toks) kp (Qn _) (show ObjOk X.prog X.w _ h' _ (.lst ys) from⟨hz,its,c',r',e⟩),rfl,q _ (I.hok.fresh (Qn _))⟩
 rcases hq with hq|hq
 ·obtain⟨its,r',pl,hz⟩:=I.list hq;have hlen:=r'.length;obtain⟨o,ho,hc,n,hd⟩:=pl.isList;grind[call_list_seq,Zq]
 ·obtain⟨its,r',pl,hz⟩:=I.tuple hq;have hlen:=r'.length;obtain⟨o,ho,hc,n,hd⟩:=pl;grind[call_list_seq,Zq]
def qja:CallR X (.type "tuple") (λxs H Q =>∃p ys,xs=[.ref p]/\((SqL X.K H p ys /\ ∀l,H l=none->Q (.ref l) (upd H l (.tup ys)))\/(SqT X.K H p ys/\Q (.ref p) H))):=by
 intro pins s σ H xs us Q I r h;obtain⟨p,ys,rfl,h⟩:=h;obtain⟨u,rfl,rx⟩:=qlj r;cases rx;rcases h with⟨hq,q⟩|⟨hq,q⟩
 ·obtain⟨its,r',pl,hz⟩:=I.list hq;have hlen:=r'.length;refine call_tuple_list pl.isList (λh' kp=>?_) (by grind);have I1:Inv X pins σ H { s with heap:=h' }:=I.kept (t':=s.toks) kp;have I2:Inv X pins σ (upd H h'.objs.size (.tup ys)) { s with heap:=h'.push { cls :=.type "tuple",data :=.seq its.toArray } } :=
   I1.laid (t':=s.toks) (λb o e=>Qf _ e) (Qn _) (show ObjOk X.prog X.w _ _ _ (.tup ys) from⟨hz,its,r',Qkn _ _⟩)
  exact⟨.ref h'.objs.size,_,I2,rfl,q _ (I1.hok.fresh (Qn _))⟩
 ·obtain⟨its,r',pl,hz⟩:=I.tuple hq;exact call_tuple_same pl ⟨.ref p,H,I,rfl,q⟩
def tyV(K:Qa)(T:String)(x:V)(H:Hp):Prop:=match x with
 |.str _=>T = "str"
 |.int _=>T = "int"
 |.ref p=>(T = "list" /\ ∃xs,SqL K H p xs)\/(T = "tuple" /\ ∃o,K.lookup p=some o/\o.cls = .type "tuple" /\ o.dict=none) \/
  (T = "dict" /\ ((∃kvs,H p=some (.dK kvs)) \/ ∃kvs,H p=some (.dT kvs)))\/(T = "set" /\ ∃S n,H p=some (.set S n))
 |_=>False
def zxy{σ:St}(I:Inv X pins σ H s)(r:RelV x v)(ty:tyV X.K T x H):
 s.TypeIs v T /\ ∀a,v = .ref a ->∃ob,s.heap.get? a=some ob/\ob.dict=none:=by
  cases x with
  |str z =>
   obtain⟨t,rfl⟩:=r;cases(show T = "str" from ty);grind[Qau]
  |int i =>
   obtain⟨t,rfl⟩:=r;cases(show T = "int" from ty);grind[typeIs_int]
  |ref p =>
   cases r;rcases ty with⟨rfl,xs,hq⟩|⟨rfl,o,hk,hc,hd⟩|⟨rfl,hk⟩|⟨rfl,S,n,hk⟩
   ·obtain⟨its,_,pl,_⟩:=I.list hq;refine⟨pl.isList.typeIs,λa e=>?_⟩;cases e;obtain⟨o,n,e,c,hd,_⟩:=pl;grind
   ·refine⟨⟨o,I.kIn p o hk,hc⟩,λa e=>?_⟩;cases e;exact⟨o,I.kIn _ o hk,hd⟩
   ·have z:∃o,s.heap.get? p=some o/\o.ExactDict:=by
     rcases hk with⟨kvs,hk⟩|⟨kvs,hk⟩
     ·obtain⟨_,_,_,_,o,_,_,e,ex,_⟩:=I.hok p _ hk;grind
     ·obtain⟨_,_,_,_,o,_,_,e,ex,_⟩:=I.hok p _ hk;grind
    obtain⟨o,e,ex⟩:=z;refine⟨⟨o,e,ex.1⟩,λa e2=>?_⟩;cases e2;exact⟨o,e,ex.2.1⟩
   ·obtain⟨o,_,_,_,e,ex,_⟩:=I.hok p _ hk;refine⟨⟨o,e,ex.1⟩,λa e2=>?_⟩;cases e2;exact⟨o,e,ex.2.1⟩
  |_=>exact Q7 ty
def tBM(K:Qa)(T:String)(r:V->List V->Hp->VK->Prop)(to:TE)(t:TA):TE:=λσ H Q=>to σ H λx H1=>tyV K T x H1/\t σ H1 λxs H2=>r x xs H2 Q
variable{o e:Expr}{es:List Expr}{to:TE}{t:TA}{name:Str}{apos cpos:Pos}{T id:String}{r:V->List V->Hp->VK->Prop}
def qtw(pa:PlainAttrs T)(slot:Slot T name id)(hty:typeOf (.builtin id)=pure (.type "method_descriptor"))(hm:MtR X id r)(ho:PE X o to)(ha:PA X (e::es) t)(hbase:Z2 o name X.env (eval o X.env)=eval o X.env:=by rfl)(hfew:((Z5 cpos (Qi (e::es) X.env)).all (λx => !x.1)&&(Qai cpos (Ve [] X.env)).all (λx=>x.1.isSome)
   && decide ((e::es).length+([]:List Jj).length+(if([]:List Jj).isEmpty then 0 else 1)<30))=true:=by rfl)(hline:(apos.endLine==cpos.line)=true:=by rfl)(hs:Qi (e::es) X.env=(false,eval e X.env)::Qi es X.env:=by rfl)(hplain:(Z5 cpos (Qi es X.env)).any (·.1)=false:=by rfl):
  PE X (.Call (.Attribute o name apos) (e::es) [] cpos) (tBM X.K T r to t):=by
  intro pins s σ H Q I h;refine wpAny_Call_method_late hbase hfew hline rfl (thn (ho pins s σ H _ I h) λv s1 xx53=>?_);obtain⟨x,H1,I1,r1,ty,q1⟩:=xx53;obtain⟨h1,h2⟩:=zxy I1 r1 ty;refine⟨T,id,pa,slot,hty,h1,h2,?_⟩;have hA:=ha cpos pins s1 σ H1 _ I1 q1;rw[hs]at hA ⊢;refine Qck (by show(false||(Z5 cpos (Qi es X.env)).any (·.1))=false;rw[hplain] <;> rfl) (Qdh ?_);exact thn hA λus s2 xx52=>by obtain⟨vs,H2,I2,r2,q2⟩:=xx52;exact hm pins s2 σ H2 x vs v us Q I2 r1 r2 q2
/- xs.append(e),list.index on a module's tuple .. are MtR facts of 06m -/
end
def MtM(X:Cx)(id:String)(r:V->List V->Hp->VK->Prop):Prop :=
 ∀(pins:List (Addr×Obj))(s:Ql)(σ:St)(H:Hp)(x:V)(xs:List V)(v:Value)(us:List Value)(Q:VK),Inv X pins σ H s->RelV x v->Vals xs us->r x xs H Q ->
  wpAny (model X.prog X.w) X.A (call (.builtin id) (v::us)) (EP X pins σ Q) X.xe s
def Vals.one:∀{x:V}{us:List Value},Vals [x] us ->∃u,us=[u]/\RelV x u
 |_,_,.cons r .nil=>⟨_,rfl,r⟩
def Vals.rep(h:Vals xs us):∀k:Nat,Vals (Qab k xs).flatten (Qab k us).flatten
 |0 => .nil
 |k+1=>by
  rw[Qbg,Qbg,Qit,Qit];exact Vals.append h (Vals.rep h k)
section
variable{X:Cx}{pins:List (Addr×Obj)}{σ:St}{H:Hp}{s:Ql}{l b:Addr}{xs ys zs:List V}
def Inv.lset{its its':List Value}(I:Inv X pins σ H s)(hH:H l=some (.lst xs))(e:s.heap.get? l=some { cls :=.type "list",data :=.seq its.toArray n })(hf:f its.toArray=its'.toArray)(hv:Vals ys its')(hz:ys.length<=Qo):
  Inv X pins σ (upd H l (.lst ys)) { s with heap:=s.heap.update l (Yo f),toks:=t' }:=by
  have q:=Qjw e f;rw[hf]at q;refine I.write (x:=l) (e:=l) (by rw[hH];exact trivial) (.inl rfl) (λb' u hb hu=>(Yh s.heap (Yo f) (Y9 hb)).trans hu) ⟨_,q⟩ ?_;exact⟨hz,its',_,hv,q⟩
def Inv.lnew(I:Inv X pins σ H s)(hv:Vals ys its)(hz:ys.length<=Qo):
 Inv X pins σ (upd H s.heap.objs.size (.lst ys)) { s with heap:=s.heap.push { cls :=.type "list",data :=.seq its.toArray },toks:=t' } :=
  I.laid (λ_ _ q=>Qf _ q) (Qn _) ⟨hz,its,0,hv,Qq _ rfl⟩
def Inv.fresh(I:Inv X pins σ H s):H s.heap.objs.size=none:=I.hok.fresh (Qn _)
def Inv.lstM(I:Inv X pins σ H s)(hH:H l=some (.lst xs)):xs.length<=Qo /\ ∃(its:List Value)(n:Nat),Vals xs its/\xs.length=its.length/\s.heap.get? l=some { cls :=.type "list",data :=.seq its.toArray n }:=by
 obtain⟨z,its,n,r,e⟩:=I.hok l _ hH;exact⟨z,its,n,r,r.length,e⟩
end
section
variable{X:Cx}
def qwj:V->List V->Hp->VK->Prop:=λx vs H Q =>∃l xs y,x = .ref l/\vs=[y]/\H l=some (.lst xs)/\xs.length<Qo/\Q .non (upd H l (.lst (xs++[y])))
def zhb:MtM X "list.append" qwj:=by
 intro pins s σ H x vs v us Q I rx rv h;obtain⟨l,xs,y,rfl,rfl,hH,hz,q⟩:=h;cases rx;obtain⟨u,rfl,ru⟩:=rv.one;obtain⟨z,its,n,r,hl,e⟩:=I.lstM hH;refine Qac F.slot_list_append ⟨_,e,rfl⟩ F.entry_list_append (F.args_list_append_2 _ _) (Qiu l its.toArray n u (by grind)) ⟨e,?_⟩;refine⟨.non,_,I.lset (its':=its++[u]) hH e (by simp) (r.append (.cons ru .nil)) ?_,rfl,q⟩;grind
end
section
variable{prog:Zk}{w:World}{A:Z1}{E:Value->Ql->Prop}{s:Ql}
end
section
variable{X:Cx}
end
end L2
namespace Att
open PySem PySem.W PySem.Calls PyProof.Rows
theorem qos:∀(ns:LI)(vs:List Value),WellAll P h vs (ns.map WData.int)->Qgv vs ns:=by
 intro ns
 induction ns with
 |nil =>
  intro vs w;rw[Qbl]at w;cases w;exact .nil
 |cons n ns ih =>
  intro vs w;rw[Qr]at w;cases w with
  |cons a b =>
   cases a;exact .cons _ _ (ih _ b)
def zil{l:OpenLaw}(hn:l.most=some n)(hpre:l.row.toRowW.claim.pre args=true)(hwl:WellAll P h vals args):
 ∃a vs ns,vals=[Zo a]/\args=[WData.list (ns.map WData.int)]/\h.get? a=some { cls :=.type "list",data :=.seq vs.toArray }/\Qgv vs ns/\ns.length<=n:=by
  have hsh:WShape.hasAll [] args [.list .int]=true:=(pre_splitW hpre).1;have hc:l.pre.holds [] { args:=args }=true:=(pre_splitW hpre).2;obtain⟨d,r,rfl,h1,h2⟩:=hasAllW_cons hsh;obtain rfl:=hasAllW_nil h2;obtain⟨xs,rfl,h3⟩:=hasW_list h1;obtain⟨ns,rfl⟩:=items_int h3;have hlen:ns.length<=n:=by
   unfold OpenLaw.pre at hc;have h4:(WTm.not (.lt (.lit (.int (n:Int))) (.len (.arg 0)))).holds [] { args:=[.list (ns.map .int)] }=true:=by
    have h4:=(holds_andW hc).1;grind
   have h5:=condW_of h4 (w_not (w_lt w_lit (w_len_list (w_arg rfl))));grind
  cases hwl with
  |cons w1 w2 =>
   cases w2;cases w1 with
   |list ho hall=>grind[qos]
def zii(l:OpenLaw)(args:List WData):l.row.toRowW.claim.post args (.bool true) args=true :=
 postW_of (r:=l.row.toRowW) (X:=(true==true))
  (show WShape.has [] (.bool true) .bool=true by first|rfl|decide|grind)
  (show(WTm.eq .res (.lit (.bool true))).value [] { args:=args,res:=some (.bool true),after:=args }=some (.bool (true==true)) from w_eq_bool (w_res rfl) w_lit) rfl
def attach_call{l:OpenLaw}(hn:l.most=some n)(hdf:d.params.defaults=[])(call:∀(w:World)(s₀ s₁:Ql)(mg mb:Str->Option Value)(fa:Addr)(o:Obj)(pm cd doc:Value)(a:Addr)(vs:List Value)(ns:LI),
 Ground q loose [] XP w s₀ mg mb s₁.heap->YP w s₁.heap ->
 s₁.heap.get? fa=some o->o.data = .func (docDef d.name d.params d.body d.scope pm cd doc)->s₁.heap.CodeRec cd d.name->mg d.name=some (.ref fa) ->
 s₁.heap.get? a=some { cls :=.type "list",data :=.seq vs.toArray }->Qgv vs ns->ns.length<=n->s₁.gens = #[] ->
  Qca (model l.prog w) Qhz (.call (.ref fa) ⟨[.ref a],[]⟩) (λr s'=>r = .ok (.ret (.bool true))/\OldK s₁.heap s'.heap/\s'.os=s₁.os/\Qea s'.gens) s₁):
  WalkO q loose XP YP l.row.toRowW d [] (λf vs=>Qll f vs):=by
  intro w s₀ s₁ mg mb G Y fa o pm cd doc dV kV ho hd hcd hD hmg hg args vals as hpre hlay hrd hwl hlo;obtain rfl:dV = .none:=Dflts.none hD hdf;obtain rfl:kV = .none:=Dflts.noKw hD;obtain⟨a,vs,ns,rfl,rfl,hobj,hints,hlen⟩:=zil hn hpre hwl;refine enter_call (Qcy (call w s₀ s₁ mg mb fa o pm cd doc a vs ns G Y ho (fd_plain hd) hcd hmg hobj hints hlen hg) λr s' hq=>?_);obtain⟨rfl,h2,h3,h4⟩:=hq;exact⟨.inl ⟨.bool true,.bool true,[],rfl,λ_=>rfl,.bool true,zii l _,λ_=>⟨Qmi,λ_ hm=>(nomatch hm)⟩⟩,h2,h3,h4⟩
section
variable{prog:Zk}{w:World}{A:Z1}{E:Value->Ql->Prop}{s:Ql}{K:Frag}
end
end Att
namespace L2
open PySem PySem.Spec PyProof.Rows
def qum:∀{vs:List Value}{ns:LI},Qgv vs ns->Vals (ns.map V.int) vs
 |_,_,.nil => .nil
 |_,_,.cons n t h => .cons ⟨t,rfl⟩ (qum h)
abbrev CX0:CXT:=λ_ _ _ _ _ _=>False
abbrev E0:XK:=λ_ _ _=>False
def zuu:qtm CX0 X E0:=λ_ _ _ _ _ _ _ h=>h.elim
structure Fun(K:Qa)(x qual:Str)(st:Stmt)(f:Addr)(fd:J5):Prop where
 ex:∃(oc:Value)(od:Option Addr)(kV doc pm:Value)(an:Option Addr)(cdv ct:Value)(osl:Array (Option Value)),
  fd=Vx x qual (defArgs st) (defBody st) (defScope st) .none kV doc pm an cdv ct/\K.lookup f=some ⟨oc,od,.func fd,osl⟩/\Qcs K cdv qual=true
 kp:Z4 K (.ref f)=true
section
variable{P:Zk}{w:World}{K:Qa}{mg:Str->Option Value}{base:Heap}
def Fun.ok{st:Stmt}(F:Fun K x qual st f fd)(S:FnScope N ps (defScope st))(len:∀vs H Q E,sp vs H Q E->vs.length=ps.length)(hbody:∀(cdv:Value)(A:Z1)(outer:List Env)(s:Ql)(H:Hp)(vs:List V)(Q:VK)(E:XK),Room k (A.deeper (Qbo qual (defScope st) s.heap.objs.size f cdv))->sp vs H Q E ->
 ∃t,PSs (qbv CX0 P w K mg base N qual (defScope st) f cdv A outer s H E).nox (defBody st) t/\t { nx:=λ_ H'=>Q .non H',rt:=Q } (start N vs) H):FnOk P w K mg base CX0 (k+1) f fd ps sp:=by
  obtain⟨oc,od,kV,doc,pm,an,cdv,ct,osl,rfl,lk,hcd⟩:=F.ex;refine qyh lk hcd S len λA outer s H vs Q E hr hsp=>?_;obtain⟨t,h,q⟩:=hbody cdv A outer s H vs Q E hr hsp;exact⟨t,h.nox,q⟩
def Fun.binds{st:Stmt}(F:Fun K x qual st f fd)(h:∀(kV doc pm:Value)(an:Option Addr)(cdv ct:Value)(us:List Value),us.length=ps.length->Qhi (Vx x qual (defArgs st) (defBody st) (defScope st) .none kV doc pm an cdv ct) ⟨us,[]⟩=pure (ps.zip us)):Binds K fd ps []:=by
  obtain⟨oc,od,kV,doc,pm,an,cdv,ct,osl,rfl,lk,hcd⟩:=F.ex;exact .all (h kV doc pm an cdv ct)
def zye{st:Stmt}{kV doc pm cdv ct:Value}(l:K.lookup f=some ⟨oc,od,.func (Vx x qual (defArgs st) (defBody st) (defScope st) .none kV doc pm an cdv ct),osl⟩)(c:Qcs K cdv qual=true)(k:Z4 K (.ref f)=true):Fun K x qual st f (Vx x qual (defArgs st) (defBody st) (defScope st) .none kV doc pm an cdv ct):=⟨⟨oc,od,kV,doc,pm,an,cdv,ct,osl,rfl,l,c⟩,k⟩
end
def qx(h:n<=1000):n<Qo:=Nat.lt_of_le_of_lt h (by decide)
section
variable{X:Cx}
def pv(i:Nat){pos:Pos}(hN:X.N[i]?=some x:=by rfl)(hv:Vis X.env.scope x:=by first|exact Yi rfl|exact Zt (Yi rfl)|exact Zt (Zt rfl))(hd:Nd0 x:=by decide)(hcd:Nd1 x:=by decide):PE X (.Name x pos) (zbb i):=qbo hN hv hd hcd
end
def qdl{A B:Prop}(h:B):if false=true then A else B:=by
 rw[if_neg Zb];exact h
def qho{A B:Prop}(h:A):if true=true then A else B:=by
 rw[if_pos rfl];exact h
def NoT:HO->Prop
 |.tbl _=>False
 |_=>True
structure Kp(o:HO)(x:Option HO):Prop where
 to:NoT o->x=some o
 tb:∀ps,o = .tbl ps ->∃ps',x=some (.tbl ps')
def Kp.of(h:x=some o):Kp o x:=⟨λ_=>h,λps e=>⟨ps,by rw[h,e]⟩⟩
def Same(H H':Hp):Prop :=∀b o,H b=some o->Kp o (H' b)
def zwn(o:HO):NoT o \/ ∃ps,o = .tbl ps:=by
 cases o <;> first|exact .inr ⟨_,rfl⟩|exact .inl trivial
def Same.of(h:∀b o,H b=some o->H' b=some o):Same H H':=λb o e => .of (h b o e)
def Same.at(s:Same H H')(e:H b=some o)(n:NoT o:=by trivial):H' b=some o:=(s b o e).to n
def Same.any(s:Same H H')(e:H b=some o):∃o',H' b=some o':=by
 rcases zwn o with n|⟨ps,rfl⟩
 ·exact⟨o,(s b o e).to n⟩
 ·obtain⟨ps',e'⟩:=(s b _ e).tb ps rfl;grind
def Same.refl(H:Hp):Same H H :=.of λ_ _ h=>h
def Same.trans(a:Same H H1)(b:Same H1 H2):Same H H2:=λc o h=>⟨λn=>(b c o ((a c o h).to n)).to n,λps e=>let ⟨ps',e'⟩:=(a c o h).tb ps e; (b c _ e').tb ps' rfl⟩
def Same.free(e:Same H H')(h:H' l=Qmd):H l=Qmd:=by
 cases q:H l with
 |none=>rfl
 |some o =>
  obtain⟨o',z⟩:=e.any q;grind
def Same.seq{K:Qa}(e:Same H H')(h:SqL K H a xs):SqL K H' a xs:=by
 rcases h with(h|⟨o,h⟩)|h
 ·exact .inl (.inl (e.at h))
 ·exact .inl (.inr ⟨o,e.at h⟩)
 ·exact .inr h
def DictIs(h:Heap)(d:Addr)(es:Array Qao)(ep:Nat):Prop :=∃o,h.get? d=some o/\o.ExactDict/\o.data = .dict es ep
section
variable{P:Zk}{w:World}{A:Z1}{E:Value->Ql->Prop}{s:Ql}{d:Addr}{es:Array Qao}{ep:Nat}
end
abbrev PKy:=List (Int×Int)
section
variable(P:Zk)(w:World)
end
section
variable{P:Zk}{w:World}{h h':Heap}{k k':PKy}{vs:List Value}{a:Addr}
end
section
variable{P:Zk}{w:World}{A:Z1}{E:Value->Ql->Prop}{s:Ql}{k:PKy}{a:Addr}
end
def prD(p:Int×Int):Qh :=.tuple [.int p.1,.int p.2]
def zzi(p:Int×Int):Int:=reduceHash (Qeo [hashInt p.1,hashInt p.2])
def xbr(k:PKy):Int:=reduceHash (Qeo (k.map zzi))
abbrev zvh:=PKy×Addr×Int
def xda:List zvh->List Qao->Prop
 |[],l=>l=[]
 |x::xs,l =>∃t r,l=⟨xbr x.1,.ref x.2.1,.int x.2.2 t⟩::r/\xda xs r
def DX(a:Addr)(xs:List zvh):Heap->Prop:=λh=>((a==V4)=false/\xs.length<=900/\(xs.map (·.1)).Nodup) /\ ∃es ep,DictIs h a es ep/\xda xs es.toList
def Prs(K:Qa)(H:Hp):PKy->List V->Prop
 |[],ys=>ys=[]
 |p::k,ys =>∃c r,ys = .ref c::r/\SqT K H c [.int p.1,.int p.2]/\Prs K H k r
def PkAt(K:Qa)(H:Hp)(k:PKy)(c:Addr):Prop :=∃ys,SqT K H c ys/\Prs K H k ys
def xD(xs:List zvh):List (Qh×Qh):=xs.map λx=>(Qjm (x.1.map prD),Yp x.2.2)
def xci(K:Qa)(H:Hp)(a:Addr)(l:List (Qh×Qh)):Prop :=∃xs,H a=some (.ext (DX a xs))/\l=xD xs /\ ∀x∈xs,PkAt K H x.1 x.2.1
def zzt:Qh->Bool
 |.tuple _=>false
 |_=>true
def xcf(H:Hp)(a:Addr)(l:List (Qh×Qh)):Prop :=∃kvs,H a=some (.dK kvs)/\l.length=kvs.length /\ ∀e∈l,zzt e.1=true
mutual
def Is(K:Qa)(H:Hp):Qh->V->Prop
 |.none,v=>v = .non
 |.bool b,v=>v = .bl b
 |.int i,v=>v = .int i
 |.str x,v=>v = .str x
 |.list l,v =>∃a xs,v = .ref a/\SqL K H a xs/\Iss K H l xs
 |.tuple l,v =>∃a xs,v = .ref a/\SqT K H a xs/\Iss K H l xs
 |.dict l,v =>∃a,v = .ref a/\(xcf H a l\/xci K H a l)
def Iss(K:Qa)(H:Hp):List Qh->List V->Prop
 |[],xs=>xs=[]
 |d::l,xs =>∃x r,xs=x::r/\Is K H d x/\Iss K H l r
end
instance {o:HO}{x:Option HO}:Coe (x=some o) (Kp o x):=⟨Kp.of⟩
instance {l:List V}{x:Option HO}:CoeOut (Kp (.lst l) x) (x=some (.lst l)):=⟨λk=>k.to trivial⟩
instance {l:List V}{x:Option HO}:CoeOut (Kp (.tup l) x) (x=some (.tup l)):=⟨λk=>k.to trivial⟩
instance {l:List (Key×V)}{x:Option HO}:CoeOut (Kp (.dK l) x) (x=some (.dK l)):=⟨λk=>k.to trivial⟩
instance {l:List (List Key×V)}{x:Option HO}:CoeOut (Kp (.dT l) x) (x=some (.dT l)):=⟨λk=>k.to trivial⟩
instance {C d:Addr}{l:List (Str×V)}{x:Option HO}:CoeOut (Kp (.ins C d l) x) (x=some (.ins C d l)):=⟨λk=>k.to trivial⟩
instance {f:Heap->Prop}{x:Option HO}:CoeOut (Kp (.ext f) x) (x=some (.ext f)):=⟨λk=>k.to trivial⟩
def zua(s:Same H H')(h:Rd H a u)(n:NoT u:=by trivial):Rd H' a u:=by
 rcases h with h|⟨o,h⟩
 ·exact .inl (s.at h n)
 ·exact .inr ⟨o,s.at h⟩
def qJ{K:Qa}(s:Same H H')(h:SqT K H a xs):SqT K H' a xs:=by
 rcases h with h|h
 ·exact .inl (zua s h)
 ·exact .inr h
def Prs.mono{K:Qa}(s:Same H H'):∀{k:PKy}{ys:List V},Prs K H k ys->Prs K H' k ys
 |[],_,h=>h
 |_::_,_,h=>by
  obtain⟨c,r,e,q,h⟩:=h;exact⟨c,r,e,qJ s q,Prs.mono s h⟩
def PkAt.mono{K:Qa}(s:Same H H')(h:PkAt K H k c):PkAt K H' k c:=by
 obtain⟨ys,q,r⟩:=h;exact⟨ys,qJ s q,r.mono s⟩
def qbi(h:H p=none):Same H (upd H p o) :=.of λb u e=>by
 rw[qo (qq e h)];exact e
mutual
def Is.mono{K:Qa}{H H':Hp}(s:Same H H'):∀{d:Qh}{v:V},Is K H d v->Is K H' d v
 |.none,_,h=>by unfold Is at h ⊢;exact h
 |.bool _,_,h=>by unfold Is at h ⊢;exact h
 |.int _,_,h=>by unfold Is at h ⊢;exact h
 |.str _,_,h=>by unfold Is at h ⊢;exact h
 |.list l,_,h=>by
  unfold Is at h ⊢;obtain⟨a,xs,e,q,r⟩:=h;exact⟨a,xs,e,s.seq q,Iss.mono s r⟩
 |.tuple l,_,h=>by
  unfold Is at h ⊢;obtain⟨a,xs,e,q,r⟩:=h;exact⟨a,xs,e,qJ s q,Iss.mono s r⟩
 |.dict _,_,h=>by
  unfold Is at h ⊢;obtain⟨a,e,⟨kvs,q,m⟩|⟨xs,q,m,k⟩⟩:=h
  ·exact⟨a,e,.inl ⟨kvs,s.at q,m⟩⟩
  ·exact⟨a,e,.inr ⟨xs,s.at q,m,λx hx=>(k x hx).mono s⟩⟩
def Iss.mono{K:Qa}{H H':Hp}(s:Same H H'):∀{l:List Qh}{xs:List V},Iss K H l xs->Iss K H' l xs
 |[],_,h=>by unfold Iss at h ⊢;exact h
 |d::l,_,h=>by
  unfold Iss at h ⊢;obtain⟨x,r,e,p,q⟩:=h;exact⟨x,r,e,Is.mono s p,Iss.mono s q⟩
end
section
variable{K:Qa}{H H':Hp}
def qei:Is K H .none .non:=by unfold Is;rfl
def qci(b:Bool):Is K H (.bool b) (.bl b):=by unfold Is;rfl
def qaq(i:Int):Is K H (.int i) (.int i):=by unfold Is;rfl
def qeh(x:Str):Is K H (.str x) (.str x):=by unfold Is;rfl
def qdg(h:SqL K H a xs)(r:Iss K H l xs):Is K H (.list l) (.ref a):=by unfold Is;grind
def qld(h:SqT K H a xs)(r:Iss K H l xs):Is K H (.tuple l) (.ref a):=by unfold Is;grind
theorem qah:Iss K H [] []:=by unfold Iss;rfl
def qI(h:Is K H d x)(r:Iss K H l xs):Iss K H (d::l) (x::xs):=by unfold Iss;grind
def Is.bl_inv(h:Is K H (.bool b) v):v = .bl b:=by unfold Is at h;exact h
def Is.int_inv(h:Is K H (.int i) v):v = .int i:=by unfold Is at h;exact h
def Is.non_inv(h:Is K H .none v):v = .non:=by unfold Is at h;exact h
def Is.lst_inv(h:Is K H (.list l) v):∃a xs,v = .ref a/\SqL K H a xs/\Iss K H l xs:=by unfold Is at h;exact h
def Is.tup_inv(h:Is K H (.tuple l) v):∃a xs,v = .ref a/\SqT K H a xs/\Iss K H l xs:=by unfold Is at h;exact h
def Is.dct_inv(h:Is K H (.dict l) v):∃a,v = .ref a/\(xcf H a l\/xci K H a l):=by unfold Is at h;exact h
def Iss.nil_inv(h:Iss K H [] xs):xs=[]:=by unfold Iss at h;exact h
def Iss.cons_inv(h:Iss K H (d::l) xs):∃x r,xs=x::r/\Is K H d x/\Iss K H l r:=by unfold Iss at h;exact h
def Iss.len:∀{l:List Qh}{xs:List V},Iss K H l xs->xs.length=l.length
 |[],_,h=>by rw[h.nil_inv];rfl
 |d::l,_,h=>by
  obtain⟨x,r,rfl,_,q⟩:=h.cons_inv;simp[Iss.len q]
def Iss.get:∀{l:List Qh}{xs:List V}{i:Nat}{d:Qh},Iss K H l xs->l[i]?=some d ->∃x,xs[i]?=some x/\Is K H d x
 |[],_,i,d,h,e=>by simp at e
 |d'::l,_,0,d,h,e=>by
  obtain⟨x,r,rfl,p,q⟩:=h.cons_inv;grind
 |d'::l,_,i+1,d,h,e=>by
  obtain⟨x,r,rfl,p,q⟩:=h.cons_inv;obtain⟨y,e1,e2⟩:=Iss.get q (show l[i]?=some d by simpa using e);grind
def Iss.get':∀{l:List Qh}{xs:List V}{i:Nat}{x:V},Iss K H l xs->xs[i]?=some x ->∃d,l[i]?=some d/\Is K H d x:=λ{l xs i x} h e=>by
 have hl:=h.len;have hi:i<xs.length:=(Q6.mp e).1;obtain⟨d,hd⟩:∃d,l[i]?=some d:=⟨l[i]'(by omega),Qp _⟩
 obtain⟨y,e1,e2⟩:=h.get hd;grind
def qbl:∀{l m:List Qh}{xs ys:List V},Iss K H l xs->Iss K H m ys->Iss K H (l++m) (xs++ys)
 |[],m,_,ys,h,h'=>by rw[h.nil_inv];exact h'
 |d::l,m,_,ys,h,h'=>by
  obtain⟨x,r,rfl,p,q⟩:=h.cons_inv;exact qI p (qbl q h')
def qzp:∀{l:List Qh}{xs:List V}(n:Nat),Iss K H l xs->Iss K H (l.take n) (xs.take n)
 |_,_,0,_=>qah
 |[],_,n+1,h=>by rw[h.nil_inv];exact qah
 |d::l,_,n+1,h=>by
  obtain⟨x,r,rfl,p,q⟩:=h.cons_inv;exact qI p (qzp n q)
def zbo:∀{l:List Qh}{xs:List V}(n:Nat),Iss K H l xs->Iss K H (l.drop n) (xs.drop n)
 |_,_,0,h=>h
 |[],_,n+1,h=>by rw[h.nil_inv];exact qah
 |d::l,_,n+1,h=>by
  obtain⟨x,r,rfl,p,q⟩:=h.cons_inv;exact zbo n q
def qry:∀ns:LI,Iss K H (ns.map .int) (ns.map V.int)
 |[]=>qah
 |n::ns=>qI (qaq n) (qry ns)
def Iss.ints_inv:∀{ns:LI}{xs:List V},Iss K H (ns.map .int) xs->xs=ns.map V.int
 |[],_,h=>h.nil_inv
 |n::ns,_,h=>by
  obtain⟨x,r,rfl,p,q⟩:=h.cons_inv;rw[p.int_inv,Iss.ints_inv q];rfl
end
section
variable{X:Cx}{pins:List (Addr×Obj)}{σ:St}{H:Hp}{s:Ql}
mutual
def Is.reads(I:Inv X pins σ H s):∀{d:Qh}{x:V}{u:Value},d.canLay0=true->Is X.K H d x->RelV x u ->∃as,Reads s.heap u d as
 |.none,_,u,_,h,r=>by
  rw[h.non_inv]at r;cases r;exact⟨_,.none⟩
 |.bool b,_,u,_,h,r=>by
  rw[h.bl_inv]at r;cases r;exact⟨_,.bool b⟩
 |.int i,_,u,_,h,r=>by
  rw[h.int_inv]at r;obtain⟨t,rfl⟩:=r;exact⟨_,.int i t⟩
 |.str x,_,u,_,h,r=>by
  unfold Is at h;subst h;obtain⟨t,rfl⟩:=r;exact⟨_,.str x t⟩
 |.list l,_,u,z,h,r=>by
  obtain⟨a,xs,rfl,q,p⟩:=h.lst_inv;cases r;obtain⟨its,rv,pl,_⟩:=I.list q;obtain⟨o,ho,hc,n,hd⟩:=pl.isList;obtain⟨as,ra⟩:=Iss.reads I (by simpa[Qep]using z) p rv;exact⟨_,.list ho hc hd (by rw[J0];exact ra)⟩
 |.tuple l,_,u,z,h,r=>by
  obtain⟨a,xs,rfl,q,p⟩:=h.tup_inv;cases r;obtain⟨its,rv,pl,_⟩:=I.tuple q;obtain⟨o,ho,hc,n,hd⟩:=pl;obtain⟨as,ra⟩:=Iss.reads I (by simpa[Qep]using z) p rv;exact⟨_,.tuple ho hc hd (by rw[J0];exact ra)⟩
 |.dict _,_,u,z,h,r=>by simp[Qep]at z
def Iss.reads(I:Inv X pins σ H s):∀{l:List Qh}{xs:List V}{us:List Value},Qfa l=true->Iss X.K H l xs->Vals xs us ->∃as,ReadsAll s.heap us l as
 |[],_,us,_,h,r=>by
  rw[h.nil_inv]at r;cases r;exact⟨_,.nil⟩
 |d::l,_,us,z,h,r=>by
  have z':d.canLay0=true/\Qfa l=true:=by simpa[Qfa]using z
  obtain⟨x,y,rfl,p,q⟩:=h.cons_inv;cases r with
  |cons r1 r2 =>
   obtain⟨as,ra⟩:=Is.reads I z'.1 p r1;obtain⟨bs,rb⟩:=Iss.reads I z'.2 q r2;exact⟨_,.cons ra rb⟩
end
end
section
variable{X:Cx}
def xei(K:Qa):R2:=λx y H Q =>∃d e,Is K H d x/\Is K H e y/\Jm d=true/\Jm e=true/\Q (.bl (Yx d e)) H
def xdi(K:Qa):R2:=λx y H Q =>∃d e,Is K H d x/\Is K H e y/\Jm d=true/\Jm e=true/\Q (.bl (!PyData.eqv d e)) H
def zwi(hu:X.A.units+64<cLine):OpR X (Zs .Eq) (xei X.K):=by
 intro pins s σ H x y v u Q I rx ry h;obtain⟨d,e,h1,h2,z1,z2,q⟩:=h;obtain⟨as,ra⟩:=Is.reads I (Jq.mp z1).1 h1 rx;obtain⟨bs,rb⟩:=Is.reads I (Jq.mp z2).1 h2 ry;exact SeqAt.compareEq_shaped ra rb z1 z2 hu ⟨.bl (Yx d e),H,I,rfl,q⟩
def zxb(hu:X.A.units+64<cLine):OpR X (Zs .NotEq) (xdi X.K):=by
 intro pins s σ H x y v u Q I rx ry h;obtain⟨d,e,h1,h2,z1,z2,q⟩:=h;obtain⟨as,ra⟩:=Is.reads I (Jq.mp z1).1 h1 rx;obtain⟨bs,rb⟩:=Is.reads I (Jq.mp z2).1 h2 ry;exact SeqAt.compareNe_shaped ra rb z1 z2 hu ⟨.bl (!PyData.eqv d e),H,I,rfl,q⟩
def ztd:OpR X (Jn .Mult) (rI IntMulOk λi j => .int (i*j)):=opI λ_ _ _ _ _ _ _ hc q=>mul_int q hc
def zvs(_ j:Int):Prop:=j≠0/\Qbh j<=9000
def zaq:OpR X (Jn .FloorDiv) (rI zvs λi j => .int (i.fdiv j)):=opI λi j _ _ _ _ _ hc q=>by
 refine floordiv_int hc.1 q (.inl (PyProof.noPylong_of_log2 ?_));have h:=hc.2;unfold Qbh at h;rw[if_neg (by simpa using hc.1)]at h;omega
def zzu(K:Qa):R2:=λx y H Q =>∃a b xs zs,x = .ref a/\y = .ref b/\SqL K H a xs/\SqL K H b zs/\xs.length+zs.length<=Qo /\
 ∀p,H p=none->Q (.ref p) (upd H p (.lst (xs++zs)))
def zga:OpR X (Jn .Add) (zzu X.K):=by
 intro pins s σ H x y v u Q I rx ry h;obtain⟨a,b,xs,zs,rfl,rfl,hA,hB,hz,q⟩:=h;cases rx;cases ry;obtain⟨its,r,pl,z1⟩:=I.list hA;obtain⟨its2,r2,pl2,z2⟩:=I.list hB;have l1:=r.length;have l2:=r2.length;obtain⟨⟨cls,dd,data,sl⟩,ho,hc,n,hd⟩:=pl.isList;obtain⟨⟨cls2,dd2,data2,sl2⟩,ho2,hc2,n2,hd2⟩:=pl2.isList;simp only at hc hd hc2 hd2;subst hc hd hc2 hd2;have e:its.toArray++its2.toArray=(its++its2).toArray:=by simp
 refine Qjr ⟨_,ho,rfl⟩ ⟨_,ho2,rfl⟩ noFill_list_add seq_list_add PySem.F.slot_list_add PySem.F.entry_list_add (PySem.F.args_list_add_2 _ _) (list_addW a b its.toArray its2.toArray n n2 dd dd2 sl sl2 (by grind)) ⟨ho,ho2,?_⟩;rw[e];exact⟨.ref _,_,I.lnew (t':=s.toks) (r.append r2) (by grind),rfl,q _ I.fresh⟩
def tyD:Qh->String
 |.none => "NoneType"
 |.bool _ => "bool"
 |.int _ => "int"
 |.str _ => "str"
 |.list _ => "list"
 |.tuple _ => "tuple"
 |.dict _ => "dict"
def zmp{σ:St}(I:Inv X pins σ H s)(hd:Is X.K H d x)(rx:RelV x u)(e:Qs X.K (.type (tyD d)) c=some b)(h:∀tk,Q (.bool b) { s with toks:=tk }):
  wpAny (model X.prog X.w) A (call (.builtin "isinstance") [u,c]) Q E s:=by
  cases d with
  |none=>rw[hd.non_inv]at rx;cases rx;exact V0 Qiv I.kIn Vh e (λz=>nomatch z) h
  |bool y=>rw[hd.bl_inv]at rx;cases rx;exact V0 Qiw I.kIn Vh e (λz=>nomatch z) h
  |int i=>rw[hd.int_inv]at rx;obtain⟨t,rfl⟩:=rx;exact V0 Qjx I.kIn Vh e (λz=>nomatch z) h
  |str y =>
   unfold Is at hd;subst hd;obtain⟨t,rfl⟩:=rx;exact V0 Qjy I.kIn Vh e (λz=>nomatch z) h
  |list l =>
   obtain⟨a,xs,rfl,q,_⟩:=hd.lst_inv;cases rx;obtain⟨its,_,pl,_⟩:=I.list q;obtain⟨o,ho,hc,_⟩:=pl.isList;exact V0 Qix I.kIn ⟨o,ho,hc⟩ e (λz=>nomatch z) h
  |tuple l =>
   obtain⟨a,xs,rfl,q,_⟩:=hd.tup_inv;cases rx;obtain⟨its,_,pl,_⟩:=I.tuple q;obtain⟨o,ho,hc,_⟩:=pl;exact V0 Qie I.kIn ⟨o,ho,hc⟩ e (λz=>nomatch z) h
  |dict l =>
   obtain⟨a,rfl,⟨kvs,q,_⟩|⟨xs,q,_⟩⟩:=hd.dct_inv
   ·cases rx;obtain⟨_,_,vs,_,p⟩:=(show ObjOk X.prog X.w H s.heap a (.dK kvs) from I.hok a _ q)
    obtain⟨o,es,ep,h1,h2,_⟩:=p;exact V0 Qcl I.kIn ⟨o,h1,h2.1⟩ e (λz=>nomatch z) h
   ·cases rx;obtain⟨⟨_,es,ep,⟨o,h1,h2,_⟩,_⟩,_⟩:=(show ObjOk X.prog X.w H s.heap a (.ext (DX a xs)) from I.hok a _ q)
    exact V0 Qcl I.kIn ⟨o,h1,h2.1⟩ e (λz=>nomatch z) h
def xew(K:Qa):List V->Hp->VK->Prop:=λxs H Q =>∃d x n b,xs=[x,.ty n]/\Is K H d x/\Qs K (.type (tyD d)) (.type n)=some b/\Q (.bl b) H
def zmf:CallR X (.builtin "isinstance") (xew X.K):=by
 intro pins s σ H xs us Q I r h;obtain⟨d,x,n,b,rfl,hd,e,q⟩:=h;obtain⟨u,c,rfl,rx,rc⟩:=zjs r;cases rc;exact zmp I hd rx e λtk=>⟨.bl b,H,I.tok tk,rfl,q⟩
def Iss.atI{K:Qa}(h:Iss K H l xs)(e:L2.atI l i=some d):∃x,L2.atI xs i=some x/\Is K H d x:=by
 unfold L2.atI at e ⊢;rw[h.len];cases q:ixN l.length i with
 |none=>grind
 |some j =>
  rw[q]at e;exact h.get e
end
def Ite(K:Qa)(a:Addr):It :=
 ⟨λi H =>∃xs x,SqL K H a xs/\xs[i]?=some x,λi H v H' =>∃p x,(∀xs,SqL K H a xs->xs[i]?=some x)/\H p=none/\v = .ref p/\H'=upd H p (.tup [.int i,x]),λi H =>∃xs,SqL K H a xs/\xs.length<=i⟩
def zjk{K:Qa}(a e it:Addr)(hne:e≠it):
 Turn P w K (.Tuple elts x1 tpos) (Ite K a) [e,it] e (λi h=>(∃old,IsEnum h e it (i:Nat) old)/\h.IsListIter it a i) where
  mem:=by simp
  obj:=λi h st b hb=>by
   obtain⟨⟨old,s1⟩,s2⟩:=st;have hb':b=e\/b=it:=by grind
   rcases hb' with rfl|rfl
   ·grind
   ·obtain⟨o,q,c,d⟩:=s2;grind
  keep:=λi h h' st k=>by
   obtain⟨⟨old,s1⟩,s2⟩:=st;exact⟨⟨old,k e (by simp) _ s1⟩,s2.at λo q=>k it (by simp) o q⟩
  item:=by
   intro X hP hw hK hc i pins s σ H E I hf st hg;subst hP hw hK;obtain⟨xs,x,hq,hx⟩:=hg;obtain⟨its,rv,p,hz⟩:=I.list hq;obtain⟨u,hu,ru⟩:=rv.get hx;obtain⟨⟨old,s1⟩,s2⟩:=st;obtain⟨f0,f1,f2,f3,f4,f5⟩:=hf e (by simp);obtain⟨g0,g1,g2,g3,g4,g5⟩:=hf it (by simp);have hel:e<s.heap.objs.size:=Qm s1;refine wpAny_pyNext_enum_item s1 s2 p.isList (x:=u) (by grind) hne λh₁ ho hi ht hz₁ hk=>⟨_,rfl,?_⟩
   refine wpAny_letOwnedTupleGo_enum (s:={ s with heap:=h₁,toks:=s.toks+1 }) ho λh₂ he₂ hs₂=>?_;replace hs₂:Y4 e h₁ h₂:=hs₂
   have fresh:H s.heap.objs.size=none:=I.hok.fresh (Qn _);have kk:∀b o,b≠e->b≠it->s.heap.get? b=some o->h₂.get? b=some o:=λb o b1 b2 q=>hs₂.extBut b o b1 (hk b o b1 b2 q);have nb:∀b v,H b=some v->b≠e/\b≠it:=λb v q=>⟨λz=>(by grind),λz=>(by grind)⟩
   have ht₂:h₂.get? s.heap.objs.size=some { cls :=.type "tuple",data :=.seq #[.int i s.toks,u] }:=(hs₂.2 _ (Z6 hel)).trans ht;have I1:Inv X pins σ (upd H s.heap.objs.size (.tup [.int i,x])) { s with heap:=h₂,toks:=s.toks+1 }:=by
    refine I.step (g':=s.gens) (d':=s.drawn) (ch:=[e,it]) (λb hb=>?_) (λb o _ _ hc q _=>kk b o (λz=>hc (by simp[z])) (λz=>hc (by simp[z])) q)
     (λb o _ _ hc q _=>⟨o.slots,kk b o (λz=>hc (by simp[z])) (λz=>hc (by simp[z])) q⟩) (λb o _ q n=>by rw[qo (Q3 (Qm q))];exact n)
     (λb o hc q=>⟨o,kk b o (λz=>hc (by simp[z])) (λz=>hc (by simp[z])) q⟩) (λb ys q=>by rw[qo (qq q fresh)];exact q) (λb o v q=>by rw[qo (qq q fresh)];exact q)
     (λb ps q=>⟨#[],by rw[qo (qq q fresh),q];simp,.nil⟩) (λm hm=>?_) (λb v q=>?_) I.bare
    ·have hb':b=e\/b=it:=by simpa using hb
     rcases hb' with rfl|rfl
     ·exact⟨f3,f1,f4,f5⟩
     ·exact⟨g3,g1,g4,g5⟩
    ·obtain⟨o,es,ep,ho',r⟩:=hm;exact⟨o,es,ep,kk _ o (Y9 f1) (Y9 g1) ho',r⟩
    ·by_cases hb:b=s.heap.objs.size
     ·subst hb;rw[qp]at q;cases q;exact⟨(by show 2<=Qo;decide),[.int i s.toks,u],.cons ⟨s.toks,rfl⟩ (.cons ru .nil),⟨_,ht₂,rfl,_,rfl⟩⟩
     ·rw[qo hb]at q;refine(I.hok b v q).stay (λc ob hc z=>?_) (λc z=>by rw[qo (qq z fresh)];exact z) λc ys z=>by rw[qo (qq z fresh)];exact z
      rcases hc with hc|hc
      ·subst hc;exact kk _ _ (nb _ _ q).1 (nb _ _ q).2 z
      ·exact kk _ _ (nb _ _ hc).1 (nb _ _ hc).2 z
   refine⟨.ref s.heap.objs.size,_,I1,rfl,⟨s.heap.objs.size,x,λys hy=>by rw[I.list_inj hy hq];exact hx,fresh,rfl,rfl⟩,⟨⟨u,?_⟩,?_⟩,λb hb=>?_⟩
   ·have e1:((i+1:Nat):Int)=(i:Int)+1:=by push_cast;rfl
    rw[e1];exact he₂
   ·exact hi.extBut hs₂.extBut (Y9 hne)
   ·have hb':b=e\/b=it:=by simpa using hb
    have hlt:b<s.heap.objs.size:=by
     rcases hb' with rfl|rfl
     ·exact hel
     ·obtain⟨o,q,_⟩:=s2;exact Qm q
    rw[qo (Q3 hlt)];exact(hf b hb).1
  done:=by
   intro X hP hw hK hc i pins s σ H E I hf st hg;subst hP hw hK;obtain⟨xs,hq,hx⟩:=hg;obtain⟨its,rv,p,hz⟩:=I.list hq;obtain⟨⟨old,s1⟩,s2⟩:=st;obtain⟨g0,g1,g2,g3,g4,g5⟩:=hf it (by simp);have hl:=rv.length;exact wpAny_pyNext_enum_end (I.ok.hd hc) s1 s2 p.isList (by simp;omega) λh' eb=>⟨rfl,I.turned (t':=s.toks) (λb o hb q=>eb b o hb q) g0 g1 g3 g4 g5⟩
  self:=λA i s Q E st h=>by
   obtain⟨⟨old,s1⟩,s2⟩:=st;exact wpAny_pyIter_enum s1 h
section
variable{X:Cx}{elts:List Expr}{x1:Nat}{tpos:Pos}
def zzh(K:Qa)(ta:TA):TI:=λσ H R=>ta σ H λvs H1 =>∃a,vs=[.ref a]/\(∃xs,SqL K H1 a xs)/\R (Ite K a) H1
def zro(hg:Gl X "enumerate")(hm:X.mg "enumerate" = none)(ha:PA X [a] ta)(hs:Qi [a] X.env=[(false,eval a X.env)]:=by rfl):
 PI X (.Tuple elts x1 tpos) (.Call (.Name "enumerate" p) [a] [] pos) (zzh X.K ta):=by
 intro pins s σ H R I h;refine Call_ (qli I hg hm boot_enumerate (Jd (thn (ha pos pins s σ H _ I h) λus s1 xx55=>?_) hs rfl));obtain⟨vs,H1,I1,r1,q1⟩:=xx55;obtain⟨l,e,⟨xs,hq⟩,q⟩:=q1;subst e;cases r1 with
 |cons r rr =>
  cases rr;cases r;obtain⟨its,rv,pl,hz⟩:=I1.list hq;refine call_enumerate_list pl.isList λh' he hi hz' hk=>?_;refine wpAny_pyIter_enum he ?_;have I2:Inv X pins σ H1 { s1 with heap:=h' }:=I1.kept (t':=s1.toks) hk;refine⟨s1.heap.objs.size+1,[s1.heap.objs.size+1,s1.heap.objs.size],_,_,H1,rfl,I2,zjk l _ _ (Nat.succ_ne_self _),⟨⟨_,he⟩,hi⟩,λb hb=>?_,q⟩;have hb':b=s1.heap.objs.size+1\/b=s1.heap.objs.size:=by simpa using hb
  have hle:s1.heap.objs.size<=b:=by
   rcases hb' with rfl|rfl
   ·exact Qkm _
   ·exact Qn _
  exact I1.fpOk hle (I1.hok.fresh hle)
end
def szl{α:Type}{l:List α}(h:decide (l.length<=1000)=true:=by rfl):l.length<=Qo:=Vy (qx (of_decide_eq_true h))
theorem qil(i j:Int):Yx (.int i) (.int j)=(i==j):=by simp only[Yx]
def qey{A B:Prop}(h1:i≠j->A)(h2:i=j->B):if(!PyData.eqv (.int i) (.int j))=true then A else B:=by
 grind[qil]
def qsv{A B:Prop}(h1:i=j->A)(h2:i≠j->B):if(Yx (.int i) (.int j))=true then A else B:=by
 grind[qil]
def qod{p A B:Prop}[Decidable p](h1:p->A)(h2 : ¬ p->B):if decide p=true then A else B:=by
 grind
def zaa{ns:LI}{i:Int}(h0:0<=i)(h1:i<ns.length):∃n,L2.atI (ns.map Yp) i=some (.int n):=by
 have hi:i.toNat<ns.length:=by omega
 refine⟨ns[i.toNat],?_⟩;grind[qK,Qdu]
def boot_abs:Zj "abs" = some (.builtin "abs"):=by decide +kernel
def boot_len:Zj "len" = some (.builtin "len"):=by decide +kernel
def qbx:Zj "isinstance" = some (.builtin "isinstance"):=by decide +kernel
def boot_int:Zj "int" = some (.type "int"):=by decide +kernel
def boot_bool:Zj "bool" = some (.type "bool"):=by decide +kernel
def boot_str:Zj "str" = some (.type "str"):=by decide +kernel
def boot_tuple:Zj "tuple" = some (.type "tuple"):=by decide +kernel
def boot_list:Zj "list" = some (.type "list"):=by decide +kernel
section
variable{K:Qa}
end
structure Def(K:Qa)(mg:Str->Option Value)(x:Str)(st:Stmt)(ps:List Str):Prop where
 ex:∃(f:Addr)(fd:J5),Fun K x x st f fd/\mg x=some (.ref f)/\Binds K fd ps []
structure Ok(P:Zk)(w:World)(K:Qa)(mg:Str->Option Value)(base:Heap)(x:Str)(k:Nat)(ps:List Str)(sp:Sp):Prop where
 ex:∃(f:Addr)(fd:J5),FnOk P w K mg base CX0 k f fd ps sp/\mg x=some (.ref f)/\Z4 K (.ref f)=true/\Binds K fd ps []
section
variable{P:Zk}{w:World}{K:Qa}{mg:Str->Option Value}{base:Heap}
def Def.ok{st:Stmt}(F:Def K mg x st ps)(S:FnScope N ps (defScope st))(len:∀vs H Q E,sp vs H Q E->vs.length=ps.length)(hbody:∀(f:Addr)(cdv:Value)(A:Z1)(outer:List Env)(s:Ql)(H:Hp)(vs:List V)(Q:VK)(E:XK),Room k (A.deeper (Qbo x (defScope st) s.heap.objs.size f cdv))->sp vs H Q E ->
 ∃t,PSs (qbv CX0 P w K mg base N x (defScope st) f cdv A outer s H E).nox (defBody st) t/\t { nx:=λ_ H'=>Q .non H',rt:=Q } (start N vs) H):Ok P w K mg base x (k+1) ps sp:=by
  obtain⟨f,fd,Fn,hm,hb⟩:=F.ex;exact⟨f,fd,Fn.ok S len (hbody f),hm,Fn.kp,hb⟩
end
section
variable{X:Cx}{x:Str}{k:Nat}{ps:List Str}{sp:Sp}{p pos:Pos}{e:Expr}{es:List Expr}{t:TA}
structure OkC(X:Cx)(x:Str)(k:Nat)(ps:List Str)(sp:Sp):Prop where
 ex:∃sp0,Ok X.prog X.w X.K X.mg X.base x k ps sp0 /\ ∀(pins:List (Addr×Obj))(σ:St)(H:Hp)(s:Ql)(vs:List V)(Q:VK)(E:XK),Inv X pins σ H s->sp vs H Q E->sp0 vs H Q E
def Ok.c(O:Ok X.prog X.w X.K X.mg X.base x k ps sp):OkC X x k ps sp:=⟨sp,O,λ_ _ _ _ _ _ _ _ h=>h⟩
def qxk(O:OkC X x k ps sp)(hr:Room k X.A)(ha:PA X (e::es) t)(hg:Gl X x:=by rfl)(hdb:Nd0 x:=by decide)(he:Qi (e::es) X.env=(false,eval e X.env)::Qi es X.env:=by rfl)(hpl:(Z5 pos (Qi es X.env)).any (·.1)=false:=by rfl):PE X (.Call (.Name x p) (e::es) [] pos) (qjr sp [] E0 t):=by
 obtain⟨sp0,⟨f,fd,F,hm,hk,hb⟩,up⟩:=O.ex;intro pins s σ H Q I h;refine V5 (qdt I hg hm ?_ hdb);refine Qbu (h₀:=X.base) I.ok.mod.kin hk (thn (ha pos pins s σ H _ I h) λus s1 ⟨vs,H1,I1,r,q⟩=>⟨I1.kIn,?_⟩) he hpl;exact zyr F hr hb .nil zuu I1 r (up _ _ _ _ _ _ _ I1 q)
def quc{apos cpos:Pos}(ho:PE X o to)(he:PE X e te)(hbase:Z2 o "append" X.env (eval o X.env)=eval o X.env:=by rfl)(hfew:((Z5 cpos (Qi [e] X.env)).all (λx => !x.1)&&(Qai cpos (Ve [] X.env)).all (λx=>x.1.isSome)
  && decide ([e].length+([]:List Jj).length+(if([]:List Jj).isEmpty then 0 else 1)<30))=true:=by rfl)(hline:(apos.endLine==cpos.line)=true:=by rfl)(hs:Qi [e] X.env=(false,eval e X.env)::Qi [] X.env:=by rfl)(hplain:(Z5 cpos (Qi [] X.env)).any (·.1)=false:=by rfl):
 PE X (.Call (.Attribute o "append" apos) [e] [] cpos) (tBM X.K "list" qwj to (zcw te ztm)) :=
 qtw Qfp Qfb PySem.F.type_list_append zhb ho (qF he qar hs) hbase hfew hline hs hplain
end
section
variable{M:Model}{Γ:PySem.Ctx}{s:Ql}{a:Addr}{o:Obj}{vs:Array Value}{i:Nat}{v:Value}{p:Pos}
def qdi(h:s.heap.get? a=some o)(d:o.data = .fields vs)(x:vs[i]?=some v):Sem.wp M Γ (field (.ref a) i) Q E p s=Q v p s:=by
 unfold field fieldsOf;simp only[Qbm];rw[Qlf _ _ _ _ _ h,d,Sem.wp_pure',x,Sem.wp_pure']
def qfx(h:s.heap.get? a=some o)(d:o.data = .fields vs)(x:i<vs.size):Sem.wp M Γ (setField (.ref a) i v) Q E p s=Q () p { s with heap:=s.heap.update a (Z0 λy=>y.setIfInBounds i v) }:=by
 unfold setField updateField;simp only[Qbm];rw[Qlf _ _ _ _ _ h,d];simp only[if_pos x];unfold update;rw[Sem.wp_update,Sem.wp.eq_1,h];simp
end
def zhq(h:Heap)(T:Addr)(i:Nat)(v:Value):(h.update T (Z0 λy=>y.setIfInBounds i v)).update T (Z0 λy=>y.setIfInBounds i v)=h.update T (Z0 λy=>y.setIfInBounds i v):=by
 cases h with
 |mk objs l =>
  show(⟨_,_⟩:Heap)=⟨_,_⟩
  congr 1
  apply Array.ext
  ·simp
  ·intro j h1 h2;simp only[Array.getElem_modify];split
   ·rename_i z;generalize objs[j]'_=ob;cases ob with
    |mk c d dt sl=>cases dt <;> simp[Z0]
   ·rfl
def MarkW(base:Heap)(l:List Env)(e:Addr)(cls a0 fl:Value)(h:Heap):Prop:=base.StaysIn h/\base.get? e=none/\h.FunFrames base l/\h.TracedAtW base e cls a0 fl
def MarkW.of_held{e L:Addr}(x:base.HeldW l e cls a0 L h):MarkW base l e cls a0 (Qay L) h:=x
section
variable{M:Model}{A:Z1}{E:Value->Ql->Prop}{s:Ql}{base:Heap}{env:Env}{outer:List Env}{L e:Addr}{cls a0 fl:Value}{Q:Unit->Ql->Prop}
def UpToSlots.refl(h:Heap):h.UpToSlots h:=λb o e _=>⟨o.slots,e⟩
def qkg(m:MarkW base l e cls a0 fl s.heap)(w:Value):∃T oT ts oe vs,(s.heap.get? e=some oe/\oe.data = .fields vs/\vs[1]?=some (.ref T)/\T≠e)/\(s.heap.get? T=some oT/\oT.data = .fields ts/\ts[3]?=some fl) /\
 MarkW base l e cls a0 w (s.heap.update T (Z0 λy=>y.setIfInBounds 3 w))/\s.heap.UpToSlots (s.heap.update T (Z0 λy=>y.setIfInBounds 3 w)):=by
  obtain⟨st,be,ff,oe,vs,T,oT,ts,h1,h2,h3,h4,h5,h6,h7,h8,h9⟩:=m;have up:s.heap.UpToSlots (s.heap.update T (Z0 λy=>y.setIfInBounds 3 w)):=by
   intro b o q nf;by_cases z:T=b
   ·subst z;rw[h7]at q;cases q;exact absurd h8 (nf _)
   ·exact⟨o.slots,by rw[Yh _ _ z];exact q⟩
  refine⟨T,oT,ts,oe,vs,⟨h1,h3,h4,h6⟩,⟨h7,h8,h9⟩,⟨λb o q=>?_,be,?_,?_⟩,up⟩
  ·rw[Yh _ _ (λz=>by rw[<- z,h5]at q;cases q)];exact st b o q
  ·exact Qlq (λb o q nf=>by obtain⟨sl,z⟩:=up b o q nf;exact⟨_,z,rfl⟩) ff
  ·refine⟨oe,vs,T,Z0 (λy=>y.setIfInBounds 3 w) oT,ts.setIfInBounds 3 w,?_,h2,h3,h4,h5,h6,?_,V3 h8 _,?_⟩
   ·rw[Yh _ _ h6];exact h1
   ·exact Vz _ h7 (Qaj (V3 h8 _))
   ·have:3<ts.size:=(Jf.mp h9).1;simp[Qdk,this]
def zao(hA:A.frames=some (env::outer))(hL:env.frame=some L)(m:MarkW base (env::outer) e cls a0 fl s.heap)(q:∀h',base.HeldW (env::outer) e cls a0 L h'->s.heap.UpToSlots h'->Q () { s with heap:=h' }):wpAny M A (Qcz (.ref e) env) Q E s:=by
 by_cases hf:fl=Qay L
 ·subst hf;exact wpAny_noteFrame_againW hL m.2.2.2 (q _ m (UpToSlots.refl _))
 obtain⟨T,oT,ts,oe,vs,⟨h1,h3,h4,h6⟩,⟨h7,h8,h9⟩,m1,up⟩:=qkg m .none;have H1:wpAny M A (Qcz (.ref e) env) Q E { s with heap:=s.heap.update T (Z0 λy=>y.setIfInBounds 3 .none) }:=wpAny_looks_onW hA hL m1 λh' hd u2=>q h' hd λb o qb nf=>by
  obtain⟨sl,z⟩:=up b o qb nf;obtain⟨sl2,z2⟩:=u2 b _ z nf;exact⟨sl2,z2⟩
 intro Γ p hΓ;have K:=H1 Γ p hΓ;unfold Qcz at K ⊢;rw[hL]at K ⊢;simp only[Qbm]at K ⊢;have c1:(Zo T != Yn)=true:=by rfl
 have c2 : ¬ ((Yn==Qay (L:Int))=true):=by intro z;exact Qiy (eq_of_beq z)
 have c3 : ¬ ((fl==Qay (L:Int))=true):=λz=>hf (eq_of_beq z);have l3:3<ts.size:=(Jf.mp h9).1;have k1:(s.heap.update T (Z0 λy=>y.setIfInBounds 3 .none)).get? e=some oe:=by rw[Yh _ _ h6];exact h1
 have d7:=V3 h8 (λy=>y.setIfInBounds 3 Yn);have k7:(s.heap.update T (Z0 λy=>y.setIfInBounds 3 .none)).get? T=some (Z0 (λy=>y.setIfInBounds 3 .none) oT):=Vz _ h7 (Qaj d7);have k9:(ts.setIfInBounds 3 Yn)[3]?=some Yn:=by simp[Qdk,l3]
 rw[qdi (s:={ s with heap:=s.heap.update T (Z0 λy=>y.setIfInBounds 3 .none) }) k1 h3 h4,if_pos c1,Qbm,qdi (s:={ s with heap:=s.heap.update T (Z0 λy=>y.setIfInBounds 3 .none) }) k7 d7 k9,if_neg c2,Qbm,qfx (s:={ s with heap:=s.heap.update T (Z0 λy=>y.setIfInBounds 3 .none) }) k7 d7 (by simpa using l3)]at K;rw[qdi h1 h3 h4,if_pos c1,Qbm,qdi h7 h8 h9,if_neg c3,Qbm,qfx h7 h8 l3];rw[zhq]at K;exact K
end
section
variable{M:Model}{A:Z1}{E:Value->Ql->Prop}{s:Ql}{base:Heap}{env:Env}{outer l:List Env}{L e:Addr}{cls a0 fl:Value}
def UpToSlots.tr{h h' h'':Heap}(a:h.UpToSlots h')(b:h'.UpToSlots h''):h.UpToSlots h'':=λc o q nf=>by
 obtain⟨sl,z⟩:=a c o q nf;obtain⟨sl2,z2⟩:=b c _ z nf;exact⟨sl2,z2⟩
def qre(m:MarkW base l e cls a0 fl s.heap)(q:∀h',MarkW base l e cls a0 (fr.elim .none λf=>Qay f) h'->s.heap.UpToSlots h'->Q () { s with heap:=h' }):wpAny M A (setFlight (.ref e) fr) Q E s:=by
 obtain⟨T,oT,ts,oe,vs,⟨h1,h3,h4,h6⟩,⟨h7,h8,h9⟩,m1,up1⟩:=qkg m (fr.elim .none λf=>Qay f);unfold setFlight;refine Qe (Y3 h1 h3 h4 ?_);rw[if_pos (show(Zo T != Yn)=true by rfl)];exact Qct h7 h8 (Jf.mp h9).1 (q _ m1 up1)
def zhg(hA:A.frames=some (env::outer))(hL:env.frame=some L)(m:MarkW base (env::outer) e cls a0 fl s.heap)(q:∀h',base.FlyingW outer e cls a0 h'->s.heap.UpToSlots h'->Q () { s with heap:=h' }):wpAny M A (leaving env (.ref e)) Q E s:=by
 unfold leaving;refine Qe (zao hA hL m λh1 hd up=>?_);exact qre (s:={ s with heap:=h1 }) (fr:=none) (MarkW.of_held hd) λh' m' up'=>q h' ⟨m'.1,m'.2.1,m'.2.2.1.2.2,m'.2.2.2⟩ (UpToSlots.tr up up')
def zmu{Q:α->Ql->Prop}(m:MarkW base l e cls a0 fl s.heap)(q:∀h',MarkW base l e cls a0 (cenv.frame.elim .none λf=>Qay f) h'->s.heap.UpToSlots h'->E (.ref e) { s with heap:=h' }):wpAny M A (Qlw what (.ref e) cenv) Q E s:=by
 obtain⟨T,oT,ts,oe,vs,⟨h1,h3,h4,h6⟩,_⟩:=qkg m .none;unfold Qlw;refine Qe (Y3 h1 h3 h4 ?_);rw[if_neg (show ¬ ((Zo T==Yn)=true) by intro z;exact Qiy (eq_of_beq z))];exact Qe (qre m λh' m' up=>Qld (q h' m' up))
def zcf(h:env.frame=env'.frame):Qcz v env=Qcz v env':=by
 unfold Qcz PySem.frameOf;rw[h]
def MarkW.hide(m:MarkW base l e cls a0 fl h)(sb:Y4 C h h')(ne:C≠e)(nC:∀o,h.get? C=some o ->∀vs,o.data≠.fields vs)(nf:∀env∈l,env.frame≠some C):MarkW (Js base [C]) l e cls a0 fl h':=by
 obtain⟨st,be,ff,oe,vs,T,oT,ts,h1,h2,h3,h4,h5,h6,h7,h8,h9⟩:=m;have hid:∀{b:Addr},base.get? b=none->(Js base [C]).get? b=none:=λ{b} z=>by
  cases q:(Js base [C]).get? b with
  |none=>rfl
  |some o=>rw[Qaf _ q]at z;cases z
 have neT:T≠C:=λz=>nC oT (z▸h7) ts h8;refine⟨λb o q=>?_,hid be,?_,oe,vs,T,oT,ts,by rw[sb.2 e (Y9 ne)];exact h1,h2,h3,h4,hid h5,h6,by rw[sb.2 T neT];exact h7,h8,h9⟩
 ·have hb:b≠C:=λz=>by rw[z,Qhj [C] (by simp)]at q;cases q
  rw[sb.2 b hb];exact st b o (Qaf _ q)
 ·clear h1 h3 h4 h7 h8 h9
  induction l with
  |nil=>exact trivial
  |cons en l ih =>
   obtain⟨k1,⟨L,o,k2,k3,k4,k5⟩,k6⟩:=ff;refine⟨k1,⟨L,o,k2,hid k3,?_,k5⟩,ih (λx hx=>nf x (by simp[hx])) k6⟩;rw[sb.2 L (λz=>nf en (by simp) (by rw[k2,z]))];exact k4
end
def CXI(X:Cx)(pins:List (Addr×Obj))(σ:St)(E:XK)(e:Value)(s':Ql):Prop :=∃(ea C:Addr)(a0 fl:Value)(B:Heap)(H':Hp)(s1:Ql),e = .ref ea/\MarkW B X.stack ea (.ref C) a0 fl s'.heap/\Inv X pins σ H' s1/\(s'.os=s1.os/\Qea s'.gens)/\B.StaysIn s1.heap /\
 (∀b o,(b∈frs X.stack\/b=X.env.locals)->s1.heap.get? b=some o->(∀vs,o.data≠.fields vs) ->∃sl,s'.heap.get? b=some { o with slots:=sl }) /\
 (∀b u,H' b=some u ->∃o,B.get? b=some o)/\(∀b o,X.s₀.heap.get? b=some o->b∉X.fs->b∉X.ex ->∃o',B.get? b=some o')/\E (.ref C) none H'
def PassesI(X:Cx)(σ:St)(E:XK):Prop :=∀pins e s',CXI X pins σ E e s'->X.xe e s'
section
variable{X:Cx}{pins:List (Addr×Obj)}{σ:St}{H:Hp}{s s':Ql}{E:XK}{e:Value}
def zlq{E1:Value->Ql->Prop}(h:CXI X pins σ E e s')(hs:X.stack=qha::outer0)(h0:qha.frame=some L)(hc:cenv.frame=some L)(hA:A.frames=some X.stack)(q:∀h',CXI X pins σ E e { s' with heap:=h' }->s'.heap.UpToSlots h'->Q e { s' with heap:=h' }):Qae (model X.prog X.w) A cenv Q e s':=by
  obtain⟨ea,C,a0,fl,B,H',s1,rfl,m,I,os,st,sl,tB,old,ex⟩:=h;show wpAny _ _ (Qcz (.ref ea) cenv) _ _ _;rw[zcf (env':=qha) (by rw[hc,h0])];rw[hs]at hA m;refine zao hA h0 m λh' hd up=>q h' ⟨ea,C,a0,Qay L,B,H',s1,rfl,?_,I,os,st,λb o hb z nf=>?_,tB,old,ex⟩ up
  ·rw[hs];exact hd
  ·obtain⟨s2,z2⟩:=sl b o hb z nf;obtain⟨s3,z3⟩:=up b _ z2 nf;exact⟨s3,z3⟩
end
def qoo(cells:List (Str×Addr)):List (Str×Qbe)->List (Str×Addr)->List (Str×Addr)
 |[],acc=>acc
 | (n,k)::r,acc=>if(k == .free)=true then(match cells.lookup n with|some c=>qoo cells r ((n,c)::acc)|none=>qoo cells r acc)else qoo cells r acc
def qij:∀{names:List (Str×Qbe)}{acc:List (Str×Addr)}{p:Str×Addr},p∈qoo cells names acc->p∈acc\/cells.lookup p.1=some p.2
 |[],acc,p,h => .inl h
 | (n,k)::r,acc,p,h=>by
  unfold qoo at h;split at h
  ·split at h
   ·rename_i c hc;rcases qij h with h|h
    ·grind
    grind
   ·exact qij h
  ·exact qij h
def qii:∀{names:List (Str×Qbe)}{acc:List (Str×Addr)}{x:Str},((∃c,(x,c)∈acc)\/((x,Qif)∈names /\ ∃c,cells.lookup x=some c)) ->∃c,(x,c)∈qoo cells names acc
 |[],acc,x,h=>by
  rcases h with h|h
  ·exact h
  grind
 | (n,k)::r,acc,x,h=>by
  unfold qoo;split
  ·rename_i hk;split
   ·rename_i c hc;refine qii ?_;grind
   ·rename_i hc;refine qii ?_;grind
  ·rename_i hk;refine qii ?_;grind
def qsu:∀{names:List (Str×Qbe)}{n:Nat}{acc:List (Str×Addr)},(V7 n names acc).lookup x=some c->(n<=c/\(x,Qar)∈names)\/acc.lookup x=some c
 |[],_,_,h => .inr h
 | (y,k)::r,n,acc,h=>by
  unfold V7 at h;split at h
  ·rename_i hk;rcases qsu h with⟨h1,h2⟩|h1
   ·grind
   grind
  ·rcases qsu h with⟨h1,h2⟩|h1
   ·grind
   grind
def zdz:∀{names:List (Str×Qbe)}{n:Nat}{acc:List (Str×Addr)},(x,Qar)∉names->(V7 n names acc).lookup x=acc.lookup x
 |[],_,_,_=>rfl
 | (y,k)::r,n,acc,h=>by
  have hr:(x,Qar)∉r:=λz=>h (Qt _ z);unfold V7;split
  ·rename_i hk;have hk':k = .cell:=by grind
   subst hk';have e:x≠y:=λz=>h (by rw[z];simp);have hb:(x==y)=false:=by simpa using e
   rw[zdz hr,Qbd,hb]
  ·exact zdz hr
def qrx{c lo:Nat}:∀{names:List (Str×Qbe)}{n:Nat}{acc:List (Str×Addr)},lo<=n->((x,Qar)∈names \/ ∃a,acc.lookup x=some a/\lo<=a)->(V7 n names acc).lookup x=some c->lo<=c
 |[],_,acc,_,h,e=>by
  rcases h with h|⟨a,h1,h2⟩
  ·simp at h
  ·have e:acc.lookup x=some c:=e;grind
 | (y,k)::r,n,acc,hn,h,e=>by
  unfold V7 at e;split at e
  ·rename_i hk;refine qrx (lo:=lo) (by omega) ?_ e;grind
  ·rename_i hk;refine qrx hn ?_ e;grind
def zdn{c:Addr}:∀{names:List (Str×Qbe)}{n:Nat}{acc:List (Str×Addr)},(∀z a,acc.lookup z=some a->a<n)->n<=c->(V7 n names acc).lookup x=some c->(V7 n names acc).lookup y=some c->x=y
 |[],n,acc,hA,hn,h,_=>absurd (hA x c h) (Y6.mpr hn)
 | (w,k)::r,n,acc,hA,hn,h,h'=>by
  unfold V7 at h h';split at h
  ·rename_i hk;rw[if_pos hk]at h';have hA':∀z a,((w,n)::acc).lookup z=some a->a<n+1:=λz a q=>by
    grind
   have at_n:∀z,((w,n)::acc).lookup z=some n->z=w:=λz q=>by
    grind
   by_cases e:c=n
   ·subst e;have a1:x=w:=by
     rcases qsu h with⟨q,_⟩|q
     ·grind
     grind
    have a2:y=w:=by
     rcases qsu h' with⟨q,_⟩|q
     ·grind
     grind
    rw[a1,a2]
   ·exact zdn hA' (Nat.lt_of_le_of_ne hn (Y9 e)) h h'
  ·rename_i hk;rw[if_neg hk]at h';exact zdn hA hn h h'
def qwq:∀{names:List (Str×Qbe)}{h:Heap}{acc:List (Str×Addr)},(V7 h.objs.size names acc).lookup x=some c->acc.lookup x=some c\/(Qfk h names).IsCell c none
 |[],_,_,e => .inl e
 | (y,k)::r,h,acc,e=>by
  unfold V7 at e;unfold Qfk;split at e
  ·rename_i hk;rw[if_pos hk];have e':(V7 (h.push { cls :=.type "cell",data :=.cell none }).objs.size r ((y,h.objs.size)::acc)).lookup x=some c:=by grind[Yf]
   rcases qwq e' with q|q
   ·rw[Qbd]at q;split at q
    ·have q:=Za q;subst q;exact .inr ⟨_,Qhb _ _ _ _ (Qq _ rfl),rfl⟩
    grind
   grind
  ·rename_i hk;rw[if_neg hk];exact qwq e
def zgz(hQ:Q (newEnv scope s.heap.objs.size globals (V7 (s.heap.objs.size+1) scope.names cl) qual none .none (some outer) Qdq) { s with heap:=Qfk (s.heap.push { cls :=.type "dict",data :=.dict #[] }) scope.names }):
  wpAny M A (Qhw scope globals cl [] qual none .none (some outer)) Q E s:=by
  simp only[Qhw,Qee,if_true];refine Qe (wpAny_alloc ?_);refine Qe (wpAny_layCells _ (λname kind cells=>by grind) _ _ _ _ ?_);rw[show({ s with heap:=s.heap.push { cls :=.type "dict",data :=.dict #[] } }:Ql).heap.objs.size=s.heap.objs.size+1 from Yf ..];rw[Qhs];exact Qe (Qx (Qx hQ))
structure CompScope(env:Env)(scope:Scope)(caps:List Str):Prop where
 clos:closureFor scope env=pure (qoo env.cells scope.names [])
 kind:scope.kind = .function
 cells:scope.names.all (λy => !(y.2 == .cell)||scope.names.lookup y.1==some .cell)=true
 names:scope.names.all (λy => !(y.2 == .local)||scope.names.lookup y.1==some .local)=true
 free:scope.names.all (λy => !(y.2 == .free)||(env.cells.lookup y.1).isSome)=true
 cap:caps.all (λx=>scope.names.lookup x==some .free&&(env.scope.names.lookup x==some .cell||env.scope.names.lookup x==some .free))=true
def qfn{β:Type}:∀{l:List (Str×β)}{x:Str}{c:β},l.lookup x=some c->(x,c)∈l:=λh=>Vo h
def qrm:∀{l:List (Str×Addr)}{x:Str}{c:Addr},(x,c)∈l ->∃d,l.lookup x=some d
 |[],_,_,h=>by simp at h
 | (y,d)::r,x,c,h=>by
  by_cases e:x=y
  ·subst e;exact⟨d,by simp⟩
  ·have hb:(x==y)=false:=by simpa using e
   rcases Q2.mp h with h|h
   ·grind
   ·obtain⟨d',hd⟩:=qrm h;grind
section
variable{env:Env}{scope:Scope}{caps:List Str}
abbrev zsw(scope:Scope)(env:Env):List (Str×Addr):=qoo env.cells scope.names []
def CompScope.sub(S:CompScope env scope caps)(h:(zsw scope env).lookup x=some c):env.cells.lookup x=some c:=by
 rcases qij (qfn h)with h|h
 ·simp at h
 ·exact h
theorem qhc(h:(Qlb scope env).names.lookup x=some k):∃k',(x,k')∈scope.names/\(k'=k\/(k' = .free/\k = .cell)):=by
 have hm:=qfn h;obtain⟨⟨n,k0⟩,h1,h2⟩:=Q1.mp hm;grind
abbrev qri(scope:Scope)(env:Env)(n:Nat):List (Str×Addr):=V7 n scope.names (zsw scope env)
def CompScope.hasF(S:CompScope env scope caps)(key:(x,Qif)∈scope.names):∃c,(zsw scope env).lookup x=some c:=by
 have:=Q4.mp S.free _ key;have hs:(env.cells.lookup x).isSome=true:=by grind
 obtain⟨c,hc⟩:=Jt.mp hs;obtain⟨d,hd⟩:=qii (cells:=env.cells) (names:=scope.names) (acc:=[]) (.inr ⟨key,c,hc⟩);exact qrm hd
def CompScope.isC(S:CompScope env scope caps)(h:(x,Qar)∈scope.names):scope.names.lookup x=some .cell:=by
 have:=Q4.mp S.cells _ h;grind
def CompScope.has(S:CompScope env scope caps)(n:Nat)(h:(Qlb scope env).names.lookup x=some .cell\/(Qlb scope env).names.lookup x=some .free):∃c,(qri scope env n).lookup x=some c:=by
 have key:scope.names.lookup x=some .cell\/(x,Qif)∈scope.names:=by
  rcases h with h|h
  ·obtain⟨k',h1,h2⟩:=qhc h;rcases h2 with rfl|⟨rfl,_⟩
   ·exact .inl (S.isC h1)
   grind
  grind[qhc]
 refine Jt.mp (Qcj scope.names n _ ?_);rcases key with k|k
 ·exact .inl k
 ·obtain⟨c,hc⟩:=S.hasF k;grind
def CompScope.look(S:CompScope env scope caps)(h:(qri scope env n).lookup x=some c):(n<=c/\(x,Qar)∈scope.names)\/env.cells.lookup x=some c:=by
 rcases qsu h with q|q
 ·exact .inl q
 ·exact .inr (S.sub q)
end
def blk(X:Cx)(pins:List (Addr×Obj))(scope:Scope)(N':List Str)(s3:Ql)(H:Hp)(ex:List Addr):Cx where
 prog:=X.prog
 w:=X.w
 K:=X.K
 mg:=X.mg
 base:=X.base
 A:=X.A
 N:=N'
 s₀:=s3
 H₀:=H
 env:=compEnvC scope (qri scope X.env (s3.heap.objs.size+1)) s3.heap.objs.size X.env
 outer:=X.stack
 stack:=X.stack
 ex:=ex
 fn:=λx=>scope.names.lookup x==some .cell
 calm:=X.calm
 pn:=X.pn++pins
 xe:=λ_ _=>False
def qss(ix:List Nat)(k:Nat)(σ:St):St:=ix.map (λi=>(σ[i]?).join)++Qab k none
def zbw(ix:List Nat)(k:Nat)(wi:TI)(g:TG)(te:TE):TE:=λσ H Q=>wi σ H λJ H1 =>∃W:Nat->Nat->List V->St->Hp->Prop,(∃m,W 0 m [] (qss ix k σ) H1) /\ ∀i m ys σ1 H2,W i m ys σ1 H2 ->
 (J.stop i H2/\ys.length<=Qo /\ ∀p,H2 p=none->Q (.ref p) (upd H2 p (.lst ys))) \/
 (J.go i H2/\ys.length<Qo /\ ∃N:V->St->Hp->Prop,(∀y σ2 H5,N y σ2 H5 ->∃m',m'<m/\W (i+1) m' (ys++[y]) σ2 H5) /\ ∀x H3,J.yld i H2 x H3->g x σ1 H3 λσ2 H4=>te σ2 H4 λy H5=>N y σ2 H5)
def qcw(I:Nat->Ql->Prop)(turn:∀n s,I n s->wpAny (model prog w) A (Qgd it) (λr s₁=>match r with
  |none=>R (.ok .next) s₁
  |some v=>wpAny (model prog w) A (Qap target it v) (λ_ s₁'=>wpAny (model prog w) A (Qdi target env v) (λ_ s₂=>wpAny (model prog w) A (eval elt env) (λx s₃ =>
   wpAny (model prog w) A (call (.builtin "list.append") [acc,x]) (λ_ s₄ =>∃m,m<n/\I m s₄) (Qae (model prog w) A env λe s'=>R (.error e) s') s₃)
   (Qae (model prog w) A env λe s'=>R (.error e) s') s₂) (Qae (model prog w) A env λe s'=>R (.error e) s') s₁') (Qae (model prog w) A env λe s'=>R (.error e) s') s₁) (Qae (model prog w) A env λe s'=>R (.error e) s') s)(n:Nat)(h:I n s):Qca (model prog w) A (.compLoop (.ListComp elt [⟨target,iter,[],0⟩] scope pos) 0 it acc env) R s:=by
  refine codeAny_loop rfl I (λn s hI=>?_) n h;show wpAny _ _ ((compTurn (.ListComp elt [⟨target,iter,[],0⟩] scope pos) 0 it acc env).onRaise (λx=>do Qcz x env;theTreesLotGoes x)) _ _ s;refine wpAny_noted ?_;rw[compTurn_list1];refine Qe (Qcg (Qe (Zu (turn n s hI) (λr s₁ h₁=>?_) λ_ _ h'=>h')));cases r with
  |none=>exact Qx h₁
  |some v =>
   exact Qe (Zu h₁ (λ_ s₁' h₁'=>Qe (Zu h₁' (λ_ s₂ h₂=>Qe (Qe (Zu h₂ (λx s₃ h₃=>Qe (Zu h₃
    (λ_ s₄ h₄=>Qx (Qx ⟨rfl,h₄⟩)) λ_ _ h'=>h')) λ_ _ h'=>h'))) λ_ _ h'=>h')) λ_ _ h'=>h')
section
variable{X:Cx}{elt target iter:Expr}{scope:Scope}{pos:Pos}{caps own:List Str}{ix:List Nat}{wi:TI}{g:TG}{te:TE}
def xcs:TT:=λ_ H Q=>Q true H
abbrev xef:=Env->(Bool->Ql->Prop)->(Value->Ql->Prop)->Ql->Prop
def zva(prog:Zk)(w:World)(A:Z1)(elt target iter:Expr)(cs:List Expr)(scope:Scope)(pos:Pos)(Tst:xef):Prop :=∀{R:Result->Ql->Prop}{s:Ql}{it acc:Value}{env:Env}(I:Nat->Ql->Prop)
 (turn:∀n s,I n s->wpAny (model prog w) A (Qgd it) (λr s₁=>match r with
  |none=>R (.ok .next) s₁
  |some v=>wpAny (model prog w) A (Qap target it v) (λ_ s₁'=>wpAny (model prog w) A (Qdi target env v) (λ_ s₂=>Tst env (λb s₂'=>match b with
   |true=>wpAny (model prog w) A (eval elt env) (λx s₃ =>
    wpAny (model prog w) A (call (.builtin "list.append") [acc,x]) (λ_ s₄ =>∃m,m<n/\I m s₄) (Qae (model prog w) A env λe s'=>R (.error e) s') s₃)
    (Qae (model prog w) A env λe s'=>R (.error e) s') s₂'
   |false =>∃m,m<n/\I m s₂') (Qae (model prog w) A env λe s'=>R (.error e) s') s₂) (Qae (model prog w) A env λe s'=>R (.error e) s') s₁') (Qae (model prog w) A env λe s'=>R (.error e) s') s₁) (Qae (model prog w) A env λe s'=>R (.error e) s') s)
 (n:Nat) (h:I n s),Qca (model prog w) A (.compLoop (.ListComp elt [⟨target,iter,cs,0⟩] scope pos) 0 it acc env) R s
def qrl{E0:XK}{tt:TT}(hloop:zva X.prog X.w X.A elt target iter cs scope pos Tst)(hc:X.calm=true)(S:CompScope X.env scope caps)(hi:PI X target iter wi)(hg:∀pins s3 H ex,PG (blk X pins scope (caps++own) s3 H ex) target g)(he:∀pins s3 H ex,PE ((blk X pins scope (caps++own) s3 H ex).wish λe s' =>∃pins1 σ1,CXI (blk X pins scope (caps++own) s3 H ex) pins1 σ1 E0 e s') elt te)(hfr:(∀v o h,¬ E0 v o h) \/ ∃qha outer0 L,X.stack=qha::outer0/\qha.frame=some L/\X.env.frame=some L)(htst:∀pins s3 H ex pins' s σ H' Qb P E,Inv (blk X pins scope (caps++own) s3 H ex) pins' σ H' s->tt σ H' Qb->(∀b s' H'',Inv (blk X pins scope (caps++own) s3 H ex) pins' σ H'' s'->Qb b H''->P b s')->Tst (blk X pins scope (caps++own) s3 H ex).env P E s)(hix:caps.length=ix.length)(hcapB:(caps.zip ix).all (λp=>X.N[p.2]?==some p.1)=true)(hs:∀x,Zn iter X.env x=pure x){Qv:VK}{σ:St}(I:Inv X pins σ H s)(hX:PassesI X σ E0)(h:wi σ H Inner)(hin:∀J H1,Inner J H1 ->∃W:Nat->Nat->List V->St->Hp->Prop,(∃m,W 0 m [] (qss ix own.length σ) H1) /\ ∀i m ys σ1 H2,W i m ys σ1 H2 ->
 (J.stop i H2/\ys.length<=Qo /\ ∀p,H2 p=none->Qv (.ref p) (upd H2 p (.lst ys))) \/
 (J.go i H2/\ys.length<Qo /\ ∃(N:V->St->Hp->Prop)(N0:St->Hp->Prop),(∀y σ2 H5,N y σ2 H5 ->∃m',m'<m/\W (i+1) m' (ys++[y]) σ2 H5)/\(∀σ2 H5,N0 σ2 H5 ->∃m',m'<m/\W (i+1) m' ys σ2 H5) /\
 ∀x H3,J.yld i H2 x H3->g x σ1 H3 λσ2 H4=>tt σ2 H4 λb H5=>match b with|true=>te σ2 H5 λy H6=>N y σ2 H6|false=>N0 σ2 H5))(fin:∀(D C:Addr)(s6:Ql)(H6:Hp)(m6:Str->Option Value),s6.heap.Ns C m6->Inv X pins σ H6 s6->H6 C=none->C≠X.env.locals->C∉X.fs->(C∈X.ex\/X.s₀.heap.objs.size<=C)->(∀x c,X.env.cells.lookup x=some c->c≠C)->(∀p∈X.pn++pins,p.1≠C)->Qv (.ref D) H6 ->
 Qin (model X.prog X.w) X.A X.xe use Q0 (.ref D) C (.ok .next) s6):
 wpAny (model X.prog X.w) X.A (Qcb (.ListComp elt [⟨target,iter,cs,0⟩] scope pos) scope X.env pos' (Qla []) false (eval iter X.env) use) Q0 X.xe s:=by
  have hcap:∀(j:Nat)(x:Str)(i:Nat),caps[j]?=some x->ix[j]?=some i->X.N[i]?=some x:=λj x i h1 h2=>by
   have hm:(x,i)∈caps.zip ix:=by
    have:(caps.zip ix)[j]?=some (x,i):=by rw[Qbb];exact⟨h1,h2⟩
    exact Qz this
   have:=Q4.mp hcapB _ hm;simpa using this
  have hnm:∀y∈scope.names,y.2 = .local->scope.names.lookup y.1=some .local:=λy hy hl=>by
   have:=Q4.mp S.names y hy;rw[hl]at this;simpa using this
  refine wpAny_comprehension_free (use:=use) rfl hs S.clos S.kind hnm (thn (hi pins s σ H _ I h) λv s1 h1=>thn h1 λitv s2 h2=>?_);obtain⟨it,fp,tn,J,H2,e,I2,T,st2,f2,hJ⟩:=h2;obtain⟨W,⟨m0,w0⟩,turn⟩:=hin J H2 hJ;subst e;refine Qaw (zgz ?_);dsimp only;generalize eh0:s2.heap.push { cls :=.type "list",data :=.seq #[] }=h3;have hns₁:(Qfk (h3.push { cls :=.type "dict",data :=.dict #[] }) scope.names).Ns h3.objs.size (λ_=>none):=(Heap.Ns.new h3 (.type "dict")).keeps (Qhb _ _);have hkp:∀b o,h3.get? b=some o->(Qfk (h3.push { cls :=.type "dict",data :=.dict #[] }) scope.names).get? b=some o:=λb o q=>Qhb _ _ b o (Qf _ q);have hcl₁:∀x c,(qri scope X.env (h3.objs.size+1)).lookup x=some c->(zsw scope X.env).lookup x=some c\/(Qfk (h3.push { cls :=.type "dict",data :=.dict #[] }) scope.names).IsCell c none:=λx c q=>by
   refine qwq (h:=h3.push { cls :=.type "dict",data :=.dict #[] }) ?_;rw[Yf];exact q
  generalize Qfk (h3.push { cls :=.type "dict",data :=.dict #[] }) scope.names=h₁ at hns₁ hkp hcl₁ ⊢;obtain⟨s3,hs3⟩:∃s3:Ql,s3={ s2 with heap:=h3 }:=⟨_,rfl⟩
  have e3:h3=s3.heap:=by rw[hs3]
  subst e3;have eh:s3.heap=s2.heap.push { cls :=.type "list",data :=.seq ([]:List Value).toArray }:=eh0.symm;have hC:s3.heap.objs.size=s2.heap.objs.size+1:=by rw[eh,Yf]
  have hDlt:s2.heap.objs.size<s3.heap.objs.size:=by omega
  have k23:∀b o,s2.heap.get? b=some o->s3.heap.get? b=some o:=λb o q=>by rw[eh];exact Qf _ q
  have hD3:s3.heap.get? s2.heap.objs.size=some { cls :=.type "list",data :=.seq ([]:List Value).toArray }:=by rw[eh];exact Qq _ rfl
  have I3:Inv X pins σ H2 s3:=by rw[hs3];exact I2.kept (t':=s2.toks) k23
  have k34:∀b o,s3.heap.get? b=some o->h₁.get? b=some o:=hkp;have fpl:∀b∈fp,b<s2.heap.objs.size:=λb hb=>by
   obtain⟨o,q,_⟩:=T.obj 0 _ st2 b hb;exact Qm q
  have cel:∀x c,X.env.cells.lookup x=some c->c<s2.heap.objs.size:=λx c q=>by
   obtain⟨v,o,z,_⟩:=I2.cell x c q;exact Qm z
  have ncl:∀x c,(qri scope X.env (s3.heap.objs.size+1)).lookup x=some c->X.env.cells.lookup x=some c\/s3.heap.objs.size<c:=λx c q=>(S.look q).elim (λz => .inr z.1) .inl;have pnl:∀p∈X.pn++pins,p.1<s2.heap.objs.size:=λp hp=>Qm (I2.pin p hp).1;have hDn:H2 s2.heap.objs.size=none:=I2.hok.fresh (Qn _);have ok:(blk X pins scope (caps++own) s3 H2 (s2.heap.objs.size::fp)).Ok:=by
   refine⟨I2.mod,S.kind,I2.ok.glob,I2.ok.blt,Qn _,λx y c h1 h2=>?_,λx hx=>S.has _ hx,λx c hf q=>?_,I2.ok.hd,I2.ok.frames,.inl rfl,λb hb=>?_,I3.bs,?_,λb o q hb=>?_,λb hb=>?_,I3.stack,I3.stkFree⟩
   ·rcases ncl x c h1 with q1|q1
    ·rcases ncl y c h2 with q2|q2
     ·exact I2.ok.inj x y c q1 q2
     ·exact absurd (Z7 (cel x c q1) hDlt) (Y6.mpr (Vy q2))
    ·exact zdn (n:=s3.heap.objs.size+1) (acc:=zsw scope X.env) (λz a q=>Nat.lt_succ_of_lt (Z7 (cel z a (S.sub q)) hDlt)) q1 h1 h2
   ·exact Qk (Qkm _) (qrx (lo:=s3.heap.objs.size+1) (Qn _) (.inl (qfn (beq_iff_eq.mp hf))) q)
   ·have hb':b=s2.heap.objs.size\/b∈fp:=Q2.mp hb;rcases hb' with rfl|hb'
    ·exact⟨Q3 hDlt,λx c q=>(ncl x c q).elim (λz=>Q3 (cel x c z)) λz=>Z6 (Z7 hDlt z)⟩
    ·exact⟨Q3 (Z7 (fpl b hb') hDlt),λx c q=>(ncl x c q).elim (λz=>(f2 b hb').2.2.2.2.1 x c z) λz=>Z6 (Z7 (fpl b hb') (Z7 hDlt z))⟩
   ·exact Qk I2.ok.bsz I3.sz
   ·have hlt:b<X.base.objs.size:=Qm q;have hb':b=s2.heap.objs.size\/b∈fp:=Q2.mp hb;have h1:=I2.ok.bsz;have h2:=I2.sz;rcases hb' with rfl|hb'
    ·exact absurd hlt (Y6.mpr (Qk h1 h2))
    ·rcases(f2 b hb').2.2.2.1 with z|z
     ·exact I2.ok.noex b o q z
     ·exact absurd hlt (Y6.mpr (Qk h1 z))
   ·have hb':b=s2.heap.objs.size\/b∈fp:=Q2.mp hb;intro z;have z':=I2.stkSub b z;rcases hb' with rfl|hb'
    ·rcases Q2.mp z' with z'|z'
     ·exact Z6 I2.lt z'
     ·exact I2.nofs (Qn _) z'
    ·rcases Q2.mp z' with z'|z'
     ·exact(f2 b hb').2.1 z'
     ·exact(f2 b hb').2.2.1 z'
  have len0:(qss ix own.length σ).length=(caps++own).length:=by unfold qss;simp[hix]
  have I4:Inv (blk X pins scope (caps++own) s3 H2 (s2.heap.objs.size::fp)) [] (qss ix own.length σ) H2 { s2 with heap:=h₁ }:=by
   obtain⟨mX,nsX,lkX⟩:=I3.loc;refine⟨ok,(by show s2.os=s3.os;rw[hs3]),I2.bare,Un.kept k34,⟨_,hns₁,λj x v h1 h2 h3=>?_⟩,λx c q=>?_,I3.hok.fresh (Qn _),λx c q=>(ncl x c q).elim (λz=>I3.freeC x c z) λz=>I3.hok.fresh (Vy z),λp hp=>?_,I3.hok.kept k34,len0⟩
   ·-- a captured name
    have hj:j<ix.length:=by
     unfold qss at h2;by_cases hj:j<ix.length
     ·exact hj
     ·rw[Jg (by simpa using hj),List.getElem?_replicate]at h2;split at h2 <;> cases h2
    have h1':caps[j]?=some x:=by
     have:(caps++own)[j]?=some x:=h1
     rwa [Yg (by omega)]at this
    have hij:ix[j]?=some ix[j]:=Qp hj;have hv:σ[ix[j]]?=some (some v):=by
     unfold qss at h2;rw[Yg (by simpa using hj),Qg,hij]at h2;have h2':(σ[ix[j]]?).join=some v:=by simpa using h2
     cases q:σ[ix[j]]? with
     |none=>rw[q]at h2';cases h2'
     |some o=>rw[q]at h2';cases o with
      |none=>cases h2'
      |some y=>have:y=v:=by simpa using h2'
               rw[this]
    have hk:=Q4.mp S.cap x (Qz h1');obtain⟨k1,k2⟩:=Jq.mp hk;have k1':scope.names.lookup x=some .free:=by simpa using k1
    have k2':X.env.scope.names.lookup x=some .cell\/X.env.scope.names.lookup x=some .free:=by simpa using k2
    obtain⟨u,ru,lk⟩:=lkX ix[j] x v (hcap j x _ h1' hij) hv (k2'.elim (λz => .inr (.inl z)) (λz => .inr (.inr z)));refine⟨u,ru,?_⟩;have hrel:(Qlb scope X.env).names.lookup x=some .cell\/(Qlb scope X.env).names.lookup x=some .free:=by
     rcases h3 with h3|h3|h3
     ·have h3':(Qlb scope X.env).names.lookup x=some Qbe.local:=h3;obtain⟨k',m1,m2⟩:=qhc h3';rcases m2 with rfl|⟨_,m2⟩
      ·have:=hnm _ m1 rfl;rw[k1']at this;cases this
      ·cases m2
     ·exact .inl h3
     ·exact .inr h3
    have hxc:(x,Qar)∉scope.names:=λz=>by
     have:=S.isC z;rw[k1']at this;cases this
    obtain⟨c,hcl⟩:=S.hasF (qfn k1');have hcl':(qri scope X.env (s3.heap.objs.size+1)).lookup x=some c:=(zdz hxc).trans hcl;rcases lk with⟨kl,_⟩|⟨_,c',ec,ic⟩
    ·have kl':X.env.scope.names.lookup x=some .local:=kl;rcases k2' with z|z <;> (rw[kl']at z;cases z)
    ·have:=S.sub hcl;have ee:c'=c:=by rw[ec]at this;exact Za this
     exact .inr ⟨hrel,c,hcl',ee▸ic.keeps k34⟩
   ·rcases hcl₁ x c q with z|z
    ·obtain⟨v,ic⟩:=I3.cell x c (S.sub z);exact⟨v,ic.keeps k34⟩
    ·exact⟨_,z⟩
   ·have hp':p∈X.pn++pins:=by simpa[blk]using hp
    obtain⟨q1,q2,q3,q4,q5⟩:=I3.pin p hp';refine⟨k34 _ _ q1,q2,Q3 (Z7 (pnl p hp') hDlt),λz=>?_,q5⟩;rcases Q2.mp (I3.stkSub p.1 z)with z'|z'
    ·exact q3 z'
    ·exact q4 z'
  have hD4:h₁.get? s2.heap.objs.size=some { cls :=.type "list",data :=.seq ([]:List Value).toArray }:=k34 _ _ hD3;have st4:tn 0 h₁:=T.keep _ _ _ st2 λb _ o q=>k34 b o (k23 b o q);have fpk:∀{H':Hp}{ob:Obj},(∀b∈fp,H' b=none) ->∀b∈fp,zkf (blk X pins scope (caps++own) s3 H2 (s2.heap.objs.size::fp)) [(s2.heap.objs.size,ob)] H' b:=λ{H' ob} hn b hb=>by
   obtain⟨_,a1,a2,a3,a4,a5⟩:=f2 b hb;refine⟨hn b hb,Q3 (Z7 (fpl b hb) hDlt),λz=>?_,.inl (Qt _ hb),λx c q=>(ncl x c q).elim (λz=>a4 x c z) λz=>Z6 (Z7 (fpl b hb) (Z7 hDlt z)),λp hp=>?_⟩
   ·rcases Q2.mp (I2.stkSub b z)with z'|z'
    ·exact a1 z'
    ·exact a2 z'
   ·have hp':p∈X.pn++pins\/p=(s2.heap.objs.size,ob):=by simpa[blk,or_assoc]using hp
    rcases hp' with hp'|rfl
    ·exact a5 p hp'
    ·exact Z6 (fpl b hb)
  have stC:s3.heap.objs.size∉frs X.stack:=λz=>by
   rcases Q2.mp (I2.stkSub _ z)with z'|z'
   ·exact Z6 (Z7 I2.lt hDlt) z'
   ·exact I2.nofs (Vy hDlt) z'
  have hch:∀b∈s2.heap.objs.size::fp,(b∈X.ex\/X.s₀.heap.objs.size<=b)/\b≠X.env.locals/\(∀x c,X.env.cells.lookup x=some c->c≠b) /\ ∀p∈X.pn++pins,p.1≠b:=by
   intro b hb;have hb':b=s2.heap.objs.size\/b∈fp:=Q2.mp hb;rcases hb' with rfl|hb'
   ·exact⟨.inr I2.sz,Z6 I2.lt,λx c q=>Q3 (cel x c q),λp hp=>Q3 (pnl p hp)⟩
   ·obtain⟨_,a1,_,a3,a4,a5⟩:=f2 b hb';exact⟨a3,a1,a4,a5⟩
  have out:∀pins1 σ1 H1 s1,Inv (blk X pins scope (caps++own) s3 H2 (s2.heap.objs.size::fp)) pins1 σ1 H1 s1->Inv X pins σ H1 s1:=λpins1 σ1 H1 s1 I1=>by
   have U:=I1.base;refine I2.call' (ch:=s2.heap.objs.size::fp) ?_ ⟨λb o q n hb hx=>U.keep b o (k23 b o q) n hb hx,λb o q n hb hx=>U.slot b o (k23 b o q) n hb hx,λb o q n hx=>U.free b o (k23 b o q) n hx,λb o q hx=>U.there b o (k23 b o q) hx,U.tups,U.frzs,U.tbls⟩ I1.hok I1.bare hch;show s1.os=s2.os;rw[I1.os];show s3.os=s2.os;rw[hs3]
  have exc:∀e s',(∃pins1 σ1,CXI (blk X pins scope (caps++own) s3 H2 (s2.heap.objs.size::fp)) pins1 σ1 E0 e s')->Qae (model X.prog X.w) X.A (compEnvC scope (qri scope X.env (s3.heap.objs.size+1)) s3.heap.objs.size X.env) (λe s'=>Qin (model X.prog X.w) X.A X.xe use Q0 (.ref s2.heap.objs.size) s3.heap.objs.size (.error e) s') e s':=by
   rintro e s' ⟨pins1,σ1,h⟩;rcases hfr with hn|⟨qha,outer0,L,hs,h0,hL⟩
   ·obtain⟨_,_,_,_,_,_,_,_,_,_,_,_,_,_,_,q⟩:=h;exact(hn _ _ _ q).elim
   refine zlq (X:=blk X pins scope (caps++own) s3 H2 (s2.heap.objs.size::fp)) (E1:=λ_ _=>False) h hs h0 hL I2.ok.frames λh1 c1 up=>?_;obtain⟨ea,C',a0,fl,B,H',s1,rfl,m,I1,os,st,sl,tB,old,q⟩:=c1;obtain⟨mC,nsC,_⟩:=id I1.loc;obtain⟨oC,esC,epC,hoC,hdC,rC⟩:=id nsC;have ndC:∀vs,oC.data≠.fields vs:=λvs z=>by rw[hdC]at z;cases z
   obtain⟨slC,zC⟩:=sl s3.heap.objs.size oC (.inr rfl) hoC ndC;refine⟨mC,⟨_,esC,epC,zC,hdC,rC⟩,λh' sb cenv hc=>?_⟩;have nC:∀o,h1.get? s3.heap.objs.size=some o ->∀vs,o.data≠.fields vs:=λo z vs zz=>by
    rw[show h1.get? s3.heap.objs.size=_ from zC]at z;cases z;exact ndC vs zz
   have ne:s3.heap.objs.size≠ea:=λz=>by
    obtain⟨_,_,_,oe,vs,T,oT,ts,x1,_,x3,_⟩:=m;exact nC oe (z▸x1) vs x3
   have fC:H' s3.heap.objs.size=none:=I1.free;have hidB:∀{b:Addr}{o:Obj},B.get? b=some o->b≠s3.heap.objs.size->(Js B [s3.heap.objs.size]).get? b=some o:=λz n=>Jy _ z (by simpa using n);have m2:=MarkW.hide m sb ne nC λen he z=>stC (Qbq.mpr ⟨en,he,z⟩);refine zmu (s:={ s' with heap:=h' }) m2 λh2 m3 up3=>hX pins (.ref ea) _ ⟨ea,C',a0,_,Js B [s3.heap.objs.size],H',s1,rfl,m3,out _ _ _ _ I1,os,λb o z=>st b o (Qaf _ z),λb o hb z nf=>?_,λb u z=>?_,λb o z n1 n2=>?_,q⟩
   ·have bC:b≠s3.heap.objs.size:=by
     rcases hb with hb|hb
     ·exact λz=>stC (z▸hb)
     ·exact λz=>Q3 (Z7 I2.lt hDlt) (hb▸z)
    by_cases hfs:b∈frs X.stack
    ·obtain⟨sa,za⟩:=sl b o (.inl hfs) z nf;have zb:h'.get? b=some { o with slots:=sa }:=by rw[sb.2 b bC];exact za
     obtain⟨sc,zc⟩:=up3 b _ zb nf;exact⟨sc,zc⟩
    ·have hb:b=X.env.locals:=hb.elim (λz=>(hfs z).elim) id;obtain⟨mX,nsX,_⟩:=id I3.loc;obtain⟨oX,_,_,hoX,_⟩:=id nsX;obtain⟨o',ho'⟩:=old b oX (hb▸hoX) hfs (λz=>(hch b z).2.1 hb);have:=st b o' ho';rw[z]at this;cases this;exact⟨o.slots,m3.1 b o (hidB ho' bC)⟩
   ·obtain⟨o,ho⟩:=tB b u z;exact⟨o,hidB ho λy=>by rw[y,fC]at z;cases z⟩
   ·obtain⟨o1,z1⟩:=I2.base.there b o z n2;have blt:b<X.s₀.heap.objs.size:=Qm z;have nst:b∉frs X.stack:=λhb=>by
     rcases Q2.mp (I2.stkSub b hb)with y|y
     ·exact absurd blt (Y6.mpr (y▸I2.ok.above))
     ·exact n1 y
    obtain⟨o',ho'⟩:=old b o1 (k23 b o1 z1) nst (λhb=>(hch b hb).1.elim n2 λy=>Y6.mpr y blt);exact⟨o',hidB ho' (Q3 (Zh blt (Qk I2.sz (Vy hDlt))))⟩
  have loop:∀s5:Ql,s5=({ s2 with heap:=h₁ }:Ql) ->
   Qca (model X.prog X.w) X.A (.compLoop (.ListComp elt [⟨target,iter,cs,0⟩] scope pos) 0 (.ref it) (.ref s2.heap.objs.size) (compEnvC scope (qri scope X.env (s3.heap.objs.size+1)) s3.heap.objs.size X.env))
    (Qin (model X.prog X.w) X.A X.xe use Q0 (.ref s2.heap.objs.size) s3.heap.objs.size) s5:=by
   rintro s5 rfl;refine hloop (λn s' =>∃i ys its cp σ' H',Inv (blk X pins scope (caps++own) s3 H2 (s2.heap.objs.size::fp)) [] σ' H' s'/\tn i s'.heap/\(∀b∈fp,H' b=none)/\H' s2.heap.objs.size=none /\
    s'.heap.get? s2.heap.objs.size=some { cls :=.type "list",data :=.seq (its:List Value).toArray cp }/\Vals ys its/\W i n ys σ' H') ?_ m0 ⟨0,[],[],_,_,H2,I4,st4,λb hb=>(f2 b hb).1,hDn,hD4,.nil,w0⟩
   rintro n s5 ⟨i,ys,its,cp,σ5,H5,I5,st5,fr5,hD5,gD5,rv5,w5⟩;have Dfs:s2.heap.objs.size∉(blk X pins scope (caps++own) s3 H2 (s2.heap.objs.size::fp)).fs:=λz=>by
    rcases Q2.mp (I2.stkSub _ z)with z'|z'
    ·exact Z6 I2.lt z'
    ·exact I2.nofs (Qn _) z'
   have I5':Inv (blk X pins scope (caps++own) s3 H2 (s2.heap.objs.size::fp)) [(s2.heap.objs.size,{ cls :=.type "list",data :=.seq its.toArray cp })] σ5 H5 s5:=by
    refine I5.pins_of λp hp=>?_;have hp':p∈(blk X pins scope (caps++own) s3 H2 (s2.heap.objs.size::fp)).pn++[]\/p=(s2.heap.objs.size,{ cls :=.type "list",data :=.seq its.toArray cp }):=by
     first
      |exact .inr (Ze.mp hp)
      | (rcases Zz.mp hp with z|z
         ·exact .inl (Zx _ z)
         ·exact .inr (Ze.mp z))
    rcases hp' with z|rfl
    ·exact I5.pin p z
    ·exact⟨gD5,hD5,Q3 hDlt,Dfs,λv z=>by cases z⟩
   rcases turn i n ys σ5 H5 w5 with⟨stop,hz,qn⟩|⟨go,hz,N,N0,hN,hN0,step⟩
   ·refine thn (T.done (blk X pins scope (caps++own) s3 H2 (s2.heap.objs.size::fp)) rfl rfl rfl hc i _ s5 σ5 H5 _ I5' (fpk fr5) st5 stop) λr s6 ⟨hr,I6⟩=>?_;subst hr;obtain⟨m6,ns6,_⟩:=id I6.loc;have gD6:=(I6.pin _ (Qw _ (Ze.mpr rfl))).1;have kC:∀b o,b≠s3.heap.objs.size->s6.heap.get? b=some o->s6.heap.get? b=some o:=λb o _ q=>q;have bne:∀b o,s2.heap.get? b=some o->b≠s3.heap.objs.size:=λb o q=>Q3 (Z7 (Qm q) hDlt);have bnD:∀b o,s2.heap.get? b=some o->b≠s2.heap.objs.size:=λb o q=>Q3 (Qm q);have nC:∀b u,H5 b=some u->b≠s3.heap.objs.size:=λb u q z=>by
     have z1:H5 s3.heap.objs.size=none:=I6.free;rw[z,z1]at q;cases q
    have U:=I6.base;have IX:Inv X pins σ (upd H5 s2.heap.objs.size (.lst ys)) s6:=by
     refine I2.call' (ch:=s2.heap.objs.size::fp) ?_ ?_ ?_ I6.bare ?_
     ·show s6.os=s2.os;rw[I6.os];show s3.os=s2.os;rw[hs3]
     ·refine⟨λb o q n hb hx=>kC b o (bne b o q) (U.keep b o (k23 b o q) n hb hx),λb o q n hb hx=>?_,λb o q n hx=>?_,λb o q hx=>?_,λb xs q=>?_,λb o u q=>?_,λb ps q=>?_⟩
      ·obtain⟨sl,z⟩:=U.slot b o (k23 b o q) n hb hx;exact⟨sl,kC b _ (bne b o q) z⟩
      ·rw[qo (bnD b o q)];exact U.free b o (k23 b o q) n hx
      ·obtain⟨o',z⟩:=U.there b o (k23 b o q) hx;exact⟨o',kC b _ (bne b o q) z⟩
      ·have:=U.tups b xs q;rw[qo (qq this hD5)];exact this
      ·have:=U.frzs b o u q;rw[qo (qq this hD5)];exact this
      ·obtain⟨more,z,gm⟩:=U.tbls b ps q;exact⟨more,by rw[qo (qq z hD5)];exact z,gm.mono λb o u q=>by rw[qo (qq q hD5)];exact q⟩
     ·intro b u q;by_cases hb:b=s2.heap.objs.size
      ·subst hb;rw[qp]at q;cases q;exact⟨hz,its,cp,rv5,kC _ _ (Q3 hDlt) gD6⟩
      ·rw[qo hb]at q;refine(I6.hok b u q).stay (λc ob hc z=>kC c ob ?_ z) (λc z=>by rw[qo (qq z hD5)];exact z) λc xs z=>by rw[qo (qq z hD5)];exact z
       rcases hc with hc|hc
       ·rw[hc];exact nC b u q
       ·exact nC c _ hc
     ·intro b hb;have hb':b=s2.heap.objs.size\/b∈fp:=Q2.mp hb;rcases hb' with rfl|hb'
      ·exact⟨.inr I2.sz,Z6 I2.lt,λx c q=>Q3 (cel x c q),λp hp=>Q3 (pnl p hp)⟩
      ·obtain⟨_,a1,_,a3,a4,a5⟩:=f2 b hb';exact⟨a3,a1,a4,a5⟩
    have hCH:(upd H5 s2.heap.objs.size (.lst ys)) s3.heap.objs.size=none:=by
     rw[qo (Z6 hDlt)];exact I6.free
    exact fin _ _ s6 _ m6 ns6 IX hCH (Z6 (Z7 I2.lt hDlt)) (I2.nofs (Vy hDlt)) (.inr (Qk I2.sz (Vy hDlt))) (λx c q=>Q3 (Z7 (cel x c q) hDlt)) (λp hp=>Q3 (Z7 (pnl p hp) hDlt)) (qn _ hD5)
   ·refine thn (T.item (blk X pins scope (caps++own) s3 H2 (s2.heap.objs.size::fp)) rfl rfl rfl hc i _ s5 σ5 H5 _ I5' (fpk fr5) st5 go) λr s6 ⟨u,hr,h6⟩=>?_;subst hr;refine thn h6 λ_ s7 xx61=>?_;obtain⟨x,H7,I7,r7,y7,st7,fr7⟩:=xx61;have I7':=I7.pinned (fpk fr7) (T.obj _ _ st7);refine Zu (hg pins s3 H2 _ _ s7 σ5 H7 x u _ I7' r7 (step x H7 y7)) (λ_ s8 xx60=>?_) λ_ _ z=>z.elim;obtain⟨σ8,H8,I8,q8⟩:=xx60;refine htst pins s3 H2 _ _ s8 σ8 H8 _ _ _ I8 q8 λbt s8' H8' I8' q8'=>?_;cases bt with
    |false =>
     have q9:N0 σ8 H8':=q8';obtain⟨m',hm',w9⟩:=hN0 σ8 H8' q9;have gD9:=(I8'.pin (s2.heap.objs.size,{ cls :=.type "list",data :=.seq its.toArray cp }) (Qw _ (Zx _ (Ze.mpr rfl))))
     have pin8:∀b∈fp,∀o,s7.heap.get? b=some o->s8'.heap.get? b=some o/\H8' b=none:=λb hb o q=>by
      have z:=I8'.pin (b,o) (Qw _ (Qw _ (qft hb q)));exact⟨z.1,z.2.1⟩
     refine⟨m',hm',i+1,ys,its,cp,σ8,H8',?_,?_,λb hb=>?_,gD9.2.1,gD9.1,rv5,w9⟩
     ·exact(I8'.pins_of (pins':=[]) (λp hp=>by
       first
        |exact absurd hp (by simp)
        | (rw[Yc]at hp;exact I8'.pin p (Zx _ hp))))
     ·exact T.keep _ _ _ st7 λb hb o q=>(pin8 b hb o q).1
     ·obtain⟨o,q,_⟩:=T.obj _ _ st7 b hb;exact(pin8 b hb o q).2
    |true =>
     refine Zu (he pins s3 H2 _ _ s8' σ8 H8' _ (I8'.wish _) q8') (λuy s9 xx59=>?_) exc;obtain⟨y,H9,I9w,r9,n9⟩:=xx59;have I9:=I9w.unwish;obtain⟨m',hm',w9⟩:=hN y σ8 H9 n9;have gD9:=(I9.pin (s2.heap.objs.size,{ cls :=.type "list",data :=.seq its.toArray cp }) (Qw _ (Zx _ (Ze.mpr rfl))))
     have pin9:∀b∈fp,∀o,s7.heap.get? b=some o->s9.heap.get? b=some o/\H9 b=none:=λb hb o q=>by
      have z:=I9.pin (b,o) (Qw _ (Qw _ (qft hb q)));exact⟨z.1,z.2.1⟩
     have hl9:=rv5.length;refine Qac Qfb ⟨_,gD9.1,rfl⟩ PySem.F.entry_list_append (PySem.F.args_list_append_2 _ _) (Qiu s2.heap.objs.size its.toArray cp uy (by rw[Zq];omega)) ⟨gD9.1,?_⟩;have qD:=Qjw gD9.1 (λxs=>xs.push uy);have ep:its.toArray.push uy=(its++[uy]).toArray:=by simp
     rw[ep]at qD;have up:∀b o,b≠s2.heap.objs.size->s9.heap.get? b=some o->(s9.heap.update s2.heap.objs.size (Yo λxs=>xs.push uy)).get? b=some o:=λb o hb q=>(Yh s9.heap _ (Y9 hb)).trans q;refine⟨m',hm',i+1,ys++[y],its++[uy],_,σ8,H9,?_,?_,λb hb=>?_,gD9.2.1,qD,rv5.append (.cons r9 .nil),w9⟩
     ·refine(I9.pins_of (pins':=[]) (λp hp=>by
       first
        |exact absurd hp (by simp)
        | (rw[Yc]at hp;exact I9.pin p (Zx _ hp)))).turned (it:=s2.heap.objs.size) up gD9.2.1 (Q3 hDlt) (.inl (List.mem_cons_self ..)) (λx c q=>(ncl x c q).elim (λz=>Q3 (cel x c z)) λz=>Z6 (Z7 hDlt z)) λp hp=>?_
      have hp':p∈X.pn++pins:=by simpa[blk]using hp
      exact Q3 (pnl p hp')
     ·exact T.keep _ _ _ st7 λb hb o q=>up b o (Q3 (fpl b hb)) (pin9 b hb o q).1
     ·obtain⟨o,q,_⟩:=T.obj _ _ st7 b hb;exact(pin9 b hb o q).2
  exact codeAny_compStart_list (loop _ rfl) (T.self _ 0 _ _ _ st4 (loop _ rfl))
def quy{tt:TT}(hloop:zva X.prog X.w X.A elt target iter cs scope pos Tst)(hc:X.calm=true)(S:CompScope X.env scope caps)(hi:PI X target iter wi)(hg:∀pins s3 H ex,PG (blk X pins scope (caps++own) s3 H ex) target g)(he:∀pins s3 H ex,PE (blk X pins scope (caps++own) s3 H ex) elt te)(htst:∀pins s3 H ex pins' s σ H' Qb P E,Inv (blk X pins scope (caps++own) s3 H ex) pins' σ H' s->tt σ H' Qb->(∀b s' H'',Inv (blk X pins scope (caps++own) s3 H ex) pins' σ H'' s'->Qb b H''->P b s')->Tst (blk X pins scope (caps++own) s3 H ex).env P E s)(hix:caps.length=ix.length)(hcapB:(caps.zip ix).all (λp=>X.N[p.2]?==some p.1)=true)(hs:∀x,Zn iter X.env x=pure x){Qv:VK}{σ:St}(I:Inv X pins σ H s)(h:wi σ H Inner)(hin:∀J H1,Inner J H1 ->∃W:Nat->Nat->List V->St->Hp->Prop,(∃m,W 0 m [] (qss ix own.length σ) H1) /\ ∀i m ys σ1 H2,W i m ys σ1 H2 ->
 (J.stop i H2/\ys.length<=Qo /\ ∀p,H2 p=none->Qv (.ref p) (upd H2 p (.lst ys))) \/
 (J.go i H2/\ys.length<Qo /\ ∃(N:V->St->Hp->Prop)(N0:St->Hp->Prop),(∀y σ2 H5,N y σ2 H5 ->∃m',m'<m/\W (i+1) m' (ys++[y]) σ2 H5)/\(∀σ2 H5,N0 σ2 H5 ->∃m',m'<m/\W (i+1) m' ys σ2 H5) /\
 ∀x H3,J.yld i H2 x H3->g x σ1 H3 λσ2 H4=>tt σ2 H4 λb H5=>match b with|true=>te σ2 H5 λy H6=>N y σ2 H6|false=>N0 σ2 H5))(fin:∀(D C:Addr)(s6:Ql)(H6:Hp)(m6:Str->Option Value),s6.heap.Ns C m6->Inv X pins σ H6 s6->H6 C=none->C≠X.env.locals->C∉X.fs->(C∈X.ex\/X.s₀.heap.objs.size<=C)->(∀x c,X.env.cells.lookup x=some c->c≠C)->(∀p∈X.pn++pins,p.1≠C)->Qv (.ref D) H6 ->
 Qin (model X.prog X.w) X.A X.xe use Q0 (.ref D) C (.ok .next) s6):
 wpAny (model X.prog X.w) X.A (Qcb (.ListComp elt [⟨target,iter,cs,0⟩] scope pos) scope X.env pos' (Qla []) false (eval iter X.env) use) Q0 X.xe s :=
  qrl (E0:=λ_ _ _=>False) hloop hc S hi hg (λpins s3 H ex pins' s' σ' H' Q I' q=>Zu (he pins s3 H ex pins' s' σ' H' Q I'.unwish q) (λ_ _ xx64=>by obtain⟨y,H1,I1,r⟩:=xx64;exact⟨y,H1,I1.wish _,r⟩) λ_ _ z=>z.elim) (.inl λ_ _ _ z=>z) htst hix hcapB hs I (λ_ _ _ h=>by
   obtain⟨_,_,_,_,_,_,_,_,_,_,_,_,_,_,_,q⟩:=h;exact q.elim) h hin fin
def qqo(hc:X.calm=true)(S:CompScope X.env scope caps)(hi:PI X target iter wi)(hg:∀pins s3 H ex,PG (blk X pins scope (caps++own) s3 H ex) target g)(he:∀pins s3 H ex,PE (blk X pins scope (caps++own) s3 H ex) elt te)(hix:caps.length=ix.length)(hcapB:(caps.zip ix).all (λp=>X.N[p.2]?==some p.1)=true)(hs:∀x,Zn iter X.env x=pure x){σ:St}(I:Inv X pins σ H s)(h:zbw ix own.length wi g te σ H Qv)(fin:∀(D C:Addr)(s6:Ql)(H6:Hp)(m6:Str->Option Value),s6.heap.Ns C m6->Inv X pins σ H6 s6->H6 C=none->C≠X.env.locals->C∉X.fs->(C∈X.ex\/X.s₀.heap.objs.size<=C)->(∀x c,X.env.cells.lookup x=some c->c≠C)->(∀p∈X.pn++pins,p.1≠C)->Qv (.ref D) H6 ->
 Qin (model X.prog X.w) X.A X.xe use Q0 (.ref D) C (.ok .next) s6):
 wpAny (model X.prog X.w) X.A (Qcb (.ListComp elt [⟨target,iter,[],0⟩] scope pos) scope X.env pos' (Qla []) false (eval iter X.env) use) Q0 X.xe s:=by
  refine quy (cs:=[]) (tt:=xcs) (Tst:=λ_ P _ s=>P true s) (λJ turn n h=>qcw J turn n h) hc S hi hg he (λ_ _ _ _ _ s _ H' _ _ _ I q k=>k true s H' I q) hix hcapB hs I h (λJ H1 z=>?_) fin;obtain⟨W,w0,turn⟩:=z;refine⟨W,w0,λi m ys σ1 H2 w=>?_⟩;rcases turn i m ys σ1 H2 w with z|z
  ·exact .inl z
  ·obtain⟨go,hz,N,hN,step⟩:=z;exact .inr ⟨go,hz,N,λ_ _=>False,hN,λ_ _ z=>z.elim,step⟩
def ztt(hc:X.calm=true)(S:CompScope X.env scope caps)(hi:PI X target iter wi)(hg:∀pins s3 H ex,PG (blk X pins scope (caps++own) s3 H ex) target g)(he:∀pins s3 H ex,PE (blk X pins scope (caps++own) s3 H ex) elt te)(hix:caps.length=ix.length:=by rfl)(hcapB:(caps.zip ix).all (λp=>X.N[p.2]?==some p.1)=true:=by rfl)(hs:∀x,Zn iter X.env x=pure x:=by intro _;rfl):PE X (.ListComp elt [⟨target,iter,[],0⟩] scope pos) (zbw ix own.length wi g te):=by
  intro pins s σ H Q I h;rw[Qio];exact qqo (use:=none) (Q0:=EP X pins σ Q) hc S hi hg he hix hcapB hs I h λD C s6 H6 m6 ns6 IX c1 c2 c3 c4 c5 c6 q=>⟨m6,ns6,λh' sb=>⟨.ref D,H6,IX.turned (t':=s6.toks) (it:=C) (λb o hb q=>sb.extBut b o hb q) c1 c2 c4 c5 c6,rfl,q⟩⟩
end
inductive Sl where
 |non
 |val (d:Qh)
 |own (ds:List Qh)
 |pen (ds:List Qh)
 |new (d:Qh)
 |exc (C:Addr)
  | «at» (v:V)
  |obj (a C:Addr) (nm:List Str) (fs:List (Str×Qh))
  |dsk (m:Bool) (a g C:Addr) (f:Str) (es:List (Str×Qh))
abbrev Sto:=List Sl
def gS:Sto->Nat->Sl
 |[],_ => .non
 |s::_,0=>s
 |_::r,i+1=>gS r i
def Sl.mut:Sl->Bool
 |.own _=>true
 |.pen _=>true
 |_=>false
def vS(σ:St)(i:Nat):Option V:=(σ[i]?).join
def qbm:∀(e:Sto)(i j:Nat)(s:Sl),gS (e.set i s) j=if i=j/\i<e.length then s else gS e j
 |[],i,j,s=>by simp[gS]
 |x::e,0,0,s=>by simp[gS]
 |x::e,0,j+1,s=>by simp[gS]
 |x::e,i+1,0,s=>by simp[gS]
 |x::e,i+1,j+1,s=>by
  simp only[List.set_cons_succ,gS,qbm e i j s,Zl,Nat.add_right_cancel_iff,Nat.add_lt_add_iff_right]
def qtt:∀{e:Sto}{i:Nat},e.length<=i->gS e i = .non
 |[],_,_=>by simp[gS]
 |x::e,0,h=>by simp at h
 |x::e,i+1,h=>by simp only[gS];exact qtt (by simpa using h)
def qpe(σ:St)(i j:Nat)(v:Option V):vS (σ.set i v) j=if i=j/\i<σ.length then v else vS σ j:=by
 unfold vS;grind
def qcf(h:vS σ i=some v):σ[i]?=some (some v):=by
 unfold vS at h;grind
structure Frm where
 B:Hp
 He:Hp
 F0:Hp
mutual
def IsN(K:Qa)(H:Hp):Qh->V->Prop
 |.none,v=>v = .non
 |.bool b,v=>v = .bl b
 |.int i,v=>v = .int i
 |.str x,v=>v = .str x
 |.list l,v =>∃a xs,v = .ref a/\H a=some (.lst xs)/\IssN K H l xs
 |.tuple l,v =>∃a xs,v = .ref a/\H a=some (.tup xs)/\IssN K H l xs
 |.dict _,_=>False
def IssN(K:Qa)(H:Hp):List Qh->List V->Prop
 |[],xs=>xs=[]
 |d::l,xs =>∃x r,xs=x::r/\IsN K H d x/\IssN K H l r
end
mutual
def IsN.is{K:Qa}{H H':Hp}(s:Same H H'):∀{d:Qh}{v:V},IsN K H d v->Is K H' d v
 |.none,_,h=>by unfold IsN at h;unfold Is;exact h
 |.bool _,_,h=>by unfold IsN at h;unfold Is;exact h
 |.int _,_,h=>by unfold IsN at h;unfold Is;exact h
 |.str _,_,h=>by unfold IsN at h;unfold Is;exact h
 |.list l,_,h=>by
  unfold IsN at h;unfold Is;obtain⟨a,xs,e,q,r⟩:=h;exact⟨a,xs,e,SqL.of (s _ _ q),IssN.is s r⟩
 |.tuple l,_,h=>by
  unfold IsN at h;unfold Is;obtain⟨a,xs,e,q,r⟩:=h;exact⟨a,xs,e,SqT.of (s _ _ q),IssN.is s r⟩
 |.dict _,_,h=>by unfold IsN at h;exact h.elim
def IssN.is{K:Qa}{H H':Hp}(s:Same H H'):∀{l:List Qh}{xs:List V},IssN K H l xs->Iss K H' l xs
 |[],_,h=>by unfold IssN at h;unfold Iss;exact h
 |d::l,_,h=>by
  unfold IssN at h;unfold Iss;obtain⟨x,r,e,p,q⟩:=h;exact⟨x,r,e,IsN.is s p,IssN.is s q⟩
end
mutual
def IsN.mono{K:Qa}{H H':Hp}(s:Same H H'):∀{d:Qh}{v:V},IsN K H d v->IsN K H' d v
 |.none,_,h=>by unfold IsN at h ⊢;exact h
 |.bool _,_,h=>by unfold IsN at h ⊢;exact h
 |.int _,_,h=>by unfold IsN at h ⊢;exact h
 |.str _,_,h=>by unfold IsN at h ⊢;exact h
 |.list l,_,h=>by
  unfold IsN at h ⊢;obtain⟨a,xs,e,q,r⟩:=h;exact⟨a,xs,e,s _ _ q,IssN.mono s r⟩
 |.tuple l,_,h=>by
  unfold IsN at h ⊢;obtain⟨a,xs,e,q,r⟩:=h;exact⟨a,xs,e,s _ _ q,IssN.mono s r⟩
 |.dict _,_,h=>by unfold IsN at h;exact h.elim
def IssN.mono{K:Qa}{H H':Hp}(s:Same H H'):∀{l:List Qh}{xs:List V},IssN K H l xs->IssN K H' l xs
 |[],_,h=>by unfold IssN at h ⊢;exact h
 |d::l,_,h=>by
  unfold IssN at h ⊢;obtain⟨x,r,e,p,q⟩:=h;exact⟨x,r,e,IsN.mono s p,IssN.mono s q⟩
end
def zkv{K:Qa}:IssN K H [] []:=by unfold IssN;rfl
def zhk{K:Qa}(h:IsN K H d x)(r:IssN K H l xs):IssN K H (d::l) (x::xs):=by unfold IssN;grind
def qoi(M:Frm)(F:Hp):Hp:=λb=>if(M.He b).isNone=true/\(M.B b).isNone=true then F b else none
def qit:Same (qoi M F) F:=λb o e=>by
 unfold qoi at e;split at e
 ·exact .of e
 ·cases e
def qvb(s:Same F F'):Same (qoi M F) (qoi M F'):=λb o e=>by
 unfold qoi at e ⊢;split at e
 ·rename_i h;rw[if_pos h];exact s b o e
 ·cases e
def zeo(h1:M.He a=none)(h2:M.B a=none)(h3:F a=some o):qoi M F a=some o:=by
 unfold qoi;grind
def zms(h:qoi M F a=some o):M.He a=none/\M.B a=none/\F a=some o:=by
 unfold qoi at h;split at h
 ·rename_i z;exact⟨Vv.mp z.1,Vv.mp z.2,h⟩
 ·cases h
def qnk(C ea:Addr):HO :=.ext λh =>∃o,h.get? ea=some o/\o.cls = .ref C
def DEnts(K:Qa)(F:Hp):List (Str×Qh)->List (Key×V)->Prop
 |[],kvs=>kvs=[]
 |e::es,kvs =>∃v r,kvs=(.inr e.1,v)::r/\Is K F e.2 v/\DEnts K F es r
def DEnts.mono{K:Qa}(s:Same F F'):∀{es:List (Str×Qh)}{kvs:List (Key×V)},DEnts K F es kvs->DEnts K F' es kvs
 |[],_,h=>h
 |_::_,_,⟨v,r,e,i,h⟩=>⟨v,r,e,i.mono s,DEnts.mono s h⟩
def xcd(M:Frm)(F:Hp)(g:Addr)(kvs:List (Key×V)):Bool->Prop
 |true=>F g=none/\M.B g=none
 |false=>M.B g=some (.dK kvs)
section
variable(K:Qa)(M:Frm)(F H:Hp)
def SlotOk:Sl->Option V->Prop
 |.non,_=>True
 |.val d,x =>∃v,x=some v/\Is K F d v
 |.own ds,x =>∃a vs,x=some (.ref a)/\H a=some (.lst vs)/\F a=none/\M.B a=none/\M.He a=none/\Iss K F ds vs
 |.pen ds,x =>∃a vs,x=some (.ref a)/\H a=some (.lst vs)/\F a=none/\M.B a=none/\(∃o,M.He a=some o)/\Iss K F ds vs
 |.new d,x =>∃v,x=some v/\IsN K (qoi M F) d v
 |.exc C,x =>∃ea,x=some (.ref ea)/\F ea=some (qnk C ea)
 |.at v,x=>x=some v
 |.obj a C nm fs,x =>∃dx vs,x=some (.ref a)/\M.B a=some (.ins C dx vs)/\vs.map (·.1)=nm /\ ∀f d,(f,d)∈fs ->∃v,vs.lookup f=some v/\Is K F d v
 |.dsk m a g C f es,x =>∃dx kvs,x=some (.ref a)/\H a=some (.ins C dx [(f,.ref g)])/\H g=some (.dK kvs)/\DEnts K F es kvs/\xcd M F g kvs m
structure EnvOk(env:Sto)(σ:St):Prop where
 len:env.length=σ.length
 slot:∀i,SlotOk K M F H (gS env i) (vS σ i)
 dis:∀i j a,i≠j->(gS env i).mut=true->(gS env j).mut=true->vS σ i=some (.ref a)->vS σ j=some (.ref a)->False
 f0:Same M.F0 F
 fe:Same M.F0 M.He
 fh:Same F H
 bh:Same M.B H
 new:∀b o,F b=some o->M.F0 b=some o\/M.He b=none
 dom:∀b o,M.He b=some o ->∃o',H b=some o'
end
structure Go(F H F' H':Hp):Prop where
 f:Same F F'
 h:Same H H'
 fh:Same F' H'
 new:∀b o,F' b=some o->F b=some o\/H b=none
def qL(s:Same H H')(h:H' b=none):H b=none:=s.free h
def Go.refl(s:Same F H):Go F H F H:=⟨.refl _,.refl _,s,λ_ _ h => .inl h⟩
def Go.trans(a:Go F H F1 H1)(b:Go F1 H1 F2 H2):Go F H F2 H2 :=
 ⟨a.f.trans b.f,a.h.trans b.h,b.fh,λc o h=>(b.new c o h).elim (λq=>a.new c o q) λq => .inr (qL a.h q)⟩
def Go.put(s:Same F H)(h:H p=none):Go F H (upd F p o) (upd H p o):=by
 refine⟨qbi (qL s h),qbi h,λb u e=>?_,λb u e=>?_⟩
 ·unfold upd at e ⊢;split at e
  ·rename_i z;rw[if_pos z];exact .of e
  ·rename_i z;rw[if_neg z];exact s b u e
 ·unfold upd at e;grind
def Go.side(s:Same F H)(h:H p=none):Go F H F (upd H p o) :=
 ⟨.refl _,qbi h,s.trans (qbi h),λ_ _ e => .inl e⟩
section
variable{K:Qa}{M:Frm}{F H F' H':Hp}{env:Sto}{σ:St}
def SlotOk.go(h:SlotOk K M F H s x)(g:Go F H F' H'):SlotOk K M F' H' s x:=by
 have nf:∀{a:Addr}{o:HO},H a=some o->F a=none->F' a=none:=λ{a o} h1 h2=>by
  cases e:F' a with
  |none=>rfl
  |some u=>rcases g.new a u e with q|q
           ·rw[h2]at q;cases q
           ·rw[h1]at q;cases q
 cases s with
 |non=>trivial
 |val d=>obtain⟨v,e,i⟩:=h;exact⟨v,e,i.mono g.f⟩
 |own ds=>obtain⟨a,vs,e,h1,h2,h3,h4,h5⟩:=h;exact⟨a,vs,e,g.h _ _ h1,nf h1 h2,h3,h4,h5.mono g.f⟩
 |pen ds=>obtain⟨a,vs,e,h1,h2,h3,hx,h5⟩:=h;exact⟨a,vs,e,g.h _ _ h1,nf h1 h2,h3,hx,h5.mono g.f⟩
 |new d=>obtain⟨v,e,i⟩:=h;exact⟨v,e,i.mono (qvb g.f)⟩
 |exc C=>obtain⟨ea,e,i⟩:=h;exact⟨ea,e,g.f.at i⟩
 | «at» v=>exact h
 |obj a0 C nm fs=>obtain⟨dx,vs,e,b,hn,i⟩:=h;exact⟨dx,vs,e,b,hn,λf d m=>let ⟨v,l,j⟩:=i f d m; ⟨v,l,j.mono g.f⟩⟩
 |dsk m a0 g0 C f es =>
  obtain⟨dx,kvs,e,h1,h2,h3,h4⟩:=h;refine⟨dx,kvs,e,g.h.at h1,g.h.at h2,h3.mono g.f,?_⟩;cases m with
  |true=>exact⟨nf h2 h4.1,h4.2⟩
  |false=>exact h4
def EnvOk.go(I:EnvOk K M F H env σ)(g:Go F H F' H'):EnvOk K M F' H' env σ where
 len:=I.len
 slot:=λi=>(I.slot i).go g
 dis:=I.dis
 f0:=I.f0.trans g.f
 fe:=I.fe
 fh:=g.fh
 bh:=I.bh.trans g.h
 new:=λb o e=>(g.new b o e).elim (λq=>I.new b o q) λq=>by
  refine .inr ?_;cases z:M.He b with
  |none=>rfl
  |some u=>obtain⟨o',q'⟩:=I.dom b u z;grind
 dom:=λb o e=>let ⟨o',q⟩:=I.dom b o e;g.h.any q
def EnvOk.he(I:EnvOk K M F H env σ)(h:H a=none):M.He a=none:=by
 cases z:M.He a with
 |none=>rfl
 |some u=>obtain⟨o',q'⟩:=I.dom a u z;grind
def EnvOk.setv(I:EnvOk K M F H env σ)(h:Is K F d v):EnvOk K M F H (env.set i (.val d)) (σ.set i (some v)) where
 len:=by rw[Yk,Yk];exact I.len
 slot:=λj=>by
  rw[qbm,qpe,I.len];split
  ·exact⟨v,rfl,h⟩
  ·exact I.slot j
 dis:=λj k a hjk h1 h2 h3 h4=>by
  rw[qbm]at h1 h2;rw[qpe]at h3 h4;rw[I.len]at h1 h2;split at h1
  ·cases h1
  ·rename_i z1;split at h2
   ·cases h2
   ·rename_i z2;rw[if_neg z1]at h3;rw[if_neg z2]at h4;exact I.dis j k a hjk h1 h2 h3 h4
 f0:=I.f0
 fe:=I.fe
 fh:=I.fh
 bh:=I.bh
 new:=I.new
 dom:=I.dom
def EnvOk.seto(I:EnvOk K M F H env σ)(h1:H a=some (.lst vs))(h2:F a=none)(h3:M.B a=none)(h4:M.He a=none)(h5:∀j,(gS env j).mut=true->vS σ j≠some (.ref a))(h6:Iss K F ds vs):EnvOk K M F H (env.set i (.own ds)) (σ.set i (some (.ref a))) where
  len:=by rw[Yk,Yk];exact I.len
  slot:=λj=>by
   rw[qbm,qpe,I.len];split
   ·exact⟨a,vs,rfl,h1,h2,h3,h4,h6⟩
   ·exact I.slot j
  dis:=λj k b hjk m1 m2 e1 e2=>by
   rw[qbm]at m1 m2;rw[qpe]at e1 e2;rw[I.len]at m1 m2;by_cases z1:i=j/\i<σ.length
   ·grind
   ·rw[if_neg z1]at m1 e1;by_cases z2:i=k/\i<σ.length
    ·grind
    ·rw[if_neg z2]at m2 e2;exact I.dis j k b hjk m1 m2 e1 e2
  f0:=I.f0
  fe:=I.fe
  fh:=I.fh
  bh:=I.bh
  new:=I.new
  dom:=I.dom
def Sl.upd:Sl->List Qh->Sl
 |.own _,ds => .own ds
 |.pen _,ds => .pen ds
 |s,_=>s
def Sl.cnt:Sl->List Qh
 |.own ds=>ds
 |.pen ds=>ds
 |_=>[]
def SlotOk.addr(h:SlotOk K M F H s x)(m:s.mut=true):∃a vs,x=some (.ref a)/\H a=some (.lst vs)/\F a=none/\M.B a=none/\Iss K F s.cnt vs:=by
 cases s with
 |non=>cases m
 |val d=>cases m
 |own ds=>obtain⟨a,vs,e,h1,h2,h3,h4,h5⟩:=h;exact⟨a,vs,e,h1,h2,h3,h5⟩
 |pen ds=>obtain⟨a,vs,e,h1,h2,h3,hx,h5⟩:=h;exact⟨a,vs,e,h1,h2,h3,h5⟩
 |new d=>cases m
 |exc C=>cases m
 | «at» v=>cases m
 |obj a0 C nm fs=>cases m
 |dsk _ a0 g0 C f es=>cases m
def zvw(h:(gS e i).mut=true):i<e.length:=by
 by_cases z:i<e.length
 ·exact z
 ·rw[qtt (by omega)]at h;cases h
def EnvOk.chg(I:EnvOk K M F H env σ)(m:(gS env i).mut=true)(ea:vS σ i=some (.ref a))(h:Iss K F ds vs):EnvOk K M F (upd H a (.lst vs)) (env.set i ((gS env i).upd ds)) σ:=by
 obtain⟨a',vs0,e,h1,h2,h3,h5⟩:=(I.slot i).addr m;rw[ea]at e;injection e with e;injection e with e;subst e;have hi:=zvw m;have mu:((gS env i).upd ds).mut=true:=by
  cases q:gS env i with
  |non=>rw[q]at m;cases m
  |val d=>rw[q]at m;cases m
  |own d=>rfl
  |pen d=>rfl
  |new d=>rw[q]at m;cases m
  |exc C=>rw[q]at m;cases m
  | «at» v=>rw[q]at m;cases m
  |obj a0 C nm fs=>rw[q]at m;cases m
  |dsk _ a0 g0 C f es=>rw[q]at m;cases m
 have muj:∀j,(gS (env.set i ((gS env i).upd ds)) j).mut=(gS env j).mut:=λj=>by
  rw[qbm];split
  ·rename_i z;rw[mu,<- z.1,m]
  ·rfl
 refine⟨by rw[Yk];exact I.len,λj=>?_,λj k b hjk m1 m2 e1 e2=>I.dis j k b hjk (muj j▸m1) (muj k▸m2) e1 e2,I.f0,I.fe,λb o e=>?_,λb o e=>?_,I.new,λb o e=>?_⟩
 ·rw[qbm];by_cases z:i=j
  ·subst z;rw[if_pos ⟨rfl,hi⟩];have S:=I.slot i;cases q:gS env i with
   |non=>rw[q]at m;cases m
   |val d=>rw[q]at m;cases m
   |own ds0 =>
    rw[q]at S;obtain⟨a',vs',e,g1,g2,g3,g4,g5⟩:=S;rw[ea]at e;injection e with e;injection e with e;subst e;exact⟨a,vs,ea,qp,g2,g3,g4,h⟩
   |pen ds0 =>
    rw[q]at S;obtain⟨a',vs',e,g1,g2,g3,gx,g5⟩:=S;rw[ea]at e;injection e with e;injection e with e;subst e;exact⟨a,vs,ea,qp,g2,g3,gx,h⟩
   |new d=>rw[q]at m;cases m
   |exc C=>rw[q]at m;cases m
   | «at» v=>rw[q]at m;cases m
   |obj a0 C nm fs=>rw[q]at m;cases m
   |dsk _ a0 g0 C f es=>rw[q]at m;cases m
  ·rw[if_neg (λy=>z y.1)];have S:=I.slot j;cases q:gS env j with
   |non=>trivial
   |val d=>rw[q]at S;exact S
   |own ds0 =>
    rw[q]at S;obtain⟨b,vs',e,g1,g2,g3,g4,g5⟩:=S;have hb:b≠a:=λy=>by subst y;exact I.dis i j b z m (by rw[q];rfl) ea e
    exact⟨b,vs',e,by rw[qo hb];exact g1,g2,g3,g4,g5⟩
   |pen ds0 =>
    rw[q]at S;obtain⟨b,vs',e,g1,g2,g3,gx,g5⟩:=S;have hb:b≠a:=λy=>by subst y;exact I.dis i j b z m (by rw[q];rfl) ea e
    exact⟨b,vs',e,by rw[qo hb];exact g1,g2,g3,gx,g5⟩
   |new d=>rw[q]at S;exact S
   |exc C=>rw[q]at S;exact S
   | «at» v=>rw[q]at S;exact S
   |obj a0 C nm fs=>rw[q]at S;exact S
   |dsk mm a0 g0 C f es =>
    rw[q]at S;obtain⟨dx,kvs,e,g1,g2,g3,g4⟩:=S;exact⟨dx,kvs,e,by rw[qo (λy=>by rw[y,h1]at g1;cases g1)];exact g1,by rw[qo (λy=>by rw[y,h1]at g2;cases g2)];exact g2,g3,g4⟩
 ·rw[qo (qq e h2)];exact I.fh b o e
 ·rw[qo (qq e h3)];exact I.bh b o e
 ·obtain⟨o',q⟩:=I.dom b o e;by_cases z:b=a
  ·subst z;exact⟨_,qp⟩
  ·exact⟨o',by rw[qo z];exact q⟩
def EnvOk.frz(I:EnvOk K M F H env σ)(h1:H a=some (.lst vs))(h2:F a=none)(h4:M.He a=none)(h5:∀j,(gS env j).mut=true->vS σ j≠some (.ref a)):
 EnvOk K M (upd F a (.lst vs)) H env σ/\Same F (upd F a (.lst vs)):=by
  have sF:Same F (upd F a (.lst vs)):=qbi h2;refine⟨⟨I.len,λj=>?_,I.dis,I.f0.trans sF,I.fe,λb o e=>?_,I.bh,λb o e=>?_,I.dom⟩,sF⟩
  ·have S:=I.slot j;have n5:=h5 j;cases q:gS env j with
   |non=>trivial
   |val d=>rw[q]at S;obtain⟨v,e,i⟩:=S;exact⟨v,e,i.mono sF⟩
   |own ds0 =>
    rw[q]at S n5;obtain⟨b,vs',e,g1,g2,g3,g4,g5⟩:=S;have hb:b≠a:=λy=>by subst y;exact n5 rfl e
    exact⟨b,vs',e,g1,by rw[qo hb];exact g2,g3,g4,g5.mono sF⟩
   |pen ds0 =>
    rw[q]at S n5;obtain⟨b,vs',e,g1,g2,g3,gx,g5⟩:=S;have hb:b≠a:=λy=>by subst y;exact n5 rfl e
    exact⟨b,vs',e,g1,by rw[qo hb];exact g2,g3,gx,g5.mono sF⟩
   |new d=>rw[q]at S;obtain⟨v,e,i⟩:=S;exact⟨v,e,i.mono (qvb sF)⟩
   |exc C=>rw[q]at S;obtain⟨ea,e,i⟩:=S;exact⟨ea,e,sF.at i⟩
   | «at» v=>rw[q]at S;exact S
   |obj a0 C nm fs=>rw[q]at S;obtain⟨dx,vs',e,b',hn,i⟩:=S;exact⟨dx,vs',e,b',hn,λf d m=>let ⟨v,l,j⟩:=i f d m; ⟨v,l,j.mono sF⟩⟩
   |dsk mm a0 g0 C f es =>
    rw[q]at S;obtain⟨dx,kvs,e,g1,g2,g3,g4⟩:=S;refine⟨dx,kvs,e,g1,g2,g3.mono sF,?_⟩;cases mm with
    |true=>exact⟨by rw[qo (λy=>by rw[y,h1]at g2;cases g2)];exact g4.1,g4.2⟩
    |false=>exact g4
  ·by_cases z:b=a
   ·subst z;rw[qp]at e;rw[h1];exact .of e
   ·rw[qo z]at e;exact I.fh b o e
  ·by_cases z:b=a
   ·subst z;exact .inr h4
   ·rw[qo z]at e;exact I.new b o e
def EnvOk.drop(I:EnvOk K M F H env σ)(i:Nat):EnvOk K M F H (env.set i .non) σ where
 len:=by rw[Yk];exact I.len
 slot:=λj=>by
  rw[qbm];split
  ·trivial
  ·exact I.slot j
 dis:=λj k a hjk h1 h2 h3 h4=>by
  rw[qbm]at h1 h2;split at h1
  ·cases h1
  ·split at h2
   ·cases h2
   ·exact I.dis j k a hjk h1 h2 h3 h4
 f0:=I.f0
 fe:=I.fe
 fh:=I.fh
 bh:=I.bh
 new:=I.new
 dom:=I.dom
def EnvOk.tell(I:EnvOk K M F H env σ)(e:vS σ i=some v)(h:Is K F d v):EnvOk K M F H (env.set i (.val d)) σ where
 len:=by rw[Yk];exact I.len
 slot:=λj=>by
  rw[qbm];split
  ·rename_i z;rw[<- z.1];exact⟨v,e,h⟩
  ·exact I.slot j
 dis:=λj k a hjk h1 h2 h3 h4=>by
  rw[qbm]at h1 h2;split at h1
  ·cases h1
  ·split at h2
   ·cases h2
   ·exact I.dis j k a hjk h1 h2 h3 h4
 f0:=I.f0
 fe:=I.fe
 fh:=I.fh
 bh:=I.bh
 new:=I.new
 dom:=I.dom
def Sl.fz:Sl->Sl
 |.own ds => .val (.list ds)
 |s=>s
def EnvOk.freeze(I:EnvOk K M F H env σ)(i:Nat):∃F',EnvOk K M F' H (env.set i (gS env i).fz) σ/\Same F F':=by
 have same:∀s,gS env i=s->env.set i s=env:=λs h=>by
  subst h;apply Qcm;intro j;rw[Qfc];split
  ·rename_i z;subst z;split
   ·rename_i hi;have:∀(e:Sto)(n:Nat)(h:n<e.length),some (gS e n)=e[n]?:=by
     intro e
     induction e with
     |nil=>intro n h;simp at h
     |cons x e ih=>intro n h;cases n with
      |zero=>rfl
      |succ n=>simp only[gS,J3];exact ih n (by simpa using h)
    exact this env i hi
   ·rename_i hi;rw[Qak (by omega)]
  ·rfl
 cases q:gS env i with
 |non=>exact⟨F,by rw[show Sl.fz .non = .non from rfl,same _ q];exact I,.refl _⟩
 |val d=>exact⟨F,by rw[show Sl.fz (.val d) = .val d from rfl,same _ q];exact I,.refl _⟩
 |pen ds=>exact⟨F,by rw[show Sl.fz (.pen ds) = .pen ds from rfl,same _ q];exact I,.refl _⟩
 |new d=>exact⟨F,by rw[show Sl.fz (.new d) = .new d from rfl,same _ q];exact I,.refl _⟩
 |exc C=>exact⟨F,by rw[show Sl.fz (.exc C) = .exc C from rfl,same _ q];exact I,.refl _⟩
 | «at» v=>exact⟨F,by rw[show Sl.fz (.at v) = .at v from rfl,same _ q];exact I,.refl _⟩
 |obj a0 C nm fs=>exact⟨F,by rw[show Sl.fz (.obj a0 C nm fs) = .obj a0 C nm fs from rfl,same _ q];exact I,.refl _⟩
 |dsk mm a0 g0 C f es=>exact⟨F,by rw[show Sl.fz (.dsk mm a0 g0 C f es) = .dsk mm a0 g0 C f es from rfl,same _ q];exact I,.refl _⟩
 |own ds =>
  have S:=I.slot i;rw[q]at S;obtain⟨a,vs,e,h1,h2,h3,h4,h5⟩:=S;obtain⟨J,s⟩:=(I.drop i).frz h1 h2 h4 (λj m z=>by
   rw[qbm]at m;split at m
   ·cases m
   ·rename_i hn;by_cases hij:i=j
    ·subst hij;exact hn ⟨rfl,zvw (by rw[q];rfl)⟩
    ·exact I.dis i j a hij (by rw[q];rfl) m e z)
  have T:=J.tell (i:=i) (d :=.list ds) e (qdg (SqL.of qp) (h5.mono s));rw[List.set_set]at T;exact⟨_,T,s⟩
end
abbrev WE:=Sto->(Qh->Sto->Prop)->Prop
abbrev WF:=Sto->(List Qh->Sto->Prop)->Prop
abbrev WT:=Sto->(Bool->Sto->Prop)->Prop
inductive Ret where
 |val (d:Qh)
 |own (ds:List Qh)
 |new (d:Qh)
def Ret.data:Ret->Qh
 |.val d=>d
 |.own ds => .list ds
 |.new d=>d
structure WEnds where
 nx:Sto->Prop
 rt:Ret->Sto->Prop
 bk:Sto->Prop:=λ_=>False
 ct:Sto->Prop:=λ_=>False
abbrev WS:=WEnds->Sto->Prop
abbrev WG:=Qh->Sto->(Sto->Prop)->Prop
abbrev WGs:=List Qh->Sto->(Sto->Prop)->Prop
abbrev D2:=Qh->Qh->(Qh->Prop)->Prop
abbrev DC:=List Qh->(Qh->Prop)->Prop
section
variable(K:Qa)
def qdc(W:WE):TE:=λσ H R =>∃M env F Q,EnvOk K M F H env σ/\W env Q /\ ∀d v F' H' env',EnvOk K M F' H' env' σ->Same F F'->Is K F' d v->Q d env'->R v H'
def zjw(W:WF):TE:=λσ H R =>∃M env F Q,EnvOk K M F H env σ/\W env Q /\ ∀a vs ds F' H' env',EnvOk K M F' H' env' σ->Same F F'->H' a=some (.lst vs)->F' a=none->M.B a=none->M.He a=none ->
 (∀i,(gS env' i).mut=true->vS σ i≠some (.ref a))->Iss K F' ds vs->Q ds env'->R (.ref a) H'
def qgr(W:WF):TA:=λσ H R =>∃M env F Q,EnvOk K M F H env σ/\W env Q /\ ∀ds vs F' H' env',EnvOk K M F' H' env' σ->Same F F'->Iss K F' ds vs->Q ds env'->R vs H'
def qyi(W:WT):TT:=λσ H R =>∃M env F Q,EnvOk K M F H env σ/\W env Q /\ ∀b F' H' env',EnvOk K M F' H' env' σ->Same F F'->Q b env'->R b H'
def RetOk(M:Frm)(F H:Hp):Ret->V->Prop
 |.val d,v=>Is K F d v
 |.own ds,v =>∃a vs,v = .ref a/\H a=some (.lst vs)/\F a=none/\M.B a=none/\M.He a=none/\Iss K F ds vs
 |.new d,v=>IsN K (qoi M F) d v
structure EndsOk(M:Frm)(F:Hp)(DD:WEnds)(D:Ends):Prop where
 nx:∀env' F' H' σ',EnvOk K M F' H' env' σ'->Same F F'->DD.nx env'->D.nx σ' H'
 rt:∀r v env' F' H' σ',EnvOk K M F' H' env' σ'->Same F F'->RetOk K M F' H' r v->DD.rt r env'->D.rt v H'
 bk:∀env' F' H' σ',EnvOk K M F' H' env' σ'->Same F F'->DD.bk env'->D.bk σ' H'
 ct:∀env' F' H' σ',EnvOk K M F' H' env' σ'->Same F F'->DD.ct env'->D.ct σ' H'
def zpr(W:WS):TS:=λD σ H =>∃M env F DD,EnvOk K M F H env σ/\W DD env/\EndsOk K M F DD D
def qov(W:WG):TG:=λv σ H R =>∃M env F d Q,EnvOk K M F H env σ/\Is K F d v/\W d env Q /\ ∀F' H' env' σ',EnvOk K M F' H' env' σ'->Same F F'->Q env'->R σ' H'
def zwb(W:WGs):TGs:=λvs σ H R =>∃M env F ds Q,EnvOk K M F H env σ/\Iss K F ds vs/\W ds env Q /\ ∀F' H' env' σ',EnvOk K M F' H' env' σ'->Same F F'->Q env'->R σ' H'
def qty(r:D2):R2:=λx y H Q =>∃F dx dy q,Same F H/\Is K F dx x/\Is K F dy y/\r dx dy q /\ ∀d v F' H',Go F H F' H'->Is K F' d v->q d->Q v H'
def qxw(r:DC):List V->Hp->VK->Prop:=λvs H Q =>∃F ds q,Same F H/\Iss K F ds vs/\r ds q /\ ∀d v F' H',Go F H F' H'->Is K F' d v->q d->Q v H'
def qxo(r:List Qh->(List Qh->Prop)->Prop):List V->Hp->VK->Prop:=λvs H Q =>∃F ds q,Same F H/\Iss K F ds vs/\r ds q /\ ∀l a xs F' H',Go F H F' H'->H a=none->F' a=none->H' a=some (.lst xs)->Iss K F' l xs->q l->Q (.ref a) H'
structure ItD(J:It)(F:Hp)(ds:List Qh):Prop where
 go:∀i H,Same F H->i<ds.length->J.go i H
 stop:∀H,Same F H->J.stop ds.length H
 yld:∀i H x H' F1,Same F F1->Same F1 H->i<ds.length->J.yld i H x H' ->∃d F2,ds[i]?=some d/\Go F1 H F2 H'/\Is K F2 d x
def zcm(W:WF):TI:=λσ H R =>∃M env F Q,EnvOk K M F H env σ/\W env Q /\ ∀ds J F' H' env',EnvOk K M F' H' env' σ->Same F F'->ItD K J F' ds->Q ds env'->R J H'
end
section
variable{K:Qa}{M:Frm}{F F':Hp}{DD:WEnds}{D:Ends}
def EndsOk.mono(h:EndsOk K M F DD D)(s:Same F F'):EndsOk K M F' DD D :=
 ⟨λe f g i j k=>h.nx e f g i j (s.trans k),λr v e f g i j k=>h.rt r v e f g i j (s.trans k),λe f g i j k=>h.bk e f g i j (s.trans k),λe f g i j k=>h.ct e f g i j (s.trans k)⟩
end
def VE(X:Cx)(e:Expr)(W:WE):Prop:=PE X e (qdc X.K W)
def VF(X:Cx)(e:Expr)(W:WF):Prop:=PE X e (zjw X.K W)
def VA(X:Cx)(e:List Expr)(W:WF):Prop:=PA X e (qgr X.K W)
def VT(X:Cx)(e:Expr)(W:WT):Prop:=PT X e (qyi X.K W)
def VW(X:Cx)(e:Expr)(W:WT):Prop:=PW X e (qyi X.K W)
def VW.pt(h:VW X e W):VT X e W:=PW.pt h
def VS(X:Cx)(st:Stmt)(W:WS):Prop:=PS X st (zpr X.K W)
def VSs(X:Cx)(st:List Stmt)(W:WS):Prop:=PSs X st (zpr X.K W)
def VG(X:Cx)(e:Expr)(W:WG):Prop:=PG X e (qov X.K W)
def VGs(X:Cx)(e:List Expr)(W:WGs):Prop:=PGs X e (zwb X.K W)
def VI(X:Cx)(tg e:Expr)(W:WF):Prop:=PI X tg e (zcm X.K W)
def OpV(X:Cx)(f:Value->Value->Sem Value)(r:D2):Prop:=OpR X f (qty X.K r)
def qjy(X:Cx)(f:Value)(r:DC):Prop:=CallR X f (qxw X.K r)
def zee(X:Cx)(f:Value)(r:List Qh->(List Qh->Prop)->Prop):Prop:=CallR X f (qxo X.K r)
section
variable{X:Cx}
def PE.imp(h:PE X e t)(i:∀σ H Q,t' σ H Q->t σ H Q):PE X e t':=λpins s σ H Q I q=>h pins s σ H Q I (i σ H Q q)
def PA.imp(h:PA X e t)(i:∀σ H Q,t' σ H Q->t σ H Q):PA X e t':=λpos pins s σ H Q I q=>h pos pins s σ H Q I (i σ H Q q)
def PT.imp(h:PT X e t)(i:∀σ H Q,t' σ H Q->t σ H Q):PT X e t':=λpins s σ H Q I q=>h pins s σ H Q I (i σ H Q q)
def PW.imp(h:PW X e t)(i:∀σ H Q,t' σ H Q->t σ H Q):PW X e t':=λwh pins s σ H Q I q=>h wh pins s σ H Q I (i σ H Q q)
def PS.imp(h:PS X e t)(i:∀D σ H,t' D σ H->t D σ H):PS X e t':=λpins s σ H D I q=>h pins s σ H D I (i D σ H q)
def PSs.imp(h:PSs X e t)(i:∀D σ H,t' D σ H->t D σ H):PSs X e t':=λpins s σ H D I q=>h pins s σ H D I (i D σ H q)
def PG.imp(h:PG X e t)(i:∀v σ H Q,t' v σ H Q->t v σ H Q):PG X e t':=λpins s σ H v u Q I r q=>h pins s σ H v u Q I r (i v σ H Q q)
def PGs.imp(h:PGs X e t)(i:∀v σ H Q,t' v σ H Q->t v σ H Q):PGs X e t':=λpins s σ H v u Q I r q=>h pins s σ H v u Q I r (i v σ H Q q)
def PI.imp(h:PI X tg e t)(i:∀σ H Q,t' σ H Q->t σ H Q):PI X tg e t':=λpins s σ H Q I q=>h pins s σ H Q I (i σ H Q q)
def OpR.imp(h:OpR X f r)(i:∀x y H Q,r' x y H Q->r x y H Q):OpR X f r':=λpins s σ H x y v u Q I a b q=>h pins s σ H x y v u Q I a b (i x y H Q q)
def CallR.imp(h:CallR X f r)(i:∀x H Q,r' x H Q->r x H Q):CallR X f r':=λpins s σ H x u Q I a q=>h pins s σ H x u Q I a (i x H Q q)
def IxR.imp(h:IxR X r)(i:∀x y H Q,r' x y H Q->r x y H Q):IxR X r':=λvalue slice pins s σ H x y v u Q I a b q=>h value slice pins s σ H x y v u Q I a b (i x y H Q q)
def qui(i:Nat):WE:=λenv Q=>match gS env i with |.val d=>Q d env |.new d=>Q d env|_=>False
def qc(i:Nat){pos:Pos}(hN:X.N[i]?=some x:=by rfl)(hv:Vis X.env.scope x:=by first|exact Yi rfl|exact Zt (Yi rfl)|exact Zt (Zt rfl))(hd:Nd0 x:=by decide)(hcd:Nd1 x:=by decide):VE X (.Name x pos) (qui i):=(qbo hN hv hd hcd).imp λσ H R xx65=>by
 obtain⟨M,env,F,Q,I,h,k⟩:=xx65;have S:=I.slot i;unfold qui at h;cases q:gS env i with
 |val d =>
  rw[q]at S h;obtain⟨v,e,j⟩:=S;exact⟨v,qcf e,k d v F H env I (.refl _) j h⟩
 |new d =>
  rw[q]at S h;obtain⟨v,e,j⟩:=S;exact⟨v,qcf e,k d v F H env I (.refl _) (j.is qit) h⟩
 |non=>rw[q]at h;exact h.elim
 |own ds=>rw[q]at h;exact h.elim
 |pen ds=>rw[q]at h;exact h.elim
 |exc C=>rw[q]at h;exact h.elim
 | «at» v=>rw[q]at h;exact h.elim
 |dsk _ _ _ _ _ _=>rw[q]at h;exact h.elim
 |obj a0 C nm fs=>rw[q]at h;exact h.elim
def wC(d:Qh):WE:=λenv Q=>Q d env
def zkc(h:PE X e (tC v))(i:∀F,Is X.K F d v):VE X e (wC d):=h.imp λσ H R xx66=>by obtain⟨M,env,F,Q,I,h,k⟩:=xx66;exact k d v F H env I (.refl _) (i F) h
def ql{i j pos}:VE X (.Constant (.int i) j pos) (wC (.int i)):=zkc zvy λ_=>qaq i
def qgc{b j pos}:VE X (.Constant (.bool b) j pos) (wC (.bool b)):=zkc zzj λ_=>qci b
def znt{j pos}:VE X (.Constant .none j pos) (wC .none):=zkc zwq λ_=>qei
def qd{x j pos}:VE X (.Constant (.str x) j pos) (wC (.str x)):=zkc zyd λ_=>qeh x
def qaj{pos:Pos}(h:∃t,X.mg x=some (.int i t))(hg:Gl X x:=by rfl)(hd:Nd0 x:=by decide):VE X (.Name x pos) (wC (.int i)):=by
 obtain⟨t,hm⟩:=h;exact zkc (qbt (v :=.int i) hg hm ⟨t,rfl⟩ hd) λ_=>qaq i
def wOp(r:D2)(Wa Wb:WE):WE:=λenv Q=>Wa env λx e1=>Wb e1 λy e2=>r x y λd=>Q d e2
def qmu(h:qdc X.K (wOp r Wa Wb) σ H R):tOp (qty X.K r) (qdc X.K Wa) (qdc X.K Wb) σ H R:=by
 obtain⟨M,env,F,Q,I,h,k⟩:=h;exact⟨M,env,F,_,I,h,λd v F1 H1 e1 I1 s1 i1 h1=>⟨M,e1,F1,_,I1,h1,λd2 v2 F2 H2 e2 I2 s2 i2 h2 =>
  ⟨F2,d,d2,_,I2.fh,i1.mono s2,i2,h2,λd3 v3 F3 H3 g i3 q=>k d3 v3 F3 H3 e2 (I2.go g) (s1.trans (s2.trans g.f)) i3 q⟩⟩⟩
section
variable{a b c:Expr}{Wa Wb Wc:WE}{pos:Pos}
def qf(ho:OpV X (Jn op) r)(ha:VE X a Wa)(hb:VE X b Wb):VE X (.BinOp a op b pos) (wOp r Wa Wb) :=
 (zvl ho ha hb).imp λ_ _ _ h=>qmu h
def qds(ho:OpV X (Zs op) r)(ha:VE X a Wa)(hb:VE X b Wb)(hm:Vd op b=false:=by first|exact zds _|with_unfolding_all rfl):VE X (.Compare a [op] [b] pos) (wOp r Wa Wb) :=
 (zer ho ha hb hm).imp λ_ _ _ h=>qmu h
def qrb(W:WE):WT:=λenv Q=>W env λd e=>match d with |.bool b=>Q b e|_=>False
def qnf(h:qyi X.K (qrb W) σ H R):qdc X.K W σ H λx H' =>∃k,x = .bl k/\R k H':=by
 obtain⟨M,env,F,Q,I,h,k⟩:=h;refine⟨M,env,F,_,I,h,λd v F1 H1 e1 I1 s1 i1 h1=>?_⟩;cases d with
 |bool b=>exact⟨b,i1.bl_inv,k b F1 H1 e1 I1 s1 h1⟩
 |_=>grind
def qA(ho:OpV X (Zs op) r)(ha:VE X a Wa)(hb:VE X b Wb)(hm:Vd op b=false:=by first|exact zds _|with_unfolding_all rfl):VT X (.Compare a [op] [b] pos) (qrb (wOp r Wa Wb)) :=
 (zsg ho ha hb hm).imp λσ H R h=>qmu (qnf h)
def qV(h:VE X e W)(he:∀whole,Qln e X.env whole=(do let v <- whole;Qhc e.pos;Qdf [v] (truthy v)):=by intro _;rfl):VT X e (qrb W) :=
 (zyb h he).imp λσ H R h=>qnf h
def zop(r r':D2)(Wa Wb Wc:WE):WE:=λenv Q=>Wa env λx e1=>Wb e1 λy e2=>r x y λz=>match z with
 |.bool k=>if k=true then Wc e2 λw e3=>r' y w λd=>Q d e3 else Q (.bool false) e2
 |_=>False
def zdm(h:qdc X.K (zop r r' Wa Wb Wc) σ H R):zpa (qty X.K r) (qty X.K r') (qdc X.K Wa) (qdc X.K Wb) (qdc X.K Wc) σ H R:=by
 obtain⟨M,env,F,Q,I,h,k⟩:=h;refine⟨M,env,F,_,I,h,λd v F1 H1 e1 I1 s1 i1 h1=>⟨M,e1,F1,_,I1,h1,λd2 v2 F2 H2 e2 I2 s2 i2 h2=>⟨F2,d,d2,_,I2.fh,i1.mono s2,i2,h2,λd3 v3 F3 H3 g i3 q=>?_⟩⟩⟩;have I3:=I2.go g;have s3:=s1.trans (s2.trans g.f);cases d3 with
 |bool b =>
  refine⟨b,i3.bl_inv,?_⟩;cases b with
  |false=>exact qdl (k _ _ F3 H3 e2 I3 s3 (qci false) q)
  |true=>exact qho ⟨M,e2,F3,_,I3,q,λd4 v4 F4 H4 e4 I4 s4 i4 h4=>⟨F4,d2,d4,_,I4.fh,(i2.mono g.f).mono s4,i4,h4,λd5 v5 F5 H5 g5 i5 q5=>k d5 v5 F5 H5 e4 (I4.go g5) (s3.trans (s4.trans g5.f)) i5 q5⟩⟩
 |_=>grind
def qsj(ho:OpV X (Zs op) r)(ho':OpV X (Zs op') r')(ha:VE X a Wa)(hb:VE X b Wb)(hc:VE X c Wc)(hm:Qkz [op,op'] [b,c]=false:=by with_unfolding_all rfl):VT X (.Compare a [op,op'] [b,c] pos) (qrb (zop r r' Wa Wb Wc)):=(zno ho ho' ha hb hc hm).imp λ_ _ _ h=>zdm (qnf h)
end
section
variable{a b c:Expr}{Wa Wb Wc:WE}{Ta Tb Tc:WT}{pos:Pos}{rest:List Expr}
def xfa(t u:WT):WT:=λenv Q=>t env λk e=>if k=true then u e Q else Q false e
def wOr(t u:WT):WT:=λenv Q=>t env λk e=>if k=true then Q true e else u e Q
def xcz(t:WT):WT:=λenv Q=>t env λk e=>Q (!k) e
def zrq(ha:VT X a Ta):VW X (.BoolOp .And [a] pos) Ta:=zqk ha
def qde(ha:VT X a Ta):VW X (.BoolOp .Or [a] pos) Ta:=zwc ha
def zxm(ha:VT X a Ta)(hb:VW X (.BoolOp .And (b::rest) pos) Tb):VW X (.BoolOp .And (a::b::rest) pos) (xfa Ta Tb):=(zya ha hb).imp λσ H R xx67=>by
 obtain⟨M,env,F,Q,I,h,k⟩:=xx67;refine⟨M,env,F,_,I,h,λx F1 H1 e1 I1 s1 h1=>?_⟩;cases x with
 |true=>exact qho ⟨M,e1,F1,Q,I1,h1,λy F2 H2 e2 I2 s2 h2=>k y F2 H2 e2 I2 (s1.trans s2) h2⟩
 |false=>exact qdl (k false F1 H1 e1 I1 s1 h1)
def qee(ha:VT X a Ta)(hb:VW X (.BoolOp .Or (b::rest) pos) Tb):VW X (.BoolOp .Or (a::b::rest) pos) (wOr Ta Tb):=(xag ha hb).imp λσ H R xx68=>by
 obtain⟨M,env,F,Q,I,h,k⟩:=xx68;refine⟨M,env,F,_,I,h,λx F1 H1 e1 I1 s1 h1=>?_⟩;cases x with
 |true=>exact qho (k true F1 H1 e1 I1 s1 h1)
 |false=>exact qdl ⟨M,e1,F1,Q,I1,h1,λy F2 H2 e2 I2 s2 h2=>k y F2 H2 e2 I2 (s1.trans s2) h2⟩
def qW(ha:VT X a Ta):VT X (.UnaryOp .Not a pos) (xcz Ta):=(zxr ha).imp λσ H R xx69=>by
 obtain⟨M,env,F,Q,I,h,k⟩:=xx69;exact⟨M,env,F,_,I,h,λx F1 H1 e1 I1 s1 h1=>k (!x) F1 H1 e1 I1 s1 h1⟩
def zuq(Wa Wb:WE):WE:=λenv Q=>Wa env λd e=>match d with |.bool k=>if k=true then Wb e Q else Q (.bool false) e|_=>False
def xeu(Wa Wb:WE):WE:=λenv Q=>Wa env λd e=>match d with |.bool k=>if k=true then Q (.bool true) e else Wb e Q|_=>False
def xbg(Wa:WE):WE:=λenv Q=>Wa env λd e=>match d with |.bool k=>Q (.bool (!k)) e|_=>False
def qjk{op}(h:VE X a Wa):VE X (.BoolOp op [a] pos) Wa:=zom h
def qpd(ha:VE X a Wa)(hb:VE X (.BoolOp .And (b::rest) pos) Wb):VE X (.BoolOp .And (a::b::rest) pos) (zuq Wa Wb):=(zoo ha hb).imp λσ H R xx70=>by
 obtain⟨M,env,F,Q,I,h,k⟩:=xx70;refine⟨M,env,F,_,I,h,λd v F1 H1 e1 I1 s1 i1 h1=>?_⟩;cases d with
 |bool x =>
  refine⟨x,i1.bl_inv,?_⟩;cases x with
  |true=>exact qho ⟨M,e1,F1,Q,I1,h1,λd2 v2 F2 H2 e2 I2 s2 i2 h2=>k d2 v2 F2 H2 e2 I2 (s1.trans s2) i2 h2⟩
  |false=>exact qdl (k _ _ F1 H1 e1 I1 s1 (qci false) h1)
 |_=>exact Q7 h1
def zvp(ha:VE X a Wa)(hb:VE X (.BoolOp .Or (b::rest) pos) Wb):VE X (.BoolOp .Or (a::b::rest) pos) (xeu Wa Wb):=(xcb ha hb).imp λσ H R xx71=>by
 obtain⟨M,env,F,Q,I,h,k⟩:=xx71;refine⟨M,env,F,_,I,h,λd v F1 H1 e1 I1 s1 i1 h1=>?_⟩;cases d with
 |bool x =>
  refine⟨x,i1.bl_inv,?_⟩;cases x with
  |false=>exact qdl ⟨M,e1,F1,Q,I1,h1,λd2 v2 F2 H2 e2 I2 s2 i2 h2=>k d2 v2 F2 H2 e2 I2 (s1.trans s2) i2 h2⟩
  |true=>exact qho (k _ _ F1 H1 e1 I1 s1 (qci true) h1)
 |_=>exact Q7 h1
def zny(ha:VE X a Wa):VE X (.UnaryOp .Not a pos) (xbg Wa):=(zxd ha).imp λσ H R xx72=>by
 obtain⟨M,env,F,Q,I,h,k⟩:=xx72;refine⟨M,env,F,_,I,h,λd v F1 H1 e1 I1 s1 i1 h1=>?_⟩;cases d with
 |bool x=>exact⟨x,i1.bl_inv,k _ _ F1 H1 e1 I1 s1 (qci _) h1⟩
 |_=>exact Q7 h1
def xdr(t:WT)(Wa Wb:WE):WE:=λenv Q=>t env λk e=>if k=true then Wa e Q else Wb e Q
def qfc(hc:VT X c Tc)(ha:VE X a Wa)(hb:VE X b Wb):VE X (.IfExp c a b pos) (xdr Tc Wa Wb):=(zmg hc ha hb).imp λσ H R xx73=>by
 obtain⟨M,env,F,Q,I,h,k⟩:=xx73;refine⟨M,env,F,_,I,h,λx F1 H1 e1 I1 s1 h1=>?_⟩;cases x with
 |true=>exact qho ⟨M,e1,F1,Q,I1,h1,λd2 v2 F2 H2 e2 I2 s2 i2 h2=>k d2 v2 F2 H2 e2 I2 (s1.trans s2) i2 h2⟩
 |false=>exact qdl ⟨M,e1,F1,Q,I1,h1,λd2 v2 F2 H2 e2 I2 s2 i2 h2=>k d2 v2 F2 H2 e2 I2 (s1.trans s2) i2 h2⟩
end
section
variable{a b:Expr}{Wa Wb:WE}{pos p2:Pos}
def wUn(r:Qh->(Qh->Prop)->Prop)(W:WE):WE:=λenv Q=>W env λd e=>r d λy=>Q y e
def xfk:Qh->(Qh->Prop)->Prop
 |.int i,q=>q (.int (-i))
 |_,_=>False
def zon(ha:VE X a Wa):VE X (.UnaryOp .USub a pos) (wUn xfk Wa):=(xby zyq ha).imp λσ H R xx74=>by
 obtain⟨M,env,F,Q,I,h,k⟩:=xx74;refine⟨M,env,F,_,I,h,λd v F1 H1 e1 I1 s1 i1 h1=>?_⟩;cases d with
 |int i=>exact⟨i,i1.int_inv,k _ _ F1 H1 e1 I1 s1 (qaq _) h1⟩
 |_=>exact Q7 h1
def dIx:D2
 |.list l,.int i,q =>∃d,atI l i=some d/\q d
 |.tuple l,.int i,q =>∃d,atI l i=some d/\q d
 |_,_,_=>False
def xdd:IxR X (qty X.K dIx):=zvz.imp λx y H Q xx75=>by
 obtain⟨F,dx,dy,q,s,i1,i2,h,k⟩:=xx75;cases dx with
 |list l=>cases dy with
  |int i =>
   obtain⟨d,e,hq⟩:=h;obtain⟨a,xs,rfl,hs,hr⟩:=i1.lst_inv;obtain⟨z,ez,hz⟩:=hr.atI e;exact .inl ⟨a,xs,i,z,rfl,i2.int_inv,s.seq hs,ez,k d z F H (.refl s) hz hq⟩
  |_=>exact Q7 h
 |tuple l=>cases dy with
  |int i =>
   obtain⟨d,e,hq⟩:=h;obtain⟨a,xs,rfl,hs,hr⟩:=i1.tup_inv;obtain⟨z,ez,hz⟩:=hr.atI e;exact .inr (.inl ⟨a,xs,i,z,rfl,i2.int_inv,qJ s hs,ez,k d z F H (.refl s) hz hq⟩)
  |_=>exact Q7 h
 |_=>exact Q7 h
def qz(ha:VE X a Wa)(hb:VE X b Wb)(hs:qqx b:=by exact(λ_ _=>rfl)):VE X (.Subscript a b pos) (wOp dIx Wa Wb):=(zpt xdd ha hb hs).imp λ_ _ _ h=>qmu h
abbrev WO:=Sto->(Option Int->Sto->Prop)->Prop
def xbt(K:Qa)(W:WO):TO:=λσ H R =>∃M env F Q,EnvOk K M F H env σ/\W env Q /\ ∀o F' H' env',EnvOk K M F' H' env' σ->Same F F'->Q o env'->R o H'
def zfn:WO:=λenv Q=>Q none env
def zvb(W:WE):WO:=λenv Q=>W env λd e=>match d with |.int i=>Q (some i) e|_=>False
def VO(X:Cx)(e:Option Expr)(W:WO):Prop:=PO X e (xbt X.K W)
def PO.imp(h:PO X e t)(i:∀σ H Q,t' σ H Q->t σ H Q):PO X e t':=λpins s σ H Q I q=>h pins s σ H Q I (i σ H Q q)
def qlv:VO X none zfn:=ztb.imp λσ H R xx76=>by obtain⟨M,env,F,Q,I,h,k⟩:=xx76;exact k none F H env I (.refl _) h
def qlz(ha:VE X a Wa):VO X (some a) (zvb Wa):=(zsp ha).imp λσ H R xx77=>by
 obtain⟨M,env,F,Q,I,h,k⟩:=xx77;refine⟨M,env,F,_,I,h,λd v F1 H1 e1 I1 s1 i1 h1=>?_⟩;cases d with
 |int i=>exact⟨i,i1.int_inv,k (some i) F1 H1 e1 I1 s1 h1⟩
 |_=>exact Q7 h1
def zkb{α:Type}(ds:List α)(lo hi:Option Int):List α:=(ds.drop (HT.sIx ds.length 0 lo)).take (HT.sIx ds.length ds.length hi-HT.sIx ds.length 0 lo)
def zsf{K:Qa}(h:Iss K H l xs)(lo hi:Option Int):Iss K H (zkb l lo hi) (zet xs lo hi):=by
 have e:zet xs lo hi=(xs.drop (HT.sIx l.length 0 lo)).take (HT.sIx l.length l.length hi-HT.sIx l.length 0 lo):=by unfold zet;rw[h.len]
 rw[e];exact qzp _ (zbo _ h)
def xco(Wa:WE)(Wl Wh:WO):WF:=λenv Q=>Wa env λd e1=>Wl e1 λlo e2=>Wh e2 λhi e3=>match d with |.list l =>∀r,r=zkb l lo hi->Q r e3|_=>False
def qlr{lo hi:Option Expr}(he:VE X a Wa)(hl:VO X lo Wl)(hu:VO X hi Wh):VF X (.Subscript a (.Slice lo hi none p2) pos) (xco Wa Wl Wh) :=
 (qzo ztl he hl hu).imp λσ H R xx78=>by
  obtain⟨M,env,F,Q,I,h,k⟩:=xx78;refine⟨M,env,F,_,I,h,λd v F1 H1 e1 I1 s1 i1 h1=>⟨M,e1,F1,_,I1,h1,λlo F2 H2 e2 I2 s2 h2=>⟨M,e2,F2,_,I2,h2,λhi F3 H3 e3 I3 s3 h3=>?_⟩⟩⟩;cases d with
  |list l =>
   obtain⟨a,xs,rfl,hs,hr⟩:=(i1.mono (s2.trans s3)).lst_inv;refine⟨a,xs,rfl,I3.fh.seq hs,λp hp=>?_⟩;have g:=Go.side (o:=HO.lst (zet xs lo hi)) I3.fh hp;refine k p _ _ F3 _ e3 (I3.go g) (s1.trans (s2.trans s3)) qp (qL I3.fh hp) (qL I3.bh hp) (I3.he hp) (λi m z=>?_) (zsf hr lo hi) (h3 _ rfl);obtain⟨b,vs,e,q,_⟩:=(I3.slot i).addr m;rw[z]at e;injection e with e;injection e with e;subst e;rw[hp]at q;cases q
  |_=>exact Q7 h3
end
def wL(W:WF):WE:=λenv Q=>W env λds e=>Q (.list ds) e
def qr(h:VF X e W):VE X e (wL W):=h.imp λσ H R xx79=>by
 obtain⟨M,env,F,Q,I,h,k⟩:=xx79;refine⟨M,env,F,_,I,h,λa vs ds F1 H1 e1 I1 s1 h1 h2 h3 h4 h5 h6 h7=>?_⟩;obtain⟨J,s⟩:=I1.frz h1 h2 h4 h5;exact k _ _ _ H1 e1 J (s1.trans s) (qdg (SqL.of qp) (h6.mono s)) h7
def qoh{K:Qa}(I:EnvOk K M F H env σ)(hp:H p=none):∀i,(gS env i).mut=true->vS σ i≠some (.ref p):=λi m z=>by
 obtain⟨b,vs,e,q,_⟩:=(I.slot i).addr m;rw[z]at e;injection e with e;injection e with e;grind
def qme{K:Qa}{R:VK}{Q:List Qh->Sto->Prop}(I:EnvOk K M F H env σ)(s:Same F0 F)(hi:Iss K F l xs)(h:Q l env)(k:∀a vs ds F' H' env',EnvOk K M F' H' env' σ->Same F0 F'->H' a=some (.lst vs)->F' a=none->M.B a=none->M.He a=none->(∀i,(gS env' i).mut=true->vS σ i≠some (.ref a))->Iss K F' ds vs->Q ds env'->R (.ref a) H'):
 ∀p,H p=none->R (.ref p) (upd H p (.lst xs)):=λp hp =>
  k p xs l F _ env (I.go (.side I.fh hp)) s qp (qL I.fh hp) (qL I.bh hp) (I.he hp) (qoh I hp) hi h
section
variable{e:Expr}{es:List Expr}{W:WE}{Wr:WF}{pos:Pos}
def zca:WF:=λenv Q=>Q [] env
def qeu(W:WE)(Wr:WF):WF:=λenv Q=>W env λd e1=>Wr e1 λds e2=>Q (d::ds) e2
def qe:VA X [] zca:=qar.imp λσ H R xx80=>by obtain⟨M,env,F,Q,I,h,k⟩:=xx80;exact k [] [] F H env I (.refl _) qah h
def qa(ha:VE X e W)(hr:VA X es Wr)(hs:Qi (e::es) X.env=(false,eval e X.env)::Qi es X.env:=by rfl):VA X (e::es) (qeu W Wr) :=
 (qF ha hr hs).imp λσ H R xx81=>by obtain⟨M,env,F,Q,I,h,k⟩:=xx81;exact⟨M,env,F,_,I,h,λd v F1 H1 e1 I1 s1 i1 h1=>⟨M,e1,F1,_,I1,h1,λds vs F2 H2 e2 I2 s2 i2 h2=>k (d::ds) (v::vs) F2 H2 e2 I2 (s1.trans s2) (qI (i1.mono s2) i2) h2⟩⟩
def xex(Wr:WF):WE:=λenv Q=>Wr env λds e=>ds.length<=Qo/\Q (.tuple ds) e
def qac{x1}(h:VA X es Wr):VE X (.Tuple es x1 pos) (xex Wr):=(zdt h).imp λσ H R xx82=>by
 obtain⟨M,env,F,Q,I,h,k⟩:=xx82;refine⟨M,env,F,_,I,h,λds vs F1 H1 e1 I1 s1 i1 h1=>⟨by rw[i1.len];exact h1.1,λp hp=>?_⟩⟩;have g:=Go.put (o:=HO.tup vs) I1.fh hp;exact k _ _ _ _ e1 (I1.go g) (s1.trans g.f) (qld (SqT.of qp) (i1.mono g.f)) h1.2
def xde(Wr:WF):WF:=λenv Q=>Wr env λds e=>ds.length<=Qo/\Q ds e
def qC(h:VA X es Wr):VF X (.List es pos) (xde Wr):=(zoy h).imp λσ H R xx83=>by
 obtain⟨M,env,F,Q,I,h,k⟩:=xx83;exact⟨M,env,F,_,I,h,λds vs F1 H1 e1 I1 s1 i1 h1=>⟨by rw[i1.len];exact h1.1,qme I1 s1 i1 h1.2 k⟩⟩
end
def dI2(g:Int->Int->(Qh->Prop)->Prop):D2
 |.int i,.int j,q=>g i j q
 |_,_,_=>False
def zus(h:dI2 g x y q):∃i j,x = .int i/\y = .int j/\g i j q:=by
 cases x with
 |int i=>cases y with
  |int j=>exact⟨i,j,rfl,rfl,h⟩
  |_=>exact Q7 h
 |_=>exact Q7 h
def zjz{g:Int->Int->Qh}(h:OpR X f (rI C gv))(hg:∀i j F,Is X.K F (g i j) (gv i j)):OpV X f (dI2 λi j q=>C i j/\q (g i j)):=h.imp λx y H Q xx84=>by
 obtain⟨F,dx,dy,q,s,i1,i2,h,k⟩:=xx84;obtain⟨i,j,rfl,rfl,c,hq⟩:=zus h;exact⟨i,j,i1.int_inv,i2.int_inv,c,k _ _ F H (.refl s) (hg i j F) hq⟩
def qye{g:Int->Int->Qh}(h:OpR X f (rI0 gv))(hg:∀i j F,Is X.K F (g i j) (gv i j)):OpV X f (dI2 λi j q=>q (g i j)):=h.imp λx y H Q xx85=>by
 obtain⟨F,dx,dy,q,s,i1,i2,h,k⟩:=xx85;obtain⟨i,j,rfl,rfl,hq⟩:=zus h;exact⟨i,j,i1.int_inv,i2.int_inv,k _ _ F H (.refl s) (hg i j F) hq⟩
abbrev zzv:D2:=dI2 λi j q=>IntMulOk i j/\q (.int (i*j))
abbrev xaw:D2:=dI2 λi j q=>zvs i j/\q (.int (i.fdiv j))
abbrev xff:D2:=dI2 λi j q=>(0<j/\Qbh j<=9000)/\q (.int (i/j))
abbrev xfc:D2:=dI2 λi j q=>0<j/\q (.int (i%j))
abbrev dLt:D2:=dI2 λi j q=>q (.bool (decide (i<j)))
abbrev dLe:D2:=dI2 λi j q=>q (.bool (decide (i<=j)))
abbrev dGt:D2:=dI2 λi j q=>q (.bool (decide (j<i)))
abbrev dGe:D2:=dI2 λi j q=>q (.bool (decide (j<=i)))
def qeg:OpV X (Jn .Mult) zzv:=zjz ztd λ_ _ _=>qaq _
def znx:OpV X (Jn .FloorDiv) xaw:=zjz zaq λ_ _ _=>qaq _
def zqz:OpR X (Jn .FloorDiv) (rI (λ_ j=>0<j/\Qbh j<=9000) λi j => .int (i/j)):=zaq.imp λx y H Q xx86=>by
 obtain⟨i,j,e1,e2,c,q⟩:=xx86;exact⟨i,j,e1,e2,⟨by have:=c.1;omega,c.2⟩,by show Q (V.int (i.fdiv j)) H;rw[Int.fdiv_eq_ediv_of_nonneg _ (Qbn c.1)];exact q⟩
def qot:OpV X (Jn .FloorDiv) xff:=zjz zqz λ_ _ _=>qaq _
def qjz:OpV X (Jn .Mod) xfc:=zjz zyz λ_ _ _=>qaq _
def zsc:OpV X (Zs .Lt) dLt:=qye xar λ_ _ _=>qci _
def zfq:OpV X (Zs .LtE) dLe:=qye xat λ_ _ _=>qci _
def zuh:OpV X (Zs .Gt) dGt:=qye zzr λ_ _ _=>qci _
def xcj:OpV X (Zs .GtE) dGe:=qye zzn λ_ _ _=>qci _
def dEq:D2:=λd e q=>Jm d=true/\Jm e=true/\q (.bool (Yx d e))
def dNe:D2:=λd e q=>Jm d=true/\Jm e=true/\q (.bool (!PyData.eqv d e))
def qdk(hu:X.A.units+64<cLine):OpV X (Zs .Eq) dEq:=(zwi hu).imp λx y H Q xx87=>by
 obtain⟨F,dx,dy,q,s,i1,i2,h,k⟩:=xx87;exact⟨dx,dy,i1.mono s,i2.mono s,h.1,h.2.1,k _ _ F H (.refl s) (qci _) h.2.2⟩
def qmt(hu:X.A.units+64<cLine):OpV X (Zs .NotEq) dNe:=(zxb hu).imp λx y H Q xx88=>by
 obtain⟨F,dx,dy,q,s,i1,i2,h,k⟩:=xx88;exact⟨dx,dy,i1.mono s,i2.mono s,h.1,h.2.1,k _ _ F H (.refl s) (qci _) h.2.2⟩
def xcl:D2
 |.int i,.int j,q=>q (.int (i+j))
 |.list l,.list m,q=>l.length+m.length<=Qo/\q (.list (l++m))
 |.tuple l,.tuple m,q=>l≠[]/\l.length+m.length<=Qo/\q (.tuple (l++m))
 |.str x,.str y,q=>x.length+y.length<=Qo/\q (.str (x++y))
 |_,_,_=>False
def qh:OpV X (Jn .Add) xcl:=by
 rintro pins s σ H x y v u Q I rx ry ⟨F,dx,dy,q,sm,i1,i2,h,k⟩;cases dx with
 |int i=>cases dy with
  |int j=>exact zwf pins s σ H x y v u Q I rx ry ⟨i,j,i1.int_inv,i2.int_inv,k _ _ F H (.refl sm) (qaq _) h⟩
  |_=>exact Q7 h
 |list l=>cases dy with
  |list m =>
   obtain⟨a,xs,rfl,hs,hr⟩:=i1.lst_inv;obtain⟨b,ys,rfl,ht,hq⟩:=i2.lst_inv;refine zga pins s σ H _ _ v u Q I rx ry ⟨a,b,xs,ys,rfl,rfl,sm.seq hs,sm.seq ht,by rw[hr.len,hq.len];exact h.1,λp hp=>?_⟩;have g:=Go.put (o:=HO.lst (xs++ys)) sm hp;exact k _ _ _ _ g (qdg (SqL.of qp) ((qbl hr hq).mono g.f)) h.2
  |_=>exact Q7 h
 |tuple l=>cases dy with
  |tuple m =>
   obtain⟨a,xs,rfl,hs,hr⟩:=i1.tup_inv;obtain⟨b,ys,rfl,ht,hq⟩:=i2.tup_inv;refine ztv pins s σ H _ _ v u Q I rx ry ⟨a,b,xs,ys,rfl,rfl,qJ sm hs,qJ sm ht,λz=>h.1 (Qbv.mp (by rw[<- hr.len,z];rfl)),by rw[hr.len,hq.len];exact h.2.1,λz=>?_,λ_ p hp=>?_⟩
   ·have hm:m=[]:=Qbv.mp (by rw[<- hq.len,z];rfl);subst hm;refine k _ _ F H (.refl sm) i1 ?_;have:=h.2.2;grind
   ·have g:=Go.put (o:=HO.tup (xs++ys)) sm hp;exact k _ _ _ _ g (qld (SqT.of qp) ((qbl hr hq).mono g.f)) h.2.2
  |_=>exact Q7 h
 |str x0=>cases dy with
  |str y0 =>
   unfold Is at i1 i2;exact zbs pins s σ H x y v u Q I rx ry ⟨x0,y0,i1,i2,h.1,k _ _ F H (.refl sm) (qeh _) h.2⟩
  |_=>exact Q7 h
 |_=>exact Q7 h
def xes(Wa Wb:WE):WF:=λenv Q=>Wa env λx e1=>Wb e1 λy e2=>match x,y with
 |.list l,.list m=>l.length+m.length<=Qo/\Q (l++m) e2
 |_,_=>False
def qR(ha:VE X a Wa)(hb:VE X b Wb):VF X (.BinOp a .Add b pos) (xes Wa Wb):=(zvl zga ha hb).imp λσ H R xx89=>by
 obtain⟨M,env,F,Q,I,h,k⟩:=xx89;refine⟨M,env,F,_,I,h,λd v F1 H1 e1 I1 s1 i1 h1=>⟨M,e1,F1,_,I1,h1,λd2 v2 F2 H2 e2 I2 s2 i2 h2=>?_⟩⟩;cases d with
 |list l=>cases d2 with
  |list m =>
   obtain⟨a,xs,rfl,hs,hr⟩:=(i1.mono s2).lst_inv;obtain⟨b,ys,rfl,ht,hq⟩:=i2.lst_inv;exact⟨a,b,xs,ys,rfl,rfl,I2.fh.seq hs,I2.fh.seq ht,by rw[hr.len,hq.len];exact h2.1,qme I2 (s1.trans s2) (qbl hr hq) h2.2 k⟩
  |_=>exact Q7 h2
 |_=>exact Q7 h2
section
variable{x:Str}{p pos:Pos}{e:Expr}{es:List Expr}{Wr:WF}{id T:String}{r:DC}{rf:List Qh->(List Qh->Prop)->Prop}
def qgp(r:DC)(Wr:WF):WE:=λenv Q=>Wr env λds e=>r ds λd=>Q d e
def zdw(r:List Qh->(List Qh->Prop)->Prop)(Wr:WF):WF:=λenv Q=>Wr env λds e=>r ds λl=>Q l e
theorem qne(h:qdc X.K (qgp r Wr) σ H R):qgr X.K Wr σ H λvs H1=>qxw X.K r vs H1 R:=by
 obtain⟨M,env,F,Q,I,h,k⟩:=h;exact⟨M,env,F,_,I,h,λds vs F1 H1 e1 I1 s1 i1 h1=>⟨F1,ds,_,I1.fh,i1,h1,λd v F2 H2 g i2 q=>k d v F2 H2 e1 (I1.go g) (s1.trans g.f) i2 q⟩⟩
theorem qqj(h:zjw X.K (zdw rf Wr) σ H R):qgr X.K Wr σ H λvs H1=>qxo X.K rf vs H1 R:=by
 obtain⟨M,env,F,Q,I,h,k⟩:=h;refine⟨M,env,F,_,I,h,λds vs F1 H1 e1 I1 s1 i1 h1=>⟨F1,ds,_,I1.fh,i1,h1,λl a xs F2 H2 g ha hf hh hi q=>?_⟩⟩;exact k a xs l F2 H2 e1 (I1.go g) (s1.trans g.f) hh hf (qL I1.bh ha) (I1.he ha) (qoh I1 ha) hi q
def qv(hc:qjy X (.builtin id) r)(hm:X.mg x=none)(hv:Zj x=some (.builtin id))(ha:VA X (e::es) Wr)(hg:Gl X x:=by rfl)(hn:x ≠ "__name__":=by decide)(hdb:Nd0 x:=by decide)(he:Qi (e::es) X.env=(false,eval e X.env)::Qi es X.env:=by rfl)(hpl:(Z5 pos (Qi es X.env)).any (·.1)=false:=by rfl):VE X (.Call (.Name x p) (e::es) [] pos) (qgp r Wr) :=
 (qfd hc hg hm hv ha hn hdb he hpl).imp λ_ _ _ h=>qne h
def qav(hc:qjy X (.type T) r)(hm:X.mg x=none)(hv:Zj x=some (.type T))(ha:VA X (e::es) Wr)(hg:Gl X x:=by rfl)(hn:x ≠ "__name__":=by decide)(hdb:Nd0 x:=by decide)(he:Qi (e::es) X.env=(false,eval e X.env)::Qi es X.env:=by rfl)(hpl:(Z5 pos (Qi es X.env)).any (·.1)=false:=by rfl):VE X (.Call (.Name x p) (e::es) [] pos) (qgp r Wr) :=
 (qih hc hg hm hv ha hn hdb he hpl).imp λ_ _ _ h=>qne h
def zim(hc:zee X (.type T) rf)(hm:X.mg x=none)(hv:Zj x=some (.type T))(ha:VA X (e::es) Wr)(hg:Gl X x:=by rfl)(hn:x ≠ "__name__":=by decide)(hdb:Nd0 x:=by decide)(he:Qi (e::es) X.env=(false,eval e X.env)::Qi es X.env:=by rfl)(hpl:(Z5 pos (Qi es X.env)).any (·.1)=false:=by rfl):VF X (.Call (.Name x p) (e::es) [] pos) (zdw rf Wr) :=
 (qih hc hg hm hv ha hn hdb he hpl).imp λ_ _ _ h=>qqj h
def PSp(K:Qa)(sp:DC):Sp:=λvs H Q _=>qxw K sp vs H Q
def FSp(K:Qa)(sp:List Qh->(List Qh->Prop)->Prop):Sp:=λvs H Q _=>qxo K sp vs H Q
def qB(O:OkC X x k ps (PSp X.K sp))(hr:Room k X.A)(ha:VA X (e::es) Wr)(hg:Gl X x:=by rfl)(hdb:Nd0 x:=by decide)(he:Qi (e::es) X.env=(false,eval e X.env)::Qi es X.env:=by rfl)(hpl:(Z5 pos (Qi es X.env)).any (·.1)=false:=by rfl):VE X (.Call (.Name x p) (e::es) [] pos) (qgp sp Wr) :=
 (qxk O hr ha hg hdb he hpl).imp λσ H R h=>by
  have e:qjr (PSp X.K sp) [] E0 (qgr X.K Wr) σ H R=qgr X.K Wr σ H λvs H1=>qxw X.K sp vs H1 R:=by unfold qjr PSp;grind
  grind[qne]
def zdj(O:OkC X x k ps (FSp X.K sp))(hr:Room k X.A)(ha:VA X (e::es) Wr)(hg:Gl X x:=by rfl)(hdb:Nd0 x:=by decide)(he:Qi (e::es) X.env=(false,eval e X.env)::Qi es X.env:=by rfl)(hpl:(Z5 pos (Qi es X.env)).any (·.1)=false:=by rfl):VF X (.Call (.Name x p) (e::es) [] pos) (zdw sp Wr) :=
 (qxk O hr ha hg hdb he hpl).imp λσ H R h=>by
  have e:qjr (FSp X.K sp) [] E0 (qgr X.K Wr) σ H R=qgr X.K Wr σ H λvs H1=>qxo X.K sp vs H1 R:=by unfold qjr FSp;grind
  grind[qqj]
end
def xfs:DC
 |[.int i],q=>q (.int (if i<0 then -i else i))
 |_,_=>False
def zpy:DC
 |[.list l],q=>q (.int l.length)
 |[.tuple l],q=>q (.int l.length)
 |[.str x],q=>x.length<=Qo/\q (.int x.length)
 |_,_=>False
def qql{K:Qa}(h:Iss K H [d] vs):∃v,vs=[v]/\Is K H d v:=by
 obtain⟨x,r,rfl,p,q⟩:=h.cons_inv;rw[q.nil_inv];grind
def zpj:qjy X (.builtin "abs") xfs:=znq.imp λxs H Q xx90=>by
 obtain⟨F,ds,q,s,i,h,k⟩:=xx90
 match ds,h,i with
 |[.int n],h,i =>
  obtain⟨v,rfl,j⟩:=qql i;exact⟨n,by rw[j.int_inv],k _ _ F H (.refl s) (qaq _) h⟩
def qbj:qjy X (.builtin "len") zpy:=(qvu.or qvp).imp λxs H Q xx91=>by
 obtain⟨F,ds,q,s,i,h,k⟩:=xx91
 match ds,h,i with
 |[.list l],h,i =>
  obtain⟨v,rfl,j⟩:=qql i;obtain⟨a,xs,rfl,hs,hr⟩:=j.lst_inv;exact .inl ⟨a,xs,rfl,.inl (s.seq hs),k _ _ F H (.refl s) (by rw[hr.len];exact qaq _) h⟩
 |[.tuple l],h,i =>
  obtain⟨v,rfl,j⟩:=qql i;obtain⟨a,xs,rfl,hs,hr⟩:=j.tup_inv;exact .inl ⟨a,xs,rfl,.inr (qJ s hs),k _ _ F H (.refl s) (by rw[hr.len];exact qaq _) h⟩
 |[.str z],h,i =>
  obtain⟨v,rfl,j⟩:=qql i;unfold Is at j;subst j;exact .inr ⟨z,rfl,h.1,k _ _ F H (.refl s) (qaq _) h.2⟩
def zxe:List Qh->(List Qh->Prop)->Prop
 |[.list l],q=>q l
 |[.tuple l],q=>q l
 |_,_=>False
def zxa:zee X (.type "list") zxe:=qvv.imp λxs H Q xx92=>by
 obtain⟨F,ds,q,s,i,h,k⟩:=xx92
 match ds,h,i with
 |[.list l],h,i =>
  obtain⟨v,rfl,j⟩:=qql i;obtain⟨a,xs,rfl,hs,hr⟩:=j.lst_inv;exact⟨a,xs,rfl,.inl (s.seq hs),λp hp=>k l p xs F _ (.side s hp) hp (qL s hp) qp hr h⟩
 |[.tuple l],h,i =>
  obtain⟨v,rfl,j⟩:=qql i;obtain⟨a,xs,rfl,hs,hr⟩:=j.tup_inv;exact⟨a,xs,rfl,.inr (qJ s hs),λp hp=>k l p xs F _ (.side s hp) hp (qL s hp) qp hr h⟩
def zxt:DC
 |[.list l],q=>q (.tuple l)
 |[.tuple l],q=>q (.tuple l)
 |_,_=>False
def qgk:qjy X (.type "tuple") zxt:=qja.imp λxs H Q xx93=>by
 obtain⟨F,ds,q,s,i,h,k⟩:=xx93
 match ds,h,i with
 |[.list l],h,i =>
  obtain⟨v,rfl,j⟩:=qql i;obtain⟨a,xs,rfl,hs,hr⟩:=j.lst_inv;refine⟨a,xs,rfl,.inl ⟨s.seq hs,λp hp=>?_⟩⟩;have g:=Go.put (o:=HO.tup xs) s hp;exact k _ _ _ _ g (qld (SqT.of qp) (hr.mono g.f)) h
 |[.tuple l],h,i =>
  obtain⟨v,rfl,j⟩:=qql i;obtain⟨a,xs,rfl,hs,hr⟩:=j.tup_inv;exact⟨a,xs,rfl,.inr ⟨qJ s hs,k _ _ F H (.refl s) j h⟩⟩
section
variable{a b c e o:Expr}{W Wa Wb:WE}{Tc:WT}{pos pos':Pos}{st:Stmt}{sts rest:List Stmt}{Wt Wu:WS}{WfF:WF}
def qyg:WS:=λD env=>D.nx env
def zkg(t u:WS):WS:=λD env=>t { D with nx:=u D } env
def xdm(t u:WS):WS:=λD env =>∃Md:Sto->Prop,t { D with nx:=Md } env /\ ∀e,Md e->u D e
def zvx:WS:=λ_ _=>False
def qj:VSs X [] qyg:=zej.imp λD σ H xx94=>by obtain⟨M,env,F,DD,I,h,k⟩:=xx94;exact k.nx env F H σ I (.refl _) h
def qm(h:VS X st Wt):VSs X [st] Wt:=qmp h
def qi(h1:VS X st Wt)(h2:VSs X rest Wu):VSs X (st::rest) (zkg Wt Wu):=(qdv h1 h2).imp λD σ H xx95=>by
 obtain⟨M,env,F,DD,I,h,k⟩:=xx95;exact⟨M,env,F,{ DD with nx:=Wu DD },I,h,λe' F' H' σ' I' s' h'=>⟨M,e',F',DD,I',h',k.mono s'⟩,k.rt,k.bk,k.ct⟩
def ztk(h1:VS X st Wt)(h2:VSs X rest Wu):VSs X (st::rest) (xdm Wt Wu):=(qdv h1 h2).imp λD σ H xx96=>by
 obtain⟨M,env,F,DD,I,⟨Md,h,hm⟩,k⟩:=xx96;exact⟨M,env,F,{ DD with nx:=Md },I,h,λe' F' H' σ' I' s' h'=>⟨M,e',F',DD,I',hm e' h',k.mono s'⟩,k.rt,k.bk,k.ct⟩
def qcy:VSs X sts zvx:=zja.imp λD σ H xx97=>by obtain⟨M,env,F,DD,I,h,k⟩:=xx97;exact h.elim
def wFz(i:Nat)(t:WS):WS:=λD env=>t D (env.set i (gS env i).fz)
def zwm(i:Nat)(h:VSs X sts Wt):VSs X sts (wFz i Wt):=h.imp λD σ H xx98=>by
 obtain⟨M,env,F,DD,I,h,k⟩:=xx98;obtain⟨F',J,s⟩:=I.freeze i;exact⟨M,_,F',DD,J,h,k.mono s⟩
def xbk(W:WE):WS:=λD env=>W env λ_ e=>D.nx e
def zta(W:WE):WS:=λD env=>W env λd e=>D.rt (.val d) e
def qu(he:VE X e W):VS X (.Return (some e) pos) (zta W):=(qoz he).imp λD σ H xx99=>by
 obtain⟨M,env,F,DD,I,h,k⟩:=xx99;exact⟨M,env,F,_,I,h,λd v F1 H1 e1 I1 s1 i1 h1=>k.rt (.val d) v e1 F1 H1 σ I1 s1 i1 h1⟩
def zzm(W:WF):WS:=λD env=>W env λl e=>D.rt (.own l) e
def qxa(he:VF X e WfF):VS X (.Return (some e) pos) (zzm WfF):=(qoz he).imp λD σ H xx100=>by
 obtain⟨M,env,F,DD,I,h,k⟩:=xx100;exact⟨M,env,F,_,I,h,λp vs l F1 H1 e1 I1 s1 g1 g2 g3 g4 g5 g6 h1=>k.rt (.own l) _ e1 F1 H1 σ I1 s1 ⟨p,vs,rfl,g1,g2,g3,g4,g6⟩ h1⟩
def zvr(i:Nat):WS:=λD env=>match gS env i with |.own ds=>D.rt (.own ds) env|_=>False
def zsh(i:Nat){px:Pos}(hN:X.N[i]?=some x:=by rfl)(hv:Vis X.env.scope x:=by first|exact Yi rfl|exact Zt (Yi rfl)|exact Zt (Zt rfl))(hd:Nd0 x:=by decide)(hcd:Nd1 x:=by decide):VS X (.Return (some (.Name x px)) pos) (zvr i):=(qoz (qbo hN hv hd hcd)).imp λD σ H xx101=>by
 obtain⟨M,env,F,DD,I,h,k⟩:=xx101;have S:=I.slot i;unfold zvr at h;cases q:gS env i with
 |own ds =>
  rw[q]at S h;obtain⟨p,vs,e,g1,g2,g3,g4,g5⟩:=S;exact⟨_,qcf e,k.rt (.own ds) _ env F H σ I (.refl _) ⟨p,vs,rfl,g1,g2,g3,g4,g5⟩ h⟩
 |non=>rw[q]at h;exact h.elim
 |val d=>rw[q]at h;exact h.elim
 |pen ds=>rw[q]at h;exact h.elim
 |new d=>rw[q]at h;exact h.elim
 |exc C=>rw[q]at h;exact h.elim
 | «at» v=>rw[q]at h;exact h.elim
 |dsk _ _ _ _ _ _=>rw[q]at h;exact h.elim
 |obj a0 C nm fs=>rw[q]at h;exact h.elim
def wIf(Tc:WT)(t u:WS):WS:=λD env=>Tc env λk e=>if k=true then t D e else u D e
def qbw(hc:VT X c Tc)(ha:VSs X A Wt)(hb:VSs X B Wu):VS X (.If c A B pos) (wIf Tc Wt Wu):=(zpq hc ha hb).imp λD σ H xx102=>by
 obtain⟨M,env,F,DD,I,h,k⟩:=xx102;refine⟨M,env,F,_,I,h,λx F1 H1 e1 I1 s1 h1=>?_⟩;cases x with
 |true=>exact qho ⟨M,e1,F1,DD,I1,h1,k.mono s1⟩
 |false=>exact qdl ⟨M,e1,F1,DD,I1,h1,k.mono s1⟩
def zve(i:Nat)(W:WE):WS:=λD env=>W env λd e=>D.nx (e.set i (.val d))
def qt(hN:X.N.Nodup)(he:VE X e W)(hi:X.N[i]?=some x:=by rfl)(hx:Loc X.env.scope x:=by first|exact Yi rfl|exact Zt rfl)(hs:V8 e (some (.Name x pos')) pos.line X.env=pure false:=by rfl)(hf:X.fn x=true\/X.env.scope.names.lookup x=some .local:=by first|exact .inl rfl|exact .inr rfl):VS X (.Assign [.Name x pos'] e pos) (zve i W):=(qin hN hi hx he hs hf).imp λD σ H xx103=>by
 obtain⟨M,env,F,DD,I,h,k⟩:=xx103;exact⟨M,env,F,_,I,h,λd v F1 H1 e1 I1 s1 i1 h1=>k.nx _ F1 H1 _ (I1.setv i1) s1 h1⟩
def xap(i:Nat)(W:WF):WS:=λD env=>W env λl e=>D.nx (e.set i (.own l))
def zef(hN:X.N.Nodup)(he:VF X e WfF)(hi:X.N[i]?=some x:=by rfl)(hx:Loc X.env.scope x:=by first|exact Yi rfl|exact Zt rfl)(hs:V8 e (some (.Name x pos')) pos.line X.env=pure false:=by rfl)(hf:X.fn x=true\/X.env.scope.names.lookup x=some .local:=by first|exact .inl rfl|exact .inr rfl):VS X (.Assign [.Name x pos'] e pos) (xap i WfF):=(qin hN hi hx he hs hf).imp λD σ H xx104=>by
 obtain⟨M,env,F,DD,I,h,k⟩:=xx104;exact⟨M,env,F,_,I,h,λp vs l F1 H1 e1 I1 s1 g1 g2 g3 g4 g5 g6 h1=>k.nx _ F1 H1 _ (I1.seto g1 g2 g3 g4 g5 g6) s1 h1⟩
def qxs(i:Nat):WG:=λd env Q=>Q (env.set i (.val d))
def qw(hN:X.N.Nodup)(hi:X.N[i]?=some x:=by rfl)(hx:Loc X.env.scope x:=by first|exact Yi rfl|exact Zt rfl)(hf:X.fn x=true\/X.env.scope.names.lookup x=some .local:=by first|exact .inl rfl|exact .inr rfl):VG X (.Name x pos) (qxs i) :=
 (zgj hN hi hx hf).imp λv σ H R xx105=>by obtain⟨M,env,F,d,Q,I,j,h,k⟩:=xx105;exact k F H _ _ (I.setv j) (.refl _) h
def zvd:WGs:=λds env Q=>ds=[]/\Q env
def zdv(G:WG)(Gs:WGs):WGs:=λds env Q=>match ds with|[]=>False|d::r=>G d env λe=>Gs r e Q
def qix:VGs X [] zvd:=zsl.imp λv σ H R xx106=>by
 obtain⟨M,env,F,ds,Q,I,j,h,k⟩:=xx106;obtain⟨rfl,h⟩:=h;exact⟨j.nil_inv,k F H env σ I (.refl _) h⟩
def qax(h1:VG X e G)(h2:VGs X es Gs)(hs:(Vj (e::es) X.env).map (·.2)=Qdi e X.env::(Vj es X.env).map (·.2):=by rfl):VGs X (e::es) (zdv G Gs) :=
 (znn h1 h2 hs).imp λv σ H R xx107=>by
  obtain⟨M,env,F,ds,Q,I,j,h,k⟩:=xx107;cases ds with
  |nil=>exact Q7 h
  |cons d r =>
   obtain⟨x,xs,rfl,j1,j2⟩:=j.cons_inv;exact⟨x,xs,rfl,M,env,F,d,_,I,j1,h,λF1 H1 e1 σ1 I1 s1 q1=>⟨M,e1,F1,r,Q,I1,j2.mono s1,q1,λF2 H2 e2 σ2 I2 s2 q2=>k F2 H2 e2 σ2 I2 (s1.trans s2) q2⟩⟩
def zup(n:Nat)(Gs:WGs):WG:=λd env Q=>match d with |.tuple l=>l.length=n/\Gs l env Q|_=>False
def qts{kk n:Nat}(hc:X.calm=true)(h:VGs X es Gs)(hn:(Vj es X.env).length=n:=by rfl)(hst:(Vj es X.env).findIdx? (·.1)=none:=by rfl):VG X (.Tuple es kk pos) (zup n Gs) :=
 (zxp hc h hn hst).imp λv σ H R xx108=>by
  obtain⟨M,env,F,d,Q,I,j,h,k⟩:=xx108;cases d with
  |tuple l =>
   obtain⟨a,xs,rfl,hs,hr⟩:=j.tup_inv;exact⟨a,xs,rfl,qJ I.fh hs,by rw[hr.len];exact h.1,M,env,F,l,Q,I,hr,h.2,k⟩
  |_=>exact Q7 h
def xfm(W:WE)(G:WG):WS:=λD env=>W env λd e=>G d e D.nx
def zdy(he:VE X e W)(hg:VG X tg G)(hs:Qir [tg] e pos.line X.env=pure false:=by rfl)(hw:Qiq [tg] e X.env=pure none:=by rfl)(h1:(Vj [tg] X.env).map (·.2)=[Qdi tg X.env]:=by rfl):VS X (.Assign [tg] e pos) (xfm W G):=(znz he hg hs hw h1).imp λD σ H xx109=>by
 obtain⟨M,env,F,DD,I,h,k⟩:=xx109;exact⟨M,env,F,_,I,h,λd v F1 H1 e1 I1 s1 i1 h1=>⟨M,e1,F1,d,_,I1,i1,h1,λF2 H2 e2 σ2 I2 s2 q2=>k.nx e2 F2 H2 σ2 I2 (s1.trans s2) q2⟩⟩
def xey(i:Nat)(W:WE):WS:=λD env=>(gS env i).mut=true/\W env λd e=>(gS e i).mut=true/\(gS e i).cnt.length<Qo/\D.nx (e.set i ((gS e i).upd ((gS e i).cnt++[d])))
def zik(i:Nat){px apos cpos:Pos}(he:VE X e W)(hN:X.N[i]?=some x:=by rfl)(hv:Vis X.env.scope x:=by first|exact Yi rfl|exact Zt (Yi rfl)|exact Zt (Zt rfl))(hd:Nd0 x:=by decide)(hcd:Nd1 x:=by decide)(hbase:Z2 (.Name x px) "append" X.env (eval (.Name x px) X.env)=eval (.Name x px) X.env:=by rfl)(hfew:((Z5 cpos (Qi [e] X.env)).all (λx => !x.1)&&(Qai cpos (Ve [] X.env)).all (λx=>x.1.isSome)
  && decide ([e].length+([]:List Jj).length+(if([]:List Jj).isEmpty then 0 else 1)<30))=true:=by rfl)(hline:(apos.endLine==cpos.line)=true:=by rfl)(hst:Qi [e] X.env=(false,eval e X.env)::Qi [] X.env:=by rfl)(hplain:(Z5 cpos (Qi [] X.env)).any (·.1)=false:=by rfl)(hs:V8 (.Call (.Attribute (.Name x px) "append" apos) [e] [] cpos) none pos.line X.env=pure false:=by rfl):VS X (.Expr (.Call (.Attribute (.Name x px) "append" apos) [e] [] cpos) pos) (xey i W) :=
 (qwm (quc (qbo hN hv hd hcd) he hbase hfew hline hst hplain) hs).imp λD σ H xx110=>by
  obtain⟨M,env,F,DD,I,⟨hm,h⟩,k⟩:=xx110;obtain⟨p,vs,ep,g1,g2,g3,g4⟩:=(I.slot i).addr hm;refine⟨_,qcf ep,.inl ⟨rfl,_,SqL.of g1⟩,M,env,F,_,I,h,λd v F1 H1 e1 I1 s1 i1 h1=>?_⟩;obtain⟨m1,z1,q1⟩:=h1;obtain⟨p',vs1,ep',f1,f2,f3,f4⟩:=(I1.slot i).addr m1;rw[ep]at ep';injection ep' with ep';injection ep' with ep';subst ep';exact⟨p,vs1,v,rfl,rfl,f1,by rw[f4.len];exact z1,k.nx _ F1 _ σ (I1.chg m1 ep (qbl f4 (qI i1 qah))) s1 q1⟩
def xdj(i:Nat)(W Wj:WE):WS:=λD env=>W env λd e1=>(gS e1 i).mut=true/\Wj e1 λy e2=>match y with
 |.int n=>(gS e2 i).mut=true /\ ∃j,ixN (gS e2 i).cnt.length n=some j/\D.nx (e2.set i ((gS e2 i).upd ((gS e2 i).cnt.set j d)))
 |_=>False
def zfw{K:Qa}(h:Is K H d v):∀{l:List Qh}{xs:List V}(j:Nat),Iss K H l xs->Iss K H (l.set j d) (xs.set j v)
 |[],_,j,r=>by rw[r.nil_inv];grind[qah]
 |x::l,_,0,r=>by obtain⟨y,ys,rfl,p,q⟩:=r.cons_inv;exact qI h q
 |x::l,_,j+1,r=>by obtain⟨y,ys,rfl,p,q⟩:=r.cons_inv;exact qI p (zfw h j q)
def zyc(i:Nat){px:Pos}(he:VE X e W)(hj:VE X b Wb)(hN:X.N[i]?=some x:=by rfl)(hv:Vis X.env.scope x:=by first|exact Yi rfl|exact Zt (Yi rfl)|exact Zt (Zt rfl))(hd:Nd0 x:=by decide)(hcd:Nd1 x:=by decide)(ha:∀v,Qdi (.Subscript (.Name x px) b pos') X.env v=(do
  let ov <- Qdf [v] (eval (.Name x px) X.env)
  let iv <- Qdf [v,ov] (eval b X.env)
  Qhc pos'
  Qdf [v,ov,iv] (setItem ov iv v)
  release [v,ov,iv] []):=by intro _;rfl)(hs:Qir [.Subscript (.Name x px) b pos'] e pos.line X.env=pure false:=by rfl)(hw:Qiq [.Subscript (.Name x px) b pos'] e X.env=pure none:=by rfl)(h1:(Vj [.Subscript (.Name x px) b pos'] X.env).map (·.2)=[Qdi (.Subscript (.Name x px) b pos') X.env]:=by rfl):VS X (.Assign [.Subscript (.Name x px) b pos'] e pos) (xdj i W Wb) :=
 (znz he (zyi (qbo hN hv hd hcd) hj zlv ha) hs hw h1).imp λD σ H xx111=>by
  obtain⟨M,env,F,DD,I,h,k⟩:=xx111;refine⟨M,env,F,_,I,h,λd v F1 H1 e1 I1 s1 i1 h1=>?_⟩;obtain⟨m1,h1⟩:=h1;obtain⟨p,vs,ep,g1,g2,g3,g4⟩:=(I1.slot i).addr m1;refine⟨_,qcf ep,M,e1,F1,_,I1,h1,λd2 v2 F2 H2 e2 I2 s2 i2 h2=>?_⟩;cases d2 with
  |int n =>
   obtain⟨m2,j,hj,q⟩:=h2;obtain⟨p',vs1,ep',f1,f2,f3,f4⟩:=(I2.slot i).addr m2;rw[ep]at ep';injection ep' with ep';injection ep' with ep';subst ep';exact⟨p,vs1,n,j,rfl,i2.int_inv,f1,by rw[f4.len];exact hj,k.nx _ F2 _ σ (I2.chg m2 ep (zfw (i1.mono s2) j f4)) (s1.trans s2) q⟩
  |_=>exact Q7 h2
def zyv(Tc:WT)(t:WS):WS:=λD env =>∃P:Nat->Sto->Prop,(∃m,P m env) /\ ∀m e,P m e->Tc e λk e1=>if k=true then t { D with nx:=λe2 =>∃m',m'<m/\P m' e2,ct:=λe2 =>∃m',m'<m/\P m' e2,bk:=D.nx } e1 else D.nx e1
def zkh(hc:VT X c Tc)(hb:VSs X body Wt)(hp:Qkx (model X.prog X.w) X.A X.env X.xe:=by exact Qgp):VS X (.While c body [] pos) (zyv Tc Wt) :=
 (zln hp hc hb).imp λD σ H xx115=>by
  obtain⟨M,env,F,DD,I,⟨P,⟨m0,p0⟩,turn⟩,k⟩:=xx115;refine⟨λm σ' H' =>∃e' F',EnvOk X.K M F' H' e' σ'/\Same F F'/\P m e',⟨m0,env,F,I,.refl _,p0⟩,λm σ1 H1 xx114=>?_⟩;obtain⟨e1,F1,I1,s1,p1⟩:=xx114;refine⟨M,e1,F1,_,I1,turn m e1 p1,λx F2 H2 e2 I2 s2 h2=>?_⟩;cases x with
  |true =>
   refine qho ⟨λσ' H' =>∃m',m'<m /\ ∃e' F',EnvOk X.K M F' H' e' σ'/\Same F F'/\P m' e',λσ' H' z=>z,M,e2,F2,_,I2,h2,?_⟩;have s02:=s1.trans s2;exact⟨λe3 F3 H3 σ3 I3 s3 xx113=>by obtain⟨m',l,p3⟩:=xx113;exact⟨m',l,e3,F3,I3,s02.trans s3,p3⟩,λr v e3 F3 H3 σ3 I3 s3=>k.rt r v e3 F3 H3 σ3 I3 (s02.trans s3),
    λe3 F3 H3 σ3 I3 s3=>k.nx e3 F3 H3 σ3 I3 (s02.trans s3),λe3 F3 H3 σ3 I3 s3 xx112=>by obtain⟨m',l,p3⟩:=xx112;exact⟨m',l,e3,F3,I3,s02.trans s3,p3⟩⟩
  |false=>exact qdl (k.nx e2 F2 H2 σ1 I2 (s1.trans s2) h2)
def xee(Wi:WF)(G:WG)(t:WS):WS:=λD env=>Wi env λds e0 =>∃P:Nat->Sto->Prop,P 0 e0 /\
 (∀i d e,ds[i]?=some d->P i e->G d e λe1=>t { D with nx:=P (i+1),ct:=P (i+1),bk:=D.nx } e1) /\ ∀e,P ds.length e->D.nx e
def qgn(hc:X.calm=true)(hi:VI X tg iter Wi)(hg:VG X tg G)(hb:VSs X body Wt)(hs:∀x,Zn iter X.env x=pure x:=by intro _;rfl)(hp:Qkx (model X.prog X.w) X.A X.env X.xe:=by exact Qgp):VS X (.For tg iter body [] pos) (xee Wi G Wt) :=
  (zos hp hc hi hg hb hs).imp λD σ H xx118=>by
   obtain⟨M,env,F,DD,I,h,k⟩:=xx118;refine⟨M,env,F,_,I,h,λds J F1 H1 e1 I1 s1 jt xx117=>?_⟩;obtain⟨P,p0,turn,fin⟩:=xx117;refine⟨λi m σ' H'=>m=ds.length-i/\i<=ds.length /\ ∃e' F',EnvOk X.K M F' H' e' σ'/\Same F1 F'/\P i e',⟨ds.length,by simp,Vb _,e1,F1,I1,.refl _,p0⟩,λi m σ2 H2 xx116=>?_⟩;obtain⟨hm,hi,e2,F2,I2,s2,p2⟩:=xx116;by_cases hl:i=ds.length
   ·subst hl;exact .inl ⟨jt.stop H2 (s2.trans I2.fh),k.nx e2 F2 H2 σ2 I2 (s1.trans s2) (fin e2 p2)⟩
   ·have hlt:i<ds.length:=by omega
    refine .inr ⟨jt.go i H2 (s2.trans I2.fh) hlt,λσ' H' =>∃e' F',EnvOk X.K M F' H' e' σ'/\Same F1 F'/\P (i+1) e',λσ' H' z=>⟨ds.length-(i+1),by omega,rfl,hlt,z⟩,λx H3 hy=>?_⟩;obtain⟨d,F3,hd,g,j⟩:=jt.yld i H2 x H3 F2 s2 I2.fh hlt hy;refine⟨M,e2,F3,d,_,I2.go g,j,turn i d e2 hd p2,λF4 H4 e4 σ4 I4 s4 h4=>⟨M,e4,F4,_,I4,h4,?_⟩⟩;have s14:=s2.trans (g.f.trans s4);exact⟨λe5 F5 H5 σ5 I5 s5 p5=>⟨e5,F5,I5,s14.trans s5,p5⟩,λr v e5 F5 H5 σ5 I5 s5=>k.rt r v e5 F5 H5 σ5 I5 ((s1.trans s14).trans s5),
     λe5 F5 H5 σ5 I5 s5=>k.nx e5 F5 H5 σ5 I5 ((s1.trans s14).trans s5),λe5 F5 H5 σ5 I5 s5 p5=>⟨e5,F5,I5,s14.trans s5,p5⟩⟩
end
def zfd:∀{ns:List String}{us:List Value},Vals (ns.map V.ty) us->us=ns.map Qeu
 |[],_,h=>by cases h;rfl
 |n::ns,_,h=>by
  cases h with
  |cons r t=>rw[zfd t];cases r;rfl
def xai{σ:St}(I:Inv X pins σ H s)(hd:Is X.K H d x)(rx:RelV x u):
 ∃HP:Heap->Prop,Qlx X.K u (.type (tyD d)) HP/\HP s.heap/\u≠.builtin "__main__.__loader__#opaque":=by
  cases d with
  |none=>rw[hd.non_inv]at rx;cases rx;exact⟨_,Qiv,Vh,λz=>nomatch z⟩
  |bool y=>rw[hd.bl_inv]at rx;cases rx;exact⟨_,Qiw,Vh,λz=>nomatch z⟩
  |int i=>rw[hd.int_inv]at rx;obtain⟨t,rfl⟩:=rx;exact⟨_,Qjx,Vh,λz=>nomatch z⟩
  |str y =>
   unfold Is at hd;subst hd;obtain⟨t,rfl⟩:=rx;exact⟨_,Qjy,Vh,λz=>nomatch z⟩
  |list l =>
   obtain⟨a,xs,rfl,q,_⟩:=hd.lst_inv;cases rx;obtain⟨its,_,pl,_⟩:=I.list q;obtain⟨o,ho,hc,_⟩:=pl.isList;exact⟨_,Qix,⟨o,ho,hc⟩,λz=>nomatch z⟩
  |tuple l =>
   obtain⟨a,xs,rfl,q,_⟩:=hd.tup_inv;cases rx;obtain⟨its,_,pl,_⟩:=I.tuple q;obtain⟨o,ho,hc,_⟩:=pl;exact⟨_,Qie,⟨o,ho,hc⟩,λz=>nomatch z⟩
  |dict l =>
   obtain⟨a,rfl,⟨kvs,q,_⟩|⟨xs,q,_⟩⟩:=hd.dct_inv
   ·cases rx;obtain⟨_,_,vs,_,p⟩:=(show ObjOk X.prog X.w H s.heap a (.dK kvs) from I.hok a _ q)
    obtain⟨o,es,ep,h1,h2,_⟩:=p;exact⟨_,Qcl,⟨o,h1,h2.1⟩,λz=>nomatch z⟩
   ·cases rx;obtain⟨⟨_,es,ep,⟨o,h1,h2,_⟩,_⟩,_⟩:=(show ObjOk X.prog X.w H s.heap a (.ext (DX a xs)) from I.hok a _ q)
    exact⟨_,Qcl,⟨o,h1,h2.1⟩,λz=>nomatch z⟩
def zxc(K:Qa):List V->Hp->VK->Prop:=λxs H Q =>∃(d:Qh)(x:V)(a:Addr)(ns:List String)(b:Bool),xs=[x,.ref a]/\H a=some (.tup (ns.map V.ty))/\Is K H d x/\Vw K (.type (tyD d)) (ns.map Qeu)=some b/\Q (.bl b) H
def zcy:CallR X (.builtin "isinstance") (zxc X.K):=by
 intro pins s σ H xs us Q I r h;obtain⟨d,x,a,ns,b,rfl,ha,hd,e,q⟩:=h;obtain⟨u,c,rfl,rx,rc⟩:=zjs r;cases rc;obtain⟨its,rv,pl,_⟩:=I.tuple (SqT.of ha);obtain⟨⟨cls,dd,data,sl⟩,ho,hc,n,hdt⟩:=pl;simp only at hc hdt;subst hc hdt;rw[zfd rv]at ho;obtain⟨HP,Z,hp,hne⟩:=xai I hd rx;exact Qko Z I.kIn hp ho e hne λtk=>⟨.bl b,H,I.tok tk,rfl,q⟩
def qra:∀{bs:List Bool}{us:List Value},Vals (bs.map V.bl) us->LSm.BoolsAre us bs
 |[],_,h=>by cases h;exact .nil
 |b::bs,_,h=>by
  cases h with
  |cons r t=>cases r;exact .cons b (qra t)
def xdl(K:Qa):List V->Hp->VK->Prop:=λxs H Q =>∃(a:Addr)(bs:List Bool),xs=[.ref a]/\SqL K H a (bs.map V.bl)/\Q (.bl (bs.all id)) H
def zng(hc:X.calm=true):CallR X (.builtin "all") (xdl X.K):=by
 intro pins s σ H xs us Q I r h;obtain⟨a,bs,rfl,ha,q⟩:=h;obtain⟨u,rfl,rx⟩:=qlj r;cases rx;obtain⟨its,rv,pl,_⟩:=I.list ha;have hl:=pl.isList;have hb:=qra rv;have hlt:a<s.heap.objs.size:=pl.lt;refine call_all_walk (Qax hl ?_);refine⟨s.heap.objs.size,[s.heap.objs.size,a],[s.heap.objs.size],its.toArray.size,_,_,λi=>(bs[i]?).getD true,rfl,Qlm (A:=X.A.in1) (I.ok.hd hc) _ a (Q3 hlt) its.toArray,
  ⟨⟨_,Qq _ rfl,rfl,rfl⟩,hl.push _⟩,λi v s' Q' E' hP hQ=>?_,λh' tk hk=>?_⟩
 ·obtain⟨b,e,rfl⟩:=hb.get i v (by grind);simp only[e,Jk]at hQ;exact Zy hQ
 ·have hlen:its.toArray.size=bs.length:=by rw[Zq];exact hb.length
  have e:((Z9 its.toArray.size).all λi=>(bs[i]?).getD true)=bs.all id:=by
   rw[hlen,Qbw,Q4,Q4];constructor
   ·intro z b hb';obtain⟨i,hi,rfl⟩:=Qhx hb';have:=z i (Qba.mpr hi);grind
   grind[Qdd]
  rw[e];refine⟨.bl (bs.all id),H,I.kept (t':=tk) (λb o z=>hk b o (λhm=>?_) (Qf _ z)),rfl,q⟩;rw[Ze.mp hm]at z;exact Jx _ (Qm z)
def qnt:∀(ns:LI)(n:Nat),n<=ns.length->preSum (λi=>(ns[i]?).getD 0) n=(ns.take n).sum
 |ns,0,_=>by simp[preSum]
 |ns,n+1,h=>by
  have hn:n<ns.length:=h;have e:(ns[n]?).getD 0=ns[n]:=by grind
  have e2:(ns.take n++[ns[n]]).sum=(ns.take n).sum+ns[n]:=by grind
  rw[preSum,qnt ns n (Vy hn),e,Vp,Qp hn];exact e2.symm
def qsd:∀{ns:LI}{us:List Value},Vals (ns.map V.int) us ->∀(i:Nat)(v:Value),us[i]?=some v ->∃t,v = .int ((ns[i]?).getD 0) t
 |[],_,h,i,v,e=>by cases h;simp at e
 |n::ns,_,h,i,v,e=>by
  cases h with
  |cons r t =>
   cases i with
   |zero =>
    obtain⟨k,rfl⟩:=r;grind
   |succ i =>
    obtain⟨k,hk⟩:=qsd t i v (by simpa using e);grind
def xfe(K:Qa):List V->Hp->VK->Prop:=λxs H Q =>∃(a:Addr)(ns:LI),xs=[.ref a]/\(SqL K H a (ns.map V.int)\/SqT K H a (ns.map V.int))/\Q (.int ns.sum) H
def zmk(hc:X.calm=true):CallR X (.builtin "sum") (xfe X.K):=by
 intro pins s σ H xs us Q I r h;obtain⟨a,ns,rfl,ha,q⟩:=h;obtain⟨u,rfl,rx⟩:=qlj r;cases rx;have fin:∀(its:List Value)(h':Heap)(tk t':Nat),its.length=ns.length->(∀b o,s.heap.get? b=some o->h'.get? b=some o)->EP X pins σ Q (.int (preSum (λi=>(ns[i]?).getD 0) its.toArray.size) t') { s with heap:=h',toks:=tk }:=λits h' tk t' hl hk=>by
  have e:preSum (λi=>(ns[i]?).getD 0) its.toArray.size=ns.sum:=by
   rw[Zq,hl,qnt ns _ (Qn _),J6]
  rw[e];exact⟨.int ns.sum,H,I.kept (t':=tk) hk,⟨t',rfl⟩,q⟩
 have old:∀{h':Heap}{ob:Obj},(∀b o,b∉[s.heap.objs.size]->(s.heap.push ob).get? b=some o->h'.get? b=some o) ->∀b o,s.heap.get? b=some o->h'.get? b=some o:=λhk b o z =>
  hk b o (λhm=>by rw[Ze.mp hm]at z;exact Jx _ (Qm z)) (Qf _ z)
 rcases ha with ha|ha
 ·obtain⟨its,rv,pl,_⟩:=I.list ha;have hl:=pl.isList;have hlt:a<s.heap.objs.size:=pl.lt;have hlen:its.length=ns.length:=by rw[<- rv.length,Qj]
  refine call_sum_walkG (Qax hl ?_);refine⟨s.heap.objs.size,[s.heap.objs.size,a],[s.heap.objs.size],its.toArray.size,_,_,λi=>(ns[i]?).getD 0,rfl,Qlm (A:=X.A.in1) (I.ok.hd hc) _ a (Q3 hlt) its.toArray,
   ⟨⟨_,Qq _ rfl,rfl,rfl⟩,hl.push _⟩,λb hb=>?_,λi v hP=>qsd rv i v (by grind),λh' tk t' hk=>fin its h' tk t' hlen (old hk)⟩
  have hb':b=s.heap.objs.size\/b=a:=by grind
  rw[Yf];grind
 ·obtain⟨its,rv,pl,_⟩:=I.tuple ha;have hl:s.heap.IsTuple a its.toArray:=pl;have hlt:a<s.heap.objs.size:=IsTup.lt pl;have hlen:its.length=ns.length:=by rw[<- rv.length,Qj]
  refine call_sum_walkG (Qem hl ?_);refine⟨s.heap.objs.size,[s.heap.objs.size,a],[s.heap.objs.size],its.toArray.size,_,_,λi=>(ns[i]?).getD 0,rfl,Walks.tuple (A:=X.A.in1) (I.ok.hd hc) _ a (Q3 hlt) its.toArray,
   ⟨⟨_,Qq _ rfl,rfl,rfl⟩,pl.push _⟩,λb hb=>?_,λi v hP=>qsd rv i v (by grind),λh' tk t' hk=>fin its h' tk t' hlen (old hk)⟩
  have hb':b=s.heap.objs.size\/b=a:=by grind
  rw[Yf];grind
def xdq(K:Qa)(tl:TE):TI:=λσ H R=>tl σ H λx H1 =>∃a,x = .ref a/\(((∃xs,SqL K H1 a xs)/\R (Itl K a) H1)\/((∃xs,SqT K H1 a xs)/\R (Itt K a) H1))
def zpc(hl:PE X l tl):PI X tg l (xdq X.K tl):=by
 intro pins s σ H R I h;refine thn (hl pins s σ H _ I h) λv s1 xx119=>?_;obtain⟨x,H1,I1,r1,q1⟩:=xx119;obtain⟨a,e,q1⟩:=q1;subst e;cases r1;rcases q1 with⟨⟨xs,hq⟩,q⟩|⟨⟨xs,hq⟩,q⟩
 ·obtain⟨its,rv,p,hz⟩:=I1.list hq;refine Qax p.isList ?_;refine⟨s1.heap.objs.size,[s1.heap.objs.size],_,_,H1,rfl,I1.kept (t':=s1.toks) λb o e=>Qf _ e,zis a _,⟨_,Qq _ rfl,rfl,rfl⟩,λb hb=>?_,q⟩;have e:b=s1.heap.objs.size:=by simpa using hb
  subst e;exact I1.fpOk (Qn _) (I1.hok.fresh (Qn _))
 ·obtain⟨its,rv,p,hz⟩:=I1.tuple hq;refine Qem (show s1.heap.IsTuple a its.toArray from p) ?_;refine⟨s1.heap.objs.size,[s1.heap.objs.size],_,_,H1,rfl,I1.kept (t':=s1.toks) λb o e=>Qf _ e,zde a _,⟨_,Qq _ rfl,rfl,rfl⟩,λb hb=>?_,q⟩;have e:b=s1.heap.objs.size:=by simpa using hb
  subst e;exact I1.fpOk (Qn _) (I1.hok.fresh (Qn _))
end
def boot_all:Zj "all" = some (.builtin "all"):=by decide +kernel
def boot_sum:Zj "sum" = some (.builtin "sum"):=by decide +kernel
def qzk:Zj "sorted" = some (.builtin "sorted"):=by decide +kernel
section
variable{X:Cx}
def zfr{K:Qa}(hs:SqL K F a xs)(hr:Iss K F l xs):ItD K (Itl K a) F l where
 go:=λi H s hi=>⟨xs,xs[i]'(by rw[hr.len];exact hi),s.seq hs,Qp _⟩
 stop:=λH s=>⟨xs,s.seq hs,by rw[hr.len];grind⟩
 yld:=λi H x H' F1 s1 s2 hi hy=>by
  obtain⟨rfl,hy⟩:=hy;obtain⟨d,e1,e2⟩:=hr.get' (hy xs ((s1.trans s2).seq hs));exact⟨d,F1,e1,.refl s2,e2.mono s1⟩
def zeh{K:Qa}(hs:SqT K F a xs)(hr:Iss K F l xs):ItD K (Itt K a) F l where
 go:=λi H s hi=>⟨xs,xs[i]'(by rw[hr.len];exact hi),qJ s hs,Qp _⟩
 stop:=λH s=>⟨xs,qJ s hs,by rw[hr.len];grind⟩
 yld:=λi H x H' F1 s1 s2 hi hy=>by
  obtain⟨rfl,hy⟩:=hy;obtain⟨d,e1,e2⟩:=hr.get' (hy xs (qJ (s1.trans s2) hs));exact⟨d,F1,e1,.refl s2,e2.mono s1⟩
def zeg(lo:Int)(n:Nat):List Qh:=(Z9 n).map λ(k:Nat) => .int (lo+(k:Int))
theorem qbg(lo:Int)(n:Nat):(zeg lo n).length=n:=by simp[zeg]
theorem zaj{lo:Int}(h:i<n):(zeg lo n)[i]?=some (.int (lo+i)):=by simp[zeg,h]
def qcm{lo:Int}(h:(zeg lo n)[i]?=some d):i<n/\d = .int (lo+i):=by
 grind[qbg,zaj,Za]
def zsa{K:Qa}{lo:Int}:ItD K (Itr lo n) F (zeg lo n) where
 go:=λi H s hi=>by rw[qbg]at hi;exact hi
 stop:=λH s=>by rw[qbg];exact Qn _
 yld:=λi H x H' F1 s1 s2 hi hy=>by
  obtain⟨rfl,rfl⟩:=hy;rw[qbg]at hi;exact⟨_,F1,zaj hi,.refl s2,qaq _⟩
def qtv(l:List Qh):List Qh:=(Z9 l.length).map λ(k:Nat) => .tuple [.int k,(l[k]?).getD .none]
theorem qib(l:List Qh):(qtv l).length=l.length:=by simp[qtv]
theorem qvi{i:Nat}(h:l[i]?=some d):(qtv l)[i]?=some (.tuple [.int i,d]):=by
 have hi:=(Q6.mp h).1;have e:l[i]=d:=by grind
 simp[qtv,hi,e]
def zgu{i:Nat}(h:(qtv l)[i]?=some d):∃x,l[i]?=some x/\d = .tuple [.int i,x]:=by
 grind[qib,qvi,Qp,Za]
def zlh{K:Qa}(hs:SqL K F a xs)(hr:Iss K F l xs):ItD K (Ite K a) F (qtv l) where
 go:=λi H s hi=>by rw[qib]at hi;exact⟨xs,xs[i]'(by rw[hr.len];exact hi),s.seq hs,Qp _⟩
 stop:=λH s=>by rw[qib];exact⟨xs,s.seq hs,by rw[hr.len];grind⟩
 yld:=λi H x H' F1 s1 s2 hi hy=>by
  obtain⟨p,y,hy,hp,rfl,rfl⟩:=hy;obtain⟨d,e1,e2⟩:=hr.get' (hy xs ((s1.trans s2).seq hs));have g:=Go.put (o:=HO.tup [.int i,y]) s2 hp;exact⟨_,_,qvi e1,g,qld (SqT.of qp) (qI (qaq _) (qI ((e2.mono s1).mono g.f) qah))⟩
section
variable{tg a b c:Expr}{W:WE}{Wr:WF}{p pos:Pos}
def qjx(T:String):Qh->Bool
 |.none=>false
 |.bool _=>T == "bool" || T == "int"
 |.int _=>T == "int"
 |.str _=>T == "str"
 |.list _=>T == "list"
 |.tuple _=>T == "tuple"
 |.dict _=>T == "dict"
def xcq:DC
 |[.list l],q =>∃ns:LI,l=ns.map .int/\q (.int ns.sum)
 |[.tuple l],q =>∃ns:LI,l=ns.map .int/\q (.int ns.sum)
 |_,_=>False
def qaa:Qh->Option (List Qh)
 |.list l=>some l
 |.tuple l=>some l
 |_=>none
def qaw(h:qaa d=some l)(q:Q l):(qaa d).elim False Q:=by rw[h];exact q
def qqp(h:qaa d=some l)(hq:q (.int l.length)):zpy [d] q:=by
 cases d with
 |list m=>cases h;exact hq
 |tuple m=>cases h;exact hq
 |_=>cases h
def qwx(h:qaa d=some l)(e:atI l i=some x)(hq:q x):dIx d (.int i) q:=by
 cases d with
 |list m=>cases h;exact⟨x,e,hq⟩
 |tuple m=>cases h;exact⟨x,e,hq⟩
 |_=>cases h
def zto{ns:LI}(h:qaa d=some (ns.map .int))(hq:q (.int ns.sum)):xcq [d] q:=by
 cases d with
 |list m=>cases h;exact⟨ns,rfl,hq⟩
 |tuple m=>cases h;exact⟨ns,rfl,hq⟩
 |_=>cases h
def qqz(d:Qh):(qjx "list" d||qjx "tuple" d)=(qaa d).isSome:=by cases d <;> rfl
def zpo(W:WE):WF:=λenv Q=>W env λd e=>(qaa d).elim False λl=>Q l e
def qae(h:VE X a W):VI X tg a (zpo W):=(zpc h).imp λσ H R xx120=>by
 obtain⟨M,env,F,Q,I,h,k⟩:=xx120;refine⟨M,env,F,_,I,h,λd v F1 H1 e1 I1 s1 i1 h1=>?_⟩;cases d with
 |list l =>
  obtain⟨b,xs,rfl,hs,hr⟩:=i1.lst_inv;exact⟨b,rfl,.inl ⟨⟨xs,I1.fh.seq hs⟩,k l _ F1 H1 e1 I1 s1 (zfr hs hr) h1⟩⟩
 |tuple l =>
  obtain⟨b,xs,rfl,hs,hr⟩:=i1.tup_inv;exact⟨b,rfl,.inr ⟨⟨xs,qJ I1.fh hs⟩,k l _ F1 H1 e1 I1 s1 (zeh hs hr) h1⟩⟩
 |_=>exact Q7 h1
def xfq(W:WE):WF:=λenv Q=>W env λd e=>match d with
 |.int j=>(-(2^62)<=j/\j<2^62)/\Q (zeg 0 j.toNat) e
 |_=>False
def qbs(hm:X.mg "range" = none)(ha:VE X a W)(hg:Gl X "range":=by rfl)(hs:Qi [a] X.env=[(false,eval a X.env)]:=by rfl)(hs':Qi [a] X.env=(false,eval a X.env)::Qi [] X.env:=by rfl):VI X tg (.Call (.Name "range" p) [a] [] pos) (xfq W) :=
 (zhe hg hm (qF ha qar hs') hs).imp λσ H R xx121=>by
  obtain⟨M,env,F,Q,I,h,k⟩:=xx121;refine⟨M,env,F,_,I,h,λd v F1 H1 e1 I1 s1 i1 h1=>?_⟩;cases d with
  |int j=>exact⟨j,by rw[i1.int_inv],h1.1.1,h1.1.2,k _ _ F1 H1 e1 I1 s1 zsa h1.2⟩
  |_=>exact Q7 h1
def xet(W:WE):WF:=λenv Q=>W env λd e=>match d with
 |.list l=>Q (qtv l) e
 |_=>False
def zqq{elts:List Expr}{x1:Nat}{tpos:Pos}(hm:X.mg "enumerate" = none)(ha:VE X a W)(hg:Gl X "enumerate":=by rfl)(hs:Qi [a] X.env=[(false,eval a X.env)]:=by rfl)(hs':Qi [a] X.env=(false,eval a X.env)::Qi [] X.env:=by rfl):
 VI X (.Tuple elts x1 tpos) (.Call (.Name "enumerate" p) [a] [] pos) (xet W) :=
 (zro hg hm (qF ha qar hs') hs).imp λσ H R xx122=>by
  obtain⟨M,env,F,Q,I,h,k⟩:=xx122;refine⟨M,env,F,_,I,h,λd v F1 H1 e1 I1 s1 i1 h1=>?_⟩;cases d with
  |list l =>
   obtain⟨b,xs,rfl,hs,hr⟩:=i1.lst_inv;exact⟨b,rfl,⟨xs,I1.fh.seq hs⟩,k _ _ F1 H1 e1 I1 s1 (zlh hs hr) h1⟩
  |_=>exact Q7 h1
end
def Sl.seen:Sl->Sl
 |.val d => .val d
 |.new d => .val d
 |.dsk _ a g C f es => .dsk false a g C f es
 |_ => .non
def qrj(ix:List Nat)(k:Nat)(env:Sto):Sto:=ix.map (λi=>(gS env i).seen)++Qab k .non
def zju(ix:List Nat)(k:Nat)(Wi:WF)(G:WG)(We:WE):WF:=λenv Q=>Wi env λds e0=>ds.length<Qo /\ ∃P:Nat->List Qh->Sto->Prop,P 0 [] (qrj ix k e0) /\
 (∀i d ys e,ds[i]?=some d->P i ys e->G d e λe1=>We e1 λy e2=>P (i+1) (ys++[y]) e2) /\ ∀ys e,P ds.length ys e->Q ys e0
def zdu:∀(ix:List Nat)(f:Nat->Sl)(r:Sto)(j:Nat),gS (ix.map f++r) j=match ix[j]? with|some i=>f i|none=>gS r (j-ix.length)
 |[],f,r,j=>by simp
 |i::ix,f,r,0=>by simp[gS]
 |i::ix,f,r,j+1=>by simp only[Qr,Qjz,gS,J3,Zl,Qgq];exact zdu ix f r j
def qpc(k j:Nat):gS (Qab k .non) j = .non:=by
 induction k generalizing j with
 |zero=>simp[gS]
 |succ k ih=>cases j with
  |zero=>simp[Qbg,gS]
  |succ j=>simp only[Qbg,gS];exact ih j
def zxf(ix:List Nat)(k:Nat)(σ:St)(j i:Nat)(h:ix[j]?=some i):vS (qss ix k σ) j=vS σ i:=by
 have hj:=(Q6.mp h).1;unfold vS qss;grind
def EnvOk.cap{K:Qa}(I:EnvOk K M F H env σ)(ix:List Nat)(k:Nat):EnvOk K ⟨H,H,F⟩ F H (qrj ix k env) (qss ix k σ) where
 len:=by simp[qrj,qss]
 slot:=λj=>by
  unfold qrj;rw[zdu];cases h:ix[j]? with
  |none=>rw[qpc];trivial
  |some i =>
   show SlotOk K _ F H (gS env i).seen _;rw[zxf ix k σ j i h];have S:=I.slot i;cases q:gS env i with
   |val d=>rw[q]at S;exact S
   |non=>trivial
   |own ds=>trivial
   |pen ds=>trivial
   |new d=>rw[q]at S;obtain⟨v,e,j⟩:=S;exact⟨v,e,j.is qit⟩
   |exc C=>trivial
   | «at» v=>trivial
   |obj a0 C nm fs=>trivial
   |dsk mm a0 g0 C f es =>
    rw[q]at S;obtain⟨dx,kvs,e,g1,g2,g3,g4⟩:=S;exact⟨dx,kvs,e,g1,g2,g3,g2⟩
 dis:=λi j a _ h1=>by
  unfold qrj at h1;rw[zdu]at h1;cases h:ix[i]? with
  |none=>rw[h,qpc]at h1;cases h1
  |some n =>
   rw[h]at h1;replace h1:(gS env n).seen.mut=true:=h1
   cases q:gS env n <;> rw[q]at h1 <;> cases h1
 f0 :=.refl _
 fe:=I.fh
 fh:=I.fh
 bh :=.refl _
 new:=λb o e => .inl e
 dom:=λb o e=>⟨o,e⟩
def EnvOk.goOf{K:Qa}(I:EnvOk K ⟨H,H,F⟩ F' H' env σ):Go F H F' H':=⟨I.f0,I.bh,I.fh,I.new⟩
section
variable{K:Qa}{ix:List Nat}{n:Nat}{Wi:WF}{G:WG}{We:WE}{σ:St}{H:Hp}{R:VK}
def qvg(h:zjw K (zju ix n Wi G We) σ H R):zbw ix n (zcm K Wi) (qov K G) (qdc K We) σ H R:=by
 obtain⟨M,env,F,Q,I,h,k⟩:=h;refine⟨M,env,F,_,I,h,λds J F1 H1 e1 I1 s1 jt xx124=>?_⟩;obtain⟨hz,P,p0,turn,fin⟩:=xx124;refine⟨λi m ys σ1 H'=>m=ds.length-i/\i<=ds.length /\ ∃e' F' l,EnvOk K ⟨H1,H1,F1⟩ F' H' e' σ1/\Iss K F' l ys/\ys.length=i/\P i l e',⟨ds.length,by simp,Vb _,qrj ix n e1,F1,[],I1.cap ix n,qah,rfl,p0⟩,?_⟩;rintro i m ys σ1 H2 ⟨hm,hi,e2,F2,l,I2,i2,hl,p2⟩;have g2:=I2.goOf;by_cases he:i=ds.length
 ·subst he;exact .inl ⟨jt.stop H2 (g2.f.trans g2.fh),by omega,qme (I1.go g2) (s1.trans g2.f) i2 (fin l e2 p2) k⟩
 ·have hlt:i<ds.length:=by omega
  refine .inr ⟨jt.go i H2 (g2.f.trans g2.fh) hlt,by omega,λy σ' H' =>∃e' F' l',EnvOk K ⟨H1,H1,F1⟩ F' H' e' σ'/\Iss K F' l' (ys++[y])/\P (i+1) l' e',
   λy σ' H' xx123=>by obtain⟨e',F',l',I',i',p'⟩:=xx123;exact⟨ds.length-(i+1),by omega,rfl,hlt,e',F',l',I',i',by simp[hl],p'⟩,λx H3 hy=>?_⟩
  obtain⟨d,F3,hd,g,j⟩:=jt.yld i H2 x H3 F2 g2.f g2.fh hlt hy;refine⟨_,e2,F3,d,_,I2.go g,j,turn i d l e2 hd p2,λF4 H4 e4 σ4 I4 s4 h4=>⟨_,e4,F4,_,I4,h4,λd5 v5 F5 H5 e5 I5 s5 i5 h5=>?_⟩⟩;exact⟨e5,F5,l++[d5],I5,qbl ((i2.mono (g.f.trans s4)).mono s5) (qI i5 qah),h5⟩
end
def qP{pos:Pos}{ix:List Nat}(hc:X.calm=true)(S:CompScope X.env scope caps)(hi:VI X target iter Wi)(hg:∀pins s3 H ex,VG (blk X pins scope (caps++own) s3 H ex) target G)(he:∀pins s3 H ex,VE (blk X pins scope (caps++own) s3 H ex) elt We)(hix:caps.length=ix.length:=by rfl)(hcapB:(caps.zip ix).all (λp=>X.N[p.2]?==some p.1)=true:=by rfl)(hs:∀x,Zn iter X.env x=pure x:=by intro _;rfl):VF X (.ListComp elt [⟨target,iter,[],0⟩] scope pos) (zju ix own.length Wi G We) :=
  (ztt (g:=qov X.K G) (te:=qdc X.K We) hc S hi hg he hix hcapB hs).imp λ_ _ _ h=>qvg h
def qO{G:WG}{We:WE}{Q:List Qh->Sto->Prop}{ds:List Qh}(L:List Qh)(hl:L.length=ds.length)(hz:L.length<Qo)(Iv:Sto->Prop)(h0:Iv (qrj ix k e0))(h:∀(i:Nat)d ys e,ds[i]?=some d->ys=L.take i->Iv e->G d e λe1=>We e1 λy e2=>ys++[y]=L.take (i+1)/\Iv e2)(q:Q L e0):
 ds.length<Qo /\ ∃P:Nat->List Qh->Sto->Prop,P 0 [] (qrj ix k e0)/\(∀i d ys e,ds[i]?=some d->P i ys e->G d e λe1=>We e1 λy e2=>P (i+1) (ys++[y]) e2) /\ ∀ys e,P ds.length ys e->Q ys e0 :=
  ⟨by omega,λi ys e=>ys=L.take i/\Iv e,⟨by simp,h0⟩,λi d ys e hd hp=>h i d ys e hd hp.1 hp.2,λys e hp=>by grind⟩
def qy{α:Type}{L ys:List α}{y:α}(e:L[i]?=some y)(h:ys=L.take i):ys++[y]=L.take (i+1):=by
 grind[Vp]
def xeq(T:String)(W:WE):WE:=λenv Q=>W env λd e=>Q (.bool (qjx T d)) e
section
variable{a:Expr}{W:WE}{p pos pT:Pos}{T:String}{t:Str}
def qlf(hm:X.mg "isinstance" = none)(ht:X.mg t=none)(hv:Zj t=some (.type T))(ha:VE X a W)(hk:∀d,Qs X.K (.type (tyD d)) (.type T)=some (qjx T d):=by intro d;cases d <;> rfl)(hg:Gl X "isinstance":=by rfl)(hgt:Gl X t:=by rfl)(hn:t ≠ "__name__":=by decide)(hdt:Nd0 t:=by decide)(hs:Qi [a,.Name t pT] X.env=(false,eval a X.env)::Qi [.Name t pT] X.env:=by rfl)(hs2:Qi [.Name t pT] X.env=(false,eval (.Name t pT) X.env)::Qi [] X.env:=by rfl)(hpl:(Z5 pos (Qi [.Name t pT] X.env)).any (·.1)=false:=by rfl):
 VE X (.Call (.Name "isinstance" p) [a,.Name t pT] [] pos) (xeq T W) :=
 (qfd zmf hg hm qbx (qF ha (qF (qpr (v :=.ty T) hgt ht hv rfl hn hdt) qar hs2) hs) (by decide) (by decide) hs hpl).imp λσ H R xx125=>by
  obtain⟨M,env,F,Q,I,h,k⟩:=xx125;exact⟨M,env,F,_,I,h,λd v F1 H1 e1 I1 s1 i1 h1=>⟨d,v,T,qjx T d,rfl,i1.mono I1.fh,hk d,k _ _ F1 H1 e1 I1 s1 (qci _) h1⟩⟩
def xab(T T':String)(W:WE):WE:=λenv Q=>W env λd e=>Q (.bool (qjx T d||qjx T' d)) e
def zfc{pT' ptu:Pos}{x1:Nat}(hm:X.mg "isinstance" = none)(ht:X.mg t=none)(hv:Zj t=some (.type T))(ht':X.mg t'=none)(hv':Zj t'=some (.type T'))(ha:VE X a W)(hk:∀d,Vw X.K (.type (tyD d)) ([T,T'].map Qeu)=some (qjx T d||qjx T' d):=by intro d;cases d <;> rfl)(hg:Gl X "isinstance":=by rfl)(hgt:Gl X t:=by rfl)(hgt':Gl X t':=by rfl)(hn:t ≠ "__name__":=by decide)(hn':t' ≠ "__name__":=by decide)(hdt:Nd0 t:=by decide)(hdt':(t'==("__debug__" : Str))=false:=by decide)(hs:Qi [a,.Tuple [.Name t pT,.Name t' pT'] x1 ptu] X.env=(false,eval a X.env)::Qi [.Tuple [.Name t pT,.Name t' pT'] x1 ptu] X.env:=by rfl)(hs2:Qi [.Tuple [.Name t pT,.Name t' pT'] x1 ptu] X.env=(false,eval (.Tuple [.Name t pT,.Name t' pT'] x1 ptu) X.env)::Qi [] X.env:=by rfl)(hs3:Qi [.Name t pT,.Name t' pT'] X.env=(false,eval (.Name t pT) X.env)::Qi [.Name t' pT'] X.env:=by rfl)(hs4:Qi [.Name t' pT'] X.env=(false,eval (.Name t' pT') X.env)::Qi [] X.env:=by rfl)(hpl:(Z5 pos (Qi [.Tuple [.Name t pT,.Name t' pT'] x1 ptu] X.env)).any (·.1)=false:=by rfl):
  VE X (.Call (.Name "isinstance" p) [a,.Tuple [.Name t pT,.Name t' pT'] x1 ptu] [] pos) (xab T T' W) :=
  (qfd zcy hg hm qbx (qF ha (qF (zdt (qF (qpr (v :=.ty T) hgt ht hv rfl hn hdt) (qF (qpr (v :=.ty T') hgt' ht' hv' rfl hn' hdt') qar hs4) hs3)) qar hs2) hs) (by decide) (by decide) hs hpl).imp λσ H R xx126=>by
   obtain⟨M,env,F,Q,I,h,k⟩:=xx126;exact⟨M,env,F,_,I,h,λd v F1 H1 e1 I1 s1 i1 h1=>⟨szl,λp hp=>⟨d,v,p,[T,T'],_,rfl,qp,(i1.mono I1.fh).mono (qbi hp),hk d,
    k _ _ F1 _ e1 (I1.go (.side I1.fh hp)) s1 (qci _) h1⟩⟩⟩
end
def zjx(hc:X.calm=true):qjy X (.builtin "sum") xcq:=(zmk hc).imp λxs H Q xx127=>by
 obtain⟨F,ds,q,s,i,h,k⟩:=xx127
 match ds,h,i with
 |[.list l],h,i =>
  obtain⟨v,rfl,j⟩:=qql i;obtain⟨a,xs,rfl,hs,hr⟩:=j.lst_inv;obtain⟨ns,rfl,hq⟩:=h;rw[hr.ints_inv]at hs;exact⟨a,ns,rfl,.inl (s.seq hs),k _ _ F H (.refl s) (qaq _) hq⟩
 |[.tuple l],h,i =>
  obtain⟨v,rfl,j⟩:=qql i;obtain⟨a,xs,rfl,hs,hr⟩:=j.tup_inv;obtain⟨ns,rfl,hq⟩:=h;rw[hr.ints_inv]at hs;exact⟨a,ns,rfl,.inr (qJ s hs),k _ _ F H (.refl s) (qaq _) hq⟩
def xch:DC
 |[.list l],q =>∃bs:List Bool,l=bs.map .bool/\q (.bool (bs.all id))
 |_,_=>False
def Iss.bools_inv{K:Qa}:∀{bs:List Bool}{xs:List V},Iss K H (bs.map .bool) xs->xs=bs.map V.bl
 |[],_,h=>h.nil_inv
 |n::ns,_,h=>by
  obtain⟨x,r,rfl,p,q⟩:=h.cons_inv;rw[p.bl_inv,Iss.bools_inv q];rfl
def qtz(hc:X.calm=true):qjy X (.builtin "all") xch:=(zng hc).imp λxs H Q xx128=>by
 obtain⟨F,ds,q,s,i,h,k⟩:=xx128
 match ds,h,i with
 |[.list l],h,i =>
  obtain⟨v,rfl,j⟩:=qql i;obtain⟨a,xs,rfl,hs,hr⟩:=j.lst_inv;obtain⟨bs,rfl,hq⟩:=h;rw[hr.bools_inv]at hs;exact⟨a,bs,rfl,s.seq hs,k _ _ F H (.refl s) (qci _) hq⟩
end
def qal(N:List Str)(ds:List Qh):Sto:=ds.map .val++Qab (N.length-ds.length) .non
def qtf:∀(ds:List Qh)(r:Sto)(j:Nat),gS (ds.map .val++r) j=match ds[j]? with|some d => .val d|none=>gS r (j-ds.length)
 |[],r,j=>by simp
 |i::ix,r,0=>by simp[gS]
 |i::ix,r,j+1=>by simp only[Qr,Qjz,gS,J3,Zl,Qgq];exact qtf ix r j
def znl(h:vs[j]?=some v):vS (start N vs) j=some v:=by
 have hj:=(Q6.mp h).1;unfold vS start;grind
def qbr{K:Qa}(s:Same F H)(i:Iss K F ds vs):EnvOk K ⟨H,H,F⟩ F H (qal N ds) (start N vs) where
 len:=by simp[qal,start,i.len]
 slot:=λj=>by
  unfold qal;rw[qtf];cases h:ds[j]? with
  |none=>rw[qpc];trivial
  |some d =>
   obtain⟨x,e1,e2⟩:=i.get h;exact⟨x,znl e1,e2⟩
 dis:=λi j a _ h1=>by
  unfold qal at h1;rw[qtf]at h1;cases h:ds[i]? with
  |none=>rw[h,qpc]at h1;cases h1
  |some d=>rw[h]at h1;cases h1
 f0 :=.refl _
 fe:=s
 fh:=s
 bh :=.refl _
 new:=λb o e => .inl e
 dom:=λb o e=>⟨o,e⟩
section
variable{P:Zk}{w:World}{K:Qa}{mg:Str->Option Value}{base:Heap}
def RetOk.is(I:EnvOk K ⟨H,H,F⟩ F' H' env σ)(h:RetOk K ⟨H,H,F⟩ F' H' r v):∃F'',Go F H F'' H'/\Is K F'' r.data v:=by
 have g:=I.goOf;cases r with
 |val d=>exact⟨F',g,h⟩
 |new d=>exact⟨F',g,IsN.is qit h⟩
 |own ds =>
  obtain⟨a,vs,rfl,h1,h2,h3,h4,h5⟩:=h;have s:Same F' (upd F' a (.lst vs)):=qbi h2;refine⟨upd F' a (.lst vs),⟨g.f.trans s,g.h,λb o e=>?_,λb o e=>?_⟩,qdg (SqL.of qp) (h5.mono s)⟩
  ·by_cases z:b=a
   ·subst z;rw[qp]at e;rw[h1];exact .of e
   ·rw[qo z]at e;exact g.fh b o e
  ·by_cases z:b=a
   ·grind
   ·rw[qo z]at e;exact g.new b o e
def Def.vok{st:Stmt}(F:Def K mg x st ps)(S:FnScope N ps (defScope st))(len:∀ds q,sp ds q->ds.length=ps.length)(hbody:∀(f:Addr)(cdv:Value)(A:Z1)(outer:List Env)(s:Ql)(H:Hp)(E:XK),Room k (A.deeper (Qbo x (defScope st) s.heap.objs.size f cdv)) ->∀ds q,sp ds q ->
 ∃W,VSs (qbv CX0 P w K mg base N x (defScope st) f cdv A outer s H E).nox (defBody st) W/\W { nx:=λ_=>q .none,rt:=λr _=>q r.data } (qal N ds)):Ok P w K mg base x (k+1) ps (PSp K sp) :=
  F.ok S (λvs H Q E xx130=>by obtain⟨F,ds,q,_,i,h,_⟩:=xx130;rw[i.len];exact len ds q h) λf cdv A outer s H vs Q E hr xx129=>by
   obtain⟨F,ds,q,sm,i,h,kk⟩:=xx129;obtain⟨W,hW,hq⟩:=hbody f cdv A outer s H E hr ds q h;refine⟨_,hW,⟨H,H,F⟩,qal N ds,F,_,qbr sm i,hq,⟨λe1 F1 H1 σ1 I1 s1 q1=>kk _ _ F1 H1 I1.goOf qei q1,λr v e1 F1 H1 σ1 I1 s1 r1 q1=>?_,λ_ _ _ _ _ _ h=>h.elim,λ_ _ _ _ _ _ h=>h.elim⟩⟩;obtain⟨F2,g,j⟩:=r1.is I1;exact kk _ _ F2 H1 g j q1
def Def.vokF{st:Stmt}(F:Def K mg x st ps)(S:FnScope N ps (defScope st))(len:∀ds q,sp ds q->ds.length=ps.length)(hbody:∀(f:Addr)(cdv:Value)(A:Z1)(outer:List Env)(s:Ql)(H:Hp)(E:XK),Room k (A.deeper (Qbo x (defScope st) s.heap.objs.size f cdv)) ->∀ds q,sp ds q ->
 ∃W,VSs (qbv CX0 P w K mg base N x (defScope st) f cdv A outer s H E).nox (defBody st) W/\W { nx:=λ_=>False,rt:=λr _ =>∃l,r = .own l/\q l } (qal N ds)):Ok P w K mg base x (k+1) ps (FSp K sp) :=
  F.ok S (λvs H Q E xx132=>by obtain⟨F,ds,q,_,i,h,_⟩:=xx132;rw[i.len];exact len ds q h) λf cdv A outer s H vs Q E hr xx131=>by
   obtain⟨F,ds,q,sm,i,h,kk⟩:=xx131;obtain⟨W,hW,hq⟩:=hbody f cdv A outer s H E hr ds q h;refine⟨_,hW,⟨H,H,F⟩,qal N ds,F,_,qbr sm i,hq,⟨λe1 F1 H1 σ1 I1 s1 q1=>q1.elim,λr v e1 F1 H1 σ1 I1 s1 r1 q1=>?_,λ_ _ _ _ _ _ h=>h.elim,λ_ _ _ _ _ _ h=>h.elim⟩⟩;obtain⟨l,rfl,q1⟩:=q1;obtain⟨a,vs,rfl,h1,h2,h3,h4,h5⟩:=r1;exact kk l a vs F1 H1 I1.goOf h4 h2 h1 h5 q1
def xcc(K:Qa):Sp:=λvs H Q _ =>∃(a:Addr)(ns:LI),vs=[.ref a]/\SqL K H a (ns.map V.int)/\ns.length<=63 /\ ∀H',Q (.bl true) H'
end
section
variable(K:Qa)
def zjm(W:WE):TE:=λσ H R =>∃M env F Q,EnvOk K M F H env σ/\W env Q /\ ∀d v F' H' env',EnvOk K M F' H' env' σ->Same F F'->IsN K (qoi M F') d v->Q d env'->R v H'
def zym(W:WF):TE:=λσ H R =>∃M env F Q,EnvOk K M F H env σ/\W env Q /\ ∀a vs ds F' H' env',EnvOk K M F' H' env' σ->Same F F'->H' a=some (.lst vs)->F' a=none->M.B a=none->M.He a=none ->
 (∀i,(gS env' i).mut=true->vS σ i≠some (.ref a))->IssN K (qoi M F') ds vs->Q ds env'->R (.ref a) H'
def zns(r:DC):List V->Hp->VK->Prop:=λvs H Q =>∃F ds q,Same F H/\Iss K F ds vs/\r ds q /\ ∀d v F' H',Go F H F' H'->IsN K (qoi ⟨H,H,F⟩ F') d v->q d->Q v H'
def qtu(sp:DC):Sp:=λvs H Q _=>zns K sp vs H Q
structure EndsT(M:Frm)(DD:WEnds)(D:Ends):Prop where
 nx:∀env' F' H' σ',EnvOk K M F' H' env' σ'->DD.nx env'->D.nx σ' H'
 rt:∀r v env' F' H' σ',EnvOk K M F' H' env' σ'->RetOk K M F' H' r v->DD.rt r env'->D.rt v H'
 bk:∀env' F' H' σ',EnvOk K M F' H' env' σ'->DD.bk env'->D.bk σ' H'
 ct:∀env' F' H' σ',EnvOk K M F' H' env' σ'->DD.ct env'->D.ct σ' H'
def zoa(W:WS):TS:=λD σ H =>∃M env F DD,EnvOk K M F H env σ/\W DD env/\EndsT K M DD D
end
def VN(X:Cx)(e:Expr)(W:WE):Prop:=PE X e (zjm X.K W)
def VFN(X:Cx)(e:Expr)(W:WF):Prop:=PE X e (zym X.K W)
def VST(X:Cx)(st:Stmt)(W:WS):Prop:=PS X st (zoa X.K W)
def xfl(X:Cx)(st:List Stmt)(W:WS):Prop:=PSs X st (zoa X.K W)
def zps:Qh->Bool
 |.none=>true
 |.bool _=>true
 |.int _=>true
 |.str _=>true
 |_=>false
def zxj{K:Qa}(h:zps d=true)(i:Is K F d v):IsN K F' d v:=by
 cases d with
 |none=>unfold Is at i;unfold IsN;exact i
 |bool b=>unfold Is at i;unfold IsN;exact i
 |int b=>unfold Is at i;unfold IsN;exact i
 |str b=>unfold Is at i;unfold IsN;exact i
 |_=>cases h
def zfa{K:Qa}:∀{ds:List Qh}{vs:List V},ds.all zps=true->Iss K F ds vs->IssN K F' ds vs
 |[],_,_,i=>by rw[i.nil_inv];exact zkv
 |d::l,_,h,i=>by
  obtain⟨x,r,rfl,p,q⟩:=i.cons_inv;rw[Qbt,Qy]at h;exact zhk (zxj h.1 p) (zfa h.2 q)
def EnvOk.newUp{K:Qa}(I:EnvOk K M F H env σ):Same (qoi ⟨H,H,F⟩ F') (qoi M F'):=λb o e=>by
 obtain⟨z1,_,z3⟩:=zms e;exact .of (zeo (I.he z1) (qL I.bh z1) z3)
section
variable{X:Cx}{a b e:Expr}{W:WE}{Wf:WF}{pos p:Pos}
def zzw(W:WE):WE:=λenv Q=>W env λd e=>match d with |.list l=>l.all zps=true/\Q (.tuple l) e|_=>False
def zqf(hm:X.mg "tuple" = none)(ha:VE X a W)(hg:Gl X "tuple":=by rfl)(hs:Qi [a] X.env=(false,eval a X.env)::Qi [] X.env:=by rfl)(hpl:(Z5 pos (Qi [] X.env)).any (·.1)=false:=by rfl):
 VN X (.Call (.Name "tuple" p) [a] [] pos) (zzw W) :=
 (qih qja hg hm boot_tuple (qF (te:=qdc X.K W) ha qar hs) (by decide) (by decide) hs hpl).imp λσ H R xx133=>by
  obtain⟨M,env,F,Q,I,h,k⟩:=xx133;refine⟨M,env,F,_,I,h,λd v F1 H1 e1 I1 s1 i1 h1=>?_⟩;cases d with
  |list l =>
   obtain⟨a,xs,rfl,hs,hr⟩:=i1.lst_inv;refine⟨a,xs,rfl,.inl ⟨I1.fh.seq hs,λp hp=>?_⟩⟩;have g:=Go.put (o:=HO.tup xs) I1.fh hp;refine k _ _ _ _ e1 (I1.go g) (s1.trans g.f) ?_ h1.2;unfold IsN;exact⟨p,xs,rfl,zeo (I1.he hp) (qL I1.bh hp) qp,zfa h1.1 hr⟩
  |_=>exact Q7 h1
def zuy(O:OkC X x k ps (qtu X.K sp))(hr:Room k X.A)(ha:VA X (e::es) Wr)(hg:Gl X x:=by rfl)(hdb:Nd0 x:=by decide)(he:Qi (e::es) X.env=(false,eval e X.env)::Qi es X.env:=by rfl)(hpl:(Z5 pos (Qi es X.env)).any (·.1)=false:=by rfl):VN X (.Call (.Name x p) (e::es) [] pos) (qgp sp Wr) :=
 (qxk (t:=qgr X.K Wr) O hr ha hg hdb he hpl).imp λσ H R xx134=>by
  obtain⟨M,env,F,Q,I,h,k⟩:=xx134;have e:qjr (qtu X.K sp) [] E0 (qgr X.K Wr) σ H R=qgr X.K Wr σ H λvs H1=>zns X.K sp vs H1 R:=by unfold qjr qtu;simp only[Yc]
  rw[e];exact⟨M,env,F,_,I,h,λds vs F1 H1 e1 I1 s1 i1 h1=>⟨F1,ds,_,I1.fh,i1,h1,λd v F2 H2 g i2 q=>k d v F2 H2 e1 (I1.go g) (s1.trans g.f) (i2.mono I1.newUp) q⟩⟩
def xec(h:VN X e W):VE X e W:=PE.imp (t:=zjm X.K W) h λσ H R xx135=>by
 obtain⟨M,env,F,Q,I,h,k⟩:=xx135;exact⟨M,env,F,_,I,h,λd v F1 H1 e1 I1 s1 i1 h1=>k d v F1 H1 e1 I1 s1 (i1.is qit) h1⟩
def xbe(W:WE):WS:=λD env=>W env λd e=>D.rt (.new d) e
def zui(he:VN X e W):VS X (.Return (some e) pos) (xbe W):=(qoz (te:=zjm X.K W) he).imp λD σ H xx136=>by
 obtain⟨M,env,F,DD,I,h,k⟩:=xx136;exact⟨M,env,F,_,I,h,λd v F1 H1 e1 I1 s1 i1 h1=>k.rt (.new d) v e1 F1 H1 σ I1 s1 i1 h1⟩
end
section
variable{P:Zk}{w:World}{K:Qa}{mg:Str->Option Value}{base:Heap}
def Def.vokN{st:Stmt}(F:Def K mg x st ps)(S:FnScope N ps (defScope st))(len:∀ds q,sp ds q->ds.length=ps.length)(hbody:∀(f:Addr)(cdv:Value)(A:Z1)(outer:List Env)(s:Ql)(H:Hp)(E:XK),Room k (A.deeper (Qbo x (defScope st) s.heap.objs.size f cdv)) ->∀ds q,sp ds q ->
 ∃W,VSs (qbv CX0 P w K mg base N x (defScope st) f cdv A outer s H E).nox (defBody st) W/\W { nx:=λ_=>False,rt:=λr _ =>∃d,r = .new d/\q d } (qal N ds)):Ok P w K mg base x (k+1) ps (qtu K sp) :=
  F.ok S (λvs H Q E xx138=>by obtain⟨F,ds,q,_,i,h,_⟩:=xx138;rw[i.len];exact len ds q h) λf cdv A outer s H vs Q E hr xx137=>by
   obtain⟨F,ds,q,sm,i,h,kk⟩:=xx137;obtain⟨W,hW,hq⟩:=hbody f cdv A outer s H E hr ds q h;refine⟨_,hW,⟨H,H,F⟩,qal N ds,F,_,qbr sm i,hq,⟨λe1 F1 H1 σ1 I1 s1 q1=>q1.elim,λr v e1 F1 H1 σ1 I1 s1 r1 q1=>?_,λ_ _ _ _ _ _ h=>h.elim,λ_ _ _ _ _ _ h=>h.elim⟩⟩;obtain⟨d,rfl,q1⟩:=q1;exact kk d v F1 H1 I1.goOf r1 q1
end
section
variable{X:Cx}{c e:Expr}{Tc:WT}{W:WE}{Wt Wu:WS}{st:Stmt}{sts rest:List Stmt}{pos pos':Pos}
mutual
def zsu:Qh->Bool
 |.list _=>false
 |.tuple l=>qxm l
 |.dict _=>false
 |_=>true
def qxm:List Qh->Bool
 |[]=>true
 |d::l=>zsu d&&qxm l
end
mutual
def Is.imm{K:Qa}{F F':Hp}(s:∀b o,F b=some o->(∀xs,o≠.lst xs)->F' b=some o):∀{d:Qh}{v:V},zsu d=true->Is K F d v->Is K F' d v
 |.none,_,_,h=>by unfold Is at h ⊢;exact h
 |.bool _,_,_,h=>by unfold Is at h ⊢;exact h
 |.int _,_,_,h=>by unfold Is at h ⊢;exact h
 |.str _,_,_,h=>by unfold Is at h ⊢;exact h
 |.list l,_,m,h=>by unfold zsu at m;cases m
 |.dict l,_,m,h=>by unfold zsu at m;cases m
 |.tuple l,_,m,h=>by
  unfold zsu at m;unfold Is at h ⊢;obtain⟨a,xs,e,q,r⟩:=h;refine⟨a,xs,e,?_,Iss.imm s m r⟩;rcases q with(q|⟨o,q⟩)|q
  ·exact .inl (.inl (s _ _ q (λ_ z=>nomatch z)))
  ·exact .inl (.inr ⟨o,s _ _ q (λ_ z=>nomatch z)⟩)
  ·exact .inr q
def Iss.imm{K:Qa}{F F':Hp}(s:∀b o,F b=some o->(∀xs,o≠.lst xs)->F' b=some o):∀{l:List Qh}{xs:List V},qxm l=true->Iss K F l xs->Iss K F' l xs
 |[],_,_,h=>by unfold Iss at h ⊢;exact h
 |d::l,_,m,h=>by
  unfold qxm at m;rw[Qy]at m;unfold Iss at h ⊢;obtain⟨x,r,e,p,q⟩:=h;exact⟨x,r,e,Is.imm s m.1 p,Iss.imm s m.2 q⟩
end
end
section
variable{X:Cx}
def xev:D2:=λx y q =>∃(i:Int)(ns:LI),x = .int i/\qaa y=some (ns.map .int)/\q (.bool (ns.any (· == i)))
theorem qrv(i:Int):∀ns:LI,inV (.int i) (ns.map V.int)=ns.any (· == i)
 |[]=>rfl
 |n::ns=>by
  have:=qrv i ns;unfold inV at this ⊢;rw[Qr,Jl,Jl,this];rfl
def quk(ns:LI):(ns.map V.int).all qll=true:=by
 rw[Q4];intro x hx;obtain⟨i,_,rfl⟩:=Q1.mp hx;rfl
def zqm{ns:LI}(s:Same F H)(i1:Is X.K F (.int i) x)(i2:Is X.K F dy y)(e:qaa dy=some (ns.map .int))(q:Q (.bl (if neg then !ns.any (· == i)else ns.any (· == i))) H):rIn X.K neg x y H Q:=by
 rw[i1.int_inv];cases dy with
 |list l =>
  cases e;obtain⟨a,xs,rfl,hs,hr⟩:=i2.lst_inv;rw[hr.ints_inv]at hs;exact⟨a,_,rfl,.inl (s.seq hs),rfl,quk ns,by grind[qrv]⟩
 |tuple l =>
  cases e;obtain⟨a,xs,rfl,hs,hr⟩:=i2.tup_inv;rw[hr.ints_inv]at hs;exact⟨a,_,rfl,.inr (qJ s hs),rfl,quk ns,by grind[qrv]⟩
 |_=>cases e
def zuz:OpV X (Zs .In) xev:=OpR.imp qut λx y H Q xx139=>by
 obtain⟨F,dx,dy,q,s,i1,i2,⟨i,ns,e1,e2,hq⟩,k⟩:=xx139;subst e1;exact zqm s i1 i2 e2 (k _ _ F H (.refl s) (qci _) hq)
end
section
variable{X:Cx}{elt target iter:Expr}{scope:Scope}{pos:Pos}{caps own:List Str}{ix:List Nat}{wi:TI}{g:TG}{te:TE}
def zqa{py spos:Pos}(hN:X.N.Nodup)(hiy:X.N[i]?=some y)(hy:X.env.scope.names.lookup y=some .local)(hsw:V8 (.ListComp elt [⟨target,iter,[],0⟩] scope pos) (some (.Name y py)) spos.line X.env=pure true)(hc:X.calm=true)(S:CompScope X.env scope caps)(hi:PI X target iter wi)(hg:∀pins s3 H ex,PG (blk X pins scope (caps++own) s3 H ex) target g)(he:∀pins s3 H ex,PE (blk X pins scope (caps++own) s3 H ex) elt te)(hix:caps.length=ix.length:=by rfl)(hcapB:(caps.zip ix).all (λp=>X.N[p.2]?==some p.1)=true:=by rfl)(hs:∀x,Zn iter X.env x=pure x:=by intro _;rfl):PS X (.Assign [.Name y py] (.ListComp elt [⟨target,iter,[],0⟩] scope pos) spos) (zvo (zbw ix own.length wi g te) (zjt i)):=by
  intro pins s σ H D I h;rw[Qgx _ _ _ _ hsw];refine Qe (Qcg (Qe ?_));show wpAny _ _ (do let _ <- Qcb (.ListComp elt [⟨target,iter,[],0⟩] scope pos) scope X.env _ (Qla []) false (eval iter X.env) (some (Qdi (.Name y py) X.env))) _ _ s;refine Qe (thn (qqo (use:=some (Qdi (.Name y py) X.env)) (Q0:=λ_ s'=>SP X pins D .next s') hc S hi hg he hix hcapB hs I h λD' C s6 H6 m6 ns6 IX c1 c2 c3 c4 c5 c6 q=>?_) (λ_ s' hq=>Qx (Qx hq)));obtain⟨oC,esC,epC,hoC,hdC,rC⟩:=id ns6;have IX':Inv X (pins++[(C,oC)]) σ H6 s6:=IX.pins_of λp hp=>by
   rcases Zz.mp hp with z|z
   ·exact IX.pin p (Qw _ z)
   grind
  show wpAny _ _ (Qdi (.Name y py) X.env (.ref D')) _ _ _;refine Qfl (qhv IX' hN hiy (Yi hy) (v :=.ref D') rfl (λs7 I7=>?_) (.inr hy));have gC:s7.heap.get? C=some oC:=(I7.pin (C,oC) (Qw _ (Qw _ (Ze.mpr rfl)))).1;refine⟨m6,⟨oC,esC,epC,gC,hdC,rC⟩,λh' sb=>?_⟩;exact⟨_,_,I7.unpinned.turned (t':=s7.toks) (it:=C) (λb o hb q=>sb.extBut b o hb q) c1 c2 c4 c5 c6,q⟩
end
section
variable{K:Qa}{ix:List Nat}{n:Nat}{Wi:WF}{G:WG}{We:WE}{σ:St}{H:Hp}{R:VK}
end
section
variable{X:Cx}{elt target iter:Expr}{scope:Scope}{pos py spos:Pos}{caps own:List Str}{ix:List Nat}{Wi:WF}{G:WG}{We:WE}{i:Nat}{y:Str}
def zsr(hN:X.N.Nodup)(hc:X.calm=true)(S:CompScope X.env scope caps)(hi:VI X target iter Wi)(hg:∀pins s3 H ex,VG (blk X pins scope (caps++own) s3 H ex) target G)(he:∀pins s3 H ex,VE (blk X pins scope (caps++own) s3 H ex) elt We)(hiy:X.N[i]?=some y:=by rfl)(hy:X.env.scope.names.lookup y=some .local:=by rfl)(hsw:V8 (.ListComp elt [⟨target,iter,[],0⟩] scope pos) (some (.Name y py)) spos.line X.env=pure true:=by rfl)(hix:caps.length=ix.length:=by rfl)(hcapB:(caps.zip ix).all (λp=>X.N[p.2]?==some p.1)=true:=by rfl)(hs:∀x,Zn iter X.env x=pure x:=by intro _;rfl):
  VS X (.Assign [.Name y py] (.ListComp elt [⟨target,iter,[],0⟩] scope pos) spos) (zve i (wL (zju ix own.length Wi G We))) :=
  (zqa (wi:=zcm X.K Wi) (g:=qov X.K G) (te:=qdc X.K We) hN hiy hy hsw hc S hi hg he hix hcapB hs).imp λD σ H ⟨M,env,F,DD,I,h,k⟩=>qvg ⟨M,env,F,_,I,h,λa vs ds F1 H1 e1 I1 s1 h1 h2 h3 h4 h5 h6 h7=>by
   obtain⟨J,s⟩:=I1.frz h1 h2 h4 h5;exact k.nx _ _ H1 _ (J.setv (qdg (SqL.of qp) (h6.mono s))) (s1.trans s) h7⟩
end
section
variable{X:Cx}{tg:Expr}
end
def qiv(H:Hp)(a:Addr):Hp:=λb=>if b=a then none else H b
structure GoP(a:Addr)(F H F' H':Hp):Prop where
 f:Same F F'
 h:Same (qiv H a) H'
 fh:Same F' H'
 new:∀b o,F' b=some o->F b=some o\/H b=none
 fa:F' a=none
section
variable{X:Cx}
end
section
variable{P:Zk}{w:World}{K:Qa}{mg:Str->Option Value}{base:Heap}
end
section
variable{X:Cx}{elt target iter:Expr}{scope:Scope}{pos py spos:Pos}{caps own:List Str}{ix:List Nat}{Wi:WF}{G:WG}{We:WE}{i i0 j0:Nat}{y:Str}
end
def ObjOk.obj(x:ObjOk P w H h a o):∃u,h.get? a=some u:=by
 cases o with
 |lst xs=>obtain⟨_,_,_,_,e⟩:=x;exact⟨_,e⟩
 |tup xs=>obtain⟨_,_,_,ob,e,_⟩:=x;exact⟨_,e⟩
 |dK kvs=>obtain⟨_,_,_,_,o,_,_,e,_⟩:=x;exact⟨_,e⟩
 |dT kvs=>obtain⟨_,_,_,_,o,_,_,e,_⟩:=x;exact⟨_,e⟩
 |set S n=>obtain⟨o,_,_,_,e,_⟩:=x;exact⟨_,e⟩
 |ins C dx fs=>obtain⟨_,_,_,e,_⟩:=x;exact⟨_,e⟩
 |own y=>exact x
 |xd fs=>obtain⟨_,⟨_,_,_,e,_⟩,_⟩:=x;exact⟨_,e⟩
 |rng lo hi=>obtain⟨_,_,_,e⟩:=x;exact⟨_,e⟩
 |frz ob u=>obtain⟨e,_⟩:=x;exact⟨_,e⟩
 |tbl ps=>exact⟨_,(show h.get? a=some _ from x)⟩
 |met f y=>exact⟨_,(show h.get? a=some _ from x)⟩
 |ext φ=>obtain⟨_,e,_⟩:=x;exact e
def CX1(P:Zk)(w:World):CXT:=λouter H s E e s' =>∃(ea C:Addr)(a0:Value)(B:Heap)(H':Hp),e = .ref ea/\Heap.FlyingW B outer ea (.ref C) a0 s'.heap/\s'.os=s.os/\Qea s'.gens /\
 Un (frs outer) [] H H' s.heap s'.heap/\HOk P w H' s'.heap/\(∀b u,H' b=some u ->∃o,B.get? b=some o)/\(∀b o,s.heap.get? b=some o->b∉frs outer ->∃o',B.get? b=some o')/\E (.ref C) none H'
section
variable{X:Cx}{pins:List (Addr×Obj)}{σ:St}{H:Hp}{s:Ql}
def xcg(I:Inv X pins σ H s)(hex:X.ex=[])(hst:X.stack=X.env::X.outer)(hfr:X.env.frame=some X.env.locals)(kB:∀b o,s.heap.get? b=some o->b∉frs X.stack->((∃o',X.s₀.heap.get? b=some o') \/ ∃u,H b=some u)->h''.get? b=some o)(sl:∀b o,s.heap.get? b=some o->(∀vs,o.data≠.fields vs) ->∃sl,h''.get? b=some { o with slots:=sl }):Un X.fs [] X.H₀ H X.s₀.heap h''/\HOk X.prog X.w H h'':=by
  have fsOf:∀b,b∈frs X.stack->b=X.env.locals\/b∈X.fs:=λb hb=>by
   rcases Q2.mp (I.stkSub b hb)with z|z
   ·exact .inl z
   ·exact .inr z
  have old:∀b o,X.s₀.heap.get? b=some o->b∉X.fs->b∉frs X.stack:=λb o q n hb=>by
   rcases fsOf b hb with z|z
   ·exact absurd (Qm q) (Y6.mpr (z▸I.ok.above))
   ·exact n z
  have nx:∀b,b∉X.ex:=λb=>by rw[hex];simp
  have frame:∀b∈X.fs,∃o,s.heap.get? b=some o /\ ∀vs,o.data≠.fields vs:=λb hb=>by
   have hb':b∈frs X.stack:=by
    rw[hst];unfold frs;rw[Y1,hfr];exact Qt _ hb
   obtain⟨_,o,ho,hd⟩:=I.stack.mem hb';exact⟨o,ho,hd⟩
  refine⟨⟨λb o q n hb _=>kB b o (I.base.keep b o q n hb (nx b)) (old b o q hb) (.inl ⟨o,q⟩),λb o q n hb _=>?_,λb o q n _=>I.base.free b o q n (nx b),λb o q _=>?_,I.base.tups,I.base.frzs,I.base.tbls⟩,λa u e=>?_⟩
  ·obtain⟨s1,h1⟩:=I.base.slot b o q n hb (nx b);obtain⟨o',ho',hd⟩:=frame b hb;rw[h1]at ho';cases ho';obtain⟨s2,h2⟩:=sl b _ h1 hd;exact⟨s2,h2⟩
  ·obtain⟨o',h1⟩:=I.base.there b o q (nx b);by_cases hb:b∈X.fs
   ·obtain⟨o2,ho2,hd⟩:=frame b hb;obtain⟨s2,h2⟩:=sl b _ ho2 hd;exact⟨_,h2⟩
   ·exact⟨o',kB b o' h1 (old b o q hb) (.inl ⟨o,q⟩)⟩
  ·have nf:∀b v,H b=some v->b∉frs X.stack:=λb v eb hb=>by rw[I.stkFree b hb]at eb;cases eb
   refine(I.hok a u e).stay (λc ob hc z=>?_) (λc z=>z) (λc xs z=>z);rcases hc with hc|hc
   ·subst hc;exact kB _ _ z (nf _ _ e) (.inr ⟨_,e⟩)
   ·exact kB _ _ z (nf _ _ hc) (.inr ⟨_,hc⟩)
end
def qlg(X:Cx)(E:XK):Prop :=∀(pins:List (Addr×Obj))(σ:St)(H:Hp)(s:Ql)(h':Heap)(e C:Addr)(args:List Value),Inv X pins σ H s->Heap.MadeExcOf s.heap h' e (.ref C) args->E (.ref C) none H->X.xe (.ref e) { s with heap:=h' }
section
variable{P:Zk}{w:World}{K:Qa}{mg:Str->Option Value}{base:Heap}{N:List Str}{qual:Str}{scope:Scope}{f:Addr}{cd:Value}{A:Z1}{outer:List Env}{s:Ql}{H:Hp}{E:XK}
def qic:qlg (qbv (CX1 P w) P w K mg base N qual scope f cd A outer s H E) E:=by
 intro pins σ H1 s1 h' e C args I hx q;have hin:∀env∈(qbv (CX1 P w) P w K mg base N qual scope f cd A outer s H E).stack,∀b,env.frame=some b->b∈frs (qbv (CX1 P w) P w K mg base N qual scope f cd A outer s H E).stack:=λenv he b hb=>Qbq.mpr ⟨env,he,hb⟩;refine wpAny_leaves_madeW (base:=Js s1.heap (frs (qbv (CX1 P w) P w K mg base N qual scope f cd A outer s H E).stack)) (h:=s1.heap) (s:={ s1 with heap:=h' }) I.ok.frames rfl (λb o z=>Qaf _ z) (PySem.W.funFrames_hide I.stack hin) hx λh'' t x1 x2 x3 x4=>?_;have kB:∀b o,s1.heap.get? b=some o->b∉frs (qbv (CX1 P w) P w K mg base N qual scope f cd A outer s H E).stack->h''.get? b=some o:=λb o z n=>x1.1 b o (Jy _ z n);obtain⟨u,ok⟩:=xcg I rfl rfl rfl (λb o z n _=>kB b o z n) (λb o z d=>x4 b o (hx.keeps b o z) d);have nf:∀b v,H1 b=some v->b∉frs (qbv (CX1 P w) P w K mg base N qual scope f cd A outer s H E).stack:=λb v eb hb=>by rw[I.stkFree b hb]at eb;cases eb
 refine⟨e,C,.ref t,_,H1,rfl,x1,I.os,I.bare,u,ok,λb v eb=>?_,λb o z n=>?_,q⟩
 ·obtain⟨o,ho⟩:=(I.hok b v eb).obj;exact⟨o,Jy _ ho (nf b v eb)⟩
 ·obtain⟨o',ho'⟩:=I.base.there b o z (by simp[qbv]);refine⟨o',Jy _ ho' λhb=>?_⟩;rcases Q2.mp (I.stkSub b hb)with y|y
  ·exact absurd (Qm z) (Y6.mpr (y▸I.ok.above))
  ·exact n y
def qig:qtm (CX1 P w) (qbv (CX1 P w) P w K mg base N qual scope f cd A outer s H E) E:=by
 intro pins σ H1 s1 e s' I hx;obtain⟨ea,C,a0,B,H',rfl,fl,os,bare,u,ok,tB,pB,q⟩:=hx;have I':Inv (qbv (CX1 P w) P w K mg base N qual scope f cd A outer s H E) pins σ H' s':=I.call' os u ok bare λb hb=>nomatch hb
 refine wpAny_leaves_onW I.ok.frames rfl fl λh'' x1 x4=>?_;have old:∀b o,s.heap.get? b=some o->b∉frs outer ->∃o',B.get? b=some o':=λb o z n=>by
  obtain⟨o',ho'⟩:=I.base.there b o z (by simp[qbv]);refine pB b o' ho' λhb=>?_;rcases Q2.mp (I.stkSub b hb)with y|y
  ·exact absurd (Qm z) (Y6.mpr (y▸I.ok.above))
  ·exact n y
 have kB:∀b o,s'.heap.get? b=some o->b∉frs (qbv (CX1 P w) P w K mg base N qual scope f cd A outer s H E).stack->((∃o',s.heap.get? b=some o') \/ ∃v,H' b=some v)->h''.get? b=some o:=λb o z n t=>by
  obtain⟨o',ho'⟩:∃o',B.get? b=some o':=by
   rcases t with⟨o',t⟩|⟨v,t⟩
   ·exact old b o' t λhb=>n (Qt _ hb)
   ·exact tB b v t
  have:=fl.1 b o' ho';rw[z]at this;cases this;exact x1.1 b _ ho'
 obtain⟨u',ok'⟩:=xcg I' rfl rfl rfl kB (λb o z d=>x4 b o z d);exact⟨ea,C,a0,B,H',rfl,x1,I'.os,I'.bare,u',ok',tB,old,q⟩
end
def zpf(K:Qa)(C:Addr):List Value:=match K.lookup C with
 |some ⟨_,_,.cls cd,_⟩=>cd.mro
 |_=>[]
def qjb{K:Qa}(X:K.In h)(q:Yj K C bmB newId=true):
 ∃bm N nm qn bs hd sn sub ab col dd k0 k1 k2 k3 k5 mN,h.get? C=some (Qbj nm qn C N bs bm hd sn sub ab col dd k0 k1 k2 k3 k5 newId)/\h.Ns N mN/\mN "__init__" = none/\Qkw h bmB bm/\zpf K C = .ref C::bm:=by
  unfold Yj at q;split at q
  case h_2=>cases q
  rename_i dd c sl ho;split at q
  case h_2=>cases q
  rename_i C' bm k0 k1 k2 k3 n k5 hm hs;simp only[Qy,beq_iff_eq,Qcn]at q;obtain⟨⟨⟨⟨⟨e1,e2⟩,hdel⟩,ht⟩,hok⟩,hni⟩:=q;have hC:=X _ _ ho;have hs':sl = #[k0,k1,k2,k3,some (.builtin n),k5]:=Array.ext' hs;cases c;dsimp only at hm hdel hok hni;subst e1 e2 hm hdel hs';exact⟨bm,_,_,_,_,_,_,_,_,_,dd,k0,k1,k2,k3,k5,_,hC,.of_isNs (PySem.W.isNs_of_in X hok),PySem.W.nsMap_none_of_in X hok hni,PySem.W.tail_of_in X ht,by unfold zpf;rw[ho]⟩
abbrev qko:List Value:=[.type "ValueError",.type "Exception",.type "BaseException",.type "object"]
def zxq(C:Addr)(E:XK)(t:TA):TS:=λ_ σ H=>t σ H λvs H'=>vs.length<=Qo/\E (.ref C) none H'
section
variable{X:Cx}{x:Str}{C:Addr}{E:XK}{e:Expr}{es:List Expr}{t:TA}{np cpos pos:Pos}
def zmb(hT:qlg X E)(hc:X.calm=true)(hg:Gl X x)(hm:X.mg x=some (.ref C))(hq:Yj X.K C qko "ValueError.__new__" = true)(ha:PA X (e::es) t)(hdb:Nd0 x:=by decide)(he:Qi (e::es) X.env=(false,eval e X.env)::Qi es X.env:=by rfl)(hpl:(Z5 cpos (Qi es X.env)).any (·.1)=false:=by rfl):
  PS X (.Raise (some (.Call (.Name x np) (e::es) [] cpos)) none pos) (zxq C E t):=by
  intro pins s σ H D I h;obtain⟨bm,N,nm,qn,bs,hd,sn,sub,ab,col,dd,k0,k1,k2,k3,k5,mN,hC,hN,hni,T,_⟩:=qjb I.mod.kin hq;refine wpAny_Raise_call_subU (C:=C) (nm:=nm) (q:=qn) (N:=N) (bs:=bs) (bm:=bm) (hdct:=hd) (sn:=sn) (sub:=sub) (ab:=ab) (col:=col) (dd:=dd) (k0:=k0) (k1:=k1) (k2:=k2) (k3:=k3) (k5:=k5)
   Jh (by decide) Jh (mN:=mN) (T.hasType Jh.hasBase) (I.ok.hd hc) (by rw[he];show(false||(Z5 cpos (Qi es X.env)).any (·.1))=false;rw[hpl];rfl) hni
   (qdt I hg hm ⟨rfl,?_⟩ hdb)
  have h1:=ha cpos pins s σ H _ I h;rw[he]at h1 ⊢;refine Qdh (thn h1 λus s1 xx141=>?_);obtain⟨vs,H1,I1,r,q⟩:=xx141;exact⟨rfl,r.length▸q.1,I1.bk _ _ hC,hN.keeps I1.bk,T.keeps I1.bk,λh' ea hx=>hT pins σ H1 s1 h' ea C us I1 hx q.2⟩
end
section
variable{M:Model}{A:Z1}{E:Value->Ql->Prop}{C N C' N':Addr}{nm nm' q q':Str}{bs bm bs' bm':List Value}
def qpn{os:OsState}{hdct sn sub ab col dd k0 k1 k2 k3 k5 newId hdct' sn' sub' ab' col' dd' k0' k1' k2' k3' k5' newId'}(hC:h.get? C=some (Qbj nm q C N bs bm hdct sn sub ab col dd k0 k1 k2 k3 k5 newId))(hC':h.get? C'=some (Qbj nm' q' C' N' bs' bm' hdct' sn' sub' ab' col' dd' k0' k1' k2' k3' k5' newId'))(he:h.get? e=some oe)(hcls:oe.cls = .ref C)(hbase:bm'.contains (.type "BaseException")=true)(b:Bool)(hb:(Zo C::bm).contains (.ref C')=b)(hq:Q b ⟨h,g,d,t,os⟩):wpAny M A (excMatches (.ref e) (.ref C')) Q E ⟨h,g,d,t,os⟩:=by
  have hcB:(Zo C'::bm').contains (.type "BaseException")=true:=by rw[Qef,hbase,Bool.or_true]
  have f:=tc_notTuple;unfold excMatches
  repeat (first|(with_reducible refine Jb he ?_;rw[hcls])|with_reducible refine Jb hC' ?_|(with_reducible refine Qbk hC' ?_;rw[hcB])|(with_reducible refine Qbk hC ?_;rw[hb])|wp_step)
  cases b <;> (wp_walk;exact hq)
end
section
variable{X:Cx}{pins:List (Addr×Obj)}{σ:St}{H1 H2:Hp}{s1 s':Ql}{B h5:Heap}
def Inv.flown(I:Inv X pins σ H1 s1)(os:s'.os=s1.os)(bare:Qea s'.gens)(u:Un (frs X.stack) [] H1 H2 s1.heap s'.heap)(ok:HOk X.prog X.w H2 s'.heap)(tB:∀b v,H2 b=some v ->∃o,B.get? b=some o)(pB:∀b o,s1.heap.get? b=some o->b∉frs X.stack ->∃o',B.get? b=some o')(fl:B.StaysIn s'.heap)(st:B.StaysIn h5)(up:s'.heap.UpToSlots h5)(hst:∀b∈X.fs,b∈frs X.stack):
 Inv X pins σ H2 { s' with heap:=h5 }:=by
  obtain⟨hh,g',d',t',o'⟩:=s';have e:o'=s1.os:=os;subst e;have inB:∀b o,B.get? b=some o->hh.get? b=some o:=fl;have kB:∀b o,hh.get? b=some o->(∃o',B.get? b=some o')->h5.get? b=some o:=λb o z xx142=>by
   obtain⟨o',t⟩:=xx142;have:=inB b o' t;rw[z]at this;cases this;exact st b _ t
  have nofr:∀b,b∈frs X.stack ->∃o,s1.heap.get? b=some o /\ ∀vs,o.data≠.fields vs:=λb hb=>by
   obtain⟨_,o,ho,hd⟩:=I.stack.mem hb;exact⟨o,ho,hd⟩
  have sl:∀b o,b∈frs X.stack->s1.heap.get? b=some o->H1 b=none ->∃sl,h5.get? b=some { o with slots:=sl }:=λb o hb z n=>by
   obtain⟨o2,ho2,hd⟩:=nofr b hb;rw[z]at ho2;cases ho2;obtain⟨x1,y1⟩:=u.any z n (by simp);obtain⟨x2,y2⟩:=up b _ y1 hd;exact⟨x2,y2⟩
  show Inv X pins σ H2 { s1 with heap:=h5,gens:=g',drawn:=d',toks:=t' };refine Inv.step (s:=s1) (ch:=[]) I (λb z=>nomatch z) (λb o hL hb _ z n=>?_) (λb o hL hb _ z n=>sl b o (hst b hb) z n) (λb o _ z n=>u.free b o z n (by simp)) (λb o _ z=>?_) u.tups u.frzs u.tbls (λm hm=>?_) (λb v eb=>?_) bare
  ·have nf:b∉frs X.stack:=λhq=>(Q2.mp (I.stkSub b hq)).elim hL hb;exact kB b o (u.keep b o z n nf (by simp)) (pB b o z nf)
  ·by_cases hq:b∈frs X.stack
   ·obtain⟨x,y⟩:=sl b o hq z (I.stkFree b hq);exact⟨_,y⟩
   ·obtain⟨o',t⟩:=pB b o z hq;exact⟨o',st b o' t⟩
  ·obtain⟨o,es,ep,ho,r⟩:=hm;by_cases hq:X.env.locals∈frs X.stack
   ·obtain⟨x,y⟩:=sl _ o hq ho I.free;exact⟨_,es,ep,y,r⟩
   ·exact⟨o,es,ep,kB _ o (u.keep _ o ho I.free hq (by simp)) (pB _ o ho hq),r⟩
  ·refine(ok b v eb).stay (λc ob hc z=>?_) (λc z=>z) (λc xs z=>z);rcases hc with hc|hc
   ·subst hc;exact kB _ _ z (tB _ _ eb)
   ·exact kB _ _ z (tB _ _ hc)
end
section
variable{X:Cx}{pins:List (Addr×Obj)}{σ:St}{H:Hp}{s:Ql}
def Inv.caught(I:Inv X pins σ H s)(hn:H ea=none)(he:s.heap.get? ea=some oe)(hc:oe.cls = .ref C)(hd:oe.data = .fields ws)(hpn:∀p∈X.pn++pins,p.1≠ea)(h0:∀b o,X.s₀.heap.get? b=some o->b∉X.ex->b≠ea):Inv X pins σ (upd H ea (qnk C ea)) s:=by
  have up:∀b,b≠ea->upd H ea (qnk C ea) b=H b:=λb hb=>by unfold upd;rw[if_neg hb]
  have neT:∀b v,H b=some v->upd H ea (qnk C ea) b=some v:=λb v e=>by
   rw[up b λz=>by rw[z,hn]at e;cases e];exact e
  have nL:X.env.locals≠ea:=λz=>by
   obtain⟨m,⟨o,es,ep,ho,ho2,_⟩,_⟩:=I.loc;rw[z,he]at ho;cases ho;rw[hd]at ho2;cases ho2
  have nC:∀x c,X.env.cells.lookup x=some c->c≠ea:=λx c e z=>by
   obtain⟨v,o,ho,ho2⟩:=I.cell x c e;rw[z,he]at ho;cases ho;rw[hd]at ho2;cases ho2
  refine⟨I.ok,I.os,I.bare,⟨I.base.keep,I.base.slot,λb o e n hx=>?_,I.base.there,λb xs e=>neT _ _ (I.base.tups b xs e),λb o xs e=>neT _ _ (I.base.frzs b o xs e),λb ps e=>?_⟩,I.loc,I.cell,?_,λx c e=>?_,λp hp=>?_,λb v e=>?_,I.len⟩
  ·rw[up b (h0 b o e hx)];exact I.base.free b o e n hx
  ·obtain⟨more,q,gm⟩:=I.base.tbls b ps e;exact⟨more,neT _ _ q,gm.mono λb o u z=>neT _ _ z⟩
  ·rw[up _ nL];exact I.free
  ·rw[up _ (nC x c e)];exact I.freeC x c e
  ·obtain⟨a1,a2,a3⟩:=I.pin p hp;exact⟨a1,(up _ (hpn p hp)).trans a2,a3⟩
  ·by_cases z:b=ea
   ·subst z;have e':qnk C b=v:=by unfold upd at e;rw[if_pos rfl]at e;exact Za e
    subst e';exact⟨⟨oe,he,hc⟩,⟨oe,he⟩,λh1 h2 xx143 k=>by obtain⟨o,q1,q2⟩:=xx143;exact⟨o,k o q1,q2⟩⟩
   ·rw[up b z]at e;exact(I.hok b v e).stay (λc ob _ q=>q) (λc q=>neT _ _ q) (λc xs q=>neT _ _ q)
end
section
variable{X:Cx}{pins pins0:List (Addr×Obj)}{σ:St}{H:Hp}{s:Ql}
abbrev Cx.inX(X:Cx)(A':Z1)(xe':Value->Ql->Prop):Cx:={ X with A:=A',calm:=false,xe:=xe' }
abbrev Cx.inT(X:Cx)(pn':List (Addr×Obj))(xe':Value->Ql->Prop):Cx:={ X with pn:=pn',xe:=xe' }
def Inv.toX(I:Inv X pins σ H s)(hA:A'.frames=X.A.frames):Inv (X.inX A' xe') pins σ H s :=
 ⟨⟨I.ok.mod,I.ok.kind,I.ok.glob,I.ok.blt,I.ok.above,I.ok.inj,I.ok.has,I.ok.cab,(λz=>by cases z),hA.trans I.ok.frames,I.ok.stk,I.ok.exf,I.ok.bs,I.ok.bsz,I.ok.noex,I.ok.exfs,I.ok.funs,I.ok.frf⟩,
  I.os,I.bare,I.base,I.loc,I.cell,I.free,I.freeC,I.pin,I.hok,I.len⟩
def Inv.ofX(ok:X.Ok)(I:Inv (X.inX A' xe') pins σ H s):Inv X pins σ H s :=
 ⟨ok,I.os,I.bare,I.base,I.loc,I.cell,I.free,I.freeC,I.pin,I.hok,I.len⟩
def Inv.toT(I:Inv X pins0 σ H s):Inv (X.inT (X.pn++pins0) xe') [] σ H s :=
 ⟨⟨I.ok.mod,I.ok.kind,I.ok.glob,I.ok.blt,I.ok.above,I.ok.inj,I.ok.has,I.ok.cab,I.ok.hd,I.ok.frames,I.ok.stk,I.ok.exf,I.ok.bs,I.ok.bsz,I.ok.noex,I.ok.exfs,I.ok.funs,I.ok.frf⟩,
  I.os,I.bare,I.base,I.loc,I.cell,I.free,I.freeC,λp hp=>I.pin p (by simpa using hp),I.hok,I.len⟩
def Inv.ofT(ok:X.Ok)(I:Inv (X.inT (X.pn++pins0) xe') pins σ H s):Inv X pins0 σ H s :=
 ⟨ok,I.os,I.bare,I.base,I.loc,I.cell,I.free,I.freeC,λp hp=>I.pin p (Zx _ hp),I.hok,I.len⟩
def qps(I:Inv X pins σ H s)(hN:X.N.Nodup)(hi:X.N[i]?=some n)(hl:X.env.scope.names.lookup n=some .local)(h:∀s',Inv X pins (σ.set i none) H s'->Q () s'):wpAny M A (do bindName X.env n .none;unbindBehindTheSuite X.env n pos) Q E s:=by
  obtain⟨m,hn,hl'⟩:=id I.loc;have hcls:(X.env.scope.kind == .class||(X.env.scope.kind == .module&&X.env.locals != X.env.globals))=false:=by rw[I.ok.kind];rfl
  refine wpAny_nameGoes_keeps hl hn hcls λh' v hn' hs=>h _ ?_;have lt:∀b o,X.s₀.heap.get? b=some o->b≠X.env.locals:=λb o e=>Q3 (Zh (Qm e) I.ok.above);refine⟨I.ok,I.os,I.bare,⟨λb o e a c d=>(hs.2 b (lt b o e)).trans (I.base.keep b o e a c d),λb o e a c d=>?_,I.base.free,λb o e d=>?_,I.base.tups,I.base.frzs,I.base.tbls⟩,⟨_,hn',λj y v' e1 e2 e3=>?_⟩,λy c e=>?_,I.free,I.freeC,λp hp=>?_,λb ob e=>?_,by simpa using I.len⟩
  ·obtain⟨sl,e1⟩:=I.base.slot b o e a c d;exact⟨sl,(hs.2 b (lt b o e)).trans e1⟩
  ·obtain⟨o',e1⟩:=I.base.there b o e d;exact⟨o',(hs.2 b (lt b o e)).trans e1⟩
  ·have hj:j≠i:=λz=>by
    subst z;rw[Qfc]at e2;split at e2
    ·split at e2 <;> cases e2
    ·exact absurd rfl (by assumption)
   rw[Qdg (Y9 hj)]at e2;obtain⟨u',r',q⟩:=hl' j y v' e1 e2 e3;refine⟨u',r',?_⟩;rcases q with⟨k,e⟩|⟨k,c,e,z⟩
   ·have:y≠n:=λe=>hj (qsi hN e1 (e▸hi));exact .inl ⟨k,by simp[this,e]⟩
   ·exact .inr ⟨k,c,e,z.sameBut hs (I.cne y c e)⟩
  ·obtain⟨w',z⟩:=I.cell y c e;exact⟨w',z.sameBut hs (I.cne y c e)⟩
  ·obtain⟨e,n,ne,nf,d⟩:=I.pin p hp;exact⟨(hs.2 p.1 ne).trans e,n,ne,nf,d⟩
  ·refine(I.hok b ob e).stay (λc w' hc q=>(hs.2 c ?_).trans q) (λ_ q=>q) λ_ _ q=>q;rintro rfl;rcases hc with rfl|hc
   ·rw[I.free]at e;cases e
   ·rw[I.free]at hc;cases hc
end
def qay(X:Cx)(σ:St)(E:XK):Prop :=∀(pins:List (Addr×Obj))(H:Hp)(s:Ql)(e:Value)(s':Ql),Inv X pins σ H s->CX1 X.prog X.w X.stack H s E e s'->X.xe e s'
def qpv(K:Qa)(C C':Addr):Prop:=Yj K C qko "ValueError.__new__" = true/\(zpf K C).contains (.ref C')=true
def zeb(K:Qa)(C':Addr)(i:Nat)(ts:TS)(D:Ends):St->XK:=λσ c _ H =>∃C,c = .ref C/\qpv K C C' /\ ∀ea,H ea=none ->
 ts { nx:=λσ2 H3=>D.nx (σ2.set i none) H3,rt:=D.rt,bk:=λσ2 H3=>D.bk (σ2.set i none) H3,ct:=λσ2 H3=>D.ct (σ2.set i none) H3 } (σ.set i (some (.ref ea))) (upd H ea (qnk C ea))
def xed(K:Qa)(C':Addr)(i:Nat)(tb:(St->XK)->TS)(ts:TS):TS:=λD σ H=>tb (zeb K C' i ts D) D σ H
section
variable{X:Cx}{body suite:List Stmt}{b₀:Stmt}{x n:Str}{np hpos pos:Pos}{C':Addr}{i:Nat}{tb:(St->XK)->TS}{ts:TS}
def zwz(hst:X.stack=X.env::X.outer)(hfr:X.env.frame=some X.env.locals)(hN:X.N.Nodup)(hi:X.N[i]?=some n)(hl:X.env.scope.names.lookup n=some .local)(hg:Gl X x)(hm:X.mg x=some (.ref C'))(hq:Yj X.K C' qko "ValueError.__new__" = true)(hb:∀pn xe Ex,(∀σ,qay (X.inT pn xe) σ (Ex σ))->PSs (X.inT pn xe) body (tb Ex))(hs:∀A xe,PSs (X.inX A xe) (b₀::suite) ts)(hd:Nd0 x:=by decide):
  PS X (.Try body [.ExceptHandler (some (.Name x np)) (some n) (b₀::suite) hpos] [] [] pos) (xed X.K C' i tb ts):=by
  intro pins s σ H D I h;have ok:=I.ok;refine wpAny_Try_except (Zu (hb (X.pn++pins) (λe s' =>∃σ1 H1 s1,Inv X pins σ1 H1 s1/\CX1 X.prog X.w X.stack H1 s1 (zeb X.K C' i ts D σ1) e s') (zeb X.K C' i ts D) (λσ1 pins1 H1 s1 e s' I1 c=>⟨σ1,H1,s1,I1.ofT ok,c⟩) [] s σ H D I.toT h) (λf s1 q=>?_) λe s' q=>?_)
  ·cases f with
   |next=>obtain⟨σ',H',I',q⟩:=q;exact Qx ⟨σ',H',I'.ofT ok,q⟩
   |brk=>obtain⟨σ',H',I',q⟩:=q;exact⟨σ',H',I'.ofT ok,q⟩
   |cont=>obtain⟨σ',H',I',q⟩:=q;exact⟨σ',H',I'.ofT ok,q⟩
   |ret u=>obtain⟨v,σ',H',I',r,q⟩:=q;exact⟨v,σ',H',I'.ofT ok,r,q⟩
  obtain⟨σ1,H1,s1,I1,ea,C,a0,B,H2,rfl,fl,os,bare,u,okH,tB,pB,C2,e2,⟨q1,q2⟩,q3⟩:=q;cases e2;have sub:∀b∈X.fs,b∈frs X.stack:=λb hb=>by
   rw[hst];unfold frs;rw[Y1,hfr];exact Qt _ hb
  have hn2:H2 ea=none:=by
   rcases z:H2 ea with _|v
   ·rfl
   ·obtain⟨o,ho⟩:=tB _ _ z;rw[fl.2.1]at ho;cases ho
  refine wpAny_looks_onW (ok.frames.trans (by rw[hst])) hfr (hst▸fl) λh4 held4 up4=>?_;refine wpAny_landsW held4 λh5 fl5 up5=>?_;have I5:Inv X pins σ1 H2 { s' with heap:=h5 }:=I1.flown os bare u okH tB pB fl.1 fl5.1 (up4.trans up5) sub;obtain⟨ob,hob,hobc⟩:=fl5.there;obtain⟨bm,N,nm,qn,bs,hd1,sn,sb,ab,col,dd,k0,k1,k2,k3,k5,mN,hC,hNs,hni,T,hmr⟩:=qjb I5.kIn q1;obtain⟨bm',N',nm',qn',bs',hd1',sn',sb',ab',col',dd',k0',k1',k2',k3',k5',mN',hC',hNs',hni',T',hmr'⟩:=qjb I5.kIn hq;refine wpAny_handleBy_cons (codeAny_handlers_test (qdt (X:=X.inX (X.A.mark (some (.ref ea))) X.xe) (I5.toX rfl) hg hm ?_ hd)) (by intro q;cases q);refine qpn hC hC' hob hobc (T'.hasType Jh.hasBase) true (hmr▸q2) (codeAny_handlers_suite_as ?_);refine lands_againW fl5 λh6 fl6 up6=>?_;have I6:Inv X pins σ1 H2 { s' with heap:=h6 }:=I1.flown os bare u okH tB pB fl.1 fl6.1 ((up4.trans up5).trans up6) sub;obtain⟨oe,ws,hoe,hoec,hoed,hoe0⟩:=fl6.first;have zut:∀b o,B.get? b=some o->b≠ea:=λb o z y=>by rw[y,fl.2.1]at z;cases z
  have notF:∀b,b∈frs X.stack->b≠ea:=λb hb y=>by
   obtain⟨_,o,ho,hd⟩:=I6.stack.mem hb;rw[y,hoe]at ho;cases ho;exact hd _ hoed
  have not1:∀b o,s1.heap.get? b=some o->b≠ea:=λb o z=>by
   by_cases hb:b∈frs X.stack
   ·exact notF b hb
   ·obtain⟨o',t⟩:=pB b o z hb;exact zut b o' t
  have I7:Inv X pins σ1 (upd H2 ea (qnk C ea)) { s' with heap:=h6 }:=I6.caught hn2 hoe hoec hoed (λp hp=>not1 _ _ (I1.pin p hp).1) λb o z hx=>by
   obtain⟨o',ho'⟩:=I1.base.there b o z hx;exact not1 b o' ho'
  refine qhv (X:=X) I7 hN hi (.inl hl) (show RelV (.ref ea) (.ref ea) from rfl) (λs8 I8=>?_) (.inr hl);refine Zu (hs (X.A.mark (some (.ref ea))) _ pins s8 _ _ _ (I8.toX rfl) (q3 ea hn2)) (λf s9 q=>?_) λ_ _ z=>z;cases f with
  |next=>obtain⟨σ',H',I',q⟩:=q;exact qps (X:=X) (I'.ofX ok) hN hi hl λs' I''=>⟨_,H',I'',q⟩
  |brk=>obtain⟨σ',H',I',q⟩:=q;exact qps (X:=X) (I'.ofX ok) hN hi hl λs' I''=>⟨_,H',I'',q⟩
  |cont=>obtain⟨σ',H',I',q⟩:=q;exact qps (X:=X) (I'.ofX ok) hN hi hl λs' I''=>⟨_,H',I'',q⟩
  |ret u=>obtain⟨v,σ',H',I',r,q⟩:=q;exact qps (X:=X) (I'.ofX ok) hN hi hl λs' I''=>⟨v,_,H',I'',r,q⟩
end
section
variable{K:Qa}{M:Frm}{F H:Hp}{env:Sto}{σ:St}
def EnvOk.sets(I:EnvOk K M F H env σ)(m:s.mut=false)(h:SlotOk K M F H s v):EnvOk K M F H (env.set i s) (σ.set i v) where
 len:=by rw[Yk,Yk];exact I.len
 slot:=λj=>by
  rw[qbm,qpe,I.len];split
  ·exact h
  ·exact I.slot j
 dis:=λj k a hjk h1 h2 h3 h4=>by
  rw[qbm]at h1 h2;rw[qpe]at h3 h4;rw[I.len]at h1 h2;split at h1
  ·grind
  ·rename_i z1;split at h2
   ·grind
   ·rename_i z2;rw[if_neg z1]at h3;rw[if_neg z2]at h4;exact I.dis j k a hjk h1 h2 h3 h4
 f0:=I.f0
 fe:=I.fe
 fh:=I.fh
 bh:=I.bh
 new:=I.new
 dom:=I.dom
def EnvOk.caught(I:EnvOk K M F H env σ)(h:H ea=none):EnvOk K M (upd F ea (qnk C ea)) (upd H ea (qnk C ea)) (env.set i (.exc C)) (σ.set i (some (.ref ea)))/\Same F (upd F ea (qnk C ea)):=by
 have hf:F ea=none:=qL I.fh h;have g:Go F H (upd F ea (qnk C ea)) (upd H ea (qnk C ea)):=⟨qbi hf,qbi h,λb o e=>by
  by_cases z:b=ea
  ·subst z;rw[qp]at e ⊢;exact .of e
  ·rw[qo z]at e ⊢;exact I.fh b o e,λb o e=>by
  by_cases z:b=ea
  ·subst z;exact .inr h
  ·rw[qo z]at e;exact .inl e⟩
 exact⟨(I.go g).sets rfl ⟨ea,rfl,qp⟩,g.f⟩
end
abbrev WX:=Addr->Sto->Prop
def ExOk(K:Qa)(M:Frm)(F:Hp)(Wx:WX)(Ex:St->XK):Prop :=∀C env' F' H' σ',EnvOk K M F' H' env' σ'->Same F F'->Wx C env'->Ex σ' (.ref C) none H'
def ExOk.mono{K:Qa}(h:ExOk K M F Wx Ex)(s:Same F F'):ExOk K M F' Wx Ex:=λC e f g i j k=>h C e f g i j (s.trans k)
def qlb(K:Qa)(Ex:St->XK)(W:WX->WE):TE:=λσ H R =>∃M env F Wx Q,EnvOk K M F H env σ/\W Wx env Q/\ExOk K M F Wx Ex /\ ∀d v F' H' env',EnvOk K M F' H' env' σ->Same F F'->Is K F' d v->Q d env'->R v H'
def zdp(K:Qa)(Ex:St->XK)(W:WX->WS):TS:=λD σ H =>∃M env F Wx DD,EnvOk K M F H env σ/\W Wx DD env/\ExOk K M F Wx Ex/\EndsOk K M F DD D
def VEX(X:Cx)(Ex:St->XK)(e:Expr)(W:WX->WE):Prop:=PE X e (qlb X.K Ex W)
def VSX(X:Cx)(Ex:St->XK)(st:Stmt)(W:WX->WS):Prop:=PS X st (zdp X.K Ex W)
def qwl(X:Cx)(Ex:St->XK)(st:List Stmt)(W:WX->WS):Prop:=PSs X st (zdp X.K Ex W)
abbrev DE:=List Qh->(Qh->Prop)->(Addr->Prop)->Prop
def XSp(K:Qa)(sp:DE):Sp:=λvs H Q E =>∃F ds q e,Same F H/\Iss K F ds vs/\sp ds q e/\(∀d v F' H',Go F H F' H'->Is K F' d v->q d->Q v H') /\ ∀C F' H',Go F H F' H'->e C->E (.ref C) none H'
structure OkX(P:Zk)(w:World)(K:Qa)(mg:Str->Option Value)(base:Heap)(x:Str)(k:Nat)(ps:List Str)(sp:Sp):Prop where
 ex:∃(f:Addr)(fd:J5),FnOk P w K mg base (CX1 P w) k f fd ps sp/\mg x=some (.ref f)/\Z4 K (.ref f)=true/\Binds K fd ps []
structure OkXC(X:Cx)(x:Str)(k:Nat)(ps:List Str)(sp:Sp):Prop where
 ex:∃sp0,OkX X.prog X.w X.K X.mg X.base x k ps sp0 /\ ∀(pins:List (Addr×Obj))(σ:St)(H:Hp)(s:Ql)(vs:List V)(Q:VK)(E:XK),Inv X pins σ H s->sp vs H Q E->sp0 vs H Q E
def OkX.c(O:OkX X.prog X.w X.K X.mg X.base x k ps sp):OkXC X x k ps sp:=⟨sp,O,λ_ _ _ _ _ _ _ _ h=>h⟩
section
variable{X:Cx}{Ex:St->XK}{x:Str}{k:Nat}{ps:List Str}{sp:DE}{e c:Expr}{es:List Expr}{p pos:Pos}{Wr:WF}{st:Stmt}{rest A B:List Stmt}{Tc:WT}{W:WX->WE}{Wt Wu:WX->WS}{W0:WS}
def zfx{sp:Sp}(F:FnOk X.prog X.w X.K X.mg X.base (CX1 X.prog X.w) k f fd ps sp)(hr:Room k X.A)(hb:Binds X.K fd ps [])(hx:qay X σ E)(I:Inv X pins σ H s)(r:Vals vs us)(h:sp vs H Q E):wpAny (model X.prog X.w) X.A (call (.ref f) us) (EP X pins σ Q) X.xe s:=by
  have hl:us.length=ps.length:=by rw[<- r.length];exact F.len _ _ _ _ h
  have hl':(us++[]).length=ps.length:=by rw[Yc];exact hl
  have hb':=hb s us I.kIn hl';rw[Yc]at hb';refine Qjk (Qcy (F.run X.A X.stack s H ⟨us,[]⟩ us vs Q E hr I.env0 hb' r h) λr s' hq=>?_);cases r with
  |error e=>exact hx pins H s e s' I hq
  |ok fl =>
   cases fl with
   |ret u=>exact I.after hq
   |next=>exact Q7 hq
   |brk=>exact Q7 hq
   |cont=>exact Q7 hq
def zxn(sp:DE)(Wr:WF):WX->WE:=λWx env Q=>Wr env λds e=>sp ds (λd=>Q d e) λC=>Wx C e
def qT(hx:∀σ,qay X σ (Ex σ))(O:OkXC X x k ps (XSp X.K sp))(hr:Room k X.A)(ha:VA X (e::es) Wr)(hg:Gl X x:=by rfl)(hdb:Nd0 x:=by decide)(he:Qi (e::es) X.env=(false,eval e X.env)::Qi es X.env:=by rfl)(hpl:(Z5 pos (Qi es X.env)).any (·.1)=false:=by rfl):VEX X Ex (.Call (.Name x p) (e::es) [] pos) (zxn sp Wr):=by
 obtain⟨sp0,⟨f,fd,F,hm,hk,hb⟩,up⟩:=O.ex;rintro pins s σ H Q I ⟨M,env,F0,Wx,q,J,h,hex,kk⟩;refine V5 (qdt I hg hm ?_ hdb);refine Qbu (h₀:=X.base) I.ok.mod.kin hk (thn (ha pos pins s σ H (λvs H1=>XSp X.K sp vs H1 Q (Ex σ)) I ⟨M,env,F0,_,J,h,λds vs F1 H1 e1 I1 s1 i1 h1=>?_⟩) λus s1 ⟨vs,H1,I1,r,q⟩=>⟨I1.kIn,?_⟩) he hpl
 ·exact⟨F1,ds,_,_,I1.fh,i1,h1,λd v F2 H2 g i2 q=>kk d v F2 H2 e1 (I1.go g) (s1.trans g.f) i2 q,λC F2 H2 g q=>hex C e1 F2 H2 σ (I1.go g) (s1.trans g.f) q⟩
 ·exact zfx F hr hb (hx σ) I1 r (up _ _ _ _ _ _ _ I1 q)
def qex(h:VS X st W0):VSX X Ex st (λ_=>W0):=PS.imp h λD σ H xx145=>by obtain⟨M,env,F,Wx,DD,I,h,hx,k⟩:=xx145;exact⟨M,env,F,DD,I,h,k⟩
def qk(h:VSs X rest W0):qwl X Ex rest (λ_=>W0):=PSs.imp h λD σ H xx146=>by obtain⟨M,env,F,Wx,DD,I,h,hx,k⟩:=xx146;exact⟨M,env,F,DD,I,h,k⟩
def qfb(he:VEX X Ex e W)(hs:V8 e none pos.line X.env=pure false:=by rfl):VSX X Ex (.Expr e pos) (λWx=>xbk (W Wx)):=(qwm he hs).imp λD σ H xx147=>by
 obtain⟨M,env,F,Wx,DD,I,h,hx,k⟩:=xx147;exact⟨M,env,F,Wx,_,I,h,hx,λd v F1 H1 e1 I1 s1 i1 h1=>k.nx e1 F1 H1 σ I1 s1 h1⟩
def qaz(he:VEX X Ex e W):VSX X Ex (.Return (some e) pos) (λWx=>zta (W Wx)):=(qoz he).imp λD σ H xx148=>by
 obtain⟨M,env,F,Wx,DD,I,h,hx,k⟩:=xx148;exact⟨M,env,F,Wx,_,I,h,hx,λd v F1 H1 e1 I1 s1 i1 h1=>k.rt (.val d) v e1 F1 H1 σ I1 s1 i1 h1⟩
def qN(hc:VT X c Tc)(ha:qwl X Ex A Wt)(hb:qwl X Ex B Wu):VSX X Ex (.If c A B pos) (λWx=>wIf Tc (Wt Wx) (Wu Wx)):=(zpq hc ha hb).imp λD σ H xx149=>by
 obtain⟨M,env,F,Wx,DD,I,h,hx,k⟩:=xx149;refine⟨M,env,F,_,I,h,λx F1 H1 e1 I1 s1 h1=>?_⟩;cases x with
 |true=>exact qho ⟨M,e1,F1,Wx,DD,I1,h1,hx.mono s1,k.mono s1⟩
 |false=>exact qdl ⟨M,e1,F1,Wx,DD,I1,h1,hx.mono s1,k.mono s1⟩
def qiu{pos':Pos}(hN:X.N.Nodup)(he:VEX X Ex e W)(hi:X.N[i]?=some x:=by rfl)(hx:Loc X.env.scope x:=by first|exact Yi rfl|exact Zt rfl)(hs:V8 e (some (.Name x pos')) pos.line X.env=pure false:=by rfl)(hf:X.fn x=true\/X.env.scope.names.lookup x=some .local:=by first|exact .inl rfl|exact .inr rfl):VSX X Ex (.Assign [.Name x pos'] e pos) (λWx=>zve i (W Wx)):=(qin hN hi hx he hs hf).imp λD σ H xx150=>by
 obtain⟨M,env,F,Wx,DD,I,h,hx,k⟩:=xx150;exact⟨M,env,F,Wx,_,I,h,hx,λd v F1 H1 e1 I1 s1 i1 h1=>k.nx _ F1 H1 _ (I1.setv i1) s1 h1⟩
def qg(h1:VSX X Ex st Wt)(h2:qwl X Ex rest Wu):qwl X Ex (st::rest) (λWx=>zkg (Wt Wx) (Wu Wx)):=(qdv h1 h2).imp λD σ H xx151=>by
 obtain⟨M,env,F,Wx,DD,I,h,hx,k⟩:=xx151;exact⟨M,env,F,Wx,{ DD with nx:=Wu Wx DD },I,h,hx,λe' F' H' σ' I' s' h'=>⟨M,e',F',Wx,DD,I',h',hx.mono s',k.mono s'⟩,k.rt,k.bk,k.ct⟩
end
section
variable{X:Cx}{Ex:St->XK}{E:XK}{x y n:Str}{k i j:Nat}{ps:List Str}{sp:DE}{e:Expr}{es:List Expr}{p np cpos hpos pos pos':Pos}{Wr:WF}{st b₀:Stmt}{body suite:List Stmt}{C C':Addr}{Wb:WX->WS}{Ws:WS}
def zea(C:Addr)(Wr:WF):WX->WS:=λWx _ env=>Wr env λds e=>ds.length<=Qo/\Wx C e
def qG(hT:qlg X E)(hc:X.calm=true)(hm:X.mg x=some (.ref C))(hq:Yj X.K C qko "ValueError.__new__" = true)(ha:VA X (e::es) Wr)(hg:Gl X x:=by rfl)(hdb:Nd0 x:=by decide)(he:Qi (e::es) X.env=(false,eval e X.env)::Qi es X.env:=by rfl)(hpl:(Z5 cpos (Qi es X.env)).any (·.1)=false:=by rfl):
 VSX X (λ_=>E) (.Raise (some (.Call (.Name x np) (e::es) [] cpos)) none pos) (zea C Wr):=(zmb hT hc hg hm hq ha hdb he hpl).imp λD σ H xx152=>by
 obtain⟨M,env,F,Wx,DD,I,h,hx,k⟩:=xx152;exact⟨M,env,F,_,I,h,λds vs F1 H1 e1 I1 s1 i1 h1=>⟨by rw[i1.len];exact h1.1,hx C e1 F1 H1 σ I1 s1 h1.2⟩⟩
def ztu:qay X σ E0:=λ_ _ _ _ _ _ xx153=>by obtain⟨_,_,_,_,_,_,_,_,_,_,_,_,_,h⟩:=xx153;exact h.elim
def xdw(K:Qa)(C':Addr)(i:Nat)(Wb:WX->WS)(Ws:WS):WS:=λD env=>Wb (λC e=>qpv K C C' /\
 Ws { nx:=λe'=>D.nx (e'.set i .non),rt:=λr e'=>D.rt r (e'.set i .non),bk:=λe'=>D.bk (e'.set i .non),ct:=λe'=>D.ct (e'.set i .non) } (e.set i (.exc C))) D env
def zyf(hst:X.stack=X.env::X.outer)(hfr:X.env.frame=some X.env.locals)(hN:X.N.Nodup)(hm:X.mg x=some (.ref C'))(hq:Yj X.K C' qko "ValueError.__new__" = true)(hb:∀pn xe Ex,(∀σ,qay (X.inT pn xe) σ (Ex σ))->qwl (X.inT pn xe) Ex body Wb)(hs:∀A xe,VSs (X.inX A xe) (b₀::suite) Ws)(hi:X.N[i]?=some n:=by rfl)(hl:X.env.scope.names.lookup n=some .local:=by rfl)(hg:Gl X x:=by rfl)(hd:Nd0 x:=by decide):
  VS X (.Try body [.ExceptHandler (some (.Name x np)) (some n) (b₀::suite) hpos] [] [] pos) (xdw X.K C' i Wb Ws) :=
  PS.imp (zwz (tb:=λEx=>zdp X.K Ex Wb) (ts:=zpr X.K Ws) hst hfr hN hi hl hg hm hq hb hs hd) λD σ H xx155=>by
   obtain⟨M,env,F,DD,I,h,k⟩:=xx155;refine⟨M,env,F,_,DD,I,h,λC env' F' H' σ' I' s' ⟨u,hw⟩=>⟨C,rfl,u,λea hea=>?_⟩,k⟩;obtain⟨J,s2⟩:=I'.caught (i:=i) (C:=C) hea;have go:∀{env2 F2 H2 σ2},EnvOk X.K M F2 H2 env2 σ2->EnvOk X.K M F2 H2 (env2.set i .non) (σ2.set i none):=λI2=>I2.sets rfl trivial;exact⟨M,_,_,_,J,hw,λe3 F3 H3 σ3 I3 s3 q3=>k.nx _ F3 H3 _ (go I3) (s'.trans (s2.trans s3)) q3,λr v e3 F3 H3 σ3 I3 s3 r3 q3=>k.rt r v _ F3 H3 _ (go I3) (s'.trans (s2.trans s3)) r3 q3,
    λe3 F3 H3 σ3 I3 s3 q3=>k.bk _ F3 H3 _ (go I3) (s'.trans (s2.trans s3)) q3,λe3 F3 H3 σ3 I3 s3 q3=>k.ct _ F3 H3 _ (go I3) (s'.trans (s2.trans s3)) q3⟩
def zvj(i j:Nat):WS:=λD env=>match gS env j with |.exc C=>D.nx (env.set i (.exc C))|_=>False
def zsv(j:Nat)(hN:X.N.Nodup)(hj:X.N[j]?=some y:=by rfl)(hv:Vis X.env.scope y:=by first|exact Yi rfl|exact Zt (Yi rfl)|exact Zt (Zt rfl))(hi:X.N[i]?=some x:=by rfl)(hx:Loc X.env.scope x:=by first|exact Yi rfl|exact Zt rfl)(hd:Nd0 y:=by decide)(hcd:Nd1 y:=by decide)(hs:V8 (.Name y p) (some (.Name x pos')) pos.line X.env=pure false:=by rfl)(hf:X.fn x=true\/X.env.scope.names.lookup x=some .local:=by first|exact .inl rfl|exact .inr rfl):
 VS X (.Assign [.Name x pos'] (.Name y p) pos) (zvj i j):=PS.imp (qin hN hi hx (qbo hj hv hd hcd) hs hf) λD σ H xx156=>by
 obtain⟨M,env,F,DD,I,h,k⟩:=xx156;have S:=I.slot j;unfold zvj at h;cases q:gS env j with
 |exc C =>
  rw[q]at S h;obtain⟨ea,e,z⟩:=S;exact⟨_,qcf e,k.nx _ F H _ (I.sets (i:=i) (s :=.exc C) rfl ⟨ea,rfl,z⟩) (.refl _) h⟩
 |non=>rw[q]at h;exact h.elim
 | «at» v=>rw[q]at h;exact h.elim
 |dsk _ _ _ _ _ _=>rw[q]at h;exact h.elim
 |obj a0 C nm fs=>rw[q]at h;exact h.elim
 |val d=>rw[q]at h;exact h.elim
 |own ds=>rw[q]at h;exact h.elim
 |pen ds=>rw[q]at h;exact h.elim
 |new d=>rw[q]at h;exact h.elim
end
section
variable{P:Zk}{w:World}{K:Qa}{mg:Str->Option Value}{base:Heap}
def Def.vokX{st:Stmt}(F:Def K mg x st ps)(S:FnScope N ps (defScope st))(len:∀ds q e,sp ds q e->ds.length=ps.length)(hbody:∀(f:Addr)(cdv:Value)(A:Z1)(outer:List Env)(s:Ql)(H:Hp)(E:XK),Room k (A.deeper (Qbo x (defScope st) s.heap.objs.size f cdv)) ->
 (∀σ,qay (qbv (CX1 P w) P w K mg base N x (defScope st) f cdv A outer s H E) σ E)->qlg (qbv (CX1 P w) P w K mg base N x (defScope st) f cdv A outer s H E) E ->∀ds q e,sp ds q e ->
 ∃W,qwl (qbv (CX1 P w) P w K mg base N x (defScope st) f cdv A outer s H E) (λ_=>E) (defBody st) W/\W (λC _=>e C) { nx:=λ_=>q .none,rt:=λr _=>q r.data } (qal N ds)):OkX P w K mg base x (k+1) ps (XSp K sp):=by
  obtain⟨f,fd,Fn,hm,hb⟩:=F.ex;refine⟨f,fd,?_,hm,Fn.kp,hb⟩;obtain⟨oc,od,kV,doc,pm,an,cdv,ct,osl,rfl,lk,hcd⟩:=Fn.ex;refine qyh lk hcd S (λvs H Q E xx158=>by obtain⟨F,ds,q,e,_,i,h,_⟩:=xx158;rw[i.len];exact len ds q e h) λA outer s H vs Q E hr xx157=>?_;obtain⟨F,ds,q,e,sm,i,h,kk,kx⟩:=xx157;obtain⟨W,hW,hq⟩:=hbody f cdv A outer s H E hr (λσ pins H1 s1 e1 s' I c=>qig pins σ H1 s1 e1 s' I c) qic ds q e h;refine⟨_,hW,⟨H,H,F⟩,qal N ds,F,_,_,qbr sm i,hq,λC e1 F1 H1 σ1 I1 s1 q1=>kx C F1 H1 I1.goOf q1,⟨λe1 F1 H1 σ1 I1 s1 q1=>kk _ _ F1 H1 I1.goOf qei q1,λr v e1 F1 H1 σ1 I1 s1 r1 q1=>?_,λ_ _ _ _ _ _ h=>h.elim,λ_ _ _ _ _ _ h=>h.elim⟩⟩;obtain⟨F2,g,j⟩:=r1.is I1;exact kk _ _ F2 H1 g j q1
end
section
variable{prog:Zk}{w:World}{A:Z1}{E:Value->Ql->Prop}{h:Heap}{g:Array GenState}{d:Drawn}{t:Nat}{os:OsState}{a:Addr}{o:Obj}{K:Qa}{nm q:Str}{C N:Addr}{bs bm:List Value}{hdct:Bool}{sn:List Str}{sub:List Value}{ab:Bool}{col:Option Bool}{dd:Option Addr}{k0 k1 k2 k3 k5:Option Value}{newId:String}
def zxv(hC:h.get? C=some (Qbj nm q C N bs bm hdct sn sub ab col dd k0 k1 k2 k3 k5 newId))(T:Qkw h qko bm)(hx:h.get? a=some o)(hc:o.cls = .ref C)(hq:R (.ok (.ret (.ref C))) ⟨h,g,d,t,os⟩):
 Qca (model prog w) A (.call (.builtin "getset_descriptor.__get__") ⟨[.builtin "object.__class__",.ref a,.ref C],[]⟩) R ⟨h,g,d,t,os⟩:=by
  have hT5:(⟨h,g,d,t,os⟩:Ql).TypeIs (.builtin "object.__class__") "getset_descriptor" := Qcu;have hcB:(Zo C::bm).contains (.type (".".intercalate ("object.__class__".cutAt '.').dropLast))=true:=by
   rw[F.owner_object_class,Qef,T.hasType (X := "object") (b:=true) (by decide)];rfl
  refine Qhr Qig.plain F.entry_gs_get (Qig.check _ _ _ _ _ _ _ _ hT5 (F.args_gs_get _ _ _) ?_)
  repeat (any_goals (first|assumption|(with_reducible refine Jb hx ?_;rw[hc])|(with_reducible refine Qbk hC ?_;rw[hcB])|wp_step))
  refine⟨Code.quiet_builtin _ (by decide +kernel),Qgw F.entry_object_class ?_⟩
  repeat (any_goals (first|assumption|(with_reducible refine Jb hx ?_;rw[hc])|wp_step))
def zla(X:K.In h)(hf:Ye K (.ref C) "__class__" = some (some (.builtin "object.__class__")))(hC:h.get? C=some (Qbj nm q C N bs bm hdct sn sub ab col dd k0 k1 k2 k3 k5 newId))(T:Qkw h qko bm)(hx:h.get? a=some o)(hc:o.cls = .ref C)(hq:Q (.done (.ret (.ref C))) ⟨h,g,d,t,os⟩):
 wpAny (model prog w) A (Builtin.«object.__getattribute__» ⟨[.ref a,.str "__class__" tk],[]⟩) Q E ⟨h,g,d,t,os⟩:=by
  have hT5:(⟨h,g,d,t,os⟩:Ql).TypeIs (.builtin "object.__class__") "getset_descriptor" := Qcu;have f5:=Qcu;have f6:=Qig.lookup;have f7:=F.slot_gs_set.lookup;have L:=Qaz (M:=model prog w) X hf
  repeat (any_goals (first|assumption|(with_reducible refine Jb hx ?_;rw[hc])|with_reducible refine L.at ?_|wp_step))
  refine zxv hC T hx hc ?_
  repeat (any_goals (first|assumption|wp_step))
def zmm(hC:h.get? C=some (Qbj nm q C N bs bm hdct sn sub ab col dd k0 k1 k2 k3 k5 newId))(T:Qkw h qko bm)(hx:h.get? a=some o)(hc:o.cls = .ref C)(hq:Q () ⟨h,g,d,t,os⟩):wpAny M A (checkBuiltinCall "BaseException.__getattribute__" ⟨[.ref a,nameV],[]⟩) Q E ⟨h,g,d,t,os⟩:=by
  have hk:builtinKind "BaseException.__getattribute__" = some .slot:=by decide +kernel
  have hsplit:splitId "BaseException.__getattribute__" = some ("BaseException","__getattribute__"):=by decide +kernel
  have hcB:(Zo C::bm).contains (.type "BaseException")=true:=by rw[Qef,T.hasType (X := "BaseException") (b:=true) (by decide)];rfl
  have ha:=F.args_bexc_ga (.ref a) nameV;simp only[checkBuiltinCall,hk,hsplit];refine Qe ?_;unfold isInstance
  repeat (first|(with_reducible refine Jb hx ?_;rw[hc])|(with_reducible refine Qbk hC ?_;rw[hcB])|wp_step)
  exact hq
structure XCls(K:Qa)(C:Addr):Prop where
 exc:Yj K C qko "ValueError.__new__" = true
 ga:Ye K (.ref C) "__getattribute__" = some (some (.builtin "BaseException.__getattribute__"))
 na:Ye K (.ref C) "__getattr__" = some none
 cl:Ye K (.ref C) "__class__" = some (some (.builtin "object.__class__"))
def xad(X:K.In h)(Z:XCls K C)(hC:h.get? C=some (Qbj nm q C N bs bm hdct sn sub ab col dd k0 k1 k2 k3 k5 newId))(T:Qkw h qko bm)(hx:h.get? a=some o)(hc:o.cls = .ref C)(hq:Q (.ref C) ⟨h,g,d,t,os⟩):wpAny (model prog w) A (getAttrBy (.ref a) (.str "__class__" tk) false) Q E ⟨h,g,d,t,os⟩:=by
  have f3:=Qhm.ga.bind (.ref a);have hx2:(Qfq "BaseException.__getattribute__" == Qfq "object.__getattribute__")=false:=by decide +kernel
  have hx1:(onTheHeap (Zo C)&&Qfq "BaseException.__getattribute__" == Qfq "object.__getattribute__")=false:=by rw[hx2];rfl
  have L:=Qaz (M:=model prog w) X Z.ga;have L2:=Qaz (M:=model prog w) X Z.na
  repeat (any_goals (first|assumption|(with_reducible refine Jb hx ?_;rw[hc])|with_reducible refine L.at ?_|with_reducible refine L2.at ?_|wp_step))
  refine Qhr Qhm.ga.plain F.entry_bexc_ga (zmm hC T hx hc (zla X Z.cl hC T hx hc ?_))
  repeat (any_goals (first|assumption|wp_step))
def zqd(X:K.In h)(Z:XCls K C)(hC:h.get? C=some (Qbj nm q C N bs bm hdct sn sub ab col dd k0 k1 k2 k3 k5 newId))(T:Qkw h qko bm)(hx:h.get? a=some o)(hc:o.cls = .ref C)(hq:Q (some (.ref C)) ⟨h,g,d,t+1,os⟩):wpAny (model prog w) A (getAttr? (.ref a) "__class__") Q E ⟨h,g,d,t,os⟩:=by
  unfold getAttr? getAttrBy?
  repeat (any_goals (first|assumption|with_reducible apply xad X Z hC T hx hc|wp_step))
end
def qzu{K:Qa}(Z:XCls K C):Qlx K (.ref a) (.ref C) (λh =>∃o,h.get? a=some o/\o.cls = .ref C) where
 ty:=λM h X xx159=>by obtain⟨o,h1,h2⟩:=xx159;exact h2▸(Qmk h1).andThen .now
 it:=λM h X _=>by
  obtain⟨bm,N,nm,qn,bs,hd,sn,sub,ab,col,dd,k0,k1,k2,k3,k5,mN,hC,_⟩:=qjb X Z.exc;intro A' Q' E' s' k q;unfold isType loadHead;exact Qe (wpAny_loadPart (k _ _ hC) (Qx q))
 ne:=λh tp dd its n sl X htp=>by
  obtain⟨bm,N,nm,qn,bs,hd,sn,sub,ab,col,dd',k0,k1,k2,k3,k5,mN,hC,_⟩:=qjb X Z.exc;refine Bool.eq_false_iff.mpr λq=>?_;have e:C=tp:=Zo.inj (beq_iff_eq.mp q);subst e;have z:=Za (hC.symm.trans htp);have z2:=congrArg Obj.data z;exact Data.noConfusion z2
 ca:=λ{prog w A E Q s} X ⟨o,h1,h2⟩ k=>by
  obtain⟨bm,N,nm,qn,bs,hd,sn,sub,ab,col,dd',k0,k1,k2,k3,k5,mN,hC,hN,hni,T,_⟩:=qjb X Z.exc;obtain⟨hh,g,d,t,os⟩:=s;exact zqd X Z hC T h1 h2 k
def zgb:V->Option Value
 |.ty n=>some (.type n)
 |.ref a=>some (.ref a)
 |_=>none
def zax(r:RelV v u)(h:zgb v=some u'):u=u':=by
 cases v with
 |ty n=>cases h;exact r
 |ref a=>cases h;exact r
 |_=>cases h
def quz:∀{vs:List V}{us us':List Value},Vals vs us->vs.mapM zgb=some us'->us=us'
 |[],_,_,.nil,h=>by cases h;rfl
 |v::vs,_,us',.cons r t,h=>by
  rw[List.mapM_cons]at h;cases hv:zgb v with
  |none=>rw[hv]at h;cases h
  |some u0 =>
   cases hr:vs.mapM zgb with
   |none=>rw[hv,hr]at h;cases h
   |some us0 =>
    rw[hv,hr]at h;cases h;rw[zax r hv,quz t hr]
def xdt(K:Qa):List V->Hp->VK->Prop:=λxs H Q =>∃(C ea:Addr)(c:V)(u:Value)(b:Bool),xs=[.ref ea,c]/\H ea=some (qnk C ea)/\XCls K C/\zgb c=some u/\Qs K (.ref C) u=some b/\Q (.bl b) H
def xaq(K:Qa):List V->Hp->VK->Prop:=λxs H Q =>∃(C ea tp:Addr)(cs:List V)(us:List Value)(b:Bool),xs=[.ref ea,.ref tp]/\H ea=some (qnk C ea)/\XCls K C/\H tp=some (.tup cs)/\cs.mapM zgb=some us/\Vw K (.ref C) us=some b/\Q (.bl b) H
section
variable{X:Cx}
def zmw:CallR X (.builtin "isinstance") (xdt X.K):=by
 intro pins s σ H xs us Q I r h;obtain⟨C,ea,c,u,b,rfl,ha,Z,hc,e,q⟩:=h;obtain⟨u1,u2,rfl,rx,rc⟩:=zjs r;cases rx;rw[zax rc hc];obtain⟨p,_,_⟩:=(show ObjOk X.prog X.w H s.heap ea (qnk C ea) from I.hok ea _ ha)
 exact V0 (qzu Z) I.kIn p e (λz=>nomatch z) λtk=>⟨.bl b,H,I.tok tk,rfl,q⟩
def zhr:CallR X (.builtin "isinstance") (xaq X.K):=by
 intro pins s σ H xs us Q I r h;obtain⟨C,ea,tp,cs,us',b,rfl,ha,Z,ht,hc,e,q⟩:=h;obtain⟨u1,u2,rfl,rx,rc⟩:=zjs r;cases rx;cases rc;obtain⟨p,_,_⟩:=(show ObjOk X.prog X.w H s.heap ea (qnk C ea) from I.hok ea _ ha)
 obtain⟨its,rv,pl,_⟩:=I.tuple (SqT.of ht);obtain⟨⟨cls,dd,data,sl⟩,ho,hcl,n,hdt⟩:=pl;simp only at hcl hdt;subst hcl hdt;rw[quz rv hc]at ho;exact Qko (qzu Z) I.kIn p ho e (λz=>nomatch z) λtk=>⟨.bl b,H,I.tok tk,rfl,q⟩
def tVs(vs:List V):TA:=λ_ H Q=>Q vs H
def xbi:PA X [] (tVs []):=qar
def zvt(he:PE X e (tC v))(hs:PA X es (tVs vs))(hst:Qi (e::es) X.env=(false,eval e X.env)::Qi es X.env:=by rfl):PA X (e::es) (tVs (v::vs)):=qF he hs hst
def xcu(K:Qa)(j:Nat)(u:Value):WE:=λenv Q=>match gS env j with |.exc C=>XCls K C /\ ∃b,Qs K (.ref C) u=some b/\Q (.bool b) env|_=>False
def zvi(K:Qa)(j:Nat)(us:List Value):WE:=λenv Q=>match gS env j with |.exc C=>XCls K C /\ ∃b,Vw K (.ref C) us=some b/\Q (.bool b) env|_=>False
section
variable{y:Str}{c:Expr}{cs:List Expr}{v:V}{vs:List V}{u:Value}{us:List Value}{p py pt pos:Pos}{x1:Nat}
def qlc(j:Nat)(hm:X.mg "isinstance" = none)(hc:PE X c (tC v))(hu:zgb v=some u)(hj:X.N[j]?=some y:=by rfl)(hv:Vis X.env.scope y:=by first|exact Yi rfl|exact Zt (Yi rfl)|exact Zt (Zt rfl))(hg:Gl X "isinstance":=by rfl)(hd:Nd0 y:=by decide)(hcd:Nd1 y:=by decide)(hs:Qi [.Name y py,c] X.env=(false,eval (.Name y py) X.env)::Qi [c] X.env:=by rfl)(hs2:Qi [c] X.env=(false,eval c X.env)::Qi [] X.env:=by rfl)(hpl:(Z5 pos (Qi [c] X.env)).any (·.1)=false:=by rfl):
 VE X (.Call (.Name "isinstance" p) [.Name y py,c] [] pos) (xcu X.K j u) :=
 (qfd zmw hg hm qbx (qF (qbo hj hv hd hcd) (qF hc qar hs2) hs) (by decide) (by decide) hs hpl).imp λσ H R xx160=>by
  obtain⟨M,env,F,Q,I,h,k⟩:=xx160;have S:=I.slot j;unfold xcu at h;cases q:gS env j with
  |exc C =>
   rw[q]at S h;obtain⟨ea,e,z⟩:=S;obtain⟨Z,b,hb,h⟩:=h;exact⟨_,qcf e,C,ea,v,u,b,rfl,I.fh.at z,Z,hu,hb,k _ _ F H env I (.refl _) (qci _) h⟩
  |non=>rw[q]at h;exact h.elim
  |obj a0 C nm fs=>rw[q]at h;exact h.elim
  | «at» v=>rw[q]at h;exact h.elim
  |dsk _ _ _ _ _ _=>rw[q]at h;exact h.elim
  |val d=>rw[q]at h;exact h.elim
  |own ds=>rw[q]at h;exact h.elim
  |pen ds=>rw[q]at h;exact h.elim
  |new d=>rw[q]at h;exact h.elim
def zsk(j:Nat)(hm:X.mg "isinstance" = none)(hc:PA X cs (tVs vs))(hu:vs.mapM zgb=some us)(hl:vs.length<=Qo)(hj:X.N[j]?=some y:=by rfl)(hv:Vis X.env.scope y:=by first|exact Yi rfl|exact Zt (Yi rfl)|exact Zt (Zt rfl))(hg:Gl X "isinstance":=by rfl)(hd:Nd0 y:=by decide)(hcd:Nd1 y:=by decide)(hs:Qi [.Name y py,.Tuple cs x1 pt] X.env=(false,eval (.Name y py) X.env)::Qi [.Tuple cs x1 pt] X.env:=by rfl)(hs2:Qi [.Tuple cs x1 pt] X.env=(false,eval (.Tuple cs x1 pt) X.env)::Qi [] X.env:=by rfl)(hpl:(Z5 pos (Qi [.Tuple cs x1 pt] X.env)).any (·.1)=false:=by rfl):
 VE X (.Call (.Name "isinstance" p) [.Name y py,.Tuple cs x1 pt] [] pos) (zvi X.K j us) :=
 (qfd zhr hg hm qbx (qF (qbo hj hv hd hcd) (qF (zdt hc) qar hs2) hs) (by decide) (by decide) hs hpl).imp λσ H R xx161=>by
  obtain⟨M,env,F,Q,I,h,k⟩:=xx161;have S:=I.slot j;unfold zvi at h;cases q:gS env j with
  |exc C =>
   rw[q]at S h;obtain⟨ea,e,z⟩:=S;obtain⟨Z,b,hb,h⟩:=h;exact⟨_,qcf e,hl,λtp hp=>⟨C,ea,tp,vs,us,b,rfl,(qbi hp).at (I.fh.at z),Z,qp,hu,hb,k _ _ F _ env (I.go (.side I.fh hp)) (.refl _) (qci _) h⟩⟩
  |non=>rw[q]at h;exact h.elim
  |obj a0 C nm fs=>rw[q]at h;exact h.elim
  | «at» v=>rw[q]at h;exact h.elim
  |dsk _ _ _ _ _ _=>rw[q]at h;exact h.elim
  |val d=>rw[q]at h;exact h.elim
  |own ds=>rw[q]at h;exact h.elim
  |pen ds=>rw[q]at h;exact h.elim
  |new d=>rw[q]at h;exact h.elim
end
end
section
variable{prog:Zk}{w:World}{A:Z1}{E:Value->Ql->Prop}{s:Ql}
def SqIt(b:Bool)(h:Heap)(j l:Addr)(i:Nat):Prop:=match b with
 |true=>h.IsTupleIter j l i
 |false=>h.IsListIter j l i
def SqOf(b:Bool)(h:Heap)(l:Addr)(us:Array Value):Prop:=match b with
 |true=>h.IsTuple l us
 |false=>h.IsList l us
def xfi:Bool->String
 |true => "tuple_iterator"
 |false => "list_iterator"
abbrev itO(b:Bool)(l:Addr):Obj:={ cls :=.type (xfi b),data :=.fields #[.ref l,.int 0 0] }
def SqIt.at'(x:SqIt b h j l i)(e:∀o,h.get? j=some o->h'.get? j=some o):SqIt b h' j l i:=by
 cases b with
 |true=>exact Heap.IsTupleIter.at x e
 |false=>exact Heap.IsListIter.at x e
def SqIt.but(x:SqIt b h j l i)(e:Y4 c h h')(n:j≠c):SqIt b h' j l i:=x.at' λo q=>e.extBut j o n q
def SqIt.obj(x:SqIt b h j l i):∃o,h.get? j=some o /\ ∀v,o.data≠.cell v:=by
 cases b with
 |true=>obtain⟨o,q,_,d⟩:=x;grind
 |false=>obtain⟨o,q,_,d⟩:=x;grind
def SqOf.at'(x:SqOf b h l us)(e:∀o,h.get? l=some o->h'.get? l=some o):SqOf b h' l us:=by
 cases b with
 |true=>obtain⟨o,q,r⟩:=x;exact⟨o,e o q,r⟩
 |false=>exact Heap.IsList.at x e
def SqOf.but(x:SqOf b h l us)(e:Y4 c h h')(n:l≠c):SqOf b h' l us:=x.at' λo q=>e.extBut l o n q
def SqOf.lt(x:SqOf b h l us):l<h.objs.size:=by
 cases b with
 |true=>obtain⟨o,q,_⟩:=x;exact Qm q
 |false=>obtain⟨o,q,_⟩:=x;exact Qm q
def zlr(hj:s.heap.IsTupleIter j t k)(ht:s.heap.IsTuple t us)(hu:us[k]?=some u)(q:∀h',h'.IsTupleIter j t (k+1)->Y4 j s.heap h'->Q u { s with heap:=h' }):wpAny (model prog w) A (Zp (.ref j)) Q E s:=by
  obtain⟨ob,e1,e2,e3⟩:=id hj;obtain⟨ot,f1,_,nt,f3⟩:=ht;unfold Zp;refine Qe (Vf (name:=Qc "__next__") hj.typeIs Ji (Vl Ji hj.typeIs Qdv ?_ (Qdl _)));show wpAny _ _ (field (.ref j) 0 >>= _) _ _ s;refine Qe (Y3 e1 e3 (x :=.ref t) rfl ?_);show wpAny _ _ (if(Zo t==Yn)=true then _ else _) _ _ s;rw[if_neg (λz:(Zo t==Yn)=true=>Zb z)];show wpAny _ _ (field (.ref j) 1 >>= _) _ _ s;refine Qe (Y3 e1 e3 (x :=.int k 0) rfl ?_);show wpAny _ _ (seqItems? (.ref t) >>= _) _ _ s;refine Qe (Jp f1 f3 ?_);simp only[Qfd,hu];refine Qe (Qct e1 e3 (by simp) (Qx ⟨u,rfl,Qx (q _ ?_ (Vq ..))⟩));exact⟨_,Vz _ e1 (Qaj (V3 e3 _)),(Qiz ..).trans e2,by rw[V3 e3];simp[Qay]⟩
def zri(hh:A.handled=none)(hj:s.heap.IsTupleIter j t k)(ht:s.heap.IsTuple t us)(hu:us[k]?=none)(q:∀h' e,Qkp j s.heap h'->(∃o,h'.get? e=some o/\o.cls = .type "StopIteration")->E (.ref e) { s with heap:=h' }):wpAny (model prog w) A (Zp (.ref j)) Q E s:=by
  obtain⟨ob,e1,e2,e3⟩:=id hj;obtain⟨ot,f1,_,nt,f3⟩:=ht;unfold Zp;refine Qe (Vf (name:=Qc "__next__") hj.typeIs Ji (Vl Ji hj.typeIs Qdv ?_ (Qdl _)));show wpAny _ _ (field (.ref j) 0 >>= _) _ _ s;refine Qe (Y3 e1 e3 (x :=.ref t) rfl ?_);show wpAny _ _ (if(Zo t==Yn)=true then _ else _) _ _ s;rw[if_neg (λz:(Zo t==Yn)=true=>Zb z)];show wpAny _ _ (field (.ref j) 1 >>= _) _ _ s;refine Qe (Y3 e1 e3 (x :=.int k 0) rfl ?_);show wpAny _ _ (seqItems? (.ref t) >>= _) _ _ s;refine Qe (Jp f1 f3 ?_);simp only[Qfd,hu];refine Qe (Qfm (Qe (Qct e1 e3 (by simp) ?_)));show wpAny _ _ (newExc (.type "StopIteration") [] >>= _) _ _ _;refine Qe (?_:wpAny _ _ (newExc (.type "StopIteration") []) _ _ _);simp only[newExc,newTuple];refine Qe (Qaw (?_:_) (by size_fits));refine Qe (m:=firstArgMember _ _) (wpAny_of_eq (a:=Yn) (by first|rfl|grind|skip) ?_);refine Qaw (?_:_) (by size_fits);simp only[raiseNew];refine Qe (wpAny_handled (?_:_))
  first|rw[hh]|grind
  refine Qe (Qx (Qld (?_:_)));exact q _ _ (((Vq ..).extBut.push _).push _) ⟨_,Qq _ rfl,rfl⟩
def qse(hj:SqIt b s.heap j l k)(hl:SqOf b s.heap l us)(hu:us[k]?=some u)(q:∀h',SqIt b h' j l (k+1)->Y4 j s.heap h'->Q u { s with heap:=h' }):wpAny (model prog w) A (Zp (.ref j)) Q E s:=by
  cases b with
  |true=>exact zlr hj hl hu q
  |false=>exact wpAny_nextOf_list_item hj hl hu q
def zgn(hh:A.handled=none)(hj:SqIt b s.heap j l k)(hl:SqOf b s.heap l us)(hu:us[k]?=none)(q:∀h' e,Qkp j s.heap h'->(∃o,h'.get? e=some o/\o.cls = .type "StopIteration")->E (.ref e) { s with heap:=h' }):wpAny (model prog w) A (Zp (.ref j)) Q E s:=by
  cases b with
  |true=>exact zri hh hj hl hu q
  |false=>exact wpAny_nextOf_list_end hh hj hl hu q
def zem(hl:SqOf b s.heap l us)(q:Q (.ref s.heap.objs.size) { s with heap:=s.heap.push (itO b l) }):wpAny (model prog w) A (pyIter (.ref l)) Q E s:=by
 cases b with
 |true=>exact Qem hl q
 |false=>exact Qax hl q
def zls{z TI TO j1 j2 l1 l2:Addr}{Q:Value->Ql->Prop}(D:Qkh z TI TO j1 j2 l1 l2)(a0:IsZip s.heap z TI TO .none)(a1:Qbc s.heap TI (.ref j1) (.ref j2))(a2:Qbc s.heap TO x0 y0)(e1:SqIt b s.heap j1 l1 k1)(e2:SqIt c s.heap j2 l2 k2)(g1:SqOf b s.heap l1 us)(g2:SqOf c s.heap l2 vs)(hu:us[k1]?=some u)(hv:vs[k2]?=some v)(q:∀h',IsZip h' z TI TO (Qay s.heap.objs.size)->Qbc h' TO u v->SqIt b h' j1 l1 (k1+1)->SqIt c h' j2 l2 (k2+1)->Qbc h' s.heap.objs.size u v->h'.objs.size=s.heap.objs.size+1 ->
 (∀a o,a≠z->a≠TO->a≠j1->a≠j2->s.heap.get? a=some o->h'.get? a=some o)->Q (.ref s.heap.objs.size) { s with heap:=h' }):
  wpAny (model prog w) A (Builtin.«zip.__next__» ⟨[.ref z],[]⟩) (λr s' =>∃y,r = .done (.ret y)/\Q y s') E s:=by
  show wpAny _ _ (field (.ref z) 2 >>= _) _ _ _;refine Qe (Y3 a0 rfl (x :=.bool false) rfl ?_);show wpAny _ _ (field (.ref z) 3 >>= _) _ _ _;refine Qe (Y3 a0 rfl (x :=.ref TI) rfl ?_);refine Qe (Jp a1 rfl ?_);show wpAny _ _ (Zv (.ref z) >>= _) _ _ _;refine Qe (?_:wpAny _ _ (Zv (.ref z)) _ _ _);unfold Zv;refine Qe (Y3 a0 rfl (x :=.none) rfl (Qx ?_));simp only[if_true];refine Qe (Qfm (?_:_));refine Qe (Y3 a0 rfl (x :=.ref TO) rfl ?_);refine Qe (Jo a0 (by simp) λp1 b0 m1=>?_);replace b0:IsZip p1 z TI TO .ellipsis:=b0
  refine Qe (?_:_);simp only[Qka,Qkq,Qdw,Qhs];refine Qe (Qe (Qfy (?_:_)));show wpAny _ _ (Zp (.ref j1) >>= _) _ _ _;refine Qe (qse (e1.but m1 D.i1z) (g1.but m1 D.l1z) hu λp2 f1 m2=>Qx ?_);have c2:Qbc p2 TO x0 y0:=m2.extBut _ _ D.TOi1 (m1.extBut _ _ D.TOz a2);refine Qe (Jp c2 rfl ?_);refine Qe (Qdj c2 λp3 c3 m3=>?_);replace c3:Qbc p3 TO u y0:=c3
  refine Qe (Qib (Qx (?_:_)));refine Qe (Qe (Qfy (?_:_)));show wpAny _ _ (Zp (.ref j2) >>= _) _ _ _;refine Qe (qse (((e2.but m1 D.i2z).but m2 D.i12.symm).but m3 D.TOi2.symm) (((g2.but m1 D.l2z).but m2 D.l2i1).but m3 D.l2TO) hv λp4 f2 m4=>Qx ?_);have c4:Qbc p4 TO u y0:=m4.extBut _ _ D.TOi2 c3;refine Qe (Jp c4 rfl ?_);refine Qe (Qdj c4 λp5 c5 m5=>?_);replace c5:Qbc p5 TO u v:=c5
  refine Qe (Qib (Qx (Qx (?_:_))));refine Qe (Jp c5 rfl ?_);refine Qe (wpAny_newTuple (?_:_));have sz:p5.objs.size=s.heap.objs.size:=by rw[m5.1,m4.1,m3.1,m2.1,m1.1]
  have b5:IsZip p5 z TI TO .ellipsis:=m5.extBut _ _ D.TOz.symm (m4.extBut _ _ D.i2z.symm (m3.extBut _ _ D.TOz.symm (m2.extBut _ _ D.i1z.symm b0)));have k5:∀a o,a≠z->a≠TO->a≠j1->a≠j2->s.heap.get? a=some o->p5.get? a=some o:=λa o n1 n2 n3 n4 e =>
   m5.extBut _ _ n2 (m4.extBut _ _ n4 (m3.extBut _ _ n2 (m2.extBut _ _ n3 (m1.extBut _ _ n1 e))))
  have f5:SqIt b p5 j1 l1 (k1+1):=((f1.but m3 D.TOi1.symm).but m4 D.i12).but m5 D.TOi1.symm;have f6:SqIt c p5 j2 l2 (k2+1):=f2.but m5 D.TOi2.symm;have zlt:z<p5.objs.size:=Qm b5;show wpAny _ _ (Ja (.ref z) (.ref p5.objs.size) >>= _) _ _ _;refine Qe (?_:wpAny _ _ (Ja (.ref z) (.ref p5.objs.size)) _ _ _);unfold Ja;have b6:IsZip (p5.push { cls :=.type "tuple",data :=.seq #[u,v] }) z TI TO .ellipsis:=Qf _ b5;refine Qe (Jo b6 (by simp) λp7 b7 m7=>?_);replace b7:IsZip p7 z TI TO (Qay p5.objs.size):=b7
  refine Jo b7 (by simp) λp8 b8 m8=>?_;replace b8:IsZip p8 z TI TO (Qay p5.objs.size):=b8
  have up:∀a o,a≠z->p5.get? a=some o->p8.get? a=some o:=λa o n e=>m8.extBut _ _ n (m7.extBut _ _ n (Qf _ e));have t8:Qbc p8 p5.objs.size u v:=m8.extBut _ _ (Z6 zlt) (m7.extBut _ _ (Z6 zlt) (Qq _ rfl));have z8:p8.objs.size=p5.objs.size+1:=by rw[m8.1,m7.1,Yf]
  rw[sz]at b8 t8 z8;refine Qx ⟨_,rfl,(?_:Q (.ref p5.objs.size) _)⟩;rw[sz];exact q p8 b8 (up _ _ D.TOz c5) (f5.at' λo e=>up _ o D.i1z e) (f6.at' λo e=>up _ o D.i2z e) t8 z8 λa o n1 n2 n3 n4 e=>up a o n1 (k5 a o n1 n2 n3 n4 e)
def zrn{z TI TO j1 j2 l1 l2:Addr}(hh:A.handled=none)(D:Qkh z TI TO j1 j2 l1 l2)(a0:IsZip s.heap z TI TO .none)(a1:Qbc s.heap TI (.ref j1) (.ref j2))(a2:Qbc s.heap TO x0 y0)(e1:SqIt b s.heap j1 l1 k1)(e2:SqIt c s.heap j2 l2 k2)(g1:SqOf b s.heap l1 us)(g2:SqOf c s.heap l2 vs)(hend:us[k1]?=none\/vs[k2]?=none)(q:∀h' e,(∀a o,a≠z->a≠TO->a≠j1->a≠j2->s.heap.get? a=some o->h'.get? a=some o)->(∃o,h'.get? e=some o/\o.cls = .type "StopIteration")->E (.ref e) { s with heap:=h' }):
  wpAny (model prog w) A (Builtin.«zip.__next__» ⟨[.ref z],[]⟩) Q E s:=by
  show wpAny _ _ (field (.ref z) 2 >>= _) _ _ _;refine Qe (Y3 a0 rfl (x :=.bool false) rfl ?_);show wpAny _ _ (field (.ref z) 3 >>= _) _ _ _;refine Qe (Y3 a0 rfl (x :=.ref TI) rfl ?_);refine Qe (Jp a1 rfl ?_);show wpAny _ _ (Zv (.ref z) >>= _) _ _ _;refine Qe (?_:wpAny _ _ (Zv (.ref z)) _ _ _);unfold Zv;refine Qe (Y3 a0 rfl (x :=.none) rfl (Qx ?_));simp only[if_true];refine Qe (Qfm (?_:_));refine Qe (Y3 a0 rfl (x :=.ref TO) rfl ?_);refine Qe (Jo a0 (by simp) λp1 b0 m1=>?_);replace b0:IsZip p1 z TI TO .ellipsis:=b0
  refine Qe (?_:_);simp only[Qka,Qkq,Qdw,Qhs];refine Qe (Qe (Qfy (?_:_)));show wpAny _ _ (Zp (.ref j1) >>= _) _ _ _;cases hu:us[k1]? with
  |none =>
   refine Qe (zgn hh (e1.but m1 D.i1z) (g1.but m1 D.l1z) hu λp2 e m2 he=>?_);obtain⟨oe,h3,h4⟩:=he;have b2:IsZip p2 z TI TO .ellipsis:=m2 _ _ D.i1z.symm b0;have nz:e≠z:=λx=>by grind
   exact Jo b2 (by simp) λp3 _ m3=>q p3 e (λa o n1 _ n3 _ x=>m3.extBut _ _ n1 (m2 _ _ n3 (m1.extBut _ _ n1 x))) ⟨oe,m3.extBut _ _ nz h3,h4⟩
  |some u =>
   have hv:vs[k2]?=none:=by
    grind
   refine Qe (qse (e1.but m1 D.i1z) (g1.but m1 D.l1z) hu λp2 f1 m2=>Qx ?_);have c2:Qbc p2 TO x0 y0:=m2.extBut _ _ D.TOi1 (m1.extBut _ _ D.TOz a2);refine Qe (Jp c2 rfl ?_);refine Qe (Qdj c2 λp3 c3 m3=>?_);refine Qe (Qib (Qx (?_:_)));refine Qe (Qe (Qfy (?_:_)));show wpAny _ _ (Zp (.ref j2) >>= _) _ _ _;refine Qe (zgn hh (((e2.but m1 D.i2z).but m2 D.i12.symm).but m3 D.TOi2.symm) (((g2.but m1 D.l2z).but m2 D.l2i1).but m3 D.l2TO) hv λp4 e m4 he=>?_);obtain⟨oe,h3,h4⟩:=he;have b4:IsZip p4 z TI TO .ellipsis:=m4 _ _ D.i2z.symm (m3.extBut _ _ D.TOz.symm (m2.extBut _ _ D.i1z.symm b0));have nz:e≠z:=λx=>by grind
   exact Jo b4 (by simp) λp5 _ m5=>q p5 e (λa o n1 n2 n3 n4 x=>m5.extBut _ _ n1 (m4 _ _ n4 (m3.extBut _ _ n2 (m2.extBut _ _ n3 (m1.extBut _ _ n1 x))))) ⟨oe,m5.extBut _ _ nz h3,h4⟩
def zna{z TI TO j1 j2 l1 l2:Addr}(D:Qkh z TI TO j1 j2 l1 l2)(a0:IsZip s.heap z TI TO .none)(a1:Qbc s.heap TI (.ref j1) (.ref j2))(a2:Qbc s.heap TO x0 y0)(e1:SqIt b s.heap j1 l1 k1)(e2:SqIt c s.heap j2 l2 k2)(g1:SqOf b s.heap l1 us)(g2:SqOf c s.heap l2 vs)(hu:us[k1]?=some u)(hv:vs[k2]?=some v)(q:∀h',IsZip h' z TI TO (Qay s.heap.objs.size)->Qbc h' TO u v->SqIt b h' j1 l1 (k1+1)->SqIt c h' j2 l2 (k2+1)->Qbc h' s.heap.objs.size u v->h'.objs.size=s.heap.objs.size+1 ->
 (∀a o,a≠z->a≠TO->a≠j1->a≠j2->s.heap.get? a=some o->h'.get? a=some o)->Q (some (.ref s.heap.objs.size)) { s with heap:=h' }):
  wpAny (model prog w) A (Qgd (.ref z)) Q E s:=by
  have ty:s.TypeIs (.ref z) "zip":=⟨_,a0,rfl⟩
  unfold Qgd;exact Qe (Qdo (Vf (name:=Qc "__next__") ty Qdx (Vl Qdx ty Qkb
   (zls D a0 a1 a2 e1 e2 g1 g2 hu hv λh' r1 r2 r3 r4 r5 r6 r7=>Qx (q h' r1 r2 r3 r4 r5 r6 r7)) (Qja _))))
def zrz{z TI TO j1 j2 l1 l2:Addr}(hh:A.handled=none)(D:Qkh z TI TO j1 j2 l1 l2)(a0:IsZip s.heap z TI TO .none)(a1:Qbc s.heap TI (.ref j1) (.ref j2))(a2:Qbc s.heap TO x0 y0)(e1:SqIt b s.heap j1 l1 k1)(e2:SqIt c s.heap j2 l2 k2)(g1:SqOf b s.heap l1 us)(g2:SqOf c s.heap l2 vs)(hend:us[k1]?=none\/vs[k2]?=none)(q:∀h',(∀a o,a≠z->a≠TO->a≠j1->a≠j2->s.heap.get? a=some o->h'.get? a=some o)->Q none { s with heap:=h' }):wpAny (model prog w) A (Qgd (.ref z)) Q E s:=by
  have ty:s.TypeIs (.ref z) "zip":=⟨_,a0,rfl⟩
  unfold Qgd;refine Qe (Qdo (Vf (name:=Qc "__next__") ty Qdx (Vl Qdx ty Qkb (zrn hh D a0 a1 a2 e1 e2 g1 g2 hend λh' e hk he=>?_) (Qja _))));obtain⟨o,ho,hc⟩:=he;exact Qe (wpAny_isInstance (T := "StopIteration") (b:=true) ⟨o,ho,hc⟩ isSubtype_stop (Qx (q _ hk)))
abbrev zh1(b:Bool)(h:Heap)(l:Addr):Heap:=h.push (itO b l)
abbrev zh2(b c:Bool)(h:Heap)(l1 l2:Addr):Heap:=(zh1 b h l1).push (itO c l2)
abbrev zh3(b c:Bool)(h:Heap)(l1 l2:Addr):Heap:=(zh2 b c h l1 l2).push { cls :=.type "tuple",data :=.seq #[.ref h.objs.size,.ref (zh1 b h l1).objs.size] }
abbrev zh4(b c:Bool)(h:Heap)(l1 l2:Addr):Heap:=(zh3 b c h l1 l2).push { cls :=.type "tuple",data :=.seq #[.none,.none] }
abbrev zh5(b c:Bool)(h:Heap)(l1 l2:Addr):Heap:=(zh4 b c h l1 l2).push { cls :=.type "zip",data :=.fields #[.none,.bool false,.bool false,.ref (zh2 b c h l1 l2).objs.size,.ref (zh3 b c h l1 l2).objs.size] }
def zxw(b c:Bool)(l1 l2:Addr)(us vs:Array Value):Meets (Builtin.«zip.__new__» ⟨[.type "zip",.ref l1,.ref l2],[]⟩)
 (λ_ R s=>SqOf b s.heap l1 us/\SqOf c s.heap l2 vs/\R (.ok (.ret (.ref (zh4 b c s.heap l1 l2).objs.size))) { s with heap:=zh5 b c s.heap l1 l2 }) :=
  .of_wp λprog w A R s h=>by
   obtain⟨hp,g,d,tk,os⟩:=s;obtain⟨g1,g2,h⟩:=h;have hsub:=sub_zip;have y1:SqOf b (Qme ⟨hp,g,d,tk,os⟩) l1 us:=g1;have y2:SqOf c (Qme ⟨hp.push (itO b l1),g,d,tk,os⟩) l2 vs:=SqOf.at' g2 λo e=>Qf _ e
   wp_walk using zem y1,zem y2
   exact⟨_,rfl,h⟩
def zre(g1:SqOf b s.heap l1 us)(g2:SqOf c s.heap l2 vs)(q:∀h',IsZip h' (s.heap.objs.size+4) (s.heap.objs.size+2) (s.heap.objs.size+3) .none->Qbc h' (s.heap.objs.size+2) (.ref s.heap.objs.size) (.ref (s.heap.objs.size+1)) ->
 Qbc h' (s.heap.objs.size+3) .none .none->SqIt b h' s.heap.objs.size l1 0->SqIt c h' (s.heap.objs.size+1) l2 0->(∀a o,s.heap.get? a=some o->h'.get? a=some o)->Q (.ref (s.heap.objs.size+4)) { s with heap:=h' }):
  wpAny (model prog w) A (call (.type "zip") [.ref l1,.ref l2]) Q E s:=by
  refine callType_new F.called_zip (by decide) (F.typeCall_zip_2 _ _) (F.newCall_zip_2 _ _) (λob=>F.args_object_init_3 ob _ _) F.entry_zip_new (zxw b c l1 l2 us vs) ⟨g1,g2,?_⟩;have n1:(zh1 b s.heap l1).objs.size=s.heap.objs.size+1:=Yf ..;have n2:(zh2 b c s.heap l1 l2).objs.size=s.heap.objs.size+2:=by rw[Yf,n1]
  have n3:(zh3 b c s.heap l1 l2).objs.size=s.heap.objs.size+3:=by rw[Yf,n2]
  have n4:(zh4 b c s.heap l1 l2).objs.size=s.heap.objs.size+4:=by rw[Yf,n3]
  have r5:(zh5 b c s.heap l1 l2).get? (zh4 b c s.heap l1 l2).objs.size=some _:=Qq _ rfl;have r4:(zh5 b c s.heap l1 l2).get? (zh3 b c s.heap l1 l2).objs.size=some _:=Qf _ (Qq _ rfl);have r3:(zh5 b c s.heap l1 l2).get? (zh2 b c s.heap l1 l2).objs.size=some _:=Qf _ (Qf _ (Qq _ rfl));have r2:(zh5 b c s.heap l1 l2).get? (zh1 b s.heap l1).objs.size=some (itO c l2):=Qf _ (Qf _ (Qf _ (Qq _ rfl)));have r1:(zh5 b c s.heap l1 l2).get? s.heap.objs.size=some (itO b l1):=Qf _ (Qf _ (Qf _ (Qf _ (Qq _ rfl))));show _/\_;rw[n2,n3,n4]at r5;rw[n1,n2]at r3;rw[n3]at r4;rw[n1]at r2;rw[n4];have si:∀{b:Bool}{h:Heap}{a l:Addr},h.get? a=some (itO b l)->SqIt b h a l 0:=λ{b}{h}{a}{l} e=>by
   cases b with
   |true=>exact⟨_,e,rfl,rfl⟩
   |false=>exact⟨_,e,rfl,rfl⟩
  exact⟨⟨_,r5,rfl⟩,q _ r5 r3 r4 (si r1) (si r2) λa o x=>Qf _ (Qf _ (Qf _ (Qf _ (Qf _ x))))⟩
end
def SqX(b:Bool)(K:Qa)(H:Hp)(a:Addr)(xs:List V):Prop:=match b with
 |true=>SqT K H a xs
 |false=>SqL K H a xs
section
variable{X:Cx}{pins:List (Addr×Obj)}{σ:St}{H:Hp}{s:Ql}{b:Bool}{a:Addr}{xs ys:List V}
def Inv.sqx(I:Inv X pins σ H s)(h:SqX b X.K H a xs):∃its:List Value,Vals xs its/\SqOf b s.heap a its.toArray:=by
 cases b with
 |true =>
  obtain⟨its,r,p,_⟩:=I.tuple h;obtain⟨o,ho,hc,n,hd⟩:=p;exact⟨its,r,o,ho,hc,n,hd⟩
 |false =>
  obtain⟨its,r,p,_⟩:=I.list h;exact⟨its,r,p.isList⟩
def Inv.sqx_inj(I:Inv X pins σ H s)(h:SqX b X.K H a xs)(h':SqX b X.K H a ys):xs=ys:=by
 cases b with
 |true=>exact I.tuple_inj h h'
 |false=>exact I.list_inj h h'
end
def Itz(K:Qa)(b c:Bool)(l m:Addr):It :=
 ⟨λi H =>∃xs ys x y,SqX b K H l xs/\SqX c K H m ys/\xs[i]?=some x/\ys[i]?=some y,λi H v H' =>∃p x y,(∀xs,SqX b K H l xs->xs[i]?=some x)/\(∀ys,SqX c K H m ys->ys[i]?=some y)/\H p=none/\v = .ref p/\H'=upd H p (.tup [x,y]),
  λi H =>∃xs ys,SqX b K H l xs/\SqX c K H m ys/\(xs.length<=i\/ys.length<=i)⟩
def zmh{K:Qa}(z TI TO j1 j2 l m:Addr)(D:Qkh z TI TO j1 j2 l m):
 Turn P w K (.Tuple elts x1 tpos) (Itz K b c l m) [z,TI,TO,j1,j2] z (λi h=>IsZip h z TI TO .none/\Qbc h TI (.ref j1) (.ref j2)/\(∃x0 y0,Qbc h TO x0 y0)/\SqIt b h j1 l i/\SqIt c h j2 m i) where
  mem:=by simp
  obj:=λi h st a ha=>by
   obtain⟨s0,s1,⟨x0,y0,s2⟩,s3,s4⟩:=st;simp only[Q2,J7,or_false]at ha;rcases ha with rfl|rfl|rfl|rfl|rfl
   ·grind
   ·grind
   ·grind
   ·exact s3.obj
   ·exact s4.obj
  keep:=λi h h' st k=>by
   obtain⟨s0,s1,⟨x0,y0,s2⟩,s3,s4⟩:=st;exact⟨k z (by simp) _ s0,k TI (by simp) _ s1,⟨x0,y0,k TO (by simp) _ s2⟩,s3.at' λo q=>k j1 (by simp) o q,s4.at' λo q=>k j2 (by simp) o q⟩
  item:=by
   intro X hP hw hK hc i pins s σ H E I hf st hg;subst hP hw hK;obtain⟨xs,ys,x,y,hq,hq',hx,hy⟩:=hg;obtain⟨us,rv,p1⟩:=I.sqx hq;obtain⟨vs,rw',p2⟩:=I.sqx hq';obtain⟨u,hu,ru⟩:=rv.get hx;obtain⟨v,hv,rv'⟩:=rw'.get hy;obtain⟨s0,s1,⟨x0,y0,s2⟩,s3,s4⟩:=st;obtain⟨z0,z1,z2,z3,z4,z5⟩:=hf z (by simp);obtain⟨o0,o1,o2,o3,o4,o5⟩:=hf TO (by simp);obtain⟨f0,f1,f2,f3,f4,f5⟩:=hf j1 (by simp);obtain⟨g0,g1,g2,g3,g4,g5⟩:=hf j2 (by simp);have zlt:z<s.heap.objs.size:=Qm s0;refine zna D s0 s1 s2 s3 s4 p1 p2 (u:=u) (v:=v) (by grind) (by grind) λh₁ a0 a2 a3 a4 ht hz₁ hk=>⟨_,rfl,?_⟩
   refine wpAny_letOwnedTupleGo_zip (s:={ s with heap:=h₁ }) a0 λh₂ he₂ hs₂=>?_;replace hs₂:Y4 z h₁ h₂:=hs₂
   have fresh:H s.heap.objs.size=none:=I.hok.fresh (Qn _);have kk:∀a o,a≠z->a≠TO->a≠j1->a≠j2->s.heap.get? a=some o->h₂.get? a=some o:=λa o b1 b2 b3 b4 q=>hs₂.extBut a o b1 (hk a o b1 b2 b3 b4 q);have kc:∀a o,a∉[z,TO,j1,j2]->s.heap.get? a=some o->h₂.get? a=some o:=λa o hc q=>kk a o (λz=>hc (by simp[z])) (λz=>hc (by simp[z])) (λz=>hc (by simp[z])) (λz=>hc (by simp[z])) q;have nb:∀a o v,s.heap.get? a=some o->H a=some v->h₂.get? a=some o:=λa o v e q=>kk a o (λn=>by grind) (λn=>by grind) (λn=>by grind) (λn=>by grind) e;have ht₂:h₂.get? s.heap.objs.size=some { cls :=.type "tuple",data :=.seq #[u,v] }:=(hs₂.2 _ (Z6 zlt)).trans ht;have I1:Inv X pins σ (upd H s.heap.objs.size (.tup [x,y])) { s with heap:=h₂ }:=by
    refine I.step (t':=s.toks) (g':=s.gens) (d':=s.drawn) (ch:=[z,TO,j1,j2]) (λa ha=>?_) (λa o _ _ hc q _=>kc a o hc q)
     (λa o _ _ hc q _=>⟨o.slots,kc a o hc q⟩) (λa o _ q n=>by rw[qo (Q3 (Qm q))];exact n)
     (λa o hc q=>⟨o,kc a o hc q⟩) (λa ys q=>by rw[qo (qq q fresh)];exact q) (λa o v q=>by rw[qo (qq q fresh)];exact q)
     (λa ps q=>⟨#[],by rw[qo (qq q fresh),q];simp,.nil⟩) (λm hm=>?_) (λa v' q=>?_) I.bare
    ·simp only[Q2,J7,or_false]at ha;rcases ha with rfl|rfl|rfl|rfl
     ·exact⟨z3,z1,z4,z5⟩
     ·exact⟨o3,o1,o4,o5⟩
     ·exact⟨f3,f1,f4,f5⟩
     ·exact⟨g3,g1,g4,g5⟩
    ·obtain⟨o,es,ep,ho',r⟩:=hm;exact⟨o,es,ep,kk _ o (Y9 z1) (Y9 o1) (Y9 f1) (Y9 g1) ho',r⟩
    ·by_cases hb:a=s.heap.objs.size
     ·subst hb;rw[qp]at q;cases q;exact⟨(by show 2<=Qo;decide),[u,v],.cons ru (.cons rv' .nil),⟨_,ht₂,rfl,_,rfl⟩⟩
     ·rw[qo hb]at q;refine(I.hok a v' q).stay (λd ob hd e=>?_) (λd e=>by rw[qo (qq e fresh)];exact e) λd ws e=>by rw[qo (qq e fresh)];exact e
      rcases hd with hd|hd
      ·subst hd;exact nb _ _ _ e q
      ·exact nb _ _ _ e hd
   refine⟨.ref s.heap.objs.size,_,I1,rfl,⟨s.heap.objs.size,x,y,λws hw=>by rw[I.sqx_inj hw hq];exact hx,λws hw=>by rw[I.sqx_inj hw hq'];exact hy,fresh,rfl,rfl⟩,⟨he₂,?_,⟨u,v,?_⟩,?_,?_⟩,λa ha=>?_⟩
   ·exact hs₂.extBut _ _ D.TIz (hk _ _ D.TIz D.TITO D.TIi1 D.TIi2 s1)
   ·exact hs₂.extBut _ _ D.TOz a2
   ·exact a3.but hs₂ D.i1z
   ·exact a4.but hs₂ D.i2z
   ·have hlt:a<s.heap.objs.size:=by
     simp only[Q2,J7,or_false]at ha;rcases ha with rfl|rfl|rfl|rfl|rfl
     ·exact zlt
     ·exact Qm s1
     ·exact Qm s2
     ·obtain⟨o,q,_⟩:=s3.obj;exact Qm q
     ·obtain⟨o,q,_⟩:=s4.obj;exact Qm q
    rw[qo (Q3 hlt)];exact(hf a ha).1
  done:=by
   intro X hP hw hK hc i pins s σ H E I hf st hg;subst hP hw hK;obtain⟨xs,ys,hq,hq',hx⟩:=hg;obtain⟨us,rv,p1⟩:=I.sqx hq;obtain⟨vs,rw',p2⟩:=I.sqx hq';obtain⟨s0,s1,⟨x0,y0,s2⟩,s3,s4⟩:=st;obtain⟨z0,z1,z2,z3,z4,z5⟩:=hf z (by simp);obtain⟨o0,o1,o2,o3,o4,o5⟩:=hf TO (by simp);obtain⟨f0,f1,f2,f3,f4,f5⟩:=hf j1 (by simp);obtain⟨g0,g1,g2,g3,g4,g5⟩:=hf j2 (by simp);have l1:=rv.length;have l2:=rw'.length;refine zrz (I.ok.hd hc) D s0 s1 s2 s3 s4 p1 p2 (by rcases hx with hx|hx;exact .inl (by simp;omega);exact .inr (by simp;omega)) λh' hk=>⟨rfl,?_⟩
   have kc:∀a o,a∉[z,TO,j1,j2]->s.heap.get? a=some o->h'.get? a=some o:=λa o hc q=>hk a o (λz=>hc (by simp[z])) (λz=>hc (by simp[z])) (λz=>hc (by simp[z])) (λz=>hc (by simp[z])) q;have nb:∀a o v,s.heap.get? a=some o->H a=some v->h'.get? a=some o:=λa o v e q=>hk a o (λn=>by rw[n,z0]at q;cases q) (λn=>by rw[n,o0]at q;cases q) (λn=>by rw[n,f0]at q;cases q) (λn=>by rw[n,g0]at q;cases q) e;refine I.step (t':=s.toks) (g':=s.gens) (d':=s.drawn) (ch:=[z,TO,j1,j2]) (λa ha=>?_) (λa o _ _ hc q _=>kc a o hc q)
    (λa o _ _ hc q _=>⟨o.slots,kc a o hc q⟩) (λa o _ q n=>n) (λa o hc q=>⟨o,kc a o hc q⟩) (λa ys q=>q) (λa o v q=>q) (λa ps q=>⟨#[],by rw[q];simp,.nil⟩) (λm hm=>?_) (λa v' q=>?_) I.bare
   ·simp only[Q2,J7,or_false]at ha;rcases ha with rfl|rfl|rfl|rfl
    ·exact⟨z3,z1,z4,z5⟩
    ·exact⟨o3,o1,o4,o5⟩
    ·exact⟨f3,f1,f4,f5⟩
    ·exact⟨g3,g1,g4,g5⟩
   ·obtain⟨o,es,ep,ho',r⟩:=hm;exact⟨o,es,ep,hk _ o (Y9 z1) (Y9 o1) (Y9 f1) (Y9 g1) ho',r⟩
   ·refine(I.hok a v' q).stay (λd ob hd e=>?_) (λd e=>e) λd ws e=>e;rcases hd with hd|hd
    ·subst hd;exact nb _ _ _ e q
    ·exact nb _ _ _ e hd
  self:=λA i s Q E st h=>wpAny_pyIter_zip st.1 h
def zkr:Zj "zip" = some (.type "zip"):=by decide +kernel
section
variable{X:Cx}{elts:List Expr}{x1:Nat}{tpos:Pos}
def xem(K:Qa)(ta:TA):TI:=λσ H R=>ta σ H λvs H1 =>∃b c l m,vs=[.ref l,.ref m]/\(∃xs,SqX b K H1 l xs)/\(∃ys,SqX c K H1 m ys)/\R (Itz K b c l m) H1
def zyk{p pos:Pos}(hg:Gl X "zip")(hm:X.mg "zip" = none)(ha:PA X [a,b] ta)(hs:Qi [a,b] X.env=[(false,eval a X.env),(false,eval b X.env)]:=by rfl)(hs2:Qi [b] X.env=[(false,eval b X.env)]:=by rfl):
 PI X (.Tuple elts x1 tpos) (.Call (.Name "zip" p) [a,b] [] pos) (xem X.K ta):=by
 intro pins s σ H R I h;refine Call_ (qli I hg hm zkr (Jd (thn (ha pos pins s σ H _ I h) λus s1 xx162=>?_) (by rw[hs,hs2]) (by rw[hs2];rfl)));obtain⟨vs,H1,I1,r1,q1⟩:=xx162;obtain⟨kb,kc,l,m,e,⟨xs,hq⟩,⟨ys,hq'⟩,q⟩:=q1;subst e;cases r1 with
 |cons r rr =>
  cases rr with
  |cons r' rr =>
   cases rr;cases r;cases r';obtain⟨its,rv,pl⟩:=I1.sqx hq;obtain⟨its',rv',pl'⟩:=I1.sqx hq';refine zre pl pl' λh' a0 a1 a2 a3 a4 hk=>?_;refine wpAny_pyIter_zip a0 ?_;have I2:Inv X pins σ H1 { s1 with heap:=h' }:=I1.kept (t':=s1.toks) hk;refine⟨s1.heap.objs.size+4,[s1.heap.objs.size+4,s1.heap.objs.size+2,s1.heap.objs.size+3,s1.heap.objs.size,s1.heap.objs.size+1],_,_,H1,rfl,I2,zmh (b:=kb) (c:=kc) _ _ _ _ _ l m (zipApart_new pl.lt pl'.lt),⟨a0,a1,⟨_,_,a2⟩,a3,a4⟩,λb hb=>?_,q⟩;have hle:s1.heap.objs.size<=b:=by
    simp only[Q2,J7,or_false]at hb;rcases hb with rfl|rfl|rfl|rfl|rfl
    ·exact Qde _ 4
    ·exact Qde _ 2
    ·exact Qde _ 3
    ·exact Qn _
    ·exact Qde _ 1
   exact I1.fpOk hle (I1.hok.fresh hle)
end
def zfl(l m:List Qh):List Qh:=(l.zip m).map λp => .tuple [p.1,p.2]
theorem qhj(l m:List Qh):(zfl l m).length=min l.length m.length:=by simp[zfl]
theorem zbi{i:Nat}(h1:l[i]?=some x)(h2:m[i]?=some y):(zfl l m)[i]?=some (.tuple [x,y]):=by
 unfold zfl;grind
def zaw{i:Nat}(h:(zfl l m)[i]?=some d):∃x y,l[i]?=some x/\m[i]?=some y/\d = .tuple [x,y]:=by
 grind[qhj,zbi,Qp,Za]
def qcg{K:Qa}(s:Same F H)(h:SqX b K F a xs):SqX b K H a xs:=by
 cases b with
 |true=>exact qJ s h
 |false=>exact s.seq h
def zqu{K:Qa}(hs:SqX b K F a xs)(hr:Iss K F l xs)(hs':SqX c K F a' ys)(hr':Iss K F m ys):ItD K (Itz K b c a a') F (zfl l m) where
 go:=λi H s hi=>by
  rw[qhj]at hi;exact⟨xs,ys,xs[i]'(by rw[hr.len];omega),ys[i]'(by rw[hr'.len];omega),qcg s hs,qcg s hs',Qp _,Qp _⟩
 stop:=λH s=>by
  rw[qhj];refine⟨xs,ys,qcg s hs,qcg s hs',?_⟩;rw[hr.len,hr'.len];omega
 yld:=λi H x H' F1 s1 s2 hi hy=>by
  obtain⟨p,y,y',hy,hy',hp,rfl,rfl⟩:=hy;obtain⟨d,e1,e2⟩:=hr.get' (hy xs (qcg (s1.trans s2) hs));obtain⟨d',e1',e2'⟩:=hr'.get' (hy' ys (qcg (s1.trans s2) hs'));have g:=Go.put (o:=HO.tup [y,y']) s2 hp;exact⟨_,_,zbi e1 e1',g,qld (SqT.of qp) (qI ((e2.mono s1).mono g.f) (qI ((e2'.mono s1).mono g.f) qah))⟩
def zpb{K:Qa}(e:qaa d=some l)(i:Is K F d v):∃b a xs,v = .ref a/\SqX b K F a xs/\Iss K F l xs:=by
 cases d with
 |list m=>cases e;obtain⟨a,xs,rfl,hs,hr⟩:=i.lst_inv;exact⟨false,a,xs,rfl,hs,hr⟩
 |tuple m=>cases e;obtain⟨a,xs,rfl,hs,hr⟩:=i.tup_inv;exact⟨true,a,xs,rfl,hs,hr⟩
 |_=>cases e
section
variable{X:Cx}{a b:Expr}{p pos:Pos}{elts:List Expr}{x1:Nat}{tpos:Pos}
def zvg(Wa Wb:WE):WF:=λenv Q=>Wa env λx e1=>Wb e1 λy e=>(qaa x).elim False λl=>(qaa y).elim False λm=>Q (zfl l m) e
def zel(hm:X.mg "zip" = none)(ha:VE X a Wa)(hb:VE X b Wb)(hg:Gl X "zip":=by rfl)(hs:Qi [a,b] X.env=[(false,eval a X.env),(false,eval b X.env)]:=by rfl)(hs2:Qi [b] X.env=[(false,eval b X.env)]:=by rfl)(hs3:Qi [a,b] X.env=(false,eval a X.env)::Qi [b] X.env:=by rfl)(hs4:Qi [b] X.env=(false,eval b X.env)::Qi [] X.env:=by rfl):VI X (.Tuple elts x1 tpos) (.Call (.Name "zip" p) [a,b] [] pos) (zvg Wa Wb) :=
 (zyk hg hm (qF ha (qF hb qar hs4) hs3) hs hs2).imp λσ H R xx163=>by
  obtain⟨M,env,F,Q,I,h,k⟩:=xx163;refine⟨M,env,F,_,I,h,λd v F1 H1 e1 I1 s1 i1 h1=>⟨M,e1,F1,_,I1,h1,λd2 v2 F2 H2 e2 I2 s2 i2 h2=>?_⟩⟩;cases q1:qaa d with
  |none=>rw[q1]at h2;exact h2.elim
  |some l =>
   cases q2:qaa d2 with
   |none=>rw[q1,q2]at h2;exact h2.elim
   |some m =>
    rw[q1,q2]at h2;obtain⟨kb,a1,xs,rfl,z1,z2⟩:=zpb q1 (i1.mono s2);obtain⟨kc,a2,ys,rfl,z3,z4⟩:=zpb q2 i2;exact⟨kb,kc,a1,a2,rfl,⟨xs,qcg I2.fh z1⟩,⟨ys,qcg I2.fh z3⟩,k _ _ F2 H2 e2 I2 (s1.trans s2) (zqu z1 z2 z3 z4) h2⟩
end
def boot_ValueError:Zj "ValueError" = some (.type "ValueError"):=by decide +kernel
section
variable{X:Cx}
end
section
variable{X:Cx}{e:Expr}{W:WF}{We:WE}{pos:Pos}
end
section
variable{prog:Zk}{w:World}{A:Z1}{E:Value->Ql->Prop}{s:Ql}
end
section
variable{X:Cx}
end
section
variable{X:Cx}{a b c d:Expr}{pos:Pos}{ta tb tc td:TE}
def zrp(r r' r'':R2)(ta tb tc td:TE):TT:=λσ H Q=>ta σ H λx H1=>tb σ H1 λy H2=>r x y H2 λz H3 =>∃k,z = .bl k /\
 (if k=true then tc σ H3 λw' H4=>r' y w' H4 λz' H5 =>∃k',z' = .bl k'/\(if k'=true then td σ H5 λu' H6=>r'' w' u' H6 λz2 H7 =>∃k2,z2 = .bl k2/\Q k2 H7 else Q false H5)else Q false H3)
def zgq(ho:OpR X (Zs op) r)(ho':OpR X (Zs op') r')(ho'':OpR X (Zs op'') r'')(ha:PE X a ta)(hb:PE X b tb)(hc:PE X c tc)(hd:PE X d td)(hm:Qkz [op,op',op''] [b,c,d]=false:=by with_unfolding_all rfl):PT X (.Compare a [op,op',op''] [b,c,d] pos) (zrp r r' r'' ta tb tc td):=by
  intro pins s σ H Q I h;refine isTrue_chain (thn (ha pins s σ H _ I h) λv s1 ⟨x,H1,I1,r1,q1⟩=>test_link (thn (hb pins s1 σ H1 _ I1 q1) λu s2 ⟨y,H2,I2,r2,q2⟩ =>
   thn (ho pins s2 σ H2 x y v u _ I2 r1 r2 q2) λe s3 ⟨z,H3,I3,r3,k,ee,q3⟩=>?_)) hm
  subst ee;cases r3;refine Zy ?_;cases k with
  |false=>exact ite_ff ⟨H3,I3,q3⟩
  |true =>
   refine ite_tt (test_link (thn (hc pins s3 σ H3 _ I3 q3) λw' s4 ⟨z',H4,I4,r4,q4⟩=>thn (ho' pins s4 σ H4 y z' u w' _ I4 r2 r4 q4) λd' s5 xx166=>?_));obtain⟨z2,H5,I5,r5,k2,e2,q5⟩:=xx166;subst e2;cases r5;refine Zy ?_;cases k2 with
   |false=>exact ite_ff ⟨H5,I5,q5⟩
   |true =>
    refine ite_tt (test_last (thn (hd pins s5 σ H5 _ I5 q5) λw2 s6 ⟨z3,H6,I6,r6,q6⟩=>thn (ho'' pins s6 σ H6 z' z3 w' w2 _ I6 r4 r6 q6) λd2 s7 xx164=>?_));obtain⟨z4,H7,I7,r7,k4,e4,q7⟩:=xx164;subst e4;cases r7;exact Zy ⟨H7,I7,q7⟩
variable{Wa Wb Wc Wd:WE}
def zsd(r r' r'':D2)(Wa Wb Wc Wd:WE):WT:=λenv Q=>Wa env λx e1=>Wb e1 λy e2=>r x y λz=>match z with
 |.bool k=>if k=true then Wc e2 λw e3=>r' y w λz=>match z with
  |.bool k=>if k=true then Wd e3 λu e4=>r'' w u λz=>match z with
   |.bool k=>Q k e4
   |_=>False
   else Q false e3
  |_=>False
  else Q false e2
 |_=>False
def zjb(ho:OpV X (Zs op) r)(ho':OpV X (Zs op') r')(ho'':OpV X (Zs op'') r'')(ha:VE X a Wa)(hb:VE X b Wb)(hc:VE X c Wc)(hd:VE X d Wd)(hm:Qkz [op,op',op''] [b,c,d]=false:=by with_unfolding_all rfl):VT X (.Compare a [op,op',op''] [b,c,d] pos) (zsd r r' r'' Wa Wb Wc Wd) :=
  (zgq ho ho' ho'' ha hb hc hd hm).imp λσ H R xx171=>by
   obtain⟨M,env,F,Q,I,h,k⟩:=xx171;refine⟨M,env,F,_,I,h,λd v F1 H1 e1 I1 s1 i1 h1=>⟨M,e1,F1,_,I1,h1,λd2 v2 F2 H2 e2 I2 s2 i2 h2=>⟨F2,d,d2,_,I2.fh,i1.mono s2,i2,h2,λd3 v3 F3 H3 g i3 q=>?_⟩⟩⟩;have I3:=I2.go g;have s3:=s1.trans (s2.trans g.f);cases d3 with
   |bool b =>
    refine⟨b,i3.bl_inv,?_⟩;cases b with
    |false=>exact qdl (k _ F3 H3 e2 I3 s3 q)
    |true =>
     refine qho ⟨M,e2,F3,_,I3,q,λd4 v4 F4 H4 e4 I4 s4 i4 h4=>⟨F4,d2,d4,_,I4.fh,(i2.mono g.f).mono s4,i4,h4,λd5 v5 F5 H5 g5 i5 q5=>?_⟩⟩;have I5:=I4.go g5;have s5:=s3.trans (s4.trans g5.f);cases d5 with
     |bool b =>
      refine⟨b,i5.bl_inv,?_⟩;cases b with
      |false=>exact qdl (k _ F5 H5 e4 I5 s5 q5)
      |true =>
       refine qho ⟨M,e4,F5,_,I5,q5,λd6 v6 F6 H6 e6 I6 s6 i6 h6=>⟨F6,d4,d6,_,I6.fh,(i4.mono g5.f).mono s6,i6,h6,λd7 v7 F7 H7 g7 i7 q7=>?_⟩⟩;cases d7 with
       |bool b=>exact⟨b,i7.bl_inv,k _ F7 H7 e6 (I6.go g7) (s5.trans (s6.trans g7.f)) q7⟩
       |_=>exact Q7 q7
     |_=>exact Q7 q5
   |_=>exact Q7 q
end
def zft(ix:List Nat)(k:Nat)(wi:TI)(g:TG)(tt:TT)(te:TE):TE:=λσ H Q=>wi σ H λJ H1 =>∃W:Nat->Nat->List V->St->Hp->Prop,(∃m,W 0 m [] (qss ix k σ) H1) /\ ∀i m ys σ1 H2,W i m ys σ1 H2 ->
 (J.stop i H2/\ys.length<=Qo /\ ∀p,H2 p=none->Q (.ref p) (upd H2 p (.lst ys))) \/
 (J.go i H2/\ys.length<Qo /\ ∃(N:V->St->Hp->Prop)(N0:St->Hp->Prop),(∀y σ2 H5,N y σ2 H5 ->∃m',m'<m/\W (i+1) m' (ys++[y]) σ2 H5)/\(∀σ2 H5,N0 σ2 H5 ->∃m',m'<m/\W (i+1) m' ys σ2 H5) /\
  ∀x H3,J.yld i H2 x H3->g x σ1 H3 λσ2 H4=>tt σ2 H4 λb H5=>match b with|true=>te σ2 H5 λy H6=>N y σ2 H6|false=>N0 σ2 H5)
def qhk(I:Nat->Ql->Prop)(turn:∀n s,I n s->wpAny (model prog w) A (Qgd it) (λr s₁=>match r with
  |none=>R (.ok .next) s₁
  |some v=>wpAny (model prog w) A (Qap target it v) (λ_ s₁'=>wpAny (model prog w) A (Qdi target env v) (λ_ s₂=>wpAny (model prog w) A (Qln cnd env (eval cnd env)) (λb s₂'=>match b with
   |true=>wpAny (model prog w) A (eval elt env) (λx s₃ =>
    wpAny (model prog w) A (call (.builtin "list.append") [acc,x]) (λ_ s₄ =>∃m,m<n/\I m s₄) (Qae (model prog w) A env λe s'=>R (.error e) s') s₃)
    (Qae (model prog w) A env λe s'=>R (.error e) s') s₂'
   |false =>∃m,m<n/\I m s₂') (Qae (model prog w) A env λe s'=>R (.error e) s') s₂) (Qae (model prog w) A env λe s'=>R (.error e) s') s₁') (Qae (model prog w) A env λe s'=>R (.error e) s') s₁) (Qae (model prog w) A env λe s'=>R (.error e) s') s)(n:Nat)(h:I n s):Qca (model prog w) A (.compLoop (.ListComp elt [⟨target,iter,[cnd],0⟩] scope pos) 0 it acc env) R s:=by
  refine codeAny_loop rfl I (λn s hI=>?_) n h;show wpAny _ _ ((compTurn (.ListComp elt [⟨target,iter,[cnd],0⟩] scope pos) 0 it acc env).onRaise (λx=>do Qcz x env;theTreesLotGoes x)) _ _ s;refine wpAny_noted (?_:_);rw[compTurn_list];refine Qe (Qcg (Qe (Zu (turn n s hI) (λr s₁ h₁=>?_) λ_ _ z=>z)));cases r with
  |none=>exact Qx h₁
  |some v =>
   refine Qe (Zu h₁ (λ_ s₁' h₁'=>Qe (Zu h₁' (λ_ s₂ h₂=>?_) λ_ _ z=>z)) λ_ _ z=>z);refine Qe (wpAny_tests_one (Zu h₂ (λb s₂' hb=>?_) λ_ _ z=>z));cases b with
   |true =>
    refine Qe (Qe (Zu hb (λx s₃ h₃=>Qe (Zu h₃ (λ_ s₄ h₄=>Qx (Qx ⟨rfl,h₄⟩)) λ_ _ z=>z)) λ_ _ z=>z))
   |false=>exact Qe (Qx (Qx ⟨rfl,hb⟩))
section
variable{X:Cx}{elt target iter cnd:Expr}{scope:Scope}{pos:Pos}{caps own:List Str}{ix:List Nat}{wi:TI}{g:TG}{te:TE}{tt:TT}
def zie(hc:X.calm=true)(S:CompScope X.env scope caps)(hi:PI X target iter wi)(hg:∀pins s3 H ex,PG (blk X pins scope (caps++own) s3 H ex) target g)(he:∀pins s3 H ex,PE (blk X pins scope (caps++own) s3 H ex) elt te)(ht:∀pins s3 H ex,PT (blk X pins scope (caps++own) s3 H ex) cnd tt)(hix:caps.length=ix.length:=by rfl)(hcapB:(caps.zip ix).all (λp=>X.N[p.2]?==some p.1)=true:=by rfl)(hs:∀x,Zn iter X.env x=pure x:=by intro _;rfl):PE X (.ListComp elt [⟨target,iter,[cnd],0⟩] scope pos) (zft ix own.length wi g tt te):=by
  intro pins s σ H Q I h;rw[Qio];refine quy (cs:=[cnd]) (tt:=tt) (Tst:=λenv P E s=>wpAny (model X.prog X.w) X.A (Qln cnd env (eval cnd env)) P E s) (λJ turn n h=>qhk J turn n h) (use:=none) (Q0:=EP X pins σ Q) hc S hi hg he (λpins s3 H ex pins' s σ H' Qb P E I q k=>Zu (ht pins s3 H ex pins' s σ H' Qb I q) (λb s' z=>?_) λ_ _ z=>z.elim) hix hcapB hs I h (λJ H1 z=>z) λD C s6 H6 m6 ns6 IX c1 c2 c3 c4 c5 c6 q=>⟨m6,ns6,λh' sb=>⟨.ref D,H6,IX.turned (t':=s6.toks) (it:=C) (λb o hb q=>sb.extBut b o hb q) c1 c2 c4 c5 c6,rfl,q⟩⟩
  obtain⟨H'',I'',q''⟩:=z;grind
def qwu(ix:List Nat)(k:Nat)(Wi:WF)(G:WG)(Wt:WT)(We:WE):WF:=λenv Q=>Wi env λds e0=>ds.length<Qo /\ ∃P:Nat->List Qh->Sto->Prop,P 0 [] (qrj ix k e0) /\
 (∀i d ys e,ds[i]?=some d->P i ys e->G d e λe1=>Wt e1 λb e2=>if b=true then We e2 λy e3=>P (i+1) (ys++[y]) e3 else P (i+1) ys e2) /\ ∀ys e,P ds.length ys e->Q ys e0
section
variable{K:Qa}{ix:List Nat}{n:Nat}{Wi:WF}{G:WG}{Wt:WT}{We:WE}{σ:St}{H:Hp}{R:VK}
def qyr(h:zjw K (qwu ix n Wi G Wt We) σ H R):zft ix n (zcm K Wi) (qov K G) (qyi K Wt) (qdc K We) σ H R:=by
 obtain⟨M,env,F,Q,I,h,k⟩:=h;refine⟨M,env,F,_,I,h,λds J F1 H1 e1 I1 s1 jt xx174=>?_⟩;obtain⟨hz,P,p0,turn,fin⟩:=xx174;refine⟨λi m ys σ1 H'=>m=ds.length-i/\i<=ds.length /\ ∃e' F' l,EnvOk K ⟨H1,H1,F1⟩ F' H' e' σ1/\Iss K F' l ys/\ys.length<=i/\P i l e',⟨ds.length,by simp,Vb _,qrj ix n e1,F1,[],I1.cap ix n,qah,Qn _,p0⟩,?_⟩;rintro i m ys σ1 H2 ⟨hm,hi,e2,F2,l,I2,i2,hl,p2⟩;have g2:=I2.goOf;by_cases he:i=ds.length
 ·subst he;exact .inl ⟨jt.stop H2 (g2.f.trans g2.fh),by omega,qme (I1.go g2) (s1.trans g2.f) i2 (fin l e2 p2) k⟩
 ·have hlt:i<ds.length:=by omega
  refine .inr ⟨jt.go i H2 (g2.f.trans g2.fh) hlt,by omega,λy σ' H' =>∃e' F' l',EnvOk K ⟨H1,H1,F1⟩ F' H' e' σ'/\Iss K F' l' (ys++[y])/\P (i+1) l' e',λσ' H' =>∃e' F' l',EnvOk K ⟨H1,H1,F1⟩ F' H' e' σ'/\Iss K F' l' ys/\P (i+1) l' e',
   λy σ' H' xx173=>by obtain⟨e',F',l',I',i',p'⟩:=xx173;exact⟨ds.length-(i+1),by omega,rfl,hlt,e',F',l',I',i',by simp;omega,p'⟩,λσ' H' xx172=>by obtain⟨e',F',l',I',i',p'⟩:=xx172;exact⟨ds.length-(i+1),by omega,rfl,hlt,e',F',l',I',i',by omega,p'⟩,λx H3 hy=>?_⟩
  obtain⟨d,F3,hd,g,j⟩:=jt.yld i H2 x H3 F2 g2.f g2.fh hlt hy;refine⟨_,e2,F3,d,_,I2.go g,j,turn i d l e2 hd p2,λF4 H4 e4 σ4 I4 s4 h4=>⟨_,e4,F4,_,I4,h4,λb F5 H5 e5 I5 s5 h5=>?_⟩⟩;cases b with
  |true =>
   rw[if_pos rfl]at h5;refine⟨_,e5,F5,_,I5,h5,λd6 v6 F6 H6 e6 I6 s6 i6 h6=>?_⟩;exact⟨e6,F6,l++[d6],I6,qbl (((i2.mono (g.f.trans s4)).mono s5).mono s6) (qI i6 qah),h6⟩
  |false =>
   rw[if_neg Zb]at h5;exact⟨e5,F5,l,I5,(i2.mono (g.f.trans s4)).mono s5,h5⟩
end
def zgp(hc:X.calm=true)(S:CompScope X.env scope caps)(hi:VI X target iter Wi)(hg:∀pins s3 H ex,VG (blk X pins scope (caps++own) s3 H ex) target G)(ht:∀pins s3 H ex,VT (blk X pins scope (caps++own) s3 H ex) cnd Wt)(he:∀pins s3 H ex,VE (blk X pins scope (caps++own) s3 H ex) elt We)(hix:caps.length=ix.length:=by rfl)(hcapB:(caps.zip ix).all (λp=>X.N[p.2]?==some p.1)=true:=by rfl)(hs:∀x,Zn iter X.env x=pure x:=by intro _;rfl):VF X (.ListComp elt [⟨target,iter,[cnd],0⟩] scope pos) (qwu ix own.length Wi G Wt We) :=
  (zie (g:=qov X.K G) (tt:=qyi X.K Wt) (te:=qdc X.K We) hc S hi hg he ht hix hcapB hs).imp λ_ _ _ h=>qyr h
end
def zzb(k:Bool):Value->Bool
 |.bool b=>b==k
 |_=>false
def zgf:∀{bs:List Bool}{us:List Value},Vals (bs.map V.bl) us->us=bs.map Qdp
 |[],_,.nil=>rfl
 |b::bs,_,.cons r t=>by
  cases r;rw[zgf t];rfl
section
variable{X:Cx}
def zjj:MtM X "list.index" (λx vs H Q =>∃(a:Addr)(bs:List Bool)(k:Bool)(j:Nat),x = .ref a/\vs=[.bl k]/\SqL X.K H a (bs.map V.bl)/\bs[j]?=some k/\(∀m,m<j->bs[m]?≠some k)/\Q (.int (j:Nat)) H):=by
 intro pins s σ H x vs v us Q I rx rv h;obtain⟨a,bs,k,j,rfl,rfl,hs,hj,hno,q⟩:=h;cases rx;obtain⟨u,rfl,ru⟩:=rv.one;cases ru;obtain⟨its,r,⟨⟨cls,dd,data,sl⟩,n,e,hc,hd,hdt⟩,hz⟩:=I.list hs;simp only at hc hd hdt;subst hc hd hdt;have ei:=zgf r;subst ei;have hjl:=(Q6.mp hj).1;have hjs:j<(bs.map Qdp).toArray.size:=by simpa using hjl
 refine Qac F.slot_list_index ⟨_,e,rfl⟩ F.entry_list_index (F.args_list_index_2 _ _) (SeqAt.list_indexAt a (bs.map Qdp).toArray n none sl (.bool k) (zzb k) j hjs ?_ ?_ ?_) ⟨e,λy hy=>?_,?_⟩
 ·have hz':bs.length<=Qo:=by simpa using hz
  have:Qo<2^62:=by decide
  omega
 ·have:=(Q6.mp hj).2;simp[zzb,this]
 ·intro m hm hmj;have hml:m<bs.length:=by simpa using hm
  have:=hno m hmj;rw[Qp hml]at this;have h2:bs[m]≠k:=λz=>this (by rw[z]);simp[zzb,h2]
 ·have hy':y∈bs.map Qdp:=by simpa using hy
  obtain⟨b,_,rfl⟩:=Q1.mp hy';exact Qhl b k
 ·exact⟨.int (j:Nat),H,I.tok _,⟨_,rfl⟩,q⟩
end
def zff{K:Qa}:∀{bs:List Bool}{xs:List V},Iss K F (bs.map Qbi) xs->xs=bs.map V.bl
 |[],_,h=>h.nil_inv
 |b::bs,_,h=>by obtain⟨y,ys,rfl,p,q⟩:=h.cons_inv;rw[p.bl_inv,zff q];rfl
section
variable{X:Cx}{e:Expr}{We:WE}{pos:Pos}
def zvn(i:Nat)(f:Qh->Qh->(Qh->Prop)->Prop)(W:WE):WE:=λenv Q =>∃l,gS env i = .val (.list l)/\W env λd e=>f (.list l) d λr=>Q r e
def zgg:Qh->Qh->(Qh->Prop)->Prop:=λl d q =>∃(bs:List Bool)(k:Bool)(j:Nat),l = .list (bs.map .bool)/\d = .bool k/\bs[j]?=some k/\(∀m,m<j->bs[m]?≠some k)/\q (.int (j:Nat))
variable{x:Str}{px apos cpos:Pos}
def zia(i:Nat)(he:VE X e We)(hN:X.N[i]?=some x:=by rfl)(hv:Vis X.env.scope x:=by first|exact Yi rfl|exact Zt (Yi rfl)|exact Zt (Zt rfl))(hd:Nd0 x:=by decide)(hcd:Nd1 x:=by decide)(hbase:Z2 (.Name x px) "index" X.env (eval (.Name x px) X.env)=eval (.Name x px) X.env:=by rfl)(hfew:((Z5 cpos (Qi [e] X.env)).all (λx => !x.1)&&(Qai cpos (Ve [] X.env)).all (λx=>x.1.isSome)&&decide ([e].length+([]:List Jj).length+(if([]:List Jj).isEmpty then 0 else 1)<30))=true:=by rfl)(hline:(apos.endLine==cpos.line)=true:=by rfl)(hst:Qi [e] X.env=(false,eval e X.env)::Qi [] X.env:=by rfl)(hplain:(Z5 cpos (Qi [] X.env)).any (·.1)=false:=by rfl):
 VE X (.Call (.Attribute (.Name x px) "index" apos) [e] [] cpos) (zvn i zgg We) :=
 (qtw Qfp PySem.F.slot_list_index PySem.F.type_list_index zjj (qbo hN hv hd hcd) (qF he qar hst) hbase hfew hline hst hplain).imp λσ H R xx175=>by
  obtain⟨M,env,F,Q,I,⟨l,hm,h⟩,k⟩:=xx175;have S:=I.slot i;rw[hm]at S;obtain⟨v,ev,jv⟩:=S;obtain⟨a,xs,rfl,hs,hr⟩:=jv.lst_inv;refine⟨_,qcf ev,.inl ⟨rfl,xs,I.fh.seq hs⟩,M,env,F,_,I,h,λd v F1 H1 e1 I1 s1 i1 h1=>?_⟩;obtain⟨bs,kb,j,el,rfl,hj,hno,q⟩:=h1;cases el;have ex:=zff hr;subst ex;exact⟨a,bs,kb,j,rfl,by rw[i1.bl_inv],(s1.trans I1.fh).seq hs,hj,hno,k _ _ F1 H1 e1 I1 s1 (qaq _) q⟩
end
section
variable{prog:Zk}{w:World}{A:Z1}{E:Value->Ql->Prop}{s:Ql}
end
section
variable{X:Cx}{elts:List Expr}{x1:Nat}{tpos:Pos}
end
section
variable{X:Cx}{a:Expr}{W:WE}{p pos:Pos}
variable{e1 e2:Expr}{W1 W2:WE}
end
section
variable{X:Cx}
end
section
variable{P:Zk}{w:World}{K:Qa}{mg:Str->Option Value}{base:Heap}
end
section
variable{X:Cx}{elt target iter cnd:Expr}{scope:Scope}{pos:Pos}{caps own:List Str}{ix:List Nat}{wi:TI}{g:TG}{te:TE}{tt:TT}
end
section
variable{X:Cx}{elt target iter cnd:Expr}{scope:Scope}{pos py spos:Pos}{caps own:List Str}{ix:List Nat}{Wi:WF}{G:WG}{Wt:WT}{We:WE}{i:Nat}{y:Str}
end
section
variable{κ:Type}[DecidableEq κ]
def valV(kvs:List (κ×V))(k:κ):Option V:=(kvs.find? λkv=>decide (kv.1=k)).map (·.2)
def qkb(kvs:List (κ×V))(k:κ)(v:V):List (κ×V) :=
 if(kvs.any λkv=>decide (kv.1=k))=true then kvs.map (λkv=>if kv.1=k then(kv.1,v)else kv)else kvs++[(k,v)]
def qhu{k:κ}(e:p.1=k):valV (p::r) k=some p.2:=by simp[valV,Ju,e]
theorem qhr{k:κ}(e : ¬ p.1=k):valV (p::r) k=valV r k:=by simp[valV,Ju,e]
def qlp(k:κ):∀kvs:List (κ×V),(kvs.any λkv=>decide (kv.1=k))=(valV kvs k).isSome
 |[]=>rfl
 |p::r=>by
  rw[Jl];by_cases e:p.1=k
  ·simp only[qhu e,decide_eq_true e,Qjn,Qee]
  ·rw[qhr e,decide_eq_false e,Qih];exact qlp k r
theorem qhg(kvs:List (κ×V))(k:κ)(v:V):(qkb kvs k v).length<=kvs.length+1:=by
 unfold qkb;grind
def znf{k:κ}(v:V)(h:valV kvs k=none):qkb kvs k v=kvs++[(k,v)]:=by
 unfold qkb;rw[qlp,h];grind
def RelO.isSome_eq(r:RelO o u):o.isSome=u.isSome:=by
 cases o with
 |none=>cases u with
  |none=>rfl
  |some _=>exact(show False from r).elim
 |some _=>cases u with
  |none=>exact(show False from r).elim
  |some _=>rfl
def KV.val(r:KV kvs vs)(k:κ):RelO (valV kvs k) (Qcf vs k):=by
 unfold KV at r
 induction r with
 |nil=>exact Vh
 | @cons p q ps qs h t ih =>
  obtain⟨h1,h2⟩:=h;by_cases e:p.1=k
  ·have e':q.1=k:=h1.symm.trans e;have b:Qcf (q::qs) k=some q.2:=by simp[Qcf,Ju,e']
   rw[qhu e,b];exact h2
  ·have e' : ¬ q.1=k:=λz=>e (h1.trans z);have b:Qcf (q::qs) k=Qcf qs k:=by simp[Qcf,Ju,e']
   rw[qhr e,b];exact ih
def KV.any(r:KV kvs vs)(k:κ):(kvs.any λkv=>decide (kv.1=k))=vs.any λkv=>decide (kv.1=k):=by
 unfold KV at r
 induction r with
 |nil=>rfl
 |cons h t ih=>rw[Jl,Jl,ih,h.1]
def KV.repl(r:KV kvs vs)(k:κ)(ry:RelV y u):
 KV (kvs.map λkv=>if kv.1=k then(kv.1,y)else kv) (vs.map λkv=>if kv.1=k then(kv.1,u)else kv):=by
  unfold KV at r ⊢
  induction r with
  |nil=>exact .nil
  | @cons p q ps qs h t ih =>
   rw[Qr,Qr];refine .cons ?_ ih;obtain⟨h1,h2⟩:=h;by_cases e:p.1=k
   ·rw[if_pos e,if_pos (h1.symm.trans e)];exact⟨h1,ry⟩
   ·rw[if_neg e,if_neg (λz=>e (h1.trans z))];exact⟨h1,h2⟩
def KV.put(r:KV kvs vs)(k:κ)(ry:RelV y u):KV (qkb kvs k y) (stored vs k u):=by
 unfold qkb stored;rw[r.any k];by_cases e:(vs.any λkv=>decide (kv.1=k))=true
 ·rw[if_pos e,if_pos e];exact r.repl k ry
 ·rw[if_neg e,if_neg e];exact Qmf r ⟨rfl,ry⟩
theorem KV.length{vs:List (κ×Value)}(r:KV kvs vs):kvs.length=vs.length:=Qfn r
end
def qxl(r:RelV (kV k) u):(qao P w).is k u=true:=by
 cases k with
 |inl i=>obtain⟨t,e⟩:=(show∃t,u=Qkk i t from r);grind[qyt]
 |inr x=>obtain⟨t,e⟩:=(show∃t,u=Qdr x t from r);grind[qhd]
theorem qun:∀{ks:List Key}{us:List Value},Vals (ks.map kV) us->ItemsAre (qao P w) ks us
 |[],_,r=>by rw[Qbl]at r;cases r;exact .nil
 |k::ks,_,r=>by
  rw[Qr]at r;cases r with
  |cons h t=>exact .cons (qxl h) (qun t)
abbrev KT(H:Hp):List (List Key×V)->List (List Key×Addr×Value)->Prop:=Paired λp q=>p.1=q.1/\H q.2.1=some (.tup (p.1.map kV))/\RelV p.2 q.2.2
def KT.val(r:KT H kvs xs)(k:List Key):RelO (valV kvs k) ((atKey xs k).map (·.2)):=by
 induction r with
 |nil=>exact Vh
 | @cons p q ps qs h t ih =>
  obtain⟨h1,_,h2⟩:=h;by_cases e:p.1=k
  ·have e':q.1=k:=h1.symm.trans e;have b:atKey (q::qs) k=some q.2:=by simp[atKey,Ju,e']
   rw[qhu e,b];exact h2
  ·have e' : ¬ q.1=k:=λz=>e (h1.trans z);have b:atKey (q::qs) k=atKey qs k:=by simp[atKey,Ju,e']
   grind[qhr]
def KT.repl(r:KT H kvs xs)(k:List Key)(ry:RelV y u):
 KT H (kvs.map λkv=>if kv.1=k then(kv.1,y)else kv) (xs.map (putAt k u)):=by
  induction r with
  |nil=>exact .nil
  | @cons p q ps qs h t ih =>
   rw[Qr,Qr];refine .cons ?_ ih;obtain⟨h1,h2,h3⟩:=h;unfold putAt;grind
def KT.put(r:KT H kvs xs)(k:List Key)(hb:H b=some (.tup (k.map kV)))(ry:RelV y u):
 KT H (qkb kvs k y) (storedH xs k b u):=by
  have e:(kvs.any λkv=>decide (kv.1=k))=(atKey xs k).isSome:=by
   rw[qlp,(r.val k).isSome_eq,Qjb]
  unfold qkb storedH;rw[e];by_cases q:(atKey xs k).isSome=true
  ·rw[if_pos q,if_pos q];exact r.repl k ry
  ·rw[if_neg q,if_neg q];grind[Qmf]
def KT.keeps(r:KT H kvs xs)(ht:∀b ys,H b=some (.tup ys)->H' b=some (.tup ys)):KT H' kvs xs :=
 Paired.mapP r λ_ _ z=>⟨z.1,ht _ _ z.2.1,z.2.2⟩
section
variable{P:Zk}{w:World}{H:Hp}{h:Heap}{a:Addr}
def zvm(ok:HOk P w H h)(e:Rd H a u):ObjOk P w H h a u:=e.ok ok
def qxj(ok:HOk P w H h)(e:Rd H a (.dK kvs)):kvs.length<=Qo/\(a==V4)=false /\ ∃vs,KV kvs vs/\h.DictOf (qao P w) a vs :=
 show ObjOk P w H h a (.dK kvs) from zvm ok e
def xam(ok:HOk P w H h)(e:H a=some (.dK kvs)):kvs.length<=Qo/\(a==V4)=false /\ ∃vs,KV kvs vs/\h.DictOf (qao P w) a vs:=qxj ok (.inl e)
theorem qtd(ok:HOk P w H h)(e:H a=some (.tup (ks.map kV))):(Qhd (qao P w)).is h ks a:=by
 obtain⟨_,its,r,o,h1,h2,n,h3⟩:=(show ObjOk P w H h a (.tup (ks.map kV)) from ok a _ e)
 exact⟨o,its.toArray,n,h1,h2,h3,by grind[qun]⟩
def zce(ok:HOk P w H h)(e:Rd H a (.dT kvs)):kvs.length<=Qo/\(a==V4)=false /\
 ∃xs,KT H kvs xs/\h.DictOfH (Qhd (qao P w)) a xs:=by
  obtain⟨z,y,xs,r,o,es,ep,h1,h2,h3,h4,h5⟩:=(show ObjOk P w H h a (.dT kvs) from zvm ok e)
  refine⟨z,y,xs,r,o,es,ep,h1,h2,h3,h4,λx hx=>?_,h5⟩;have all:∀{l:List (List Key×V)}{m:List (List Key×Addr×Value)},KT H l m ->∀x∈m,(Qhd (qao P w)).is h x.1 x.2.1:=by
   intro l m q
   induction q with
   |nil=>grind
   | @cons p q ps qs hq t ih =>
    grind[qtd]
  grind
def zjq(ok:HOk P w H h)(e:H a=some (.dT kvs)):kvs.length<=Qo/\(a==V4)=false /\
 ∃xs,KT H kvs xs/\h.DictOfH (Qhd (qao P w)) a xs:=zce ok (.inl e)
end
def DGet(H:Hp)(a:Addr)(y:V)(r:Option V):Prop :=
 (∃kvs k,Rd H a (.dK kvs)/\y=kV k/\r=valV kvs k) \/ ∃kvs k b,Rd H a (.dT kvs)/\y = .ref b/\H b=some (.tup (k.map kV))/\r=valV kvs k
def DPut(H:Hp)(a:Addr)(y v:V)(H':Hp):Prop :=
 (∃kvs k,H a=some (.dK kvs)/\y=kV k/\kvs.length<Qo/\H'=upd H a (.dK (qkb kvs k v))) \/
 ∃kvs k b,H a=some (.dT kvs)/\y = .ref b/\H b=some (.tup (k.map kV))/\kvs.length<Qo/\H'=upd H a (.dT (qkb kvs k v))
def DGet.k{k:Key}(e:H a=some (.dK kvs)):DGet H a (kV k) (valV kvs k) :=.inl ⟨kvs,k,.inl e,rfl,rfl⟩
def DPut.k{k:Key}(e:H a=some (.dK kvs))(hl:kvs.length<Qo):DPut H a (kV k) v (upd H a (.dK (qkb kvs k v))) :=.inl ⟨kvs,k,e,rfl,hl,rfl⟩
section
variable{X:Cx}{pins:List (Addr×Obj)}{σ:St}{H:Hp}{s:Ql}{a:Addr}{y v:V}{u r:Value}{o:Option V}{A:Z1}{E:Value->Ql->Prop}
def Inv.big(I:Inv X pins σ H s):V4<s.heap.objs.size:=by
 have h:Zg<s.heap.objs.size:=(I.mod.glob.keeps I.bk).lt;exact Z7 (by decide) h
def ziq(hu:A.units+1<cLine)(I:Inv X pins σ H s)(g:DGet H a y (some v))(ry:RelV y u)(h:∀w' s',Inv X pins σ H s'->RelV v w'->Q w' s'):
 wpAny (model X.prog X.w) A (Qky (.ref a) u) Q E s:=by
  rcases g with⟨kvs,k,e,ey,l⟩|⟨kvs,k,b,e,ey,eb,l⟩
  ·subst ey;obtain⟨z,hd,vs,rel,dd⟩:=qxj I.hok e;obtain⟨w',hw,rw'⟩:=RelO.some_of (v:=v) (o:=Qcf vs k) (by rw[l];exact rel.val k);exact wpAny_getItem_of (qxl ry) dd.mapOf hw (h w' _ (I.tok _) rw')
  ·subst ey;cases(show u=Zo b from ry);obtain⟨z,hd,xs,rel,dd⟩:=zce I.hok e;obtain⟨w',hw,rw'⟩:=RelO.some_of (v:=v) (o:=(atKey xs k).map (·.2)) (by rw[l];exact rel.val k);obtain⟨p,hp,hp2⟩:=Qgf.mp hw;refine wpAny_getItem_heap (Qce hu) (qtd I.hok eb) dd hp ?_;rw[hp2];exact h w' _ (I.tok _) rw'
def zqi(hu:A.units+1<cLine)(I:Inv X pins σ H s)(g:DGet H a y o)(ry:RelV y u)(h:∀s',Inv X pins σ H s'->Q (.bool (!o.isSome)) s'):
 wpAny (model X.prog X.w) A (Zs .NotIn u (.ref a)) Q E s:=by
  rcases g with⟨kvs,k,e,ey,l⟩|⟨kvs,k,b,e,ey,eb,l⟩
  ·subst ey;obtain⟨z,hd,vs,rel,dd⟩:=qxj I.hok e;refine wpAny_notIn_of (qxl ry) hd dd.mapOf ?_;rw[<- (rel.val k).isSome_eq,<- l];exact h _ (I.tok _)
  ·subst ey;cases(show u=Zo b from ry);obtain⟨z,hd,xs,rel,dd⟩:=zce I.hok e;refine wpAny_notIn_heap (Qce hu) (qtd I.hok eb) hd dd ?_;have q:=(rel.val k).isSome_eq;rw[Qjb]at q;rw[<- q,<- l];exact h _ (I.tok _)
def qwz(I:Inv X pins σ H s)(mu:Mut (H a))(hs:Y4 a s.heap h')(he:∃q,h'.get? a=some q)(new:ObjOk X.prog X.w (upd H a ob) h' a ob):
 Inv X pins σ (upd H a ob) { s with heap:=h',toks:=t' } :=
  I.write (x:=a) (e:=a) mu (.inl rfl) (λb q hb z=>(hs.2 b hb).trans z) he new
def zxg(z:kvs.length<=Qo)(hd:(a==V4)=false)(rel:KV kvs vs)(dd:h'.DictOf (qao P w) a vs):
 ObjOk P w H' h' a (.dK kvs):=⟨z,hd,vs,rel,dd⟩
def zjc(hu:A.units+1<cLine)(I:Inv X pins σ H s)(g:DPut H a y v H')(ry:RelV y u)(rv:RelV v r)(h:∀s',Inv X pins σ H' s'->Q () s'):
 wpAny (model X.prog X.w) A (setItem (.ref a) u r) Q E s:=by
  rcases g with⟨kvs,k,e,ey,l,eH⟩|⟨kvs,k,b,e,ey,eb,l,eH⟩
  ·subst ey eH;obtain⟨z,hd,vs,rel,dd⟩:=xam I.hok e;have hz:vs.length<=Qo:=by rw[<- rel.length];exact z
   have hl:(qkb kvs k v).length<=Qo:=by have:=qhg kvs k v;omega
   refine wpAny_setItem_pairs (hsz:=hz) (qxl ry) dd λh' dd' hs=>h _ ?_;have he:∃q,h'.get? a=some q:=let ⟨q,_,_,hq,_⟩:=dd'; ⟨q,hq⟩;exact qwz I (by rw[e];exact Vh) hs he (zxg hl hd (rel.put k rv) dd')
  ·subst ey eH;cases(show u=Zo b from ry);obtain⟨z,hd,xs,rel,dd⟩:=zjq I.hok e;have hz:xs.length<=Qo:=by rw[<- Qfn rel];exact z
   have hl:(qkb kvs k v).length<=Qo:=by have:=qhg kvs k v;omega
   refine wpAny_setItem_heap (hsz:=hz) (Qce hu) (qtd I.hok eb) dd λh' dd' hs=>h _ ?_;obtain⟨q,es,ep,hq,h2,h3,h4,_,h5⟩:=dd';refine qwz I (by rw[e];exact Vh) hs ⟨q,hq⟩ ⟨hl,hd,_,(rel.put k eb rv).keeps λc ys ec=>?_,q,es,ep,hq,h2,h3,h4,h5⟩;rw[qo (zvq ec e (λz=>nomatch z))];exact ec
end
section
variable{X:Cx}{pins:List (Addr×Obj)}{σ:St}{H:Hp}{s:Ql}{a:Addr}{kvs:List (Key×V)}{k:Key}{u:Value}{A:Z1}{E:Value->Ql->Prop}
def xbz(I:Inv X pins σ H s)(e:Rd H a (.dK kvs))(h:∀t s',Inv X pins σ H s'->Q (.int kvs.length t) s'):wpAny (model X.prog X.w) A (call (.builtin "len") [.ref a]) Q E s:=by
 obtain⟨z,hd,vs,rel,dd⟩:=qxj I.hok e;refine call_len_dict hd dd (by rw[<- rel.length];rw[Yb]at z;omega) ?_;rw[<- rel.length];exact h _ _ (I.tok _)
end
def zvu(i:Expr):Prop :=∀ov iv,Qia i false ov iv=operate [ov,iv] (Qky ov iv)
def zfg{T id:String}(hl:typeLookup (.type T) "__getitem__" = pure (some (.builtin id)))(hs:zvu slice)(h:wpAny (model prog w) A (eval value env) (λo s₁=>wpAny (model prog w) A (eval slice env) (λi s₂=>s₂.TypeIs o T/\wpAny (model prog w) A (Qky o i) Q E s₂) E s₁) E s):
 wpAny (model prog w) A (eval (.Subscript value slice pos) env) Q E s:=by
  refine Subscript_ (Zu h (λo s₁ h₁=>Zu h₁ (λi s₂ h₂=>?_) λ_ _ x=>x) λ_ _ x=>x);obtain⟨hT,h₂⟩:=h₂;unfold Qip;refine Qe ?_;rw[getitemInPython_of_ne hT.not_modules];refine Qe (wpAny_specialOf hT hl ?_);have fin:wpAny (model prog w) A (Qia slice false o i) (λr s₃=>wpAny (model prog w) A (letTemporaryGo value o r >>= λ_=>pure r) Q E s₃) E s₂:=by
   rw[hs o i];exact wpAny_operating (Zu h₂ (λr s₃ h₃=>Qe (wpAny_letTemporaryGo (Qx h₃))) λ_ _ x=>x)
  first
   |exact Qx (Qe fin)
   |exact Qe (Qx (Qe fin))
   |exact Qe fin
def qyw{σ:St}(I:Inv X pins σ H s)(g:DGet H a y o):s.TypeIs (.ref a) "dict":=by
 rcases g with⟨kvs,k,e,_,_⟩|⟨kvs,k,b,e,_,_,_⟩
 ·obtain⟨_,_,vs,_,dd⟩:=qxj I.hok e;exact dd.typeIs
 ·obtain⟨_,_,xs,_,dd⟩:=zce I.hok e;exact dd.typeIs
def xaa(td ty:TE):TE:=λσ H Q=>td σ H λx H1=>ty σ H1 λy H2 =>∃a v,x = .ref a/\DGet H2 a y (some v)/\Q v H2
def zpw(ty td:TE):TE:=λσ H Q=>ty σ H λy H1=>td σ H1 λx H2 =>∃a o,x = .ref a/\DGet H2 a y o/\Q (.bl (!o.isSome)) H2
def xbj(td ty tv:TE):TS:=λD σ H=>tv σ H λv H1=>td σ H1 λx H2=>ty σ H2 λy H3 =>∃a H4,x = .ref a/\DPut H3 a y v H4/\D.nx σ H4
section
variable{X:Cx}{o i e value:Expr}{pos pos' tpos:Pos}{td ty tv:TE}
def zrb(hu:X.A.units+1<cLine)(ho:PE X o td)(hi:PE X i ty)(hs:zvu i):PE X (.Subscript o i pos) (xaa td ty):=by
 intro pins s σ H Q I h;refine zfg Qeq.lookup hs (thn (ho pins s σ H _ I h) λu s1 ⟨x,H1,I1,rx,q1⟩=>thn (hi pins s1 σ H1 _ I1 q1) λiv s2 xx176=>?_);obtain⟨y,H2,I2,ry,a,v,ex,g,q2⟩:=xx176;subst ex;obtain rfl:u=Zo a:=rx;exact⟨qyw I2 g,ziq hu I2 g ry λw' s3 I3 rw'=>⟨v,H2,I3,rw',q2⟩⟩
def zgt(hu:X.A.units+1<cLine)(hi:PE X i ty)(ho:PE X o td):PC X .NotIn i o (zpw ty td):=by
 intro pins s σ H Q I h;refine thn (hi pins s σ H _ I h) λiv s1 ⟨y,H1,I1,ry,q1⟩=>thn (ho pins s1 σ H1 _ I1 q1) λu s2 xx178=>?_;obtain⟨x,H2,I2,rx,a,ov,ex,g,q2⟩:=xx178;subst ex;obtain rfl:u=Zo a:=rx;exact zqi hu I2 g ry λs3 I3=>⟨.bl (!ov.isSome),H2,I3,rfl,q2⟩
def ztq(hu:X.A.units+1<cLine)(ho:PE X o td)(hi:PE X i ty)(hv:PE X value tv)(hs:V8 value (some (.Subscript o i pos')) pos.line X.env=pure false):
 PS X (.Assign [.Subscript o i pos'] value pos) (xbj td ty tv):=by
  intro pins s σ H D I h;refine wpAny_Assign_Subscript (thn (hv pins s σ H _ I h) λr s1 ⟨v,H1,I1,rv,q1⟩=>thn (ho pins s1 σ H1 _ I1 q1) λu s2 ⟨x,H2,I2,rx,q2⟩=>thn (hi pins s2 σ H2 _ I2 q2) λiv s3 xx180=>?_) hs;obtain⟨y,H3,I3,ry,a,H4,ex,g,q3⟩:=xx180;subst ex;obtain rfl:u=Zo a:=rx;exact zjc hu I3 g ry rv λs4 I4=>⟨σ,H4,I4,q3⟩
end
def zkj(h:Heap)(hb:V4<h.objs.size):ObjOk P w H (h.push { cls :=.type "dict",data :=.dict #[] }) h.objs.size (.dK []) :=
 ⟨Vb _,beq_eq_false_iff_ne.mpr (Y9 (Q3 hb)),[],.nil,Heap.DictOf.new h⟩
def znp(h:Heap)(hb:V4<h.objs.size):ObjOk P w H (h.push { cls :=.type "dict",data :=.dict #[] }) h.objs.size (.dT []) :=
 ⟨Vb _,beq_eq_false_iff_ne.mpr (Y9 (Q3 hb)),[],.nil,_,#[],0,Qq _ rfl,⟨rfl,rfl,rfl⟩,rfl,rfl,Qht⟩
def zys:TE:=λ_ H Q =>∀p,H p=none->Q (.ref p) (upd H p (.dK []))
def zxk:TE:=λ_ H Q =>∀p,H p=none->Q (.ref p) (upd H p (.dT []))
section
variable{X:Cx}{pos:Pos}
def zlf:PE X (.Dict [] [] pos) zys:=λpins s σ H Q I h =>
 wpAny_Dict_empty ⟨.ref s.heap.objs.size,_,I.laid (a:=s.heap.objs.size) (o :=.dK []) (t':=s.toks) (λ_ _ q=>Qf _ q) (Qn _) (zkj s.heap I.big),rfl,h _ (I.hok.fresh (Qn _))⟩
def zlp:PE X (.Dict [] [] pos) zxk:=λpins s σ H Q I h =>
 wpAny_Dict_empty ⟨.ref s.heap.objs.size,_,I.laid (a:=s.heap.objs.size) (o :=.dT []) (t':=s.toks) (λ_ _ q=>Qf _ q) (Qn _) (znp s.heap I.big),rfl,h _ (I.hok.fresh (Qn _))⟩
end
structure M2(X:Cx)(o:Expr)(m:Str)(apos:Pos)(e f:Expr)(cpos:Pos):Prop where
 base:Z2 o m X.env (eval o X.env)=eval o X.env
 few:((Z5 cpos (Qi [e,f] X.env)).all (λx => !x.1)&&(Qai cpos (Ve [] X.env)).all (λx=>x.1.isSome)
  && decide (([e,f]:List Expr).length+([]:List Jj).length+(if([]:List Jj).isEmpty then 0 else 1)<30))=true
 line:(apos.endLine==cpos.line)=true
 trees:Z5 cpos (Qi [e,f] X.env)=[(false,eval e X.env),(false,eval f X.env)]
def IsD(H:Hp)(a:Addr):Prop:=(∃kvs,Rd H a (.dK kvs)) \/ ∃kvs,Rd H a (.dT kvs)
def zpe{σ:St}(I:Inv X pins σ H s)(d:IsD H a):
 s.TypeIs (.ref a) "dict" /\ (∀b,Zo a = .ref b ->∃ob,s.heap.get? b=some ob/\ob.dict=none)/\(a==V4)=false:=by
  rcases d with⟨kvs,e⟩|⟨kvs,e⟩
  ·obtain⟨_,hd,vs,_,dd⟩:=qxj I.hok e;refine⟨dd.typeIs,λb q=>?_,hd⟩;cases q;obtain⟨ob,_,_,h1,h2,_⟩:=dd;exact⟨ob,h1,h2.2.1⟩
  ·obtain⟨_,hd,xs,_,dd⟩:=zce I.hok e;refine⟨dd.typeIs,λb q=>?_,hd⟩;cases q;obtain⟨ob,_,_,h1,h2,_⟩:=dd;exact⟨ob,h1,h2.2.1⟩
section
variable{X:Cx}{pins:List (Addr×Obj)}{σ:St}{H:Hp}{s:Ql}{a:Addr}{y d:V}{u r:Value}{o:Option V}{A:Z1}{E:Value->Ql->Prop}
end
section
variable{X:Cx}{o e f:Expr}{apos cpos:Pos}{td ty tx:TE}
end
section
variable{X:Cx}
def zzq:D2
 |.str x,.int n,q=>MulOk x n/\q (.str (Qjc x n))
 |_,_,_=>False
def zrd:OpR X (Jn .Mult) (λx y H Q =>∃z n,x = .str z/\y = .int n/\MulOk z n/\Q (.str (Qjc z n)) H):=by
 intro pins s σ H x y v u Q I rx ry h;obtain⟨z,n,rfl,rfl,ok,q⟩:=h;obtain⟨t,rfl⟩:=rx;obtain⟨t2,rfl⟩:=ry;exact SB.mul ok λt' k=>⟨.str _,H,I.tok _,⟨_,rfl⟩,q⟩
def zwl:OpV X (Jn .Mult) zzq:=zrd.imp λx y H Q xx183=>by
 obtain⟨F,dx,dy,q,s,i1,i2,h,k⟩:=xx183;cases dx with
 |str z =>
  cases dy with
  |int n=>exact⟨z,n,by unfold Is at i1;exact i1,i2.int_inv,h.1,k _ _ F H (.refl s) (qeh _) h.2⟩
  |_=>exact(show False from h).elim
 |_=>exact(show False from h).elim
end
structure OkM(P:Zk)(w:World)(K:Qa)(mg:Str->Option Value)(base:Heap)(C:Addr)(m:Str)(k:Nat)(ps:List Str)(sp:Sp):Prop where
 ex:∃(f:Addr)(fd:J5),FnOk P w K mg base CX0 k f fd ps sp/\Meth K C m f/\Binds K fd ps []
structure MDef(K:Qa)(C:Addr)(m qual:Str)(st:Stmt)(ps:List Str):Prop where
 ex:∃(f:Addr)(fd:J5),Fun K m qual st f fd/\Meth K C m f/\Binds K fd ps []
section
variable{P:Zk}{w:World}{K:Qa}{mg:Str->Option Value}{base:Heap}
end
section
variable{X:Cx}
def VE.pe(h:VE X e W):PE X e (qdc X.K W):=h
def VT.pt(h:VT X e W):PT X e (qyi X.K W):=h
end
mutual
def qyj:Qh->Bool
 |.list _=>false
 |.dict _=>false
 |.tuple l=>qtj l
 |_=>true
def qtj:List Qh->Bool
 |[]=>true
 |d::l=>qyj d&&qtj l
end
mutual
def Is.off{K:Qa}{F:Hp}{a:Addr}{xs:List V}(hF:F a=some (.lst xs)):∀{d:Qh}{v:V},qyj d=true->Is K F d v->Is K (qiv F a) d v
 |.none,_,_,h=>by unfold Is at h ⊢;exact h
 |.bool _,_,_,h=>by unfold Is at h ⊢;exact h
 |.int _,_,_,h=>by unfold Is at h ⊢;exact h
 |.str _,_,_,h=>by unfold Is at h ⊢;exact h
 |.list l,_,z,h=>by simp[qyj]at z
 |.dict l,_,z,h=>by simp[qyj]at z
 |.tuple l,_,z,h=>by
  unfold Is at h ⊢;obtain⟨b,ys,e,q,r⟩:=h;refine⟨b,ys,e,?_,Iss.off hF (by simpa[qyj]using z) r⟩;rcases q with q|q
  ·refine .inl ?_;rcases q with q|⟨o,q⟩
   ·refine .inl ?_;unfold qiv;rw[if_neg (λy=>by subst y;rw[hF]at q;cases q)];exact q
   ·refine .inr ⟨o,?_⟩;unfold qiv;rw[if_neg (λy=>by subst y;rw[hF]at q;cases q)];exact q
  ·exact .inr q
def Iss.off{K:Qa}{F:Hp}{a:Addr}{xs:List V}(hF:F a=some (.lst xs)):∀{l:List Qh}{vs:List V},qtj l=true->Iss K F l vs->Iss K (qiv F a) l vs
 |[],_,_,h=>by unfold Iss at h ⊢;exact h
 |d::l,_,z,h=>by
  unfold Iss at h ⊢;obtain⟨x,r,e,p,q⟩:=h;have z':qyj d=true/\qtj l=true:=by simpa[qtj]using z
  exact⟨x,r,e,Is.off hF z'.1 p,Iss.off hF z'.2 q⟩
end
section
variable{X:Cx}
end
def zez(g:Go F H F' H')(h:H a=some o)(f:F a=none):F' a=none:=by
 cases e:F' a with
 |none=>rfl
 |some u =>
  rcases g.new a u e with q|q
  ·grind
  grind
section
variable{K:Qa}{M:Frm}{F H:Hp}
def Slots(K:Qa)(M:Frm)(F H:Hp):Sto->St->Prop
 |[],σ=>σ=[]
 |s::e,σ =>∃x r,σ=x::r/\(SlotOk K M F H s x/\s.mut=false)/\Slots K M F H e r
def Slots.len:∀{e:Sto}{σ:St},Slots K M F H e σ->e.length=σ.length
 |[],σ,h=>by
  have h:σ=[]:=h;subst h;rfl
 |s::e,σ,h=>by
  obtain⟨x,r,rfl,_,h⟩:=h;rw[Zl,Zl,Slots.len h]
def Slots.at:∀{e:Sto}{σ:St},Slots K M F H e σ ->∀i,SlotOk K M F H (gS e i) (vS σ i)/\(gS e i).mut=false
 |[],σ,h,i=>by
  rw[qtt (Vb _)];exact⟨trivial,rfl⟩
 |s::e,σ,h,0=>by
  obtain⟨x,r,rfl,q,h⟩:=h;exact q
 |s::e,σ,h,i+1=>by
  obtain⟨x,r,rfl,q,h⟩:=h;have e1:vS (x::r) (i+1)=vS r i:=by unfold vS;grind
  rw[e1];exact Slots.at h i
def qxt(s:Same F H)(h:Slots K ⟨H,H,F⟩ F H env σ):EnvOk K ⟨H,H,F⟩ F H env σ where
 len:=h.len
 slot:=λi=>(h.at i).1
 dis:=λi j a _ m _ _ _=>by rw[(h.at i).2]at m;cases m
 f0 :=.refl _
 fe:=s
 fh:=s
 bh :=.refl _
 new:=λb o e => .inl e
 dom:=λb o e=>⟨o,e⟩
end
section
variable{X:Cx}
def VN.pe(h:VN X e W):PE X e (zjm X.K W):=h
def VI.pi(h:VI X tg e W):PI X tg e (zcm X.K W):=h
end
section
variable{X:Cx}{e:Expr}{We:WE}{pos:Pos}
end
def Iss.strs_inv{K:Qa}:∀{ns:List Str}{xs:List V},Iss K H (ns.map .str) xs->xs=ns.map V.str
 |[],_,h=>h.nil_inv
 |n::ns,_,h=>by
  obtain⟨y,ys,rfl,p,q⟩:=h.cons_inv;have e:y = .str n:=by unfold Is at p;exact p
  rw[e,Iss.strs_inv q];rfl
section
variable{X:Cx}
def xfd:D2:=λx y q =>∃(i:Str)(ns:List Str),x = .str i/\qaa y=some (ns.map .str)/\q (.bool (ns.any (· == i)))
def qsh(i:Str):∀ns:List Str,inV (.str i) (ns.map V.str)=ns.any (· == i)
 |[]=>rfl
 |n::ns=>by
  have:=qsh i ns;unfold inV at this ⊢;rw[Qr,Jl,Jl,this];rfl
def qub(ns:List Str):(ns.map V.str).all qll=true:=by
 rw[Q4];intro x hx;obtain⟨i,_,rfl⟩:=Q1.mp hx;rfl
def zzo:OpV X (Zs .In) xfd:=OpR.imp qut λx y H Q xx188=>by
 obtain⟨F,dx,dy,q,s,i1,i2,⟨i,ns,e1,e2,hq⟩,k⟩:=xx188;subst e1;have ex:x = .str i:=by unfold Is at i1;exact i1
 subst ex;have fin:=k _ _ F H (.refl s) (qci _) hq;cases dy with
 |list l =>
  cases e2;obtain⟨a,xs,rfl,hs,hr⟩:=i2.lst_inv;rw[hr.strs_inv]at hs;exact⟨a,_,rfl,.inl (s.seq hs),rfl,qub ns,by rw[qsh];exact fin⟩
 |tuple l =>
  cases e2;obtain⟨a,xs,rfl,hs,hr⟩:=i2.tup_inv;rw[hr.strs_inv]at hs;exact⟨a,_,rfl,.inr (qJ s hs),rfl,qub ns,by rw[qsh];exact fin⟩
 |_=>cases e2
end
section
variable{X:Cx}{pos:Pos}
end
mutual
def zcc:Qh->Bool
 |.list _=>false
 |.dict _=>false
 |.tuple l=>qyl l
 |_=>true
def qyl:List Qh->Bool
 |[]=>true
 |d::l=>zcc d&&qyl l
end
mutual
def zxz{K:Qa}{F:Hp}{a:Addr}{vs:List V}(h:F a=some (.lst vs)):∀{d:Qh}{v:V},zcc d=true->Is K F d v->Is K (qiv F a) d v
 |.none,_,_,i=>by unfold Is at i ⊢;exact i
 |.bool _,_,_,i=>by unfold Is at i ⊢;exact i
 |.int _,_,_,i=>by unfold Is at i ⊢;exact i
 |.str _,_,_,i=>by unfold Is at i ⊢;exact i
 |.list l,_,z,_=>by unfold zcc at z;cases z
 |.dict l,_,z,_=>by unfold zcc at z;cases z
 |.tuple l,_,z,i=>by
  unfold zcc at z;unfold Is at i ⊢;obtain⟨b,xs,e,q,r⟩:=i;refine⟨b,xs,e,?_,zfb h z r⟩;rcases q with(q|⟨o,q⟩)|q
  ·exact .inl (.inl (by unfold qiv;rw[if_neg (λc=>by rw[c,h]at q;cases q)];exact q))
  ·exact .inl (.inr ⟨o,by unfold qiv;rw[if_neg (λc=>by rw[c,h]at q;cases q)];exact q⟩)
  ·exact .inr q
def zfb{K:Qa}{F:Hp}{a:Addr}{vs:List V}(h:F a=some (.lst vs)):∀{l:List Qh}{xs:List V},qyl l=true->Iss K F l xs->Iss K (qiv F a) l xs
 |[],_,_,i=>by unfold Iss at i ⊢;exact i
 |d::l,_,z,i=>by
  unfold qyl at z;rw[Qy]at z;unfold Iss at i ⊢;obtain⟨x,r,e,p,q⟩:=i;exact⟨x,r,e,zxz h z.1 p,zfb h z.2 q⟩
end
section
variable{X:Cx}
end
section
variable{X:Cx}{Ex:St->XK}{a b:Expr}{rest:List Expr}{pos:Pos}{Wa Wx2:WX->WE}{Wb:WE}
def qzv(h:qlb X.K Ex (λWx=>wOp r (Wa Wx) Wb) σ H R):tOp (qty X.K r) (qlb X.K Ex Wa) (qdc X.K Wb) σ H R:=by
 obtain⟨M,env,F,Wx,Q,I,h,hx,k⟩:=h;exact⟨M,env,F,Wx,_,I,h,hx,λd v F1 H1 e1 I1 s1 i1 h1=>⟨M,e1,F1,_,I1,h1,λd2 v2 F2 H2 e2 I2 s2 i2 h2 =>
  ⟨F2,d,d2,_,I2.fh,i1.mono s2,i2,h2,λd3 v3 F3 H3 g i3 q=>k d3 v3 F3 H3 e2 (I2.go g) (s1.trans (s2.trans g.f)) i3 q⟩⟩⟩
def zyg(ha:VEX X Ex a Wa)(hb:VE X b Wb)(hs:qqx b:=by exact(λ_ _=>rfl)):VEX X Ex (.Subscript a b pos) (λWx=>wOp dIx (Wa Wx) Wb):=(zpt xdd ha hb hs).imp λ_ _ _ h=>qzv h
def zrv(ho:OpV X (Zs op) r)(ha:VEX X Ex a Wa)(hb:VE X b Wb)(hm:Vd op b=false:=by first|exact zds _|with_unfolding_all rfl):VEX X Ex (.Compare a [op] [b] pos) (λWx=>wOp r (Wa Wx) Wb) :=
 (zer ho ha hb hm).imp λ_ _ _ h=>qzv h
def zrg{op}(h:VEX X Ex a Wa):VEX X Ex (.BoolOp op [a] pos) Wa:=zom h
def zub(ha:VEX X Ex a Wa)(hb:VEX X Ex (.BoolOp .And (b::rest) pos) Wx2):VEX X Ex (.BoolOp .And (a::b::rest) pos) (λWx=>zuq (Wa Wx) (Wx2 Wx)):=(zoo ha hb).imp λσ H R xx189=>by
 obtain⟨M,env,F,Wx,Q,I,h,hx,k⟩:=xx189;refine⟨M,env,F,Wx,_,I,h,hx,λd v F1 H1 e1 I1 s1 i1 h1=>?_⟩;cases d with
 |bool x =>
  refine⟨x,i1.bl_inv,?_⟩;cases x with
  |true=>exact qho ⟨M,e1,F1,Wx,Q,I1,h1,hx.mono s1,λd2 v2 F2 H2 e2 I2 s2 i2 h2=>k d2 v2 F2 H2 e2 I2 (s1.trans s2) i2 h2⟩
  |false=>exact qdl (k _ _ F1 H1 e1 I1 s1 (qci false) h1)
 |_=>exact Q7 h1
end
section
variable{X:Cx}
def boot_any:Zj "any" = some (.builtin "any"):=by decide +kernel
end
section
variable{X:Cx}{elt target iter cnd:Expr}{scope:Scope}{pos py spos:Pos}{caps own:List Str}{ix:List Nat}{Wi:WF}{G:WG}{Wt:WT}{We:WE}{i:Nat}{y:Str}
end
section
variable{X:Cx}{b:Expr}{Wb:WE}{pos px:Pos}
end
section
variable{X:Cx}{Ex:St->XK}{pos:Pos}{Wt:WX->WS}
end
end L2
namespace L2
open PySem PySem.Spec PyProof.Rows PySem.W
def znw(n:Nat)(_:Nat->Nat->Bool):Prop:=n=2
structure PmN(n:Nat)(p:Array Nat):Prop where
 s:p.size=n
 p:p.toList.Perm (Z9 n)
section
variable{n:Nat}{lt:Nat->Nat->Bool}{p:Array Nat}
def zcr(_:Nat->Nat->Bool)(_:Array Nat)(m:Nat):Prop :=∀k,1<=k->k<m->True
end
section
variable{n:Nat}{lt:Nat->Nat->Bool}{cmp:Nat->Nat->(Bool->Ql->Prop)->Ql->Prop}{s:Ql}
def ztr(o:znw n lt)(hc:∀i j C,i<n->j<n->C (lt i j) s->cmp i j C s)(hn:2<=n)(q:∀p,PmN n p->zcr lt p n->Q p s):(kas_sort n).kasWp cmp Q s:=by
 obtain rfl:n=2:=o;refine hc 1 0 _ (by decide) (by decide) ?_;cases lt 1 0
 ·exact q #[0,1] ⟨rfl,.refl _⟩ λ_ _ _=>trivial
 ·exact q #[1,0] ⟨rfl,.swap ..⟩ λ_ _ _=>trivial
end
section
variable{prog:Zk}{w:World}{A:Z1}{R:Result->Ql->Prop}{s:Ql}
def zhx(room:A.depth<Qad)(h1:s.heap.get? a=some o)(h2:o.data = .func fd)(h3:fd.scope.isCoroutine=false)(h4:fd.scope.isGenerator=false)(h5:fd.body = .expr body)(h6:fd.code = .ref c)(h7:s.heap.get? c=some oc)(h8:oc.data = .fields vs)(h9:vs[1]?=some (.str q t))(k:wpAny (model prog w) A.in1 (Qhi fd args) (λbs s1=>wpAny (model prog w) A.in1 (Qhw fd.scope fd.globals fd.closure bs (q ++ ".<locals>.") (some a) (.ref c) none fd.builtins)
 (λenv s2=>s2.heap.NoLimit/\Qca (model prog w) A (.expr body env) R s2) (λe s'=>R (.error e) s') s1) (λe s'=>R (.error e) s') s):Qca (model prog w) A (.call (.ref a) args) R s:=by
  apply codeAny_of_tree;have go:wpAny (model prog w) A.in1 (callAny (.ref a) args) (λr s'=>match r with |.done f=>R (.ok f) s' |.again c'=>c'.quiet=true/\Qca (model prog w) A c' R s') (λe s'=>R (.error e) s') s:=by
   simp only[callAny];refine Qe (wpAny_load h1 ?_);simp only[h2,callFunction,h3,h4,h5,h6];refine Qe (m:=field (.ref c) 1) (Y3 h7 h8 h9 (Qe (Qx ?_)));refine Qe (Zu k (λbs s1 k1=>?_) λ_ _ z=>z);refine Qe (Zu k1 (λenv s2 k2=>?_) λ_ _ z=>z);exact Qe (wpAny_enterFrame k2.1 room (Qx ⟨rfl,k2.2⟩))
  exact go
end
def cxL(P:Zk)(w:World)(K:Qa)(mg:Str->Option Value)(base:Heap)(q:Str)(scope:Scope)(f:Addr)(cd:Value)(cl:List (Str×Addr))(N:List Str)(A:Z1)(outer:List Env)(s:Ql)(H:Hp):Cx where
 prog:=P
 w:=w
 K:=K
 mg:=mg
 base:=base
 A:=A.deeper (envX q scope s.heap.objs.size f cd cl)
 N:=N
 s₀:=s
 H₀:=H
 env:=envX q scope s.heap.objs.size f cd cl
 outer:=outer
 stack:=envX q scope s.heap.objs.size f cd cl::outer
 ex:=[]
 fn:=λ_=>false
 calm:=true
 pn:=[]
 xe:=λ_ _=>False
structure LamScope(scope:Scope)(x y:Str):Prop where
 kind:scope.kind = .function
 co:scope.isCoroutine=false
 gen:scope.isGenerator=false
 px:scope.names.lookup x=some .local
 py:scope.names.lookup y=some .free
 ne:x≠y
 nocell:∀z∈scope.names,z.2≠.cell
 free:∀z,scope.names.lookup z=some .free->z=y
section
variable{P:Zk}{w:World}{K:Qa}{mg:Str->Option Value}{base:Heap}{q:Str}{scope:Scope}{f cg:Addr}{cd ug u:Value}{x y:Str}{A:Z1}{outer:List Env}{s:Ql}{H:Hp}{v vg:V}{h1:Heap}{tk:Nat}
def zpu(S:LamScope scope x y)(hd:A.handled=none)(e0:Env0 P w K mg base A outer s H)(hc:s.heap.IsCell cg (some ug))(hn:H cg=none)(rg:RelV vg ug)(ru:RelV v u)(ns:h1.Ns s.heap.objs.size (λz=>([(x,u)]:List (Str×Value)).reverse.lookup z))(hk:∀b o,s.heap.get? b=some o->h1.get? b=some o):
 Inv (cxL P w K mg base q scope f cd [(y,cg)] [x,y] A outer s H) [] [some v,some vg] H { s with heap:=h1,toks:=tk }:=by
  have noA:∀b:Addr,b∉(cxL P w K mg base q scope f cd [(y,cg)] [x,y] A outer s H).ex:=λb z=>absurd (show b∈([]:List Addr) from z) (by simp);have look:∀z c,(cxL P w K mg base q scope f cd [(y,cg)] [x,y] A outer s H).env.cells.lookup z=some c->z=y/\c=cg:=λz c h=>by
   have h:([(y,cg)]:List (Str×Addr)).lookup z=some c:=h;grind
  have lky:([(y,cg)]:List (Str×Addr)).lookup y=some cg:=by grind
  refine⟨⟨e0.mod,S.kind,rfl,rfl,Qn _,λz z' c a b=>(look z c a).1.trans (look z' c b).1.symm,λz hz=>?_,λz c a b=>(by cases a),λ_=>hd,Qhk e0.frames,.inr ⟨rfl,rfl⟩,λb z=>absurd z (noA b),e0.bs,e0.bsz,λb _ _=>noA b,λb z=>absurd z (noA b),e0.funs,e0.frf⟩,
   rfl,e0.bare,Un.kept hk,⟨_,ns,λi z v' a1 a2 a3=>?_⟩,λz c a=>?_,e0.hok.fresh (Qn _),λz c a=>?_,λp hp=>absurd (show p∈([]:List (Addr×Obj)) from hp) (by simp),e0.hok.kept hk,rfl⟩
  ·have hz:scope.names.lookup z=some .cell\/scope.names.lookup z=some .free:=hz;rcases hz with hz|hz
   ·exact absurd rfl (S.nocell _ (Vo hz))
   ·rw[S.free z hz];exact⟨cg,lky⟩
  ·have a1:([x,y]:List Str)[i]?=some z:=a1
   match i,a1,a2 with
   |0,a1,a2 =>
    have e1:x=z:=Za a1;have e2:v=v':=Za (Za a2);subst e1;subst e2;refine⟨u,ru,.inl ⟨S.px,?_⟩⟩;grind
   |1,a1,a2 =>
    have e1:y=z:=Za a1;have e2:vg=v':=Za (Za a2);subst e1;subst e2;obtain⟨oc,ho,hd'⟩:=hc;exact⟨ug,rg,.inr ⟨.inr S.py,cg,lky,oc,hk _ _ ho,hd'⟩⟩
   |i+2,a1,a2=>cases a1
  ·rw[(look z c a).2];obtain⟨oc,ho,hd'⟩:=hc;exact⟨_,oc,hk _ _ ho,hd'⟩
  grind
def zqx(S:LamScope scope x y)(hd:A.handled=none)(e0:Env0 P w K mg base A outer s H)(room:A.depth<Qad)(ho:s.heap.get? f=some o)(h2:o.data = .func (kla_fn nm qual params body scope [(y,cg)] pm (.ref c) ct))(hb:Qhi (kla_fn nm qual params body scope [(y,cg)] pm (.ref c) ct) ⟨[u],[]⟩=pure [(x,u)])(h7:s.heap.get? c=some oc)(h8:oc.data = .fields vs)(h9:vs[1]?=some (.str q t))(hc:s.heap.IsCell cg (some ug))(hn:H cg=none)(rg:RelV vg ug)(ru:RelV v u)(he:PE (cxL P w K mg base q scope f (.ref c) [(y,cg)] [x,y] A outer s H) body te)(h:te [some v,some vg] H Q):Qca (model P w) A (.call (.ref f) ⟨[u],[]⟩) (CR CX0 outer P w H s Q E) s:=by
  refine zhx room ho h2 S.co S.gen rfl rfl h7 h8 h9 ?_;rw[hb];refine Qx (wpAny_newFunctionEnv S.nocell (λz hz=>by rw[Ze.mp hz];exact S.px) (λh1 ns sb=>?_) S.kind);have hk:∀b o,s.heap.get? b=some o->h1.get? b=some o:=λb o e=>sb.extBut b o (Q3 (Qm e)) (Qf _ e);refine⟨(e0.mod.nolimit.keeps λb o e=>(e0.bs b o e).1).keeps hk,?_⟩;have I:=zpu (q:=q) (f:=f) (cd :=.ref c) (tk:=s.toks+([(x,u)]:List (Str×Value)).length) S hd e0 hc hn rg ru ns hk;refine kla_codeExpr (Zu (he [] _ _ H Q I h) (λr s' z=>?_) λ_ _ z=>z.elim);obtain⟨v',H',I',r',q'⟩:=z;exact⟨v',H',I'.os,I'.bare,I'.base,I'.hok,r',q'⟩
end
def TbS(tb:Addr)(H:Hp):Prop :=∃ps,H tb=some (.tbl ps)/\GoodT H ps
def TbS.of{σ:St}(I:Inv X pins σ H s)(h:TbS tb X.H₀):TbS tb H:=by
 obtain⟨ps,e,g⟩:=h;obtain⟨more,e',g'⟩:=I.base.tbls tb ps e;exact⟨_,e',(g.mono I.base.frzs).app g'⟩
structure TbGo(tb:Addr)(H H':Hp):Prop where
 h:∀b o,b≠tb->H b=some o->H' b=some o
 ts:TbS tb H'
def TbGo.same(g:TbGo tb H H')(t:TbS tb H):Same H H':=λb o e=>by
 by_cases z:b=tb
 ·subst z;obtain⟨ps,e1,_⟩:=t;obtain⟨ps',e2,_⟩:=g.ts;rw[e1]at e;cases e;rw[e2];exact⟨λn=>n.elim,λ_ _=>⟨ps',rfl⟩⟩
 ·exact .of (g.h b o z e)
section
variable{X:Cx}{pins:List (Addr×Obj)}{σ:St}{H:Hp}{s:Ql}{tb c0:Addr}{nm qual:Str}{params:Qgu}{body:Expr}{scope:Scope}{clos:List (Str×Addr)}{pos:Pos}{line:Nat}{Q:Value->Ql->Prop}
def Inv.pinOne(I:Inv X pins σ H s)(h1:s.heap.get? f=some o)(h2:H f=none)(h3:f≠X.env.locals)(h4:f∉X.fs)(h5:∀v,o.data≠.cell v):Inv X (pins++[(f,o)]) σ H s:=I.pins_of λp hp=>by
 rcases Zz.mp hp with z|z
 ·exact I.pin p (Qw _ z)
 grind
def znb(I:Inv X pins σ H s)(T:TbS tb H)(hcode:X.env.code = .ref c0)(C:CodeHd X.base c0 tb)(hb:X.base.BuiltinsAt X.mg tb)(hcl:closureFor scope X.env=pure clos)(k:∀f c ct pm oc vs q t s' H',Inv X (pins++[(f,{ cls :=.type "function",data :=.func (kla_fn nm qual params body scope clos pm (.ref c) ct) })]) σ H' s'->TbGo tb H H'->(∀b,H' b≠none->H b≠none\/s.heap.objs.size<=b)->s.heap.objs.size<=f->(∃u,H' c=some (.frz oc u))->oc.data = .fields vs->vs[1]?=some (.str q t)->Q (.ref f) s'):
  wpAny (model X.prog X.w) X.A (makeFunction nm qual params (.expr body) scope X.env [] [] [] pos line) Q X.xe s:=by
  obtain⟨ps,et,g⟩:=T;have gt:s.heap.get? tb=some (tabObj ps):=(I.hok tb _ et)
  have hg:s.heap.Ns Zg X.mg:=I.mod.glob.keeps I.bk;have gP:Zg≠tb:=λz=>by
   obtain⟨o,es,ep,ho,_⟩:=I.mod.glob;have:=(I.bs _ _ ho).2;grind
  obtain⟨bm,ob,b1,b2,b3,b4,b5,b6⟩:=hb;have hb':s.heap.BuiltinsAt X.mg tb:=⟨bm,ob,b1,b2,b3,b4,I.bk _ _ b5,b6⟩
  have nL:X.env.locals≠tb:=λz=>by have:=I.free;grind
  have lts:∀f:Addr,s.heap.objs.size<=f->f≠X.env.locals/\f∉X.fs:=λf hf=>by
   refine⟨λz=>?_,λz=>?_⟩
   ·obtain⟨m,⟨o,es,ep,ho,_⟩,_⟩:=I.loc;have:=Qm ho;grind
   ·obtain⟨_,o,ho,_⟩:=I.ok.funs.mem z;have a1:=Qm ho;obtain⟨o',ho'⟩:=I.base.there f o ho (λzz=>(I.ok.exfs f zz) z);exact absurd (Qm ho') (Y6.mpr hf)
  cases ea:Qbz pos ps.toList with
  |some cv =>
   refine kla_makeFunctionHit (mg:=X.mg) hcl I.ok.glob hg hcode (C.keeps I.bk) gt g.tr ea hb' λct h' tk hk hs=>?_;obtain⟨c,oc,u,ev,ec,vs,q,t,d1,d2⟩:=g.co pos cv ea;subst ev;have hk2:∀b o,s.heap.get? b=some o->(h'.push { cls :=.type "function",data :=.func (kla_fn nm qual params body scope clos ((X.mg "__name__").getD .none) (.ref c) ct) }).get? b=some o:=λb o e=>Qf _ (hk b o e);obtain⟨l1,l2⟩:=lts _ hs;exact k h'.objs.size c ct _ oc vs q t _ H ((I.kept (t':=tk) hk2).pinOne (Qq _ rfl) (I.hok.fresh hs) l1 l2 (λv z=>by cases z)) ⟨λb o _ e=>e,ps,et,g⟩ (λb hb => .inl hb) hs ⟨u,ec⟩ d1 d2
  |none =>
   refine kla_makeFunction (mg:=X.mg) hcl I.ok.glob hg hcode (C.keeps I.bk) gt g.tr ea gP hb' λc ct h' tk hx hge hlt hrec htb=>?_;obtain⟨c2,oc,vs,t,e2,hoc,d1,d2⟩:=hrec;cases e2;have ne:c≠tb:=λz=>absurd (Qm gt) (Y6.mpr (z▸hge));have hc0:H c=none:=I.hok.fresh hge;obtain⟨more,em⟩:∃more,more = #[Qay pos.line,Qay pos.col,Zo c]:=⟨_,rfl⟩
   rw[<- em]at htb;obtain⟨H1,eH⟩:∃H1,H1=upd (upd H tb (.tbl (ps++more))) c (.frz oc (.own 0)):=⟨_,rfl⟩
   have u1:H1 c=some (.frz oc (.own 0)):=by rw[eH,qp]
   have u2:H1 tb=some (.tbl (ps++more)):=by rw[eH,qo (Y9 ne),qp]
   have u3:∀b,b≠c->b≠tb->H1 b=H b:=λb h1 h2=>by rw[eH,qo h1,qo h2]
   have old:∀b o,H b=some o->b≠c:=λb o e z=>by rw[z,hc0]at e;cases e
   have gm:GoodT H1 more:=⟨by rw[em];exact trivial,λp v h=>by
    rw[em]at h;have h:(if(pos.line:Int)==p.line&&(pos.col:Int)==p.col then some (Zo c)else Qbz p [])=some v:=h;split at h
    ·exact⟨c,oc,_,(Za h).symm,u1,vs,qual,t,d1,d2⟩
    ·simp[Qbz]at h⟩
   have gf:∀b o u,H b=some (.frz o u)->H1 b=some (.frz o u):=λb o u e=>by
    rw[u3 b (old b _ e) λz=>by rw[z,et]at e;cases e];exact e
   have hk2:∀b o,b≠tb->s.heap.get? b=some o->(h'.push (kla_obj nm qual params body scope clos ((X.mg "__name__").getD .none) c ct)).get? b=some o:=λb o hb e=>Qf _ (hx b o hb e);have szs:s.heap.objs.size<=h'.objs.size:=Qk hge (Vy hlt);have I1:Inv X pins σ H1 { s with heap:=h'.push (kla_obj nm qual params body scope clos ((X.mg "__name__").getD .none) c ct),toks:=tk }:=by
    refine Inv.step (g':=s.gens) (d':=s.drawn) (t':=tk) (ch:=[]) I (λb z=>nomatch z) (λb o _ _ _ e n=>hk2 b o (λz=>by rw[z,et]at n;cases n) e) (λb o _ _ _ e n=>⟨o.slots,hk2 b o (λz=>by rw[z,et]at n;cases n) e⟩)
     (λb o _ e n=>?_) (λb o _ e=>?_) (λb xs e=>?_) (λb o u e=>gf b o u e) (λb qs e=>?_) (λm hm=>?_) (λb u e=>?_) I.bare
    ·rw[u3 b (λz=>absurd (Qm e) (Y6.mpr (z▸hge))) (λz=>by rw[z,et]at n;cases n)];exact n
    ·by_cases z:b=tb
     ·rw[z];exact⟨_,Qf _ htb⟩
     ·exact⟨o,hk2 b o z e⟩
    ·rw[u3 b (old b _ e) λz=>by rw[z,et]at e;cases e];exact e
    ·by_cases z:b=tb
     ·rw[z,et]at e;cases e;exact⟨more,by rw[z];exact u2,gm⟩
     ·exact⟨#[],by rw[u3 b (old b _ e) z,e];simp,.nil⟩
    ·exact(hm.extBut hx nL).push _
    ·by_cases zc:b=c
     ·subst zc;rw[u1]at e;cases e;exact⟨Qf _ hoc,oc,Qf _ hoc⟩
     ·by_cases zt:b=tb
      ·subst zt;rw[u2]at e;cases e;exact Qf _ htb
      ·rw[u3 b zc zt]at e;refine(I.hok b u e).stay (λd ob hd z=>hk2 d ob (λy=>?_) z) (λd z=>?_) λd xs z=>?_
       ·rcases hd with y2|y2
        ·exact zt (y2.symm.trans y)
        ·rw[y,et]at y2;cases y2
       ·rw[u3 d (old d _ z) λy=>by rw[y,et]at z;cases z];exact z
       ·rw[u3 d (old d _ z) λy=>by rw[y,et]at z;cases z];exact z
   obtain⟨l1,l2⟩:=lts _ szs;have fn:H1 h'.objs.size=none:=by
    rw[u3 _ (Z6 hlt) λz=>absurd (Qm gt) (Y6.mpr (z▸szs))];exact I.hok.fresh szs
   refine k h'.objs.size c ct _ oc vs qual t _ H1 (I1.pinOne (Qq _ rfl) fn l1 l2 (λv z=>by cases z)) ⟨λb o hb e=>?_,_,u2,(g.mono gf).app gm⟩ (λb hb=>?_) szs ⟨_,u1⟩ d1 d2
   ·rw[u3 b (old b _ e) hb];exact e
   ·by_cases zc:b=c
    ·exact .inr (zc▸hge)
    ·by_cases zt:b=tb
     ·left;rw[zt,et];exact λz=>by cases z
     ·left;rw[u3 b zc zt]at hb;exact hb
end
section
def zoi(x y:Nat->Int):Nat->Nat->Bool
 |0,_=>false
 |k+1,i=>if x i==y i then zoi x y k (i+1)else decide (x i<y i)
open AutoSeq1 (wpAny_loadPart') in
open MeetsSeq MeetsSeq3 in
def zud(l b:Addr)(items items2:Array Value)(n n2:Nat)(hsz:items.size=items2.size)(x y:Nat->Int)(hx:∀j(h:j<items.size),∃t,items[j] = .int (x j) t)(hy:∀j(h:j<items2.size),∃t,items2[j] = .int (y j) t)(k:Nat):
 ∀i:Nat,items.size-i=k->Meets (Builtin.«list.__eq__.loop» ⟨[.ref l,.ref b,Qay i,Qay 0],[]⟩)
 (λ_ R s=>s.heap.get? l=some { cls :=.type "list",dict:=none,data :=.seq items n,slots := #[] }/\s.heap.get? b=some { cls :=.type "list",dict:=none,data :=.seq items2 n2,slots := #[] } /\
  R (.ok (.ret (.bool (zoi x y k i)))) s):=by
  induction k with
  |zero =>
   rintro i hk prog w A R ⟨hp,g,d,tk,os⟩ ⟨hl,hb,h⟩
   wp_walk using Yd hl,Yd hb
   rw[show items[((i:Nat):Int).toNat]?=none by simp;omega,show items2[((i:Nat):Int).toNat]?=none by simp;omega]
   wp_walk using Yd hl,Yd hb
   have e:decide (items.size<items2.size)=false:=decide_eq_false (by omega);show R (.ok (.ret (.bool (decide (items.size<items2.size))))) _;rw[e];exact h
  |succ k ih =>
   rintro i hk prog w A R ⟨hp,g,d,tk,os⟩ ⟨hl,hb,h⟩;have l1:i<items.size:=by omega
   have l2:i<items2.size:=by omega
   obtain⟨t1,e1⟩:=hx i l1;obtain⟨t2,e2⟩:=hy i l2;have g1:items[((i:Nat):Int).toNat]?=some (.int (x i) t1):=by rw[<- e1];simp[l1]
   have g2:items2[((i:Nat):Int).toNat]?=some (.int (y i) t2):=by rw[<- e2];simp[l2]
   wp_walk using Yd hl,Yd hb
   rw[g1,g2];refine Qe (wpAny_eqBool_int ?_);unfold zoi at h;cases q:(x i==y i)with
   |true =>
    rw[q]at h
    wp_walk
    rw[show((i:Int)+1)=((i+1:Nat):Int) by push_cast;rfl];exact⟨plainId_quiet plain_eq_loop _,Qgw entry_eq_loop (by
     rw[Qhn plain_eq_loop _];exact ih (i+1) (by omega) prog w A R _ ⟨hl,hb,h⟩)⟩
   |false =>
    rw[q]at h
    wp_walk using Yd hl,Yd hb
    rw[g1,g2];dsimp only;refine Qe (wpAny_lt_int ?_)
    wp_walk
    exact h
open AutoSeq1 (wpAny_loadPart') in
open MeetsSeq MeetsSeq3 in
def zqb(l b:Addr)(items items2:Array Value)(n n2:Nat)(hsz:items.size=items2.size)(x y:Nat->Int)(hx:∀j(h:j<items.size),∃t,items[j] = .int (x j) t)(hy:∀j(h:j<items2.size),∃t,items2[j] = .int (y j) t):
 Meets (Builtin.«list.__lt__» ⟨[.ref l,.ref b],[]⟩)
 (λ_ R s=>s.heap.get? l=some { cls :=.type "list",dict:=none,data :=.seq items n,slots := #[] }/\s.heap.get? b=some { cls :=.type "list",dict:=none,data :=.seq items2 n2,slots := #[] } /\
  R (.ok (.ret (.bool (zoi x y items.size 0)))) s):=by
  rintro prog w A R ⟨hp,g,d,tk,os⟩ ⟨hl,hb,h⟩;have f3:=AutoSeq1.sub_list_list
  wp_walk using Yd hl,Yd hb
  exact⟨plainId_quiet plain_eq_loop _,Qgw entry_eq_loop (by
   rw[Qhn plain_eq_loop _];exact zud l b items items2 n n2 hsz x y hx hy _ 0 (by omega) prog w A R _ ⟨hl,hb,h⟩)⟩
def zwh(hu:A.units<cLine)(hl:s.heap.get? l=some { cls :=.type "list",data :=.seq items n })(hb:s.heap.get? b=some { cls :=.type "list",data :=.seq items2 n2 })(hsz:items.size=items2.size)(hx:∀j(h:j<items.size),∃t,items[j] = .int (x j) t)(hy:∀j(h:j<items2.size),∃t,items2[j] = .int (y j) t)(h:Q (zoi x y items.size 0) s):
 wpAny (model prog w) A (keyLt' oneType' (.ref l) (.ref b)) Q E s:=by
 rw[keyLt'_oneType,oneLt'_eq];simp only[if_true];refine Qe (wpAny_cRoomFor hu (Qe (wpAny_callSpecialIfBound?_slot (T := "list") ⟨_,hl,rfl⟩ F.slot_list_lt (Qac F.slot_list_lt ⟨_,hl,rfl⟩ F.entry_list_lt (F.args_list_lt_2 _ _) (zqb l b items items2 n n2 hsz x y hx hy) ⟨hl,hb,?_⟩))));exact Zy h
end
structure OwnA(X:Cx)(pins:List (Addr×Obj))(a:Addr):Prop where
 l:a≠X.env.locals
 s:X.s₀.heap.objs.size<=a
 c:∀x c,X.env.cells.lookup x=some c->c≠a
 p:∀p∈X.pn++pins,p.1≠a
 f:a∉frs X.stack
section
variable{X:Cx}{pins:List (Addr×Obj)}{σ:St}{H:Hp}{s:Ql}
def zpm(I:Inv X pins σ H s){a:Addr}(h:s.heap.objs.size<=a):OwnA X pins a:=by
 have lt:∀b o,s.heap.get? b=some o->b≠a:=λb o e z=>absurd (Qm e) (Y6.mpr (z▸h));refine⟨λz=>?_,Qk I.sz h,λx c e z=>?_,λp hp z=>?_,λz=>?_⟩
 ·obtain⟨m,⟨o,es,ep,ho,_⟩,_⟩:=I.loc;grind
 ·obtain⟨v,o,ho,_⟩:=I.cell x c e;grind
 ·exact lt _ _ (I.pin p hp).1 z
 ·obtain⟨_,o,ho,_⟩:=I.stack.mem z;grind
def Inv.own(I:Inv X pins σ H s)(o:OwnA X pins a)(hn:H a=none)(k:∀b u,b≠a->s.heap.get? b=some u->h'.get? b=some u):Inv X pins σ H { s with heap:=h',toks:=t' } :=
 I.turned (it:=a) k hn o.l (.inr o.s) o.c o.p
def KeyAt(b:Bool)(kl:Nat->LI)(i:Nat)(r:Value)(H:Hp):Prop:=match b with
 |true =>∃p,r = .ref p/\H p=some (.lst ((kl i).map V.int))
 |false =>∃n t,r = .int n t/\kl i=[n]
def KeyAt.mono(h:KeyAt b kl i r H)(s:Same H H'):KeyAt b kl i r H':=by
 cases b with
 |true=>obtain⟨p,e,hp⟩:=h;exact⟨p,e,s.at hp⟩
 |false=>exact h
def qdr{h:Heap}(g:Obj->Obj)(hb:b≠a)(e:h.get? b=some u):(h.update a g).get? b=some u:=(Yh _ _ (Y9 hb)).trans e
def qqa(X:Cx)(pins:List (Addr×Obj))(σ:St)(A:Z1)(f:Value)(vs:List Value)(b:Bool)(kl:Nat->LI)(G:Hp->Prop):Prop :=∀(i:Nat)(u:Value)(H:Hp)(s:Ql),vs[i]?=some u->Inv X pins σ H s->G H ->
 wpAny (model X.prog X.w) A (call f [u]) (λr s' =>∃H',Inv X pins σ H' s'/\Un (frs X.stack) [] H H' s.heap s'.heap/\Same H H'/\G H'/\KeyAt b kl i r H') (λ_ _=>False) s
def qbe(kl:Nat->LI)(m:Nat)(i j:Nat):Bool:=zoi (λk=>(kl i).getD k 0) (λk=>(kl j).getD k 0) m 0
variable{A:Z1}{E:Value->Ql->Prop}{f:Value}{vs:List Value}{kl:Nat->LI}{G:Hp->Prop}{m:Nat}{a kS:Addr}{e1:Nat}{b:Bool}{P:Qkr->Ql->Prop}
def qrh(X:Cx)(pins:List (Addr×Obj))(σ:St)(vs:List Value)(kl:Nat->LI)(G:Hp->Prop)(m:Nat)(a:Addr)(H:Hp)(P:Qkr->Ql->Prop):Prop :=
 ∀(p:Array Nat)(H':Hp)(s':Ql)(c:Nat),PmN vs.length p->zcr (qbe kl m) p vs.length->Inv X pins σ H' s'->Same H H'->G H'->H' a=none->s'.heap.get? a=some (Qaa "list" (p.toList.map λi=>vs.getD i .none).toArray c)->P (.done (.ret .none)) s'
theorem que{ks:List Value}{st:SortSt}(I:Inv X pins σ H s)(oa:OwnA X pins a)(ok:OwnA X pins kS)(na:H a=none)(nk:H kS=none)(ne:kS≠a)(h64:vs.length<64)(kz:ks.length<64)(ha:s.heap.get? a=some (Qaa "list" #[] e1))(hk:s.heap.get? kS=some (Qaa "list" ks.toArray ek))(hp:PmN vs.length p)(hs:zcr (qbe kl m) p vs.length)(sm:Same H0 H)(g:G H)(hout:(arrOf st).map (·.2)=(p.toList.map λi=>vs.getD i .none).toArray)(hf:failedOf st=none)(h:qrh X pins σ vs kl G m a H0 P):
 wpAny (model X.prog X.w) A (ksk_tail a false e1 (.ref kS) st) P E s:=by
  unfold ksk_tail;dsimp only;rw[hout];have I1:=I.own (a:=kS) (t':=s.toks) (h':=s.heap.update kS (Yo λ_=>(#[]:Array Value))) ok nk λb u hb e=>qdr _ hb e;have ha1:(s.heap.update kS (Yo λ_=>(#[]:Array Value))).get? a=some (Qaa "list" #[] e1):=qdr _ (Y9 ne) ha;have lz:(p.toList.map λi=>vs.getD i Yn).toArray.size=vs.length:=by rw[Zq,Qj,Zw,hp.s]
  refine Qe (Qfx hk rfl ?_ (by grind[Zq,Yb]) (Vb _));refine Qe (Qib ?_);refine Qe (seqEpoch_at ha1 rfl ?_);refine Qe (Qfx ha1 rfl ?_ (Vb _) (Qk (Qed lz) (by grind[Yb])));rw[hf];simp only[bne_self_eq_false,Qeg,if_false];have I2:=I1.own (a:=a) (t':=s.toks) (h':=(s.heap.update kS (Yo λ_=>(#[]:Array Value))).update a (Yo λ_=>(p.toList.map λi=>vs.getD i Yn).toArray)) oa na λb u hb e=>qdr _ hb e;exact Qx (h p H _ _ hp hs I2 sm g na (Qgy ha1 λ_=>_))
def qwk(I:Inv X pins σ H s)(hk:KeyAt true kl i r H):∃p its n,r = .ref p/\s.heap.get? p=some { cls :=.type "list",data :=.seq its n }/\its.size=(kl i).length /\ ∀j(h:j<its.size),∃t,its[j] = .int ((kl i).getD j 0) t:=by
 obtain⟨p,rfl,e⟩:=hk;obtain⟨_,its,n,rv,ho⟩:=I.hok p _ e;have hl:its.length=(kl i).length:=by rw[<- rv.length,Qj]
 refine⟨p,its.toArray,n,rfl,ho,by grind,λj h=>?_⟩;rw[Zq]at h;have hj:((kl i).map V.int)[j]?=some (.int ((kl i).getD j 0)):=by
  grind
 obtain⟨u,hu,t,ru⟩:=rv.get hj;grind
def zlz{ks:List Value}(hu:A.units<cLine)(o:znw vs.length (qbe kl m))(hm:∀i,i<vs.length->(kl i).length=m)(I:Inv X pins σ H s)(oa:OwnA X pins a)(ok:OwnA X pins kS)(na:H a=none)(nk:H kS=none)(ne:kS≠a)(h64:vs.length<64)(kz:ks.length=vs.length)(ha:s.heap.get? a=some (Qaa "list" #[] e1))(hk:s.heap.get? kS=some (Qaa "list" ks.toArray ek))(hks:∀i,i<vs.length->KeyAt b kl i (ks.getD i .none) H)(sm:Same H0 H)(g:G H)(h:qrh X pins σ vs kl G m a H0 P):
 wpAny (model X.prog X.w) A (ksk_end a false vs.toArray e1 (.ref kS) ks.toArray) P E s:=by
  unfold ksk_end;dsimp only;simp only[Qeg,if_false];by_cases h2:vs.length<2
  ·have c:vs.toArray.size<2:=by grind
   rw[if_pos c,if_pos c];refine Qe (Qx (Qe ?_));rw[StateT.run_pure];refine Qx ?_;refine que (p:=List.toArray (Z9 vs.length)) (st:=SortSt.mk' general' (ks.toArray.zip vs.toArray) #[] 7 none) I oa ok na nk ne h64 (by omega) ha hk ⟨by simp,by simp⟩ (λk k1 k2=>by omega) sm g ?_ rfl h;grind
  ·have c : ¬ vs.toArray.size<2:=by grind
   rw[if_neg c,if_neg c];have g2:2<=ks.length:=by omega
   have kindOk:∃T:Value,(∀v∈ks,Looks (model X.prog X.w) s.heap (typeOf v) T)/\(T != Qeu "tuple")=true/\(T==T)=true:=by
    have each:∀v∈ks,∃i,i<vs.length/\ks.getD i .none=v:=λv hv=>by
     grind[Vi]
    cases b with
    |true =>
     refine⟨.type "list",λv hv=>?_,by decide,by decide⟩;obtain⟨i,hi,eg⟩:=each v hv;obtain⟨p,its,n,er,ho,_,_⟩:=qwk I (hks i hi);rw[<- eg,er];exact(Looks.ld ho).andThen .now
    |false =>
     refine⟨.type "int",λv hv=>?_,by decide,by decide⟩;obtain⟨i,hi,eg⟩:=each v hv;obtain⟨n,t,er,_⟩:=hks i hi;rw[<- eg,er];exact .now
   obtain⟨T,hT,hT1,hT2⟩:=kindOk;refine Qe (kas_kind (T:=T) g2 hT hT1 hT2 ?_);refine Qe (Zu (kat_run (Q:=λst' s'=>s'=s /\ ∃p:Array Nat,PmN vs.length p/\zcr (qbe kl m) p vs.length/\arrOf st'=p.map (kas_item (ks.toArray.zip vs.toArray))/\failedOf st'=none) (G:=λp s'=>s'=s/\PmN vs.length p/\zcr (qbe kl m) p vs.length) kz (by omega) h64 (λp st' s' a1 a2 a3 a4=>⟨a4.1,p,a4.2.1,a4.2.2,a2,a3⟩) ?_) ?_ λ_ _ z=>z)
   ·refine ztr o (λi j C hi hj hC=>?_) (by omega) λp hp hs=>⟨rfl,hp,hs⟩
    cases b with
    |true =>
     obtain⟨p,its,n,er,ho,z1,x1⟩:=qwk I (hks i hi);obtain⟨p',its',n',er',ho',z2,x2⟩:=qwk I (hks j hj);unfold kas_ask;rw[er,er'];refine zwh hu ho ho' (by rw[z1,z2,hm i hi,hm j hj]) x1 x2 ?_;rw[z1,hm i hi];exact hC
    |false =>
     obtain⟨n,t,er,z1⟩:=hks i hi;obtain⟨n',t',er',z2⟩:=hks j hj;unfold kas_ask;rw[er,er'];refine kat_lt_int ?_;have m1:m=1:=by rw[<- hm i hi,z1];rfl
     have e:qbe kl m i j=decide (n<n'):=by
      unfold qbe;rw[m1,z1,z2];show(if n==n' then false else decide (n<n'))=_;split
      ·rename_i q;rw[decide_eq_false];have:=eq_of_beq q;omega
      ·rfl
     rw[e]at hC;exact hC
   grind[que,kat_snds]
def ziu(hu:A.units<cLine)(hc:qqa X pins σ A f vs b kl G)(o:znw vs.length (qbe kl m))(hm:∀i,i<vs.length->(kl i).length=m)(I:Inv X pins σ H s)(oa:OwnA X pins a)(ok:OwnA X pins kS)(na:H a=none)(nk:H kS=none)(ne:kS≠a)(h64:vs.length<64)(ha:s.heap.get? a=some (Qaa "list" #[] e1))(hk:s.heap.get? kS=some (Qaa "list" #[] 0))(sm:Same H0 H)(g:G H)(h:qrh X pins σ vs kl G m a H0 P):
 wpAny (model X.prog X.w) A (ksk_rest a f false vs.toArray e1 (.ref kS)) P E s:=by
  unfold ksk_rest;refine Qe (Qfm ?_);rw[List.forIn_toArray];refine Qe (ksk_fold (λi s' =>∃(H':Hp)(ks:List Value)(ek:Nat),Inv X pins σ H' s'/\Same H0 H'/\G H'/\H' a=none/\H' kS=none/\s'.heap.get? a=some (Qaa "list" #[] e1)/\s'.heap.get? kS=some (Qaa "list" ks.toArray ek)/\ks.length=i /\ ∀j,j<i->KeyAt b kl j (ks.getD j .none) H') vs 0 s
   ⟨H,[],0,I,sm,g,na,nk,ha,hk,rfl,λj z=>absurd z (Qks _)⟩ ?_ ?_)
  ·rintro j x s1 hx ⟨H1,ks,ek,I1,sm1,g1,na1,nk1,ha1,hk1,kl1,ky1⟩;rw[Qjo]at kl1 ky1;have jl:j<vs.length:=(Q6.mp hx).1;refine Qe (Qdo (Zu (hc j x H1 s1 hx I1 g1) (λr s2 z=>?_) λ_ _ z=>z.elim));obtain⟨H2,I2,un,sm2,g2,ky2⟩:=z;have ha2:s2.heap.get? a=some (Qaa "list" #[] e1):=un.keep a _ ha1 na1 oa.f (by simp);have hk2:s2.heap.get? kS=some (Qaa "list" ks.toArray ek):=un.keep kS _ hk1 nk1 ok.f (by simp);have na2:H2 a=none:=un.free a _ ha1 na1 (by simp);have nk2:H2 kS=none:=un.free kS _ hk1 nk1 (by simp);dsimp only;refine Qe (Qfx hk2 rfl ?_ (by grind[Zq,Yb]) (Qk (Qed (Qkt ..)) (by grind[Zq,Yb])));have I3:=I2.own (a:=kS) (t':=s2.toks) (h':=s2.heap.update kS (Yo (·.push r))) ok nk2 λb u hb e=>qdr _ hb e;have ea:ks.toArray.push r=(ks++[r]).toArray:=by simp
   refine Qx ⟨rfl,H2,ks++[r],_,I3,sm1.trans sm2,g2,na2,nk2,qdr _ (Y9 ne) ha2,by rw[<- ea];exact Qgy hk2 (·.push r),by grind,λi hi=>?_⟩;rw[Qjo]at hi;by_cases z:i<j
   ·have:(ks++[r]).getD i Yn=ks.getD i .none:=by grind
    rw[this];exact(ky1 i z).mono sm2
   grind
  ·rintro s1 ⟨H1,ks,ek,I1,sm1,g1,na1,nk1,ha1,hk1,kl1,ky1⟩;rw[Qjo]at kl1 ky1;refine Qe (listItems_at hk1 rfl ?_);exact zlz hu o hm I1 oa ok na1 nk1 ne h64 kl1 ha1 hk1 ky1 sm1 g1 h
def zct(hu:A.units<cLine)(hc:qqa X pins σ A f vs b kl G)(o:znw vs.length (qbe kl m))(hm:∀i,i<vs.length->(kl i).length=m)(I:Inv X pins σ H s)(oa:OwnA X pins a)(na:H a=none)(h64:vs.length<64)(ha:s.heap.get? a=some (Qaa "list" vs.toArray n0))(g:G H)(h:qrh X pins σ vs kl G m a H P):wpAny (model X.prog X.w) A (ksk_tree a f false) P E s:=by
  unfold ksk_tree;have I1:=I.own (a:=a) (t':=s.toks) (h':=s.heap.update a (Yo λ_=>(#[]:Array Value))) oa na λb u hb e=>qdr _ hb e;obtain⟨e1,ha1⟩:∃e1,(s.heap.update a (Yo λ_=>(#[]:Array Value))).get? a=some (Qaa "list" #[] e1):=⟨_,Qgy ha λ_ => #[]⟩
  refine Qe (listItems_at ha rfl ?_);refine Qe (Qfx ha rfl ?_ (by grind[Zq,Yb]) (Vb _));refine Qe (seqEpoch_at ha1 rfl ?_);refine Qe (wpAny_newTuple ?_ (by grind[Yb]));refine Qe (wpAny_newList ?_ (Vb _));refine Qav ?_;have kp:∀b u,(s.heap.update a (Yo λ_=>(#[]:Array Value))).get? b=some u->(((s.heap.update a (Yo λ_=>(#[]:Array Value))).push (Qaa "tuple" vs.toArray 0)).push (Qaa "list" #[] 0)).get? b=some u:=λb u e=>Qf _ (Qf _ e);have I2:=I1.kept (t':=s.toks) (h':=((s.heap.update a (Yo λ_=>(#[]:Array Value))).push (Qaa "tuple" vs.toArray 0)).push (Qaa "list" #[] 0)) kp;have big:(s.heap.update a (Yo λ_=>(#[]:Array Value))).objs.size<=((s.heap.update a (Yo λ_=>(#[]:Array Value))).push (Qaa "tuple" vs.toArray 0)).objs.size:=by grind[Yf]
  have okS:=zpm I1 big;have nkS:H ((s.heap.update a (Yo λ_=>(#[]:Array Value))).push (Qaa "tuple" vs.toArray 0)).objs.size=none:=I1.hok.fresh big;exact ziu (s:={ s with heap:=((s.heap.update a (Yo λ_=>(#[]:Array Value))).push (Qaa "tuple" vs.toArray 0)).push (Qaa "list" #[] 0) }) hu hc o hm I2 oa okS na nkS (λz=>absurd (Qm ha1) (Y6.mpr (Qk big (Qed z)))) h64 (kp _ _ ha1) (Qq _ rfl) (.refl _) g h
end
section
variable{X:Cx}{pins:List (Addr×Obj)}{σ:St}{H:Hp}{s:Ql}
def Inv.track(I:Inv X pins σ H s)(o:OwnA X pins a)(hn:H a=none)(new:ObjOk X.prog X.w (upd H a u) s.heap a u):Inv X pins σ (upd H a u) s:=by
 have up:∀b v,H b=some v->upd H a u b=some v:=λb v e=>by rw[qo (qq e hn)];exact e
 refine⟨I.ok,I.os,I.bare,⟨I.base.keep,I.base.slot,λb o' e n hx=>?_,I.base.there,λb xs e=>up _ _ (I.base.tups b xs e),λb o' xs e=>up _ _ (I.base.frzs b o' xs e),λb ps e=>?_⟩,I.loc,I.cell,?_,λx c e=>?_,λp hp=>?_,λb v e=>?_,I.len⟩
 ·have hb:b≠a:=λz=>absurd (Qm e) (Y6.mpr (by rw[z];exact o.s));rw[qo hb];exact I.base.free b o' e n hx
 ·obtain⟨more,q,gm⟩:=I.base.tbls b ps e;exact⟨more,up _ _ q,gm.mono λb o u z=>up _ _ z⟩
 ·rw[qo (Y9 o.l)];exact I.free
 ·rw[qo (o.c x c e)];exact I.freeC x c e
 ·obtain⟨a1,a2,a3⟩:=I.pin p hp;exact⟨a1,(qo (o.p p hp)).trans a2,a3⟩
 ·by_cases z:b=a
  ·grind[qp]
  ·rw[qo z]at e;exact(I.hok b v e).stay (λc ob _ q=>q) (λc q=>up _ _ q) (λc xs q=>up _ _ q)
variable{K':Type}[DecidableEq K']{knd:KeyKind X.prog X.w K'}{E:Value->Ql->Prop}{f:Addr}{kvs:List (K'×Value)}{ep:Nat}{kl:Nat->LI}{G:Hp->Prop}{m:Nat}{r d:Addr}{Q:Value->Ql->Prop}
end
def DictIs.at(x:DictIs h d es ep)(k:∀o,h.get? d=some o->h'.get? d=some o):DictIs h' d es ep:=let ⟨o,ho,r⟩:=x; ⟨o,k _ ho,r⟩
section
variable{prog:Zk}{w:World}{A:Z1}{E:Value->Ql->Prop}{s:Ql}{it v d:Addr}{es:Array Qao}{i ep:Nat}
def zhm(hv:s.heap.IsValuesView v d)(hD:DictIs s.heap d es ep)(h:Q (.ref s.heap.objs.size) { s with heap:=s.heap.push { cls :=.type "dict_valueiterator",data :=.fields #[.ref d,.int 0 0,.int es.size 0,.int ep 0] } }):wpAny (model prog w) A (pyIter (.ref v)) Q E s:=by
  obtain⟨ov,g1,_,g2⟩:=id hv;obtain⟨od,g3,_,g4⟩:=id hD;have own:Qag "dict_valueiterator" = false:=by decide
  refine wpAny_pyIter_slot hv.typeIs Qfr (Vl Qfr hv.typeIs F.entry_dict_values_iter ?_ (F.args_dict_values_iter_1 _));unfold Builtin.«dict_values.__iter__» Qlg Qjp;have step:∀(Q':Qkr->Ql->Prop),Q' (.done (.ret (.ref s.heap.objs.size))) { s with heap:=s.heap.push { cls :=.type "dict_valueiterator",data :=.fields #[.ref d,.int 0 0,.int es.size 0,.int ep 0] } }->True:=λ_ _=>trivial;refine Qe (Qx (Qe (Qe (Y3 g1 g2 (x :=.ref d) rfl (Qx (Qe (Qe (Qcr g3 g4 (Qe (Qhe g3 g4 ?_))))))))));simp only[own,Qeg,if_false];refine Qaw (Qx ⟨_,rfl,"dict_valueiterator",_,⟨_,Qq _ rfl,rfl⟩,Yv.lookup,?_⟩);simpa[Qay]using h
def zih(hit:s.heap.IsValIter it d i es.size ep)(hD:DictIs s.heap d es ep)(hx:es[i]?=some e)(h:∀h',h'.IsValIter it d (i+1) es.size ep->Y4 it s.heap h'->Q (some e.val) { s with heap:=h' }):wpAny (model prog w) A (Qgd (.ref it)) Q E s:=by
  obtain⟨o,g1,g2,g3⟩:=id hit;obtain⟨od,g4,_,g5⟩:=id hD;have own:Qag "dict_valueiterator" = false:=by decide
  have lt:i<es.size:=(Jf.mp hx).1;unfold Qgd;refine Qe (Qdo (Vf (name:=Qc "__next__") hit.typeIs Yv (Vl Yv hit.typeIs Qco ?_ (Qch _))))
  wp_walk using V6 hit.typeIs,wpAny_fieldsOf g1 g3,Qcr g4 g5,Qhe g4 g5,Qaq hit.typeIs
  rw[show(if((i:Nat):Int)<0 then none else es[((i:Nat):Int).toNat]?)=some e by grind];have it2:(s.heap.update it (Z0 (·.setIfInBounds 1 (Qay ((i:Int)+1))))).IsValIter it d (i+1) es.size ep :=
   ⟨_,Vz _ g1 (Qaj (V3 g3 _)),(Qiz ..).trans g2,by rw[V3 g3];simp[Qay]⟩
  refine Qe (Qe (V6 hit.typeIs (Qx (Qe (Qaq hit.typeIs ?_)))));show wpAny _ _ (setField (.ref it) 1 (Qay ((i:Int)+1)) >>= _) _ _ s;refine Qe (Qct g1 g3 (by simp) ?_)
  wp_walk using Qaq (s:={ s with heap:=s.heap.update it (Z0 (·.setIfInBounds 1 (Qay ((i:Int)+1)))) }) it2.typeIs
  grind[Qx,Vq]
def zmj(hh:A.handled=none)(hit:s.heap.IsValIter it d i es.size ep)(hD:DictIs s.heap d es ep)(hx:es.size<=i)(h:∀h',Qkp it s.heap h'->Q none { s with heap:=h' }):wpAny (model prog w) A (Qgd (.ref it)) Q E s:=by
  obtain⟨o,g1,g2,g3⟩:=id hit;obtain⟨od,g4,_,g5⟩:=id hD;have own:Qag "dict_valueiterator" = false:=by decide
  unfold Qgd;refine Qe (Qdo (Vf (name:=Qc "__next__") hit.typeIs Yv (Vl Yv hit.typeIs Qco ?_ (Qch _))))
  wp_walk using V6 hit.typeIs,wpAny_fieldsOf g1 g3,Qcr g4 g5,Qhe g4 g5,Qaq hit.typeIs
  rw[show(if((i:Nat):Int)<0 then none else es[((i:Nat):Int).toNat]?)=none by grind];refine Qe (Qe (V6 hit.typeIs (Qx ?_)));show wpAny _ _ (setField (.ref it) 0 .none >>= _) _ _ s;refine Qe (Qct g1 g3 (by simp) ?_)
  wp_walk
  simp only[raiseNew];refine Qe (wpAny_handled ?_);rw[show A.in1.handled=none from hh];refine Qe (Qx (Qld ?_));refine Qe (wpAny_isInstance (T := "StopIteration") (b:=true) ⟨_,Qq _ rfl,rfl⟩ isSubtype_stop ?_);exact Qx (h _ (((Vq ..).extBut.push _).push _))
def qvy(hh:A.handled=none)(I d:Addr)(hne:d≠I)(es:Array Qao)(ep:Nat):Walks prog w A I [I,d] [I] es.size (λi v =>∃e,es[i]?=some e/\e.val=v) (λi h=>h.IsValIter I d i es.size ep/\DictIs h d es ep) where
 sub:=λb hb=>by grind
 frame:=λ_ _ _ st hk=>⟨st.1.at λo e=>hk I (by simp) o e,st.2.at λo e=>hk d (by simp) o e⟩
 item:=λi s Q E hi st hQ=>by
  have hx:es[i]?=some es[i]:=Qer hi;refine zih st.1 st.2 hx λh' i2 sb=>hQ _ h' s.toks ⟨_,hx,rfl⟩ ⟨i2,st.2.at λo e=>sb.extBut d o hne e⟩ λb o hb e=>sb.extBut b o (λz=>hb (by simp[z])) e
 done:=λs Q E st hQ=>zmj hh st.1 st.2 (Qn _) λh' k=>hQ h' s.toks λb o hb e=>k b o (λz=>hb (by simp[z])) e
 self:=λ_ _ _ _ st hQ=>wpAny_pyIter_valiter st.1 hQ
def zcg:KdlSrc prog w "dict_values" r d es.size (λi v =>∃e,es[i]?=some e/\e.val=v) (λh=>h.IsValuesView r d/\DictIs h d es ep) where
 type:=λ_ hm=>hm.1.typeIs
 there:=λ_ hm=>⟨let ⟨_,ho,_⟩:=hm.1;Qm ho,let ⟨_,ho,_⟩:=hm.2;Qm ho⟩
 keep:=λ_ _ hm hk=>⟨let ⟨o,ho,x⟩:=hm.1; ⟨o,hk r (.inl rfl) o ho,x⟩,hm.2.at λo e=>hk d (.inr rfl) o e⟩
 notList:=by decide
 notTuple:=by decide
 hint:=λ_ _ _ _ hm hq=>kdl_hint_values hm.1.typeIs hq
 iter:=λ_ _ hh hm=>⟨_,_,(λ_ _ hq=>zhm hm.1 hm.2 hq),qvy hh _ d (Q3 (let ⟨_,ho,_⟩:=hm.2;Qm ho)) es ep,⟨⟨_,Qq _ rfl,rfl,rfl⟩,hm.2.at λo e=>Qf _ e⟩⟩
end
section
variable{prog:Zk}{w:World}{K:Type}[DecidableEq K]{knd:HeapKind prog w K}{A:Z1}{E:Value->Ql->Prop}{s:Ql}{d a:Addr}{xs:List (K×Addr×Value)}{k:K}{dv:Value}
def qys(hu:knd.room A)(hk:knd.is s.heap k a)(hm:s.heap.DictOfH knd d xs)(hz:xs.length<=Qo)(h1:∀p,atKey xs k=some p->Q p.2 { s with toks:=s.toks+knd.draws k })(h2:atKey xs k=none ->∀h',h'.DictOfH knd d (storedH xs k a dv)->Y4 d s.heap h'->Q dv { s with heap:=h',toks:=s.toks+knd.draws k }):wpAny (model prog w) A (Qhv d (.ref a) dv) Q E s:=by
 obtain⟨o,es,ep,ho,hx,hd,he,his,hn⟩:=hm;unfold Qhv;refine Qav (Qe (knd.pyHash hu hk (Qe (wpAny_dictFind_heap (s:={ s with toks:=s.toks+knd.draws k }) hu hk ho hd he his hn (λno=>?_) λj p hj=>?_))))
 ·have an:=atKey_none_of_get no;have nm:=not_mem_keys_of_get no;refine Qe (Qfm (Qe (wpAny_updateDictKeys (hz:=by grind[size_of_entries]) (s:={ s with toks:=s.toks+knd.draws k }) ho hd (Qx (h2 an _ ?_ (Vq ..))))));rw[storedH_new an];refine⟨_,_,ep+1,Vz _ ho (Obj.isFreed_of_dict (Qho hd _)),hx.mapDictKeys _,Qho hd _,by simp[he,entryOfKey],λx mx=>?_,?_⟩
  ·rcases Zz.mp mx with m|m
   ·exact knd.keeps (his x m) ho hd (Vq ..)
   ·rw[Ze.mp m];exact knd.keeps hk ho hd (Vq ..)
  grind
 ·refine Qe (Qcr (s:={ s with toks:=s.toks+knd.draws k }) ho hd ?_);rw[entry_at he j,hj];exact Qe (Qfm (Qx (h1 p (atKey_of_get hn hj))))
def qzj(hu:knd.room A.in1)(hk:knd.is s.heap k a)(hy:(d==V4)=false)(hm:s.heap.DictOfH knd d xs)(hz:xs.length<=Qo)(h1:∀p,atKey xs k=some p->Q p.2 { s with toks:=s.toks+knd.draws k })(h2:atKey xs k=none ->∀h',h'.DictOfH knd d (storedH xs k a dv)->Y4 d s.heap h'->Q dv { s with heap:=h',toks:=s.toks+knd.draws k }):wpAny (model prog w) A (call (.builtin "dict.setdefault") [.ref d,.ref a,dv]) Q E s:=by
 refine Vl F.slot_dict_setdefault hm.typeIs F.entry_dict_setdefault ?_ (F.args_dict_setdefault_3 _ _ _);unfold Builtin.«dict.setdefault» Builtin.Dict.keyAndDefault;refine Qe (Qe (Qhg hm.typeIs ?_));show wpAny _ _ (pure (d,Zo a,some dv)) _ _ s;refine Qx ?_;show wpAny _ _ (if(d==V4)=true then _ else(Qhv d (.ref a) dv >>= _)) _ _ s;rw[if_neg (by grind)];exact Qe (qys hu hk hm hz (λp e=>Qx ⟨_,rfl,h1 p e⟩) λan h' q sb=>Qx ⟨_,rfl,h2 an h' q sb⟩)
end
section
variable{X:Cx}{pins:List (Addr×Obj)}{σ:St}{H:Hp}{s:Ql}{a b:Addr}{A:Z1}{E:Value->Ql->Prop}{kvs:List (List Key×V)}{k:List Key}{dv:V}{r:Value}
def zlx(hu:A.units+1<cLine)(I:Inv X pins σ H s)(e:H a=some (.dT kvs))(eb:H b=some (.tup (k.map kV)))(hl:kvs.length<Qo)(rd:RelV dv r)(h1:∀v,valV kvs k=some v ->∀u s',Inv X pins σ H s'->RelV v u->Q u s')(h2:valV kvs k=none ->∀s',Inv X pins σ (upd H a (.dT (qkb kvs k dv))) s'->Q r s'):
 wpAny (model X.prog X.w) A (call (.builtin "dict.setdefault") [.ref a,.ref b,r]) Q E s:=by
  obtain⟨z,hd,xs,rel,dd⟩:=zjq I.hok e;have hz:xs.length<=Qo:=by grind[Qfn]
  have rv:=rel.val k;refine qzj (Qce hu) (qtd I.hok eb) hd dd hz (λp ep=>?_) λan h' dd' sb=>?_
  ·rw[ep]at rv;cases ev:valV kvs k with
   |none=>rw[ev]at rv;exact rv.elim
   |some v=>rw[ev]at rv;exact h1 v ev _ _ (I.tok _) rv
  ·rw[an]at rv;cases ev:valV kvs k with
   |some v=>rw[ev]at rv;exact rv.elim
   |none =>
    have l2:(qkb kvs k dv).length<=Qo:=by grind[qhg]
    refine h2 ev _ ?_;obtain⟨q,es,ep,hq,g2,g3,g4,_,g5⟩:=dd';refine qwz I (by rw[e];exact Vh) sb ⟨q,hq⟩ ⟨l2,hd,_,(rel.put k eb rd).keeps λc ys ec=>?_,q,es,ep,hq,g2,g3,g4,g5⟩;rw[qo (zvq ec e (λz=>nomatch z))];exact ec
end
section
variable{X:Cx}{pins:List (Addr×Obj)}{σ:St}{H:Hp}{s:Ql}{E:Value->Ql->Prop}{f:Addr}{es:Array Qao}{ep:Nat}{kl:Nat->LI}{G:Hp->Prop}{m:Nat}{r d:Addr}{Q:Value->Ql->Prop}{vs:List Value}
def zcb(h:ItemsOf (λi v =>∃e,es[i]?=some e/\e.val=v) acc es.size):acc.toList=es.toList.map (·.val):=by
 refine Qcm λi=>?_;obtain⟨h1,h2⟩:=h;grind
def qzd(hu:X.A.in1.in1.units<cLine)(hh:X.A.handled=none)(I:Inv X pins σ H s)(hv:s.heap.IsValuesView r d)(hd:DictIs s.heap d es ep)(ev:es.toList.map (·.val)=vs)(hn:vs.length<64)(hc:qqa X pins σ X.A.in1.in1 (.ref f) vs true kl G)(o:znw vs.length (qbe kl m))(hm:∀i,i<vs.length->(kl i).length=m)(g:G H)(k:∀(p:Array Nat)(l:Addr)(H':Hp)(s':Ql)(c:Nat),PmN vs.length p->zcr (qbe kl m) p vs.length->Inv X pins σ H' s'->Same H H'->G H'->OwnA X pins l->H' l=none->s'.heap.get? l=some (Qaa "list" (p.toList.map λi=>vs.getD i .none).toArray c)->Q (.ref l) s'):
 wpAny (model X.prog X.w) X.A (call (.builtin "sorted") [.ref r] [(Qc "key",.ref f)]) Q E s:=by
  subst ev;have zl:es.size=(es.toList.map (·.val)).length:=by grind
  refine call_function_entry_kw kind_sorted plain_sorted entry_sorted (ksk_s1 _ _) ?_;unfold Builtin.«sorted»;refine Qe (m:=checkCount "sorted" 1 1 _) (Qx (Qe (kdu_collect (T := "dict_values") (zcg (es:=es) (ep:=ep)) hh ⟨hv,hd⟩ (by grind[Yb]) λh1 tk acc keep items=>?_)));rw[zcb items];have I1:=I.kept (t':=tk) keep;have hL:(h1.push (Qaa "list" (es.toList.map (·.val)).toArray 0)).get? h1.objs.size=some (Qaa "list" (es.toList.map (·.val)).toArray 0):=Qq _ rfl;refine Qe (wpAny_newList ?_ (by grind[Yb]));have I2:=I1.kept (t':=tk) (h':=h1.push (Qaa "list" (es.toList.map (·.val)).toArray 0)) λb u e=>Qf _ e;have ow:=zpm I1 (Qn _);have nl:=I1.hok.fresh (Qn _);refine Qe (Qav (wpAny_call_entry_kw slot_list_sort ⟨_,hL,rfl⟩ entry_list_sort ?_ (ksk_l1 _ _)));show wpAny (model X.prog X.w) X.A.in1.in1 (Builtin.«list.sort» ⟨[.ref h1.objs.size],[(Qc "key",.ref f)]⟩) _ _ _;rw[ksk_t1];refine zct hu hc o hm I2 ow nl hn hL g λp H' s' c hp hs I' sm g' na ha=>?_;exact⟨_,rfl,Qx ⟨_,rfl,k p _ H' s' c hp hs I' sm g' ow na ha⟩⟩
end
section
variable{X:Cx}{o e f:Expr}{apos cpos:Pos}{td ty tx:TE}
def zol(td ty tx:TE):TE:=λσ H Q=>td σ H λx H1 =>∃a,x = .ref a/\IsD H1 a/\ty σ H1 λy H2=>tx σ H2 λz H3 =>∃kvs k b,H3 a=some (.dT kvs)/\y = .ref b/\H3 b=some (.tup (k.map kV))/\kvs.length<Qo /\
 (∀v,valV kvs k=some v->Q v H3)/\(valV kvs k=none->Q z (upd H3 a (.dT (qkb kvs k z))))
def zcs(hu:X.A.units+1<cLine)(ho:PE X o td)(he:PE X e ty)(hf:PE X f tx)(m:M2 X o "setdefault" apos e f cpos):PE X (.Call (.Attribute o "setdefault" apos) [e,f] [] cpos) (zol td ty tx):=by
 intro pins s σ H Q I h;refine wpAny_Call_method m.base m.few m.line Qfs PySem.F.slot_dict_setdefault PySem.F.type_dict_setdefault (thn (ho pins s σ H _ I h) λu s1 xx192=>?_);obtain⟨x,H1,I1,rx,a,ex,d,q1⟩:=xx192;subst ex;obtain rfl:u=Zo a:=rx;obtain⟨t1,t2,_⟩:=zpe I1 d;refine⟨t1,t2,?_⟩;rw[m.trees];refine Qck rfl (Qdh (Qbr (thn (he pins s1 σ H1 _ I1 q1) λiv s2 ⟨y,H2,I2,ry,q2⟩=>Qbr (thn (hf pins s2 σ H2 _ I2 q2) λfv s3 ⟨z,H3,I3,rz,kvs,k,b,ea,ey,eb,hl,q3,q4⟩=>Qex ?_))));subst ey;obtain rfl:iv=Zo b:=ry;exact zlx hu I3 ea eb hl rz (λv ev u s4 I4 ru=>⟨_,H3,I4,ru,q3 v ev⟩) λev s4 I4=>⟨_,_,I4,rz,q4 ev⟩
end
section
variable{X:Cx}{pins:List (Addr×Obj)}{σ:St}{H:Hp}{s:Ql}{a:Addr}{A:Z1}{E:Value->Ql->Prop}{kvs:List (List Key×V)}
abbrev zci(d:Addr):Obj:={ cls :=.type "dict_values",data :=.fields #[.ref d] }
def zkn(I:Inv X pins σ H s)(e:H a=some (.dT kvs))(h:Q (.ref s.heap.objs.size) { s with heap:=s.heap.push (zci a) }):wpAny (model X.prog X.w) A (call (.builtin "dict.values") [.ref a]) Q E s:=by
 obtain⟨_,hd,xs,_,dd⟩:=zjq I.hok e;refine Vl F.slot_dict_values dd.typeIs F.entry_dict_values ?_ (F.args_dict_values_1 _);refine Qe ?_;unfold Builtin.Dict.noArgs;refine Qe (Qhg dd.typeIs ?_);show wpAny _ _ (pure a) _ _ s;refine Qx ?_;show wpAny _ _ (Qgr a >>= _) _ _ s;unfold Qgr;rw[if_neg (by grind)];exact Qe (Qx (Qe (Qaw (Qx ⟨_,rfl,h⟩))))
def zrf(I:Inv X pins σ H s)(e:H a=some (.dT kvs)):∃es ep,DictIs s.heap a es ep/\Vals (kvs.map (·.2)) (es.toList.map (·.val)):=by
 obtain⟨_,_,xs,rel,o,es,ep,h1,h2,h3,h4,_,_⟩:=zjq I.hok e;refine⟨es,ep,⟨o,h1,h2,h3⟩,?_⟩;rw[h4,Zi];have:∀{l:List (List Key×V)}{m:List (List Key×Addr×Value)},KT H l m->Vals (l.map (·.2)) (m.map ((·.val) ∘ entryOfKey (Qhd (qao X.prog X.w)))):=by
  intro l m q
  induction q with
  |nil=>exact .nil
  | @cons p q ps qs hq t ih=>exact .cons hq.2.2 ih
 grind
end
section
variable{X:Cx}{pins:List (Addr×Obj)}{σ:St}{x y:Str}{scope:Scope}{params:Qgu}{body:Expr}{te:TE}{f cg c:Addr}{pm ct:Value}{vg:V}{vsV:List V}{vs:List Value}{kl:Nat->LI}{G:Hp->Prop}{oc:Obj}{uu:HO}{fv:Array Value}{q:Str}{t:Tok}{nm qual:Str}{iy:Nat}
def zty(S:LamScope scope x y)(hh:X.A.handled=none)(room:X.A.in1.in1.depth<Qad)(hpin:(f,({ cls :=.type "function",data :=.func (kla_fn nm qual params body scope [(y,cg)] pm (.ref c) ct) }:Obj))∈pins)(hb:∀u,Qhi (kla_fn nm qual params body scope [(y,cg)] pm (.ref c) ct) ⟨[u],[]⟩=pure [(x,u)])(d1:oc.data = .fields fv)(d2:fv[1]?=some (.str q t))(hcl:X.env.cells.lookup y=some cg)(hyk:X.env.kindOf y=some .cell)(hN:X.N[iy]?=some y)(hv:σ[iy]?=some (some vg))(rv:Vals vsV vs)(hfr:X.A.in1.in1.frames=X.A.frames)(hhd:X.A.in1.in1.handled=X.A.handled)(he:∀s H,PE (cxL X.prog X.w X.K X.mg X.base q scope f (.ref c) [(y,cg)] [x,y] X.A.in1.in1 X.stack s H) body te)(hk:∀(i:Nat)(v:V)(H:Hp),vsV[i]?=some v->G H->te [some v,some vg] H λr H'=>Same H H'/\G H' /\ ∃p,r = .ref p/\H' p=some (.lst ((kl i).map V.int))):
 qqa X pins σ X.A.in1.in1 (.ref f) vs true kl (λH=>G H/\H c=some (.frz oc uu)):=by
 intro i u H s hi I g;obtain⟨g,ec⟩:=g;have li:i<vs.length:=(Q6.mp hi).1;have lv:i<vsV.length:=by rw[rv.length];exact li
 have ev:vsV[i]?=some vsV[i]:=Qp lv;obtain⟨u',hu',ru⟩:=rv.get ev;rw[hi]at hu';have eu:=Za hu';subst eu;obtain⟨mm,ns,lk⟩:=I.loc;obtain⟨ug,rg,look⟩:=lk iy y vg hN hv (.inr (.inl hyk));have hc:s.heap.IsCell cg (some ug):=by
  rcases look with⟨z,_⟩|⟨_,c',e1,e2⟩
  ·grind
  grind
 have e0:=I.env0;have e1:Env0 X.prog X.w X.K X.mg X.base X.A.in1.in1 X.stack s H:=⟨by rw[hfr];exact e0.frames,e0.mod,e0.bs,e0.bsz,e0.funs,e0.frf,e0.hok,e0.bare⟩
 have pf:=I.pin _ (Qw _ hpin);refine Qjk (Qcy (zqx (E:=λ_ _ _=>False) S (by grind) e1 room pf.1 rfl (hb u) (I.hok c _ ec).1 d1 d2 hc (I.freeC y cg hcl) rg ru (he s H) (hk i _ H ev g)) λr s' hr=>?_);cases r with
 |error e=>exact hr.elim
 |ok fl =>
  cases fl with
  |ret u2 =>
   obtain⟨v',H',os,bare,un,hok,r',sm,g',p,ep,hp⟩:=hr;subst ep;obtain rfl:u2=Zo p:=r';exact⟨H',I.call' os un hok bare (λb z=>nomatch z),un,sm,⟨g',sm.at ec⟩,p,rfl,hp⟩
  |next=>exact hr.elim
  |brk=>exact hr.elim
  |cont=>exact hr.elim
end
def qus(h:Vals vsV vs):∀{l:List Nat},(∀i∈l,i<vs.length)->Vals (l.map λi=>vsV.getD i V.non) (l.map λi=>vs.getD i Yn)
 |[],_ => .nil
 |i::l,k=>by
  have hi:=k i (by simp);have ev:vsV[i]?=some (vsV[i]'(by rw[h.length];exact hi)):=Qp _;obtain⟨u,hu,ru⟩:=h.get ev;refine .cons ?_ (qus h λj hj=>k j (Qt _ hj));grind
def tSK(tb:Addr)(ig iy:Nat)(te:TE):TE:=λσ H Q =>∃(d:Addr)(kvs:List (List Key×V))(vg:V)(kl:Nat->LI)(m:Nat),(σ[ig]?=some (some (.ref d))/\σ[iy]?=some (some vg)/\H d=some (.dT kvs)/\kvs.length<64) /\
 znw (kvs.map (·.2)).length (qbe kl m)/\(∀i,i<(kvs.map (·.2)).length->(kl i).length=m) /\ ∀H1,TbGo tb H H1->Same H H1 ->∃G:Hp->Prop,G H1 /\
  (∀(i:Nat)(v:V)(H2:Hp),(kvs.map (·.2))[i]?=some v->G H2->te [some v,some vg] H2 λr H3=>Same H2 H3/\G H3 /\ ∃p,r = .ref p/\H3 p=some (.lst ((kl i).map V.int))) /\
  ∀(p:Array Nat)(l:Addr)(H3:Hp),PmN (kvs.map (·.2)).length p->zcr (qbe kl m) p (kvs.map (·.2)).length->Same H1 H3->G H3->H3 l=none->H l=none->Q (.ref l) (upd H3 l (.lst (p.toList.map λi=>(kvs.map (·.2)).getD i .non)))
section
variable{X:Cx}{x y g:Str}{scope:Scope}{params:Qgu}{body:Expr}{te:TE}{cg c0 tb:Addr}{ig iy:Nat}{np gp ap cp lp kp pos:Pos}
def zcd(hu:X.A.in1.in1.units<cLine)(hh:X.A.handled=none)(room:X.A.in1.in1.depth<Qad)(hT:TbS tb X.H₀)(hcode:X.env.code = .ref c0)(C:CodeHd X.base c0 tb)(hbt:X.base.BuiltinsAt X.mg tb)(hg:Gl X "sorted")(hm:X.mg "sorted" = none)(hvar:PE X (.Name g gp) (zbb ig))(S:LamScope scope x y)(hcl:closureFor scope X.env=pure [(y,cg)])(hlk:X.env.cells.lookup y=some cg)(hyk:X.env.kindOf y=some .cell)(hN:X.N[iy]?=some y)(hb:∀nm qual pm c ct u,Qhi (kla_fn nm qual params body scope [(y,cg)] pm (.ref c) ct) ⟨[u],[]⟩=pure [(x,u)])(he:∀q f c s H,PE (cxL X.prog X.w X.K X.mg X.base q scope f (.ref c) [(y,cg)] [x,y] X.A.in1.in1 X.stack s H) body te)(hdef:defaultsOf params X.env=([],[]):=by rfl)(hfr:X.A.in1.in1.frames=X.A.frames:=by rfl)(hhd:X.A.in1.in1.handled=X.A.handled:=by rfl)(hbase:Z2 (.Name g gp) "values" X.env (eval (.Name g gp) X.env)=eval (.Name g gp) X.env:=by rfl)(hfew:((Z5 cp (Qi [] X.env)).all (λx => !x.1)&&(Qai cp (Ve [] X.env)).all (λx=>x.1.isSome)&&decide (([]:List Expr).length+([]:List Jj).length+(if([]:List Jj).isEmpty then 0 else 1)<30))=true:=by rfl)(hline:(ap.endLine==cp.line)=true:=by rfl):
  PE X (.Call (.Name "sorted" np) [.Call (.Attribute (.Name g gp) "values" ap) [] [] cp] [⟨some "key",.Lambda params body scope lp,kp⟩] pos) (tSK tb ig iy te):=by
  intro pins s σ H Q I h;obtain⟨d,kvs,vg,kl,m,⟨e1,e2,ed,hn⟩,o,hm',rest⟩:=h;have T:=TbS.of I hT;refine V5 (qli I hg hm qzk ?_);refine callWith_kw ?_;show wpAny _ _ (spliced [(false,eval (.Call (.Attribute (.Name g gp) "values" ap) [] [] cp) X.env)]) _ _ s;refine Qbr ?_;refine wpAny_Call_method hbase hfew hline Qfs PySem.F.slot_dict_values PySem.F.type_dict_values (thn (hvar pins s σ H (λv H'=>v = .ref d/\H'=H) I ⟨_,e1,rfl,rfl⟩) λu s1 xx194=>?_);obtain⟨v1,H1,I1,r1,ev,eH⟩:=xx194;subst ev;subst eH;obtain rfl:u=Zo d:=r1;obtain⟨t1,t2,_⟩:=zpe I1 (.inr ⟨kvs,.inl ed⟩);refine⟨t1,t2,?_⟩;refine Qck rfl (PySem.evalArgs_none ?_);refine zkn I1 ed ?_;have hkp:∀b u,s1.heap.get? b=some u->(s1.heap.push (zci d)).get? b=some u:=λb u e=>Qf _ e;have gv:(s1.heap.push (zci d)).get? s1.heap.objs.size=some (zci d):=Qq _ rfl;have ow:=zpm I1 (Qn _);have nv:=I1.hok.fresh (Qn _);have nfs:s1.heap.objs.size∉X.fs:=λz=>ow.f (by
   rcases I1.ok.stk with q|⟨q,q2⟩
   ·rw[q];exact z
   ·rw[q];unfold frs;rw[Y1,q2];exact Qt _ z)
  have I2:=(I1.kept (t':=s1.toks) hkp).pinOne gv nv ow.l nfs (λv z=>by cases z);refine Qex ?_;refine kws_cons (kla_eval hdef (znb I2 (TbS.of I2 hT) hcode C hbt hcl λf c ct pm oc fv q t s3 H3 I3 go new hf xx193 d1 d2=>?_));obtain⟨uu,ec⟩:=xx193;refine kws_nil ?_;show wpAny _ _ (call (.builtin "sorted") [.ref s1.heap.objs.size] [(Qc "key",.ref f)]) _ _ s3;obtain⟨G,g0,hk,fin⟩:=rest H3 go (go.same (TbS.of I1 hT));have ne:d≠tb:=λz=>by
   obtain⟨ps,et,_⟩:=TbS.of I1 hT;rw[<- z,ed]at et;cases et
  have ed3:H3 d=some (.dT kvs):=go.h _ _ ne ed;obtain⟨es,ep,hD,hV⟩:=zrf I3 ed3;have hvw:s3.heap.IsValuesView s1.heap.objs.size d:=⟨_,(I3.pin (s1.heap.objs.size,zci d) (Qw _ (Zx _ (Qw _ (Ze.mpr rfl))))).1,rfl,rfl⟩
  have zl:(es.toList.map (·.val)).length=(kvs.map (·.2)).length:=hV.length.symm;refine qzd hu hh I3 hvw hD rfl (by rw[zl,Qj];exact hn) (zty (G:=G) (kl:=kl) (uu:=uu) (oc:=oc) (vsV:=kvs.map (·.2)) (iy:=iy) S hh room (Qw _ (Ze.mpr rfl)) (λu=>hb _ _ _ _ _ u) d1 d2 hlk hyk hN e2 hV hfr hhd (λs H=>he q f c s H) hk) (by rw[zl];exact o) (by rw[zl];exact hm') ⟨g0,ec⟩ λp l H4 s4 cc hp hs I4 sm g4 ow4 nl hl=>?_;have hp':PmN (kvs.map (·.2)).length p:=by rw[<- zl];exact hp
  have hs':zcr (qbe kl m) p (kvs.map (·.2)).length:=by rw[<- zl];exact hs
  have nl0:H1 l=none:=by
   cases eq:H1 l with
   |none=>rfl
   |some o' =>
    exfalso;by_cases z:l=tb
    ·obtain⟨ps,et,_⟩:=go.ts;rw[<- z]at et;obtain⟨_,this⟩:=sm.any et;rw[nl]at this;cases this
    ·obtain⟨_,this⟩:=sm.any (go.h _ _ z eq);rw[nl]at this;cases this
  have vp:Vals (p.toList.map λi=>(kvs.map (·.2)).getD i V.non) (p.toList.map λi=>(es.toList.map (·.val)).getD i Yn):=qus hV λi hi=>by
   have:=hp.p.mem_iff.mp hi;exact Qba.mp this
  have I5:=I4.track (u :=.lst (p.toList.map λi=>(kvs.map (·.2)).getD i V.non)) ow4 nl ⟨by rw[Qj,Zw,hp.s,zl,Qj,Yb];omega,_,cc,vp,hl⟩;exact⟨.ref l,_,I5.unpinned.unpinned,rfl,fin p l H4 hp' hs' sm g4.1 nl nl0⟩
end
def Tbs(ts:List Addr)(H:Hp):Prop :=∀t∈ts,TbS t H
def qtg(ts:List Addr)(K:Qa):Sp:=λvs H Q E=>Tbs ts H/\xcc K vs H Q E
section
variable{P:Zk}{w:World}{K:Qa}{mg mb:Str->Option Value}{CX:CXT}{k:Nat}{fa a:Addr}{ts:List Addr}{fd:J5}{x:Str}{sp:Sp}{s:Ql}{vs:List Value}{ns:LI}
def zaf(KX:K.In s.heap)(hns:s.heap.Ns Zg mg)(hb:s.heap.Ns Qdq mb)(hbb:∀x:Str,x ≠ "__name__" -> mb x=Zj x)(hlim:s.heap.NoLimit)(hg:s.gens = #[])(ha:s.heap.get? a=some { cls :=.type "list",data :=.seq vs.toArray })(hr:Room k Qhz)(ht:∀b∈ts,∃c,s.heap.TableAt c b #[])(hKt:∀b∈ts,K.lookup b=none)(F:∀base:Heap,K.In base->base.Ns Zg mg->FnOk P w K mg base CX k fa fd [x] sp)(hbind:∀(s:Ql)(u:Value),Qjj s fd ⟨[u],[]⟩ [(x,u)])(hA:∀b,H b≠none->b=a\/b∈ts)(hF:∀u,H a=some u ->∃o xs,u = .frz o (.lst xs))(hT:∀b∈ts,H b=some (.tbl #[]))(hok:HOk P w H s.heap)(hK:H a≠none->K.lookup a=none)(hsp:sp [.ref a] H (λv _=>v = .bl true) λ_ _ _=>False)(hCX:∀e s',CX [] H s (λ_ _ _=>False) e s'->False):
 Qca (model P w) Qhz (.call (.ref fa) ⟨[.ref a],[]⟩) (λr s'=>r = .ok (.ret (.bool true))/\OldK s.heap s'.heap/\s'.os=s.os/\Qea s'.gens) s:=by
 have bo:∀{b:Addr}{o:Obj},s.heap.get? b=some o->H b=none->(zbx s.heap H).get? b=some o:=λe n=>zne e n;have nd:∀{b:Addr}{o:Obj}{es:Array Qao}{ep:Nat},s.heap.get? b=some o->o.data = .dict es ep->H b=none:=λ{b o es ep} e d=>by
  cases q:H b with
  |none=>rfl
  |some u =>
   rcases hA b (by rw[q];simp)with z|z
   ·subst z;rw[ha]at e;cases e;have d':Data.seq vs.toArray _=Data.dict es ep:=d;cases d'
   ·obtain⟨c,ht⟩:=ht b z;rw[ht.2]at e;cases e;cases d
 have nsK:∀{b:Addr}{m:Str->Option Value},s.heap.Ns b m->(zbx s.heap H).Ns b m:=λxx195=>by obtain⟨o,es,ep,e,d,r⟩:=xx195;exact⟨o,es,ep,bo e (nd e d),d,r⟩
 have kb:K.In (zbx s.heap H):=λb o e=>bo (KX b o e) (by
  cases q:H b with
  |none=>rfl
  |some u =>
   rcases hA b (by rw[q];simp)with z|z
   ·subst z;rw[hK (by rw[q];simp)]at e;cases e
   ·rw[hKt b z]at e;cases e)
 have M:Mod K mg (zbx s.heap H):=⟨kb,nsK hns,⟨mb,nsK hb,hbb⟩,let ⟨mc,h1,h2⟩:=hlim; ⟨mc,nsK h1,h2⟩⟩
 have e0:Env0 P w K mg (zbx s.heap H) Qhz [] s H:=⟨rfl,M,λb o e=>zry e,Qed (zig _ _),trivial,λb hb=>absurd (show b∈([]:List Addr) from hb) (by simp),hok,.of_eq hg⟩
 refine Qcy ((F _ kb (nsK hns)).run Qhz [] s H ⟨[.ref a],[]⟩ [.ref a] [.ref a] _ _ hr e0 (hbind s (.ref a)) (.cons rfl .nil) hsp) λr s' h=>?_;cases r with
 |error e=>exact(hCX e s' h).elim
 |ok fl =>
  cases fl with
  |next=>exact Q7 h
  |brk=>exact Q7 h
  |cont=>exact Q7 h
  |ret u =>
   obtain⟨v,H',os,bare,un,hok',r',q⟩:=h;have q':v = .bl true:=q;subst q';obtain rfl:u=Qdp true:=r';refine⟨rfl,⟨λb o e=>?_,λb o e=>un.there b o e (by simp)⟩,os,bare⟩;cases qb:H b with
   |none=>exact .inl (un.keep b o e qb (by simp[frs]) (by simp))
   |some u =>
    rcases hA b (by rw[qb];simp)with z|z
    ·subst z;obtain⟨o2,xs,e3⟩:=hF u qb;rw[e3]at qb;obtain⟨e1,_⟩:=hok b _ qb;obtain⟨e2,_⟩:=hok' b _ (un.frzs b _ _ qb);rw[e]at e1;cases e1;exact .inl e2
    ·obtain⟨c,ht⟩:=ht b z;obtain⟨more,e1,_⟩:=un.tbls b _ (hT b z);have e2:s'.heap.get? b=some (tabObj (#[]++more)):=hok' b _ e1;rw[ht.2]at e;cases e;exact .inr (.inl ⟨ht.isCodeTable,rfl,#[],more,rfl,e2⟩)
def zjl(KX:K.In s.heap)(hns:s.heap.Ns Zg mg)(hb:s.heap.Ns Qdq mb)(hbb:∀x:Str,x ≠ "__name__" -> mb x=Zj x)(hlim:s.heap.NoLimit)(hg:s.gens = #[])(ha:s.heap.get? a=some { cls :=.type "list",data :=.seq vs.toArray })(hi:Qgv vs ns)(hl:ns.length<=Qo)(hr:Room k Qhz)(ht:∀b∈ts,∃c,s.heap.TableAt c b #[])(hKt:∀b∈ts,K.lookup b=none)(F:∀base:Heap,K.In base->base.Ns Zg mg->FnOk P w K mg base CX k fa fd [x] sp)(hbind:∀(s:Ql)(u:Value),Qjj s fd ⟨[u],[]⟩ [(x,u)])(hsp:∀H:Hp,Tbs ts H->SqL K H a (ns.map V.int)->sp [.ref a] H (λv _=>v = .bl true) λ_ _ _=>False)(hCX:∀H e s',CX [] H s (λ_ _ _=>False) e s'->False):
 Qca (model P w) Qhz (.call (.ref fa) ⟨[.ref a],[]⟩) (λr s'=>r = .ok (.ret (.bool true))/\OldK s.heap s'.heap/\s'.os=s.os/\Qea s'.gens) s:=by
 have rv:=qum hi;have lv:=hi.length;have ne:a∉ts:=λz=>by
  obtain⟨c,ht⟩:=ht a z;have:=ht.2;grind
 cases hk:K.lookup a with
 |some o =>
  have e:=KX a o hk;rw[ha]at e;cases e;refine zaf (H:=λb=>if b∈ts then some (.tbl #[])else none) KX hns hb hbb hlim hg ha hr ht hKt F hbind (λb z=>?_) (λu z=>?_) (λb hb=>if_pos hb) (λb u z=>?_) (λz=>absurd (if_neg ne) z) (hsp _ (λt ht=>⟨#[],if_pos ht,.nil⟩) ?_) (λe s'=>hCX _ e s')
  ·grind
  ·grind
  ·by_cases q:b∈ts
   ·have z':=(if_pos q).symm.trans z;cases z';obtain⟨c,ht⟩:=ht b q;exact ht.2
   grind
  ·exact .inr ⟨_,vs.toArray,_,hk,rfl,rfl,rfl,by grind,by grind⟩
 |none =>
  refine zaf (H:=λb=>if b∈ts then some (.tbl #[])else if b=a then some (.frz { cls :=.type "list",data :=.seq vs.toArray } (.lst (ns.map V.int)))else none) KX hns hb hbb hlim hg ha hr ht hKt F hbind (λb z=>?_) (λu z=>?_) (λb hb=>if_pos hb) (λb u z=>?_) (λ_=>hk) (hsp _ (λt ht=>⟨#[],if_pos ht,.nil⟩) ?_) (λe s'=>hCX _ e s')
  ·grind
  ·grind
  ·by_cases q:b∈ts
   ·have z':=(if_pos q).symm.trans z;cases z';obtain⟨c,ht⟩:=ht b q;exact ht.2
   ·by_cases q2:b=a
    ·have z':=((if_neg q).trans (if_pos q2)).symm.trans z;cases z';subst q2;exact⟨ha,by rw[Qj];exact hl,vs,_,rv,ha⟩
    ·have z':=((if_neg q).trans (if_neg q2)).symm.trans z;cases z'
  ·exact .inl (.inr ⟨{ cls :=.type "list",data :=.seq vs.toArray },(if_neg ne).trans (if_pos rfl)⟩)
end
def walk_ofT{l:Qgs}{K:Qby->Qa}{tbs:Qby->List Addr}{CX:World->CXT}{sp:World->Sp}(hn:l.most=some n)(hn2:n<=Qo)(hdf:d.params.defaults=[])(hr:Room k Qhz)(hY:∀(w:World)(h:Heap),YP w h->(K w.params).In h /\ ∀b∈tbs w.params,∃c,h.TableAt c b #[])(hKt:∀P,∀b∈tbs P,(K P).lookup b=none)(F:∀(w:World)(mg:Str->Option Value)(fa:Addr)(h:Heap),(K w.params).In h->h.Ns Zg mg->mg d.name=some (.ref fa) ->
 ∃fd:J5,(∀(s:Ql)(u:Value),Qjj s fd ⟨[u],[]⟩ [(x,u)]) /\ ∀base:Heap,(K w.params).In base->base.Ns Zg mg->FnOk l.prog w (K w.params) mg base (CX w) k fa fd [x] (sp w))(hsp:∀(w:World)(H:Hp)(a:Addr)(ns:LI),ns.length<=n->Tbs (tbs w.params) H->SqL (K w.params) H a (ns.map V.int)->sp w [.ref a] H (λv _=>v = .bl true) λ_ _ _=>False)(hCX:∀(w:World)(H:Hp)(s:Ql)(e:Value)(s':Ql),CX w [] H s (λ_ _ _=>False) e s'->False):Qlr q loose XP YP l.row.toRowW d [] (λf vs=>Qll f vs):=by
  refine Att.attach_call hn hdf λw s₀ s₁ mg mb fa o pm cd doc a vs ns G Y ho hd hcd hmg hobj hints hlen hg=>?_;obtain⟨KX,ht⟩:=hY w _ Y;obtain⟨fd,hb,hF⟩:=F w mg fa _ KX G.T.g hmg;exact zjl KX G.T.g G.T.b G.T.builtins G.T.nolimit hg hobj hints (Qk hlen hn2) hr ht (hKt w.params) hF hb (λH hO hS=>hsp w H a ns hlen hO hS) λH e s'=>hCX w H s₁ e s'
def zpg(K:Qa)(c tb:Addr):Bool:=match K.lookup c with
 |some ⟨.type "code",_,.fields vs,_⟩=>(vs[11]?==some (.ref tb))&&(match vs.getD 18 .none with |.str _ _=>true|_=>false)&&(match vs.getD 7 .none with |.int _ _=>true|_=>false)&&(match vs.getD 9 .none with |.bool _=>true|_=>false)&&(match vs.getD 10 .none with |.int _ _=>true|_=>false)&&c != tb
 |_=>false
def zhz{K:Qa}(X:K.In h)(q:zpg K c tb=true):CodeHd h c tb:=by
 unfold zpg at q;split at q
 case h_2=>cases q
 rename_i dd vs sl ho;simp only[Qy,beq_iff_eq,bne_iff_ne]at q;obtain⟨⟨⟨⟨⟨e1,e2⟩,e3⟩,e4⟩,e5⟩,e6⟩:=q;have e7:vs.getD 11 .none = .ref tb:=by
  have:vs.getD 11 .none=(vs[11]?).getD .none:=by simp[Array.getD_eq_getD_getElem?]
  grind
 split at e2
 case h_2=>cases e2
 rename_i x2 t2 g2;split at e3
 case h_2=>cases e3
 rename_i x3 t3 g3;split at e4
 case h_2=>cases e4
 rename_i x4 g4;split at e5
 case h_2=>cases e5
 rename_i x5 t5 g5;exact⟨_,vs,x2,t2,x3,t3,x4,x5,t5,X _ _ ho,rfl,rfl,e1,e7,g2,g3,g4,g5,e6⟩
def zzc(K:Qa)(bm tb:Addr):Bool:=match K.lookup bm with
 |some ⟨.type "module",some d,.plain,_⟩=>d==Qdq&&bm != Qdq&&bm != Zg&&bm != tb
 |_=>false
def zrj{K:Qa}(X:K.In h)(hm:mg "__builtins__" = some (.ref bm))(q:zzc K bm tb=true):h.BuiltinsAt mg tb:=by
 unfold zzc at q;split at q
 case h_2=>cases q
 rename_i d sl ho;simp only[Qy,beq_iff_eq,bne_iff_ne]at q;obtain⟨⟨⟨e1,e2⟩,e3⟩,e4⟩:=q;subst e1;exact⟨bm,_,hm,e2,e3,e4,X _ _ ho,rfl,rfl,rfl⟩
structure DefT(K:Qa)(mg:Str->Option Value)(x:Str)(st:Stmt)(ps:List Str)(c0:Addr):Prop where
 ex:∃(f:Addr)(oc:Value)(od:Option Addr)(kV doc pm:Value)(an:Option Addr)(ct:Value)(osl:Array (Option Value)),K.lookup f=some ⟨oc,od,.func (Vx x x (defArgs st) (defBody st) (defScope st) .none kV doc pm an (.ref c0) ct),osl⟩/\Qcs K (.ref c0) x=true /\
  Z4 K (.ref f)=true/\mg x=some (.ref f)/\Binds K (Vx x x (defArgs st) (defBody st) (defScope st) .none kV doc pm an (.ref c0) ct) ps []
def DefT.ok{K:Qa}{st:Stmt}(F:DefT K mg x st ps c0)(S:FnScope N ps (defScope st))(len:∀vs H Q E,sp vs H Q E->vs.length=ps.length)(hbody:∀(f:Addr)(A:Z1)(outer:List Env)(s:Ql)(H:Hp)(vs:List V)(Q:VK)(E:XK),Room k (A.deeper (Qbo x (defScope st) s.heap.objs.size f (.ref c0)))->sp vs H Q E ->
 ∃t,PSs (qbv CX0 P w K mg base N x (defScope st) f (.ref c0) A outer s H E).nox (defBody st) t/\t { nx:=λ_ H'=>Q .non H',rt:=Q } (start N vs) H):Ok P w K mg base x (k+1) ps sp:=by
  obtain⟨f,oc,od,kV,doc,pm,an,ct,osl,lk,hcd,kp,hm,hb⟩:=F.ex;refine⟨f,_,qyh lk hcd S len λA outer s H vs Q E hr hsp=>?_,hm,kp,hb⟩;obtain⟨t,h,q⟩:=hbody f A outer s H vs Q E hr hsp;exact⟨t,h.nox,q⟩
def qkt(ts:List Addr)(sp:Sp):Sp:=λvs H Q E=>Tbs ts H/\sp vs H Q E
def Ok.t(O:Ok X.prog X.w X.K X.mg X.base x k ps (qkt ts sp))(h:Tbs ts X.H₀):OkC X x k ps sp :=
 ⟨_,O,λ_ _ _ _ _ _ _ I q=>⟨λt ht=>TbS.of I (h t ht),q⟩⟩
def OkX.t(O:OkX X.prog X.w X.K X.mg X.base x k ps (qkt ts sp))(h:Tbs ts X.H₀):OkXC X x k ps sp :=
 ⟨_,O,λ_ _ _ _ _ _ _ I q=>⟨λt ht=>TbS.of I (h t ht),q⟩⟩
section
variable{P:Zk}{w:World}{K:Qa}{mg:Str->Option Value}{base:Heap}{ts:List Addr}
def Def.tvok{st:Stmt}(F:Def K mg x st ps)(S:FnScope N ps (defScope st))(len:∀ds q,sp ds q->ds.length=ps.length)(hbody:∀(f:Addr)(cdv:Value)(A:Z1)(outer:List Env)(s:Ql)(H:Hp)(E:XK),Room k (A.deeper (Qbo x (defScope st) s.heap.objs.size f cdv))->Tbs ts H ->∀ds q,sp ds q ->
 ∃W,VSs (qbv CX0 P w K mg base N x (defScope st) f cdv A outer s H E).nox (defBody st) W/\W { nx:=λ_=>q .none,rt:=λr _=>q r.data } (qal N ds)):Ok P w K mg base x (k+1) ps (qkt ts (PSp K sp)) :=
  F.ok S (λvs H Q E xx197=>by obtain⟨_,F,ds,q,_,i,h,_⟩:=xx197;rw[i.len];exact len ds q h) λf cdv A outer s H vs Q E hr xx196=>by
   obtain⟨hT,F,ds,q,sm,i,h,kk⟩:=xx196;obtain⟨W,hW,hq⟩:=hbody f cdv A outer s H E hr hT ds q h;refine⟨_,hW,⟨H,H,F⟩,qal N ds,F,_,qbr sm i,hq,⟨λe1 F1 H1 σ1 I1 s1 q1=>kk _ _ F1 H1 I1.goOf qei q1,λr v e1 F1 H1 σ1 I1 s1 r1 q1=>?_,λ_ _ _ _ _ _ h=>h.elim,λ_ _ _ _ _ _ h=>h.elim⟩⟩;obtain⟨F2,g,j⟩:=r1.is I1;exact kk _ _ F2 H1 g j q1
def Def.tvokX{st:Stmt}(F:Def K mg x st ps)(S:FnScope N ps (defScope st))(len:∀ds q e,sp ds q e->ds.length=ps.length)(hbody:∀(f:Addr)(cdv:Value)(A:Z1)(outer:List Env)(s:Ql)(H:Hp)(E:XK),Room k (A.deeper (Qbo x (defScope st) s.heap.objs.size f cdv)) ->
 (∀σ,qay (qbv (CX1 P w) P w K mg base N x (defScope st) f cdv A outer s H E) σ E)->qlg (qbv (CX1 P w) P w K mg base N x (defScope st) f cdv A outer s H E) E->Tbs ts H ->∀ds q e,sp ds q e ->
 ∃W,qwl (qbv (CX1 P w) P w K mg base N x (defScope st) f cdv A outer s H E) (λ_=>E) (defBody st) W/\W (λC _=>e C) { nx:=λ_=>q .none,rt:=λr _=>q r.data } (qal N ds)):OkX P w K mg base x (k+1) ps (qkt ts (XSp K sp)):=by
  obtain⟨f,fd,Fn,hm,hb⟩:=F.ex;refine⟨f,fd,?_,hm,Fn.kp,hb⟩;obtain⟨oc,od,kV,doc,pm,an,cdv,ct,osl,rfl,lk,hcd⟩:=Fn.ex;refine qyh lk hcd S (λvs H Q E xx199=>by obtain⟨_,F,ds,q,e,_,i,h,_⟩:=xx199;rw[i.len];exact len ds q e h) λA outer s H vs Q E hr xx198=>?_;obtain⟨hT,F,ds,q,e,sm,i,h,kk,kx⟩:=xx198;obtain⟨W,hW,hq⟩:=hbody f cdv A outer s H E hr (λσ pins H1 s1 e1 s' I c=>qig pins σ H1 s1 e1 s' I c) qic hT ds q e h;refine⟨_,hW,⟨H,H,F⟩,qal N ds,F,_,_,qbr sm i,hq,λC e1 F1 H1 σ1 I1 s1 q1=>kx C F1 H1 I1.goOf q1,⟨λe1 F1 H1 σ1 I1 s1 q1=>kk _ _ F1 H1 I1.goOf qei q1,λr v e1 F1 H1 σ1 I1 s1 r1 q1=>?_,λ_ _ _ _ _ _ h=>h.elim,λ_ _ _ _ _ _ h=>h.elim⟩⟩;obtain⟨F2,g,j⟩:=r1.is I1;exact kk _ _ F2 H1 g j q1
end
end L2
namespace L2
open PySem PySem.Spec PyProof.Rows
def qoa:∀{us:List Value}{ns:LI},Qgv us ns ->∀(i:Nat)(v:Value),us[i]?=some v ->∃n t,ns[i]?=some n/\v = .int n t
 |_,_,.nil,i,v,h=>by simp at h
 |_,_,.cons n t r,0,v,h=>by
  grind
 |_,_,.cons n t r,i+1,v,h=>by
  rw[J3]at h;obtain⟨m,k,e,z⟩:=qoa r i v h;grind
theorem qob:∀{us:List Value}{ns:LI},Qgv us ns->us.length=ns.length
 |_,_,.nil=>rfl
 |_,_,.cons n t r=>by rw[Zl,Zl,qob r]
def zjf(hb:Qgv us ns):((Z9 us.toArray.size).any λi=>((ns[i]?).getD 1) != 0)=ns.any (· != 0):=by
 have hlen:us.toArray.size=ns.length:=by grind[Zq,qob]
 rw[hlen,Qbw,Vk,Vk];constructor
 ·grind[Qdd]
 ·rintro⟨b,hb',z⟩;obtain⟨i,hi,rfl⟩:=Qhx hb';exact⟨i,Qba.mpr hi,by grind⟩
section
variable{X:Cx}
def xbd(K:Qa):List V->Hp->VK->Prop:=λxs H Q =>∃(a:Addr)(ns:LI),xs=[.ref a]/\SqL K H a (ns.map V.int)/\Q (.bl (ns.any (· != 0))) H
def zji(hc:X.calm=true):CallR X (.builtin "any") (xbd X.K):=by
 intro pins s σ H xs us Q I r h;obtain⟨a,ns,rfl,ha,q⟩:=h;obtain⟨u,rfl,rx⟩:=qlj r;cases rx;obtain⟨its,rv,pl,_⟩:=I.list ha;have hl:=pl.isList;have hb:=zdc rv;have hlt:a<s.heap.objs.size:=pl.lt;refine call_any_walk (Qax hl ?_);refine⟨s.heap.objs.size,[s.heap.objs.size,a],[s.heap.objs.size],its.toArray.size,_,_,λi=>((ns[i]?).getD 1) != 0,rfl,Qlm (A:=X.A.in1) (I.ok.hd hc) _ a (Q3 hlt) its.toArray,
  ⟨⟨_,Qq _ rfl,rfl,rfl⟩,hl.push _⟩,λi v s' Q' E' hP hQ=>?_,λh' tk hk=>?_⟩
 ·obtain⟨n,t,e,rfl⟩:=qoa hb i v (by grind);simp only[e,Jk]at hQ;exact P.truthy_int hQ
 ·rw[zjf hb];refine⟨.bl (ns.any (· != 0)),H,I.kept (t':=tk) (λb o z=>hk b o (λhm=>?_) (Qf _ z)),rfl,q⟩;rw[Ze.mp hm]at z;exact Jx _ (Qm z)
def xah:DC
 |[.list l],q =>∃ns:LI,l=ns.map .int/\q (.bool (ns.any (· != 0)))
 |_,_=>False
def zxl(hc:X.calm=true):qjy X (.builtin "any") xah:=(zji hc).imp λxs H Q xx200=>by
 obtain⟨F,ds,q,s,i,h,k⟩:=xx200
 match ds,h,i with
 |[.list l],h,i =>
  obtain⟨v,rfl,j⟩:=qql i;obtain⟨a,xs,rfl,hs,hr⟩:=j.lst_inv;obtain⟨ns,rfl,hq⟩:=h;rw[hr.ints_inv]at hs;exact⟨a,ns,rfl,s.seq hs,k _ _ F H (.refl s) (qci _) hq⟩
end
abbrev Grp:=LI×Addr×List Nat
def qof(x:Grp):List Key×V:=(x.1.map Qda,V.ref x.2.1)
def grL(G:List Nat):List V:=G.map λi=>V.int ((i:Nat):Int)
structure GrAt(H0 F H:Hp)(d:Addr)(ks:List Grp):Prop where
 hd:H d=some (.dT (ks.map qof))
 fd:F d=none
 nd:H0 d=none
 hl:∀x∈ks,H x.2.1=some (.lst (grL x.2.2))
 fl:∀x∈ks,F x.2.1=none
 nl:∀x∈ks,H0 x.2.1=none
 dl:∀x∈ks,x.2.1≠d
 ad:(ks.map (·.2.1)).Nodup
 ky:(ks.map (·.1)).Nodup
def qpu(ks:List Grp)(k:LI)(s:Nat):List Grp:=ks.map λx=>if x.1=k then(x.1,x.2.1,x.2.2++[s])else x
def zsj{a b:LI}(h:(a.map Qda:List Key)=b.map Qda):a=b:=by
 induction a generalizing b with
 |nil=>cases b with
  |nil=>rfl
  |cons _ _=>cases h
 |cons x a ih=>cases b with
  |nil=>cases h
  |cons y b =>
   grind
def qnd{α β:Type}{f:α->β}:∀{l:List α},(l.map f).Nodup ->∀x∈l,∀y∈l,f x=f y->x=y
 |[],_,x,hx,_,_,_=>by cases hx
 |a::l,h,x,hx,y,hy,e=>by
  rw[Qr,Qbs]at h;rcases Q2.mp hx with zx|zx
  ·grind
  ·rcases Q2.mp hy with zy|zy
   ·grind
   ·exact qnd h.2 x zx y zy e
def qxx:∀(ks:List Grp),valV (ks.map qof) (k.map Qda)=(ks.find? λx=>decide (x.1=k)).map λx=>V.ref x.2.1
 |[]=>rfl
 |x::ks=>by
  rw[Qr];by_cases e:x.1=k
  ·rw[qhu (by show x.1.map Qda=_;rw[e]),List.find?_cons_of_pos (by simpa using e)];rfl
  ·rw[qhr (λz=>e (zsj z)),List.find?_cons_of_neg (by simpa using e),qxx ks]
def Go.at(g:Go F0 H0 F H)(h1:F a=none)(h2:H0 a=none):Go F0 H0 F (upd H a o) :=
 ⟨g.f,λb u e=>by rw[qo λz=>by grind];exact g.h b u e,λb u e=>by rw[qo λz=>by grind];exact g.fh b u e,g.new⟩
section
variable{F0 H0 F H:Hp}{d l p:Addr}{ks:List Grp}{k:LI}{G:List Nat}{s:Nat}
def GrAt.hit(h:GrAt H0 F H d ks)(m:(k,l,G)∈ks):GrAt H0 F (upd H l (.lst (grL (G++[s])))) d (qpu ks k s):=by
 have ne:d≠l:=λz=>h.dl _ m z.symm;have addr:∀y:Grp,(if y.1=k then(y.1,y.2.1,y.2.2++[s])else y).2.1=y.2.1:=λy=>by split <;> rfl
 have key:∀y:Grp,(if y.1=k then(y.1,y.2.1,y.2.2++[s])else y).1=y.1:=λy=>by split <;> rfl
 have nodup_at:=qnd (f:=λx:Grp=>x.2.1) h.ad;have nodup_key:=qnd (f:=λx:Grp=>x.1) h.ky;refine⟨?_,h.fd,h.nd,λx hx=>?_,λx hx=>?_,λx hx=>?_,λx hx=>?_,?_,?_⟩
 ·rw[qo ne,h.hd];unfold qpu;rw[Zi]
  congr 2
  refine Y2 λx _=>?_;show qof x=qof _;unfold qof;grind
 ·obtain⟨y,hy,rfl⟩:=Q1.mp hx;rw[addr];by_cases e:y.1=k
  ·have:=nodup_key y hy _ m e;subst this;rw[qp,if_pos rfl]
  ·rw[qo λz=>e ?_,if_neg e]
   ·exact h.hl y hy
   grind
 ·obtain⟨y,hy,rfl⟩:=Q1.mp hx;rw[addr];exact h.fl y hy
 ·obtain⟨y,hy,rfl⟩:=Q1.mp hx;rw[addr];exact h.nl y hy
 ·obtain⟨y,hy,rfl⟩:=Q1.mp hx;rw[addr];exact h.dl y hy
 ·have:(qpu ks k s).map (·.2.1)=ks.map (·.2.1):=by
   unfold qpu;rw[Zi];exact Y2 λx _=>addr x
  rw[this];exact h.ad
 ·have:(qpu ks k s).map (·.1)=ks.map (·.1):=by
   unfold qpu;rw[Zi];exact Y2 λx _=>key x
  rw[this];exact h.ky
def GrAt.miss(h:GrAt H0 F H d ks)(hp:H p=none)(fp:F p=none)(np:H0 p=none)(hk:∀x∈ks,x.1≠k):GrAt H0 F (upd (upd (upd H p (.lst [])) d (.dT ((ks++[(k,p,[s])]).map qof))) p (.lst (grL [s]))) d (ks++[(k,p,[s])]):=by
 have pd:p≠d:=λz=>by rw[z,h.hd]at hp;cases hp
 have pl:∀x∈ks,x.2.1≠p:=λx hx z=>by have:=h.hl x hx;grind
 have two:∀{P:Grp->Prop},(∀x∈ks,P x)->P (k,p,[s]) ->∀x∈ks++[(k,p,[s])],P x:=λa b x hx=>by
  grind
 refine⟨?_,h.fd,h.nd,two (λx hx=>?_) ?_,two h.fl fp,two h.nl np,two h.dl pd,?_,?_⟩
 ·rw[qo (Y9 pd),qp]
 ·rw[qo (pl x hx),qo (h.dl x hx),qo (pl x hx)];exact h.hl x hx
 ·exact qp
 ·rw[V1,Qr,Qbl,Qfe];refine⟨h.ad,by simp,λa ha b hb=>?_⟩;grind
 ·rw[V1,Qr,Qbl,Qfe];refine⟨h.ky,by simp,λa ha b hb=>?_⟩;grind
theorem zlb:grL G++[V.int ((s:Nat):Int)]=grL (G++[s]):=by unfold grL;rw[V1];rfl
end
def zcl(ks:List Grp)(k:LI)(p:Addr)(s:Nat):List Grp:=if(ks.any λx=>decide (x.1=k))=true then qpu ks k s else ks++[(k,p,[s])]
def zwk{K:Qa}(g:Go F0 H0 F H)(h:GrAt H0 F H d ks)(e1:σ[ig]?=some (some (.ref d)))(e2:σ[ia]?=some (some (.ref b)))(e3:σ[is]?=some (some (.int ((s:Nat):Int))))(hb:F b=some (.tup (k.map V.int)))(hn:ks.length<900)(hs:∀x∈ks,x.2.2.length<900)(q:∀p H',Go F0 H0 F H'->GrAt H0 F H' d (zcl ks k p s)->D.nx σ H'):zuw (tBM K "list" qwj (zol (zbb ig) (zbb ia) (xck ztm)) (zcw (zbb is) ztm)) D σ H:=by
  have hb':=g.fh.at hb;have ekv:(k.map Qda:List Key).map kV=k.map V.int:=by rw[Zi];rfl
  refine⟨_,e1,d,rfl,.inr ⟨_,.inl h.hd⟩,_,e2,Vb _,λp hp=>?_⟩;have pd:d≠p:=λz=>by rw[<- z,h.hd]at hp;cases hp
  have fp:F p=none:=qL g.fh hp;have np:H0 p=none:=qL g.h hp;have pb:b≠p:=λz=>by grind
  refine⟨ks.map qof,k.map Qda,b,by rw[qo pd];exact h.hd,rfl,by grind[qo],by grind[Qj,Yb],λv ev=>?_,λev=>?_⟩
  ·rw[qxx]at ev;cases ef:ks.find? λx=>decide (x.1=k)with
   |none=>grind
   |some x =>
    rw[ef]at ev;cases ev;have xm:=List.mem_of_find?_eq_some ef;have xk:x.1=k:=by grind
    obtain⟨k',l,G⟩:=x;have xk:k'=k:=xk;subst xk;have lp:l≠p:=λz=>by have:=h.hl _ xm;rw[z]at this;rw[show H p=_ from this]at hp;cases hp
    have hl:=h.hl _ xm;have ha:(ks.any λx=>decide (x.1=k'))=true:=Vk.mpr ⟨_,xm,by simp⟩;have h1:GrAt H0 F (upd H p (.lst [])) d ks:=⟨by rw[qo pd];exact h.hd,h.fd,h.nd,λx hx=>by
     rw[qo λz=>by have:=h.hl x hx;rw[z,hp]at this;cases this];exact h.hl x hx,h.fl,h.nl,h.dl,h.ad,h.ky⟩
    have z1:=(h1.hit (s:=s) xm)
    have hp':=q p (upd (upd H p (.lst [])) l (.lst (grL (G++[s])))) ((g.at fp np).at (h.fl _ xm) (h.nl _ xm)) (by unfold zcl;rw[if_pos ha];exact z1);refine⟨?_,_,e3,l,grL G,_,rfl,rfl,by rw[qo lp];exact hl,?_,?_⟩
    ·exact .inl ⟨rfl,grL G,SqL.of (by rw[qo lp];exact hl)⟩
    ·have:=hs _ xm;rw[Yb];show(grL G).length<_;unfold grL;rw[Qj];show G.length<_;have:G.length<900:=this;omega
    grind[zlb]
  ·rw[qxx]at ev;have ef:∀x∈ks,x.1≠k:=λx hx z=>by
    cases ef:ks.find? λx=>decide (x.1=k)with
    |none=>exact(by simpa using List.find?_eq_none.mp ef x hx : ¬ x.1=k) z
    |some y=>rw[ef]at ev;cases ev
   have ha : ¬ (ks.any λx=>decide (x.1=k))=true:=λz=>by
    obtain⟨x,hx,z⟩:=Vk.mp z;exact ef x hx (by simpa using z)
   have eput:qkb (ks.map qof) (k.map Qda) (.ref p)=(ks++[(k,p,[s])]).map qof:=by
    rw[znf _ (by rw[qxx];exact ev),V1];rfl
   rw[eput];have z1:=h.miss (s:=s) hp fp np ef;have hp':=q p _ (((g.at fp np).at h.fd h.nd).at fp np) (by unfold zcl;rw[if_neg ha];exact z1);have hl:upd (upd H p (.lst [])) d (.dT ((ks++[(k,p,[s])]).map qof)) p=some (.lst []):=by rw[qo (Y9 pd),qp]
   refine⟨.inl ⟨rfl,[],SqL.of hl⟩,_,e3,p,[],_,rfl,rfl,hl,by rw[Yb];decide,?_⟩;exact hp'
def Room.lam(r:Room (k+1) A)(env:Env):Room k (A.in1.in1.deeper env) :=
 ⟨r.hd,by have:=r.dp;show A.depth+1+3*k+5<_;omega,by have:=r.un;show A.units+1+1+3+16*k+200<_;omega⟩
def Room.sort(r:Room k A):A.units+1<cLine/\A.in1.in1.units<cLine/\A.in1.in1.depth<Qad :=
 ⟨by have:=r.un;omega,by have:=r.un;grind,by have:=r.dp;grind⟩
def quf:∀{l:List (Str×Qbe)},(∀p∈l,p.2 = .free->p.1=y) ->∀z,l.lookup z=some .free->z=y
 |[],_,z,h=>by cases h
 | (a,k)::l,g,z,h=>by
  rw[Qbd]at h;cases e:z==a with
  |true =>
   rw[e]at h;have hk:k = .free:=Za h;have:=eq_of_beq e;rw[this];exact g (a,k) (by simp) hk
  |false =>
   rw[e]at h;exact quf (λp hp=>g p (Qt _ hp)) z h
def GrAt.go(h:GrAt H0 F H d ks)(g:Go F H F' H'):GrAt H0 F' H' d ks :=
 ⟨g.h _ _ h.hd,zez g h.hd h.fd,h.nd,λx hx=>g.h _ _ (h.hl x hx),λx hx=>zez g (h.hl x hx) (h.fl x hx),h.nl,h.dl,h.ad,h.ky⟩
def zcp(gs:List (LI×List Nat))(k:LI)(s:Nat):List (LI×List Nat):=if(gs.any λx=>decide (x.1=k))=true then gs.map (λx=>if x.1=k then(x.1,x.2++[s])else x)else gs++[(k,[s])]
def qjs(ks:List Grp):List (LI×List Nat):=ks.map λx=>(x.1,x.2.2)
def zgr:qjs (zcl ks k p s)=zcp (qjs ks) k s:=by
 have e:((qjs ks).any λx=>decide (x.1=k))=ks.any λx=>decide (x.1=k):=by unfold qjs;rw[List.any_map];rfl
 unfold zcp zcl;rw[e];split
 ·unfold qpu qjs;grind[Zi,Y2]
 ·unfold qjs;grind
end L2
namespace L2
open PySem PySem.Spec PyProof.Rows PySem.W
section
variable{X:Cx}{t u:TS}
end
section
variable{K:Qa}{M:Frm}{F H:Hp}{env:Sto}{σ:St}{W:WS}{u:TS}
end
section
variable{P:Zk}{w:World}{K:Qa}{mg:Str->Option Value}{base:Heap}
def Fun.vlawT{st:Stmt}(F:Fun K x x st f fd)(S:FnScope N ps (defScope st))(hp:ps.length=1)(hbody:∀(cdv:Value)(A:Z1)(outer:List Env)(s:Ql)(H:Hp)(E:XK),Room k (A.deeper (Qbo x (defScope st) s.heap.objs.size f cdv))->Tbs ts H ->∀ns:LI,ns.length<=63 ->
 ∃W,VSs (qbv CX0 P w K mg base N x (defScope st) f cdv A outer s H E).nox (defBody st) W/\W { nx:=λ_=>False,rt:=λr _=>r.data = .bool true } (qal N [.list (ns.map .int)])):FnOk P w K mg base CX0 (k+1) f fd ps (qtg ts K):=by
  refine F.ok S (λvs H Q E h=>?_) (λcdv A outer s H vs Q E hr h=>?_)
  ·obtain⟨_,a,ns,rfl,_⟩:=h;exact hp.symm
  ·obtain⟨tss,a,ns,rfl,hS,hlen,kk⟩:=h;have hi:Iss K H [.list (ns.map .int)] [.ref a]:=qI (qdg hS (qry ns)) qah;obtain⟨W,hW,hq⟩:=hbody cdv A outer s H E hr tss ns hlen;refine⟨_,hW,⟨H,H,H⟩,qal N _,H,_,qbr (.refl _) hi,hq,⟨λe1 F1 H1 σ1 I1 s1 q1=>q1.elim,λr v e1 F1 H1 σ1 I1 s1 r1 q1=>?_,λ_ _ _ _ _ _ h=>h.elim,λ_ _ _ _ _ _ h=>h.elim⟩⟩;obtain⟨F2,g,j⟩:=r1.is I1;have q1:r.data = .bool true:=q1;rw[q1]at j;rw[j.bl_inv];exact kk H1
end
def codeTb(K:Qa)(c tb:Addr):Bool:=match K.lookup c with
 |some ⟨.type "code",_,.fields vs,_⟩=>vs[11]?==some (.ref tb)
 |_=>false
abbrev emT:Obj:=⟨.none,none,.fields #[],#[]⟩
def qnc{K:Qa}:∀(ts:List (Addr×Addr)),(b∈ts.map (·.1)/\(ts.map (λp=>(p.1,emT))++K).lookup b=some emT)\/(b∉ts.map (·.1)/\(ts.map (λp=>(p.1,emT))++K).lookup b=K.lookup b)
 |[] => .inr ⟨by simp,rfl⟩
 |p::ts=>by
  show(b∈p.1::ts.map (·.1)/\((p.1,emT)::(ts.map (λp=>(p.1,emT))++K)).lookup b=some emT)\/(b∉p.1::ts.map (·.1)/\((p.1,emT)::(ts.map (λp=>(p.1,emT))++K)).lookup b=K.lookup b);rw[Qbd];by_cases e:b=p.1
  ·grind
  ·have hb:(b==p.1)=false:=by simpa using e
   rw[hb];rcases qnc (K:=K) (b:=b) ts with⟨h1,h2⟩|⟨h1,h2⟩
   ·grind
   grind
def tabs_in{K:Qa}{ts:List (Addr×Addr)}(n:(ts.all λp=>(K.lookup p.1).isNone)=true)(q:(ts.all λp=>codeTb K p.2 p.1)=true)(Y:Qa.In (ts.map (λp=>(p.1,emT))++K) h):K.In h /\ ∀b∈ts.map (·.1),∃c,h.TableAt c b #[]:=by
 have kin:K.In h:=λb o e=>by
  rcases qnc (K:=K) (b:=b) ts with⟨h1,h2⟩|⟨h1,h2⟩
  ·grind
  ·exact Y b o (h2.trans e)
 refine⟨kin,λb hb=>?_⟩;rcases qnc (K:=K) (b:=b) ts with⟨h1,h2⟩|⟨h1,h2⟩
 ·obtain⟨p,hp,rfl⟩:=Q1.mp hb;have q:=Q4.mp q p hp;refine⟨p.2,?_,Y _ _ h2⟩;unfold codeTb at q;split at q
  case h_2=>cases q
  rename_i dd vs sl ho;exact⟨_,vs,kin _ _ ho,rfl,rfl,by simpa using q⟩
 grind
def none_all{K:Qa}{ts:List (Addr×Addr)}(n:(ts.all λp=>(K.lookup p.1).isNone)=true):∀b∈ts.map (·.1),K.lookup b=none:=λb hb=>by
 obtain⟨p,hp,rfl⟩:=Q1.mp hb;exact Vv.mp (Q4.mp n p hp)
section
variable{a:Addr}{F H F1 H1 F2 H2:Hp}
end
section
variable{prog:Zk}{w:World}{A:Z1}{E:Value->Ql->Prop}{s:Ql}
end
section
variable{X:Cx}{pins:List (Addr×Obj)}{σ:St}{H:Hp}{s:Ql}{A:Z1}{E:Value->Ql->Prop}{vs:List Value}{kl:Nat->LI}{m:Nat}{a:Addr}{P:Qkr->Ql->Prop}
end
section
variable{X:Cx}
end
section
variable{X:Cx}{elt target iter cnd:Expr}{scope:Scope}{pos py spos:Pos}{caps own:List Str}{ix:List Nat}{Wi:WF}{G:WG}{Wt:WT}{We:WE}{i:Nat}{y:Str}
end
section
variable{prog:Zk}{w:World}{A:Z1}{E:Value->Ql->Prop}{s:Ql}{b c f:Bool}{z TI TO j1 j2 l1 l2 a:Addr}{oa:Obj}{k1 k2:Nat}{us vs:Array Value}
end
section
variable{prog:Zk}{w:World}{A:Z1}{E:Value->Ql->Prop}{s:Ql}{b c:Bool}{z TI TO j1 j2 l1 l2 M S:Addr}{us vs:Array Value}{i:Nat}{h h':Heap}
end
section
variable{X:Cx}{pins:List (Addr×Obj)}{σ:St}{s:Ql}
end
section
variable{P:Zk}{w:World}{K:Qa}{mg:Str->Option Value}{base:Heap}{q:Str}{scope:Scope}{f cg:Addr}{cd ug u:Value}{x y:Str}{A:Z1}{outer:List Env}{s:Ql}{H:Hp}{v vg:V}{h1:Heap}{tk:Nat}
end
section
variable{X:Cx}{pins:List (Addr×Obj)}{σ:St}{H:Hp}{s:Ql}{E:Value->Ql->Prop}{f a:Addr}{xs:List V}{its:List Value}{b:Bool}{kl:Nat->LI}{G:Hp->Prop}{m:Nat}{Q:Value->Ql->Prop}
end
section
variable{X:Cx}{pins:List (Addr×Obj)}{σ:St}{x y:Str}{scope:Scope}{params:Qgu}{body:Expr}{te:TE}{f cg c:Addr}{pm ct:Value}{vg:V}{vsV:List V}{vs:List Value}{kn:Nat->Int}{G:Hp->Prop}{oc:Obj}{uu:HO}{fv:Array Value}{q:Str}{t:Tok}{nm qual:Str}{iy:Nat}
end
section
variable{X:Cx}{x y:Str}{scope:Scope}{params:Qgu}{body:Expr}{te:TE}{cg c0 tb:Addr}{iy:Nat}{np gp lp kp pos:Pos}
end
section
variable{X:Cx}{elt target iter cnd:Expr}{scope:Scope}{pos py spos:Pos}{caps own:List Str}{ix:List Nat}{Wi:WF}{G:WG}{Wt:WT}{We:WE}{i:Nat}{y:Str}
end
end L2
namespace HT
open PySem PySem.Spec PyProof.Rows
section
variable{prog:Zk}{w:World}{A:Z1}{E:Value->Ql->Prop}{s:Ql}
end
end HT
namespace L2
open PySem PySem.Spec PyProof.Rows PySem.W
def zrw(h:Vals xs its)(f:Nat->Nat):∀js:List Nat,Vals (js.filterMap λk=>xs[f k]?) (js.filterMap λk=>its[f k]?)
 |[] => .nil
 |k::js=>by
  have ih:=zrw h f js;rw[Y1,Y1];cases e:xs[f k]? with
  |none =>
   have:its[f k]?=none:=Qak (by rw[<- h.length];grind);grind
  |some x =>
   obtain⟨u,hu,r⟩:=h.get e;rw[hu];exact .cons r ih
section
variable{X:Cx}{e:Expr}{te:TE}{p2 pos:Pos}
end
section
variable{X:Cx}{e:Expr}{W:WE}{p2 p3 p4 pos:Pos}
end
section
variable{X:Cx}{x:Str}{px pos p pT:Pos}
end
def xea(K:Qa)(n:Nat)(t:TGs):TG:=λv σ H Q =>∃a xs,v = .ref a/\SqL K H a xs/\xs.length=n/\t xs σ H Q
def zyl{pos:Pos}{k:Nat}(hc:X.calm=true)(h:PGs X es t)(hn:(Vj es X.env).length=n:=by rfl)(hst:(Vj es X.env).findIdx? (·.1)=none:=by rfl):PG X (.Tuple es k pos) (xea X.K n t):=by
  intro pins s σ H v u Q I r hw;obtain⟨a,xs,e1,hq,hl,hw⟩:=hw;subst e1;cases r;obtain⟨its,rv,ht,hz⟩:=I.list hq;have en:(Vj es X.env).length=its.toArray.size:=by simp[hn,<- hl,rv.length]
  rw[PyProof.Rows.assign_Tuple];refine Qe (Qcg ?_);unfold unpack;rw[en,hst];refine Qe (Qav (PySem.W.kun_itemsOf (I.ok.hd hc) ht.isList λh' hx=>?_));have I1:Inv X pins σ H { s with heap:=h' }:=I.kept (t':=s.toks) λb o e=>hx b o (Q3 (Qm e)) e;exact h pins _ σ H xs _ Q I1 (by grind) hw
def zzz(n:Nat)(Gs:WGs):WG:=λd env Q=>match d with |.list l=>l.length=n/\Gs l env Q|_=>False
def zyo{pos:Pos}{kk n:Nat}(hc:X.calm=true)(h:VGs X es Gs)(hn:(Vj es X.env).length=n:=by rfl)(hst:(Vj es X.env).findIdx? (·.1)=none:=by rfl):VG X (.Tuple es kk pos) (zzz n Gs) :=
 (zyl hc h hn hst).imp λv σ H R xx201=>by
  obtain⟨M,env,F,d,Q,I,j,h,k⟩:=xx201;cases d with
  |list l =>
   obtain⟨a,xs,rfl,hs,hr⟩:=j.lst_inv;exact⟨a,xs,rfl,I.fh.seq hs,by rw[hr.len];exact h.1,M,env,F,l,Q,I,hr,h.2,k⟩
  |_=>exact Q7 h
end L2
namespace L2
open PySem PySem.Spec PyProof.Rows
section
open Builtin.Int (intBits)
section
variable{X:Cx}
def zra(x:V)(xs:List V)(H:Hp)(Q:VK):Prop :=∃a b,x = .str a/\xs=[.str b]/\Q (.bl (Va a b)) H
def zhu:MtR X "str.startswith" zra:=by
 intro pins s σ H x xs v us Q I r rs h;obtain⟨a,b,rfl,rfl,q⟩:=h;obtain⟨t,rfl⟩:=r;obtain⟨u,rfl,ru⟩:=rs.one;obtain⟨t2,rfl⟩:=ru;exact SC.startswith ⟨.bl _,H,I,rfl,q⟩
def qet(x y:Str):List Str:=match Q5 x y 0 x.length 1 with
 |i::_=>[Q9 x 0 i,y,Q9 x (i+y.length) x.length]
 |[]=>[x,Zf,Zf]
def xbw(x:V)(xs:List V)(H:Hp)(Q:VK):Prop :=∃a b,x = .str a/\xs=[.str b]/\((b.length==0)=false/\a.length<=Qo) /\ ∀l,H l=none->Q (.ref l) (upd H l (.tup ((qet a b).map .str)))
def ztg:MtR X "str.partition" xbw:=by
 intro pins s σ H x xs v us Q I r rs h;obtain⟨a,b,rfl,rfl,⟨hb,ha⟩,q⟩:=h;obtain⟨t,rfl⟩:=r;obtain⟨u,rfl,ru⟩:=rs.one;obtain⟨t2,rfl⟩:=ru;refine Qac F.slot_str_partition (Qau _ _ _) F.entry_str_partition (F.args_str_partition_2 _ _) (meets_str_partition a b t t2 hb ha) ?_;unfold qet at q
 revert q
 cases Q5 a b 0 a.length 1 with
 |nil =>
  intro q;have I2:Inv X pins σ (upd H s.heap.objs.size (.tup ([a,Zf,Zf].map .str))) { s with toks:=s.toks+1,heap:=s.heap.push { cls :=.type "tuple",data :=.seq [Qdr a t,.str Zf s.toks,.str Zf s.toks].toArray } } :=
   I.laid (t':=s.toks+1) (λb o e=>Qf _ e) (Qn _) (show ObjOk X.prog X.w _ _ _ (.tup _) from⟨by show 3<=Qo;decide,[Qdr a t,.str Zf s.toks,.str Zf s.toks],.cons ⟨_,rfl⟩ (.cons ⟨_,rfl⟩ (.cons ⟨_,rfl⟩ .nil)),Qkn _ _⟩)
  exact⟨.ref s.heap.objs.size,_,I2,rfl,q _ (I.hok.fresh (Qn _))⟩
 |cons i r =>
  intro q;have I2:Inv X pins σ (upd H s.heap.objs.size (.tup ([Q9 a 0 i,b,Q9 a (i+b.length) a.length].map .str))) { s with toks:=s.toks+1+1,heap:=s.heap.push { cls :=.type "tuple",data :=.seq [Qdr (Q9 a 0 i) s.toks,.str b t2,.str (Q9 a (i+b.length) a.length) (s.toks+1)].toArray } } :=
   I.laid (t':=s.toks+1+1) (λb o e=>Qf _ e) (Qn _) (show ObjOk X.prog X.w _ _ _ (.tup _) from⟨by show 3<=Qo;decide,[Qdr (Q9 a 0 i) s.toks,.str b t2,.str (Q9 a (i+b.length) a.length) (s.toks+1)],.cons ⟨_,rfl⟩ (.cons ⟨_,rfl⟩ (.cons ⟨_,rfl⟩ .nil)),Qkn _ _⟩)
  exact⟨.ref s.heap.objs.size,_,I2,rfl,q _ (I.hok.fresh (Qn _))⟩
def quu:∀{ls:List Str}{its:List Value},Vals (ls.map V.str) its ->∃l:List (Str×Tok),Qcc l=its/\l.map (·.1)=ls
 |[],_,.nil=>⟨[],rfl,rfl⟩
 |x::ls,_,.cons r rs=>by
  obtain⟨t,rfl⟩:=r;obtain⟨l,e1,e2⟩:=quu rs;exact⟨(x,t)::l,by rw[<- e1];rfl,by rw[Qr,e2]⟩
def xao(K:Qa)(x:V)(xs:List V)(H:Hp)(Q:VK):Prop :=∃a p ls,x = .str a/\xs=[.ref p]/\SqL K H p (ls.map V.str)/\JoinOk a ls=true/\Q (.str (Y8 a ls)) H
def zpz:MtR X "str.join" (xao X.K):=by
 intro pins s σ H x xs v us Q I r rs h;obtain⟨a,p,ls,rfl,rfl,hq,hok,q⟩:=h;obtain⟨t,rfl⟩:=r;obtain⟨u,rfl,ru⟩:=rs.one;cases ru;obtain⟨its,rv,pl,hz⟩:=I.list hq;obtain⟨l,e1,e2⟩:=quu rv;rw[<- e1]at pl;exact SC.join pl.isList e2 hok λt' k=>⟨.str _,H,I.tok _,⟨_,rfl⟩,q⟩
def zws(x:V)(xs:List V)(H:Hp)(Q:VK):Prop :=∃a b,x = .str a/\xs=[.str b]/\((b.length==0)=false/\a.length<=Qo/\(Zr a (Q5 a b 0 a.length (a.length+1)) b.length).length<=Qo/\(Z8 a b).length<=Qo) /\ ∀l,H l=none->Q (.ref l) (upd H l (.lst ((Z8 a b).map .str)))
def qmy:∀(l:List (Str×Tok)),Vals ((l.map (·.1)).map V.str) (Qcc l)
 |[] => .nil
 | (x,t)::l => .cons ⟨t,rfl⟩ (qmy l)
def zmo:MtR X "str.split" zws:=by
 intro pins s σ H x xs v us Q I r rs h;obtain⟨a,b,rfl,rfl,⟨hb,ha,hp,hn⟩,q⟩:=h;obtain⟨t,rfl⟩:=r;obtain⟨u,rfl,ru⟩:=rs.one;obtain⟨t2,rfl⟩:=ru;have lay:∀(l:List (Str×Tok))(k:Nat),l.map (·.1)=Z8 a b->EP X pins σ Q (.ref s.heap.objs.size) { s with toks:=k,heap:=s.heap.push { cls :=.type "list",data :=.seq (Qcc l).toArray } }:=λl k e=>by
  have rv:Vals ((Z8 a b).map V.str) (Qcc l):=by rw[<- e];exact qmy l
  have I2:Inv X pins σ (upd H s.heap.objs.size (.lst ((Z8 a b).map .str))) { s with toks:=k,heap:=s.heap.push { cls :=.type "list",data :=.seq (Qcc l).toArray } } :=
   I.laid (t':=k) (λb o e=>Qf _ e) (Qn _) (show ObjOk X.prog X.w _ _ _ (.lst _) from⟨by rw[Qj];exact hn,Qcc l,_,rv,Qq _ rfl⟩)
  exact⟨.ref s.heap.objs.size,_,I2,rfl,q _ (I.hok.fresh (Qn _))⟩
 cases h1:(decide (a.length<b.length)||decide (Vr a<Vr b))
 ·cases hf:(Q5 a b 0 a.length (a.length+1)).isEmpty
  ·refine Qac J8 (Qau _ _ _) Jv (Qeh _ _) (meets_str_split_sep a b t t2 h1 hb hf ha hp) ?_;show EP X pins σ Q _ { s with toks:=_,heap:=s.heap.push { cls :=.type "list",data :=.seq (strsFrom s.toks (Zr a (Q5 a b 0 a.length (a.length+1)) b.length)).toArray } };rw[strsFrom_eq];exact lay _ _ ((numbered_texts _ _).trans ((if_neg (ne_true_of_eq_false h1)).trans (if_neg (ne_true_of_eq_false hf))).symm)
  ·exact Qac J8 (Qau _ _ _) Jv (Qeh _ _) (meets_str_split_not_found a b t t2 h1 hb hf) (lay [(a,t)] _ ((if_neg (ne_true_of_eq_false h1)).trans (if_pos hf)).symm)
 ·exact Qac J8 (Qau _ _ _) Jv (Qeh _ _) (meets_str_split_cannot_occur a b t t2 h1) (lay [(a,t)] _ (if_pos h1).symm)
def qam{K:Qa}(h:Is K F (.str x) v):v = .str x:=h
def qhx{K:Qa}:∀ls:List Str,Iss K F (ls.map Zc) (ls.map V.str)
 |[]=>qah
 |x::ls=>qI (qeh x) (qhx ls)
def iss_strs'{K:Qa}:∀{ls:List Str}{xs:List V},Iss K F (ls.map Zc) xs->xs=ls.map V.str
 |[],_,h=>h.nil_inv
 |b::bs,_,h=>by obtain⟨y,ys,rfl,p,q⟩:=h.cons_inv;rw[qam p,iss_strs' q];rfl
end
section
variable{X:Cx}{o e:Expr}{Wo We:WE}{apos cpos:Pos}
def wM2(f:Str->Str->(Qh->Prop)->Prop)(Wo We:WE):WE:=λenv Q=>Wo env λd e1 =>∃a,d = .str a/\We e1 λd2 e2 =>∃b,d2 = .str b/\f a b λr=>Q r e2
def zug(a b:Str)(q:Qh->Prop):Prop:=q (.bool (Va a b))
def xac(a b:Str)(q:Qh->Prop):Prop:=((b.length==0)=false/\a.length<=Qo)/\q (.tuple ((qet a b).map .str))
def zyn(a b:Str)(q:Qh->Prop):Prop:=((b.length==0)=false/\a.length<=Qo/\(Zr a (Q5 a b 0 a.length (a.length+1)) b.length).length<=Qo/\(Z8 a b).length<=Qo)/\q (.list ((Z8 a b).map .str))
def qug(ho:VE X o Wo)(he:VE X e We)(hbase:Z2 o "startswith" X.env (eval o X.env)=eval o X.env:=by rfl)(hfew:((Z5 cpos (Qi [e] X.env)).all (λx => !x.1)&&(Qai cpos (Ve [] X.env)).all (λx=>x.1.isSome)&&decide ([e].length+([]:List Jj).length+(if([]:List Jj).isEmpty then 0 else 1)<30))=true:=by rfl)(hline:(apos.endLine==cpos.line)=true:=by rfl)(hst:Qi [e] X.env=(false,eval e X.env)::Qi [] X.env:=by rfl)(hplain:(Z5 cpos (Qi [] X.env)).any (·.1)=false:=by rfl):
 VE X (.Call (.Attribute o "startswith" apos) [e] [] cpos) (wM2 zug Wo We) :=
 (qtw Je PySem.F.slot_str_startswith PySem.F.type_str_startswith zhu ho (qF he qar hst) hbase hfew hline hst hplain).imp λσ H R xx202=>by
  obtain⟨M,env,F,Q,I,h,k⟩:=xx202;refine⟨M,env,F,_,I,h,λd v F1 H1 e1 I1 s1 i1 h1=>?_⟩;obtain⟨a,rfl,h1⟩:=h1;rw[qam i1];refine⟨rfl,M,e1,F1,_,I1,h1,λd2 v2 F2 H2 e2 I2 s2 i2 h2=>?_⟩;obtain⟨b,rfl,h2⟩:=h2;exact⟨a,b,rfl,by rw[qam i2],k _ _ F2 H2 e2 I2 (s1.trans s2) (qci _) h2⟩
def zex(ho:VE X o Wo)(he:VE X e We)(hbase:Z2 o "partition" X.env (eval o X.env)=eval o X.env:=by rfl)(hfew:((Z5 cpos (Qi [e] X.env)).all (λx => !x.1)&&(Qai cpos (Ve [] X.env)).all (λx=>x.1.isSome)&&decide ([e].length+([]:List Jj).length+(if([]:List Jj).isEmpty then 0 else 1)<30))=true:=by rfl)(hline:(apos.endLine==cpos.line)=true:=by rfl)(hst:Qi [e] X.env=(false,eval e X.env)::Qi [] X.env:=by rfl)(hplain:(Z5 cpos (Qi [] X.env)).any (·.1)=false:=by rfl):
 VE X (.Call (.Attribute o "partition" apos) [e] [] cpos) (wM2 xac Wo We) :=
 (qtw Je PySem.F.slot_str_partition PySem.F.type_str_partition ztg ho (qF he qar hst) hbase hfew hline hst hplain).imp λσ H R xx203=>by
  obtain⟨M,env,F,Q,I,h,k⟩:=xx203;refine⟨M,env,F,_,I,h,λd v F1 H1 e1 I1 s1 i1 h1=>?_⟩;obtain⟨a,rfl,h1⟩:=h1;rw[qam i1];refine⟨rfl,M,e1,F1,_,I1,h1,λd2 v2 F2 H2 e2 I2 s2 i2 h2=>?_⟩;obtain⟨b,rfl,hb,h2⟩:=h2;refine⟨a,b,rfl,by rw[qam i2],hb,λl hl=>?_⟩;have g:=Go.put (o:=HO.tup ((qet a b).map V.str)) I2.fh hl;exact k _ _ _ _ e2 (I2.go g) (s1.trans (s2.trans g.f)) (qld (SqT.of qp) (qhx _)) h2
def qrw(ho:VE X o Wo)(he:VE X e We)(hbase:Z2 o "split" X.env (eval o X.env)=eval o X.env:=by rfl)(hfew:((Z5 cpos (Qi [e] X.env)).all (λx => !x.1)&&(Qai cpos (Ve [] X.env)).all (λx=>x.1.isSome)&&decide ([e].length+([]:List Jj).length+(if([]:List Jj).isEmpty then 0 else 1)<30))=true:=by rfl)(hline:(apos.endLine==cpos.line)=true:=by rfl)(hst:Qi [e] X.env=(false,eval e X.env)::Qi [] X.env:=by rfl)(hplain:(Z5 cpos (Qi [] X.env)).any (·.1)=false:=by rfl):
 VE X (.Call (.Attribute o "split" apos) [e] [] cpos) (wM2 zyn Wo We) :=
 (qtw Je Qgg Qgh zmo ho (qF he qar hst) hbase hfew hline hst hplain).imp λσ H R xx204=>by
  obtain⟨M,env,F,Q,I,h,k⟩:=xx204;refine⟨M,env,F,_,I,h,λd v F1 H1 e1 I1 s1 i1 h1=>?_⟩;obtain⟨a,rfl,h1⟩:=h1;rw[qam i1];refine⟨rfl,M,e1,F1,_,I1,h1,λd2 v2 F2 H2 e2 I2 s2 i2 h2=>?_⟩;obtain⟨b,rfl,hb,h2⟩:=h2;refine⟨a,b,rfl,by rw[qam i2],hb,λl hl=>?_⟩;have g:=Go.put (o:=HO.lst ((Z8 a b).map V.str)) I2.fh hl;exact k _ _ _ _ e2 (I2.go g) (s1.trans (s2.trans g.f)) (qdg (SqL.of qp) (qhx _)) h2
def xbq(Wo We:WE):WE:=λenv Q=>Wo env λd e1 =>∃a,d = .str a/\We e1 λd2 e2 =>∃ls:List Str,d2 = .list (ls.map .str)/\JoinOk a ls=true/\Q (.str (Y8 a ls)) e2
def qwt(ho:VE X o Wo)(he:VE X e We)(hbase:Z2 o "join" X.env (eval o X.env)=eval o X.env:=by rfl)(hfew:((Z5 cpos (Qi [e] X.env)).all (λx => !x.1)&&(Qai cpos (Ve [] X.env)).all (λx=>x.1.isSome)&&decide ([e].length+([]:List Jj).length+(if([]:List Jj).isEmpty then 0 else 1)<30))=true:=by rfl)(hline:(apos.endLine==cpos.line)=true:=by rfl)(hst:Qi [e] X.env=(false,eval e X.env)::Qi [] X.env:=by rfl)(hplain:(Z5 cpos (Qi [] X.env)).any (·.1)=false:=by rfl):
 VE X (.Call (.Attribute o "join" apos) [e] [] cpos) (xbq Wo We) :=
 (qtw Je PySem.F.slot_str_join PySem.F.type_str_join zpz ho (qF he qar hst) hbase hfew hline hst hplain).imp λσ H R xx205=>by
  obtain⟨M,env,F,Q,I,h,k⟩:=xx205;refine⟨M,env,F,_,I,h,λd v F1 H1 e1 I1 s1 i1 h1=>?_⟩;obtain⟨a,rfl,h1⟩:=h1;rw[qam i1];refine⟨rfl,M,e1,F1,_,I1,h1,λd2 v2 F2 H2 e2 I2 s2 i2 h2=>?_⟩;obtain⟨ls,rfl,hok,h2⟩:=h2;obtain⟨p,xs,rfl,hs,hr⟩:=i2.lst_inv;have ex:=iss_strs' hr;subst ex;exact⟨a,p,ls,rfl,rfl,I2.fh.seq hs,hok,k _ _ F2 H2 e2 I2 (s1.trans s2) (qeh _) h2⟩
end
section
variable{X:Cx}{a b c e:Expr}{Wa Wb Wc We:WE}{pos:Pos}
def zrk(he:PE X e te):PE X (.FormattedValue e (-1) none pos) (λσ H Q=>te σ H λx H1 =>∃n,x = .int n/\n.natAbs.log2<1920/\Q (.str (toString n)) H1):=by
 intro pins s σ H Q I h;refine wpAny_FormattedValue_plain (thn (he pins s σ H _ I h) λv s1 xx206=>?_);obtain⟨x,H1,I1,r1,n,e1,hn,q⟩:=xx206;subst e1;obtain⟨t,rfl⟩:=r1;exact wpAny_formatField_int hn ⟨.str _,H1,I1.tok _,⟨_,rfl⟩,q⟩
def xdx(W:WE):WE:=λenv Q=>W env λd e =>∃n,d = .int n/\n.natAbs.log2<1920/\Q (.str (toString n)) e
def qwg(he:VE X e We):VE X (.FormattedValue e (-1) none pos) (xdx We):=(zrk he).imp λσ H R xx207=>by
 obtain⟨M,env,F,Q,I,h,k⟩:=xx207;refine⟨M,env,F,_,I,h,λd v F1 H1 e1 I1 s1 i1 h1=>?_⟩;obtain⟨n,rfl,hn,h1⟩:=h1;exact⟨n,i1.int_inv,hn,k _ _ F1 H1 e1 I1 s1 (qeh _) h1⟩
def zwa(he:VE X e We):VE X (.JoinedStr [e] pos) We:=λpins s σ H Q I h=>wpAny_JoinedStr_one (he pins s σ H Q I h)
def zww(ha:PE X a ta)(hb:PE X b tb)(hc:PE X c tc)(he:evalEach [a,b,c] X.env=[eval a X.env,eval b X.env,eval c X.env]:=by rfl):
 PE X (.JoinedStr [a,b,c] pos) (λσ H Q=>ta σ H λx H1 =>∃u,x = .str u/\(Zf++u).length<=Qo/\tb σ H1 λy H2 =>∃v,y = .str v/\(Zf++u++v).length<=Qo/\tc σ H2 λz H3 =>∃w,z = .str w/\(Zf++u++v++w).length<=Qo/\Q (.str (Zf++u++v++w)) H3):=by
 intro pins s σ H Q I h;refine wpAny_JoinedStr ?_;rw[he];refine thn (ha pins s σ H _ I h) λv1 s1 xx210=>?_;obtain⟨x,H1,I1,r1,u,e1,l1,h1⟩:=xx210;subst e1;obtain⟨t1,rfl⟩:=r1;refine⟨u,t1,rfl,l1,thn (hb pins s1 σ H1 _ I1 h1) λv2 s2 xx209=>?_⟩;obtain⟨y,H2,I2,r2,v,e2,l2,h2⟩:=xx209;subst e2;obtain⟨t2,rfl⟩:=r2;refine⟨v,t2,rfl,l2,thn (hc pins s2 σ H2 _ I2 h2) λv3 s3 xx208=>?_⟩;obtain⟨z,H3,I3,r3,w,e3,l3,h3⟩:=xx208;subst e3;obtain⟨t3,rfl⟩:=r3;exact⟨w,t3,rfl,l3,l3,.str _,H3,I3.tok _,⟨_,rfl⟩,h3⟩
def xfj(Wa Wb Wc:WE):WE:=λenv Q=>Wa env λd e1 =>∃u,d = .str u/\(Zf++u).length<=Qo/\Wb e1 λd2 e2 =>∃v,d2 = .str v/\(Zf++u++v).length<=Qo/\Wc e2 λd3 e3 =>∃w,d3 = .str w/\(Zf++u++v++w).length<=Qo/\Q (.str (Zf++u++v++w)) e3
def zxx(ha:VE X a Wa)(hb:VE X b Wb)(hc:VE X c Wc)(he:evalEach [a,b,c] X.env=[eval a X.env,eval b X.env,eval c X.env]:=by rfl):VE X (.JoinedStr [a,b,c] pos) (xfj Wa Wb Wc) :=
 (zww ha hb hc he).imp λσ H R xx211=>by
  obtain⟨M,env,F,Q,I,h,k⟩:=xx211;refine⟨M,env,F,_,I,h,λd v F1 H1 e1 I1 s1 i1 h1=>?_⟩;obtain⟨u,rfl,l1,h1⟩:=h1;refine⟨u,qam i1,l1,M,e1,F1,_,I1,h1,λd2 v2 F2 H2 e2 I2 s2 i2 h2=>?_⟩;obtain⟨v,rfl,l2,h2⟩:=h2;refine⟨v,qam i2,l2,M,e2,F2,_,I2,h2,λd3 v3 F3 H3 e3 I3 s3 i3 h3=>?_⟩;obtain⟨w,rfl,l3,h3⟩:=h3;exact⟨w,qam i3,l3,k _ _ F3 H3 e3 I3 (s1.trans (s2.trans s3)) (qeh _) h3⟩
end
section
variable{X:Cx}
def zyt:OpR X (Zs .In) (λx y H Q =>∃u v,x = .str u/\y = .str v/\Q (.bl (Qcv v u)) H):=by
 intro pins s σ H x y v u Q I rx ry h;obtain⟨a,b,rfl,rfl,q⟩:=h;obtain⟨t,rfl⟩:=rx;obtain⟨t2,rfl⟩:=ry;exact SB.contains ⟨.bl _,H,I,rfl,q⟩
def xfg:D2
 |.str u,.str v,q=>q (.bool (Qcv v u))
 |_,_,_=>False
def zzl:OpV X (Zs .In) xfg:=zyt.imp λx y H Q xx212=>by
 obtain⟨F,dx,dy,q,s,i1,i2,h,k⟩:=xx212;cases dx with
 |str z =>
  cases dy with
  |str n=>exact⟨z,n,qam i1,qam i2,k _ _ F H (.refl s) (qci _) h⟩
  |_=>exact(show False from h).elim
 |_=>exact(show False from h).elim
def zgx:CallR X (.type "int") (λxs H Q =>∃x n,xs=[.str x]/\Zd x=some n/\x.length<=640/\Q (.int n) H):=by
 intro pins s σ H xs us Q I r h;obtain⟨x,n,rfl,hn,hl,q⟩:=h;obtain⟨u,rfl,ru⟩:=qlj r;obtain⟨t,rfl⟩:=ru;exact PySem.W.KIN.call_text hn hl ⟨.int _,H,I.tok _,⟨_,rfl⟩,q⟩
def zzg:DC
 |[.str x],q =>∃n,Zd x=some n/\x.length<=640/\q (.int n)
 |_,_=>False
def qsy:qjy X (.type "int") zzg:=zgx.imp λxs H Q xx213=>by
 obtain⟨F,ds,q,s,i,h,k⟩:=xx213
 match ds,h,i with
 |[.str x],⟨n,hn,hl,h⟩,i =>
  obtain⟨v,rfl,j⟩:=qql i;exact⟨x,n,by rw[qam j],hn,hl,k _ _ F H (.refl s) (qaq _) h⟩
end
section
variable{X:Cx}{a:Expr}{Wa:WE}{p2 pos:Pos}
def qml(x:Str)(lo hi:Option Int):Str:=if(Z3 lo hi 1 x.length).length=x.length then x else⟨((Z3 lo hi 1 x.length).filterMap (x.cps[·]?)).toArray⟩
def xep(x:V)(lo hi:Option Int)(H:Hp)(Q:VK):Prop :=∃a,x = .str a/\(qml a lo hi).length<=Qo/\Q (.str (qml a lo hi)) H
def zyu:SlR X xep:=by
 intro pins s σ H x v vl vu lo hi sl Q I rx hs pl pu h;obtain⟨a,rfl,hz,q⟩:=h;obtain⟨t,rfl⟩:=rx;have part:∀{v:Value}{o:Option Int},IsPart v o ->∃p:Option (Int×Tok),v=partValue p/\p.map (·.1)=o:=λ{v o} h=>by
  cases h with
  |none=>exact⟨none,rfl,rfl⟩
  |int i t=>exact⟨some (i,t),rfl,rfl⟩
 obtain⟨l,rfl,el⟩:=part pl;obtain⟨u,rfl,eu⟩:=part pu;refine⟨"str",_,PySem.F.slot_str_getitem.lookup,Qau _ _ _,wpAny_getItem_str_slice (l:=l) (u:=u) (st:=none) hs rfl ?_⟩;have ep:slicePicked a l u none=Z3 lo hi 1 a.length:=by unfold slicePicked;rw[el,eu];rfl
 unfold sliceMade;unfold qml at hz q;rw[ep];by_cases c:(Z3 lo hi 1 a.length).length=a.length
 ·rw[if_pos c]at q;rw[if_pos (by simp[c])];exact⟨.str a,H,I,⟨_,rfl⟩,q⟩
 ·rw[if_neg c]at hz q;rw[if_neg (by simp[c])];exact⟨hz,.str _,H,I.tok _,⟨_,rfl⟩,q⟩
def xek(Wa:WE)(Wl Wh:WO):WE:=λenv Q=>Wa env λd e1=>Wl e1 λlo e2=>Wh e2 λhi e3=>match d with
 |.str x=>(qml x lo hi).length<=Qo/\Q (.str (qml x lo hi)) e3
 |_=>False
def zjd{lo hi:Option Expr}(he:VE X a Wa)(hl:VO X lo Wl)(hu:VO X hi Wh):VE X (.Subscript a (.Slice lo hi none p2) pos) (xek Wa Wl Wh) :=
 (qzo zyu he hl hu).imp λσ H R xx214=>by
  obtain⟨M,env,F,Q,I,h,k⟩:=xx214;refine⟨M,env,F,_,I,h,λd v F1 H1 e1 I1 s1 i1 h1=>⟨M,e1,F1,_,I1,h1,λlo F2 H2 e2 I2 s2 h2=>⟨M,e2,F2,_,I2,h2,λhi F3 H3 e3 I3 s3 h3=>?_⟩⟩⟩;cases d with
  |str x=>exact⟨x,qam i1,h3.1,k _ _ F3 H3 e3 I3 (s1.trans (s2.trans s3)) (qeh _) h3.2⟩
  |_=>exact Q7 h3
end
def chS(c:Nat):Str:=⟨#[c]⟩
def Itx(x:Str):It:=⟨λi _=>i<x.cps.size,λi H v H'=>H'=H /\ ∃c,x.cps[i]?=some c/\v = .str (chS c),λi _=>x.cps.size<=i⟩
def zgo{K:Qa}(it:Addr)(x:Str)(t:Tok):Turn P w K tg (Itx x) [it] it (λi h=>h.IsStrIter it "str_ascii_iterator" x t i) where
 mem:=by simp
 obj:=λi h st b hb=>by
  have e:b=it:=by simpa using hb
  subst e;obtain⟨o,ho,hc,hd⟩:=st;exact⟨o,ho,λv z=>by rw[hd]at z;cases z⟩
 keep:=λi h h' xx215 k=>by obtain⟨o,ho,r⟩:=xx215;exact⟨o,k it (by simp) o ho,r⟩
 item:=by
  intro X hP hw hK hc i pins s σ H E I hf st hg;subst hP hw hK;have hg:i<x.cps.size:=hg;obtain⟨f0,f1,f2,f3,f4,f5⟩:=hf it (by simp);have hx:x.cps[i]?=some x.cps[i]:=Qer hg;refine wpAny_pyNext_ascii_item st hx λh' st' sb=>?_;have I1:Inv X pins σ H { s with heap:=h',toks:=s.toks+1 }:=I.turned (t':=s.toks+1) (λb o hb e=>(sb.2 b hb).trans e) f0 f1 f3 f4 f5;obtain⟨o,e,c,d⟩:=id st';exact⟨_,rfl,zjp (s:={ s with heap:=h',toks:=s.toks+1 }) e c d (by decide) ⟨.str (chS x.cps[i]),H,I1,⟨_,rfl⟩,⟨rfl,_,hx,rfl⟩,st',λb hb=>(hf b hb).1⟩⟩
 done:=by
  intro X hP hw hK hc i pins s σ H E I hf st hg;subst hP hw hK;have hg:x.cps.size<=i:=hg;obtain⟨f0,f1,f2,f3,f4,f5⟩:=hf it (by simp);exact wpAny_pyNext_ascii_end (I.ok.hd hc) st (Array.getElem?_eq_none hg) λh' eb=>⟨rfl,I.turned (t':=s.toks) (λb o hb e=>eb b o hb e) f0 f1 f3 f4 f5⟩
 self:=λ_ _ _ _ _ st h=>wpAny_pyIter_striter_ascii st h
section
variable{X:Cx}{tg a:Expr}{W:WE}
def xdk(tl:TE):TI:=λσ H R=>tl σ H λx H1 =>∃a,x = .str a/\a.cps.all (· < 128)=true/\R (Itx a) H1
def zyx(hl:PE X l tl):PI X tg l (xdk tl):=by
 intro pins s σ H R I h;refine thn (hl pins s σ H _ I h) λv s1 xx216=>?_;obtain⟨x,H1,I1,r1,q1⟩:=xx216;obtain⟨a,e,ha,q⟩:=q1;subst e;obtain⟨t,rfl⟩:=r1;refine wpAny_pyIter_ascii ha ?_;refine⟨s1.heap.objs.size,[s1.heap.objs.size],_,_,H1,rfl,I1.kept (t':=s1.toks) λb o e=>Qf _ e,zgo _ a t,⟨_,Qq _ rfl,rfl,rfl⟩,λb hb=>?_,q⟩;have e:b=s1.heap.objs.size:=by simpa using hb
 subst e;exact I1.fpOk (Qn _) (I1.hok.fresh (Qn _))
def qir(x:Str):List Qh:=x.cps.toList.map λc => .str (chS c)
def zrc{K:Qa}:ItD K (Itx x) F (qir x) where
 go:=λi H _ h=>by
  have:i<x.cps.size:=by simpa[qir]using h
  exact this
 stop:=λH _=>by
  show x.cps.size<=(qir x).length;simp[qir]
 yld:=λi H v H' F1 s1 s2 h xx217=>by
  obtain⟨e,c,hc,ev⟩:=xx217;subst e;refine⟨.str (chS c),F1,?_,.refl s2,?_⟩
  ·unfold qir;rw[Qg,Array.getElem?_toList,hc];rfl
  ·rw[ev];exact qeh _
def zzx(W:WE):WF:=λenv Q=>W env λd e=>match d with
 |.str x=>x.cps.all (· < 128)=true/\Q (qir x) e
 |_=>False
def zxu(h:VE X a W):VI X tg a (zzx W):=(zyx h).imp λσ H R xx218=>by
 obtain⟨M,env,F,Q,I,h,k⟩:=xx218;refine⟨M,env,F,_,I,h,λd v F1 H1 e1 I1 s1 i1 h1=>?_⟩;cases d with
 |str x=>exact⟨x,qam i1,h1.1,k _ _ F1 H1 e1 I1 s1 zrc h1.2⟩
 |_=>exact Q7 h1
end
def zay{x y:Str}{pos:Pos}(h:∃t,X.mg x=some (.str y t))(hg:Gl X x:=by rfl)(hd:Nd0 x:=by decide):VE X (.Name x pos) (wC (.str y)):=by
 obtain⟨t,hm⟩:=h;exact zkc (qbt (v :=.str y) hg hm ⟨t,rfl⟩ hd) λ_=>qeh y
end
end L2
namespace L2
open PySem PySem.Spec PyProof.Rows PySem.W
section
variable{X:Cx}{pins:List (Addr×Obj)}{σ:St}{H:Hp}{s:Ql}{a:Addr}{k:PKy}{c:Addr}{xs:List zvh}
variable{A:Z1}{E:Value->Ql->Prop}{y:V}{u:Value}{n:Int}{r:Option Int}
end
section
variable{X:Cx}{o i e f value:Expr}{pos pos' apos cpos:Pos}{td ty tv tx:TE}
abbrev xej:=PKy×Int
def atD(es:List xej)(k:PKy):Option Int:=(es.find? λx=>decide (x.1=k)).map (·.2)
end
def Room.u2(r:Room k A):A.units+2<cLine:=by have:=r.un;omega
section
variable{X:Cx}
end
end L2
namespace L2
open PySem PySem.Spec PyProof.Rows
section
variable{X:Cx}{pins:List (Addr×Obj)}{σ:St}{H:Hp}{s s':Ql}{E:XK}{e:Value}
def zwp(I:Inv X pins σ H s)(h:CX1 X.prog X.w X.stack H s E e s'):CXI X pins σ E e s':=by
 obtain⟨ea,C,a0,B,H',rfl,fl,os,bare,u,ok,tB,pB,q⟩:=h;have I':Inv X pins σ H' s':=I.call' os u ok bare λb hb=>nomatch hb
 refine⟨ea,C,a0,.none,B,H',s',rfl,fl,I',⟨rfl,bare⟩,fl.1,λb o _ z _=>⟨o.slots,z⟩,tB,λb o z n1 n2=>?_,q⟩;obtain⟨o',ho'⟩:=I.base.there b o z n2;refine pB b o' ho' λhb=>?_;rcases Q2.mp (I.stkSub b hb)with y|y
 ·exact absurd (Qm z) (Y6.mpr (y▸I.ok.above))
 ·exact n1 y
def PassesI.at(h:PassesI X σ E):qay X σ E:=λpins H s e s' I c=>h pins e s' (zwp I c)
def xbp(I:Inv X pins σ H s)(hex:X.ex=[])(hst:X.stack=X.env::X.outer)(hfr:X.env.frame=some X.env.locals)(kB:∀b o,s.heap.get? b=some o->b∉frs X.stack->((∃o',X.s₀.heap.get? b=some o') \/ ∃u,H b=some u)->h''.get? b=some o)(sl:∀b o,b∈X.fs->s.heap.get? b=some o->(∀vs,o.data≠.fields vs) ->∃sl,h''.get? b=some { o with slots:=sl }):Un X.fs [] X.H₀ H X.s₀.heap h''/\HOk X.prog X.w H h'':=by
  have fsOf:∀b,b∈frs X.stack->b=X.env.locals\/b∈X.fs:=λb hb=>by
   rcases Q2.mp (I.stkSub b hb)with z|z
   ·exact .inl z
   ·exact .inr z
  have old:∀b o,X.s₀.heap.get? b=some o->b∉X.fs->b∉frs X.stack:=λb o q n hb=>by
   rcases fsOf b hb with z|z
   ·exact absurd (Qm q) (Y6.mpr (z▸I.ok.above))
   ·exact n z
  have nx:∀b,b∉X.ex:=λb=>by rw[hex];simp
  have frame:∀b∈X.fs,∃o,s.heap.get? b=some o /\ ∀vs,o.data≠.fields vs:=λb hb=>by
   have hb':b∈frs X.stack:=by
    rw[hst];unfold frs;rw[Y1,hfr];exact Qt _ hb
   obtain⟨_,o,ho,hd⟩:=I.stack.mem hb';exact⟨o,ho,hd⟩
  refine⟨⟨λb o q n hb _=>kB b o (I.base.keep b o q n hb (nx b)) (old b o q hb) (.inl ⟨o,q⟩),λb o q n hb _=>?_,λb o q n _=>I.base.free b o q n (nx b),λb o q _=>?_,I.base.tups,I.base.frzs,I.base.tbls⟩,λa u e=>?_⟩
  ·obtain⟨s1,h1⟩:=I.base.slot b o q n hb (nx b);obtain⟨o',ho',hd⟩:=frame b hb;rw[h1]at ho';cases ho';obtain⟨s2,h2⟩:=sl b _ hb h1 hd;exact⟨s2,h2⟩
  ·obtain⟨o',h1⟩:=I.base.there b o q (nx b);by_cases hb:b∈X.fs
   ·obtain⟨o2,ho2,hd⟩:=frame b hb;obtain⟨s2,h2⟩:=sl b _ hb ho2 hd;exact⟨_,h2⟩
   ·exact⟨o',kB b o' h1 (old b o q hb) (.inl ⟨o,q⟩)⟩
  ·have nf:∀b v,H b=some v->b∉frs X.stack:=λb v eb hb=>by rw[I.stkFree b hb]at eb;cases eb
   refine(I.hok a u e).stay (λc ob hc z=>?_) (λc z=>z) (λc xs z=>z);rcases hc with hc|hc
   ·subst hc;exact kB _ _ z (nf _ _ e) (.inr ⟨_,e⟩)
   ·exact kB _ _ z (nf _ _ hc) (.inr ⟨_,hc⟩)
end
section
variable{P:Zk}{w:World}{K:Qa}{mg:Str->Option Value}{base:Heap}{N:List Str}{qual:Str}{scope:Scope}{f:Addr}{cd:Value}{A:Z1}{outer:List Env}{s:Ql}{H:Hp}{E:XK}{σ:St}
def qkd:PassesI (qbv (CX1 P w) P w K mg base N qual scope f cd A outer s H E) σ E:=by
 intro pins e s' h;obtain⟨ea,C,a0,fl,B,H',s1,rfl,m,I,⟨os,bare⟩,st,sl,tB,old,q⟩:=h;refine zhg I.ok.frames rfl m λh'' x1 x4=>?_;have kB:∀b o,s1.heap.get? b=some o->b∉frs (qbv (CX1 P w) P w K mg base N qual scope f cd A outer s H E).stack->((∃o',s.heap.get? b=some o') \/ ∃v,H' b=some v)->h''.get? b=some o:=λb o z n t=>by
  obtain⟨o',ho'⟩:∃o',B.get? b=some o':=by
   rcases t with⟨o',t⟩|⟨v,t⟩
   ·exact old b o' t (λhb=>n (Qt _ hb)) (by simp[qbv])
   ·exact tB b v t
  have:=st b o' ho';rw[z]at this;cases this;exact x1.1 b _ ho'
 obtain⟨u',ok'⟩:=xbp I rfl rfl rfl kB (λb o hb z d=>by
  obtain⟨s2,z2⟩:=sl b o (.inl (Qt _ hb)) z d;obtain⟨s3,z3⟩:=x4 b _ z2 d;exact⟨s3,z3⟩)
 exact⟨ea,C,a0,B,H',rfl,x1,os.trans I.os,bare,u',ok',tB,λb o z n=>old b o z n (by simp[qbv]),q⟩
end
def FrX(X:Cx):Prop :=∃qha outer0 L,X.stack=qha::outer0/\qha.frame=some L/\X.env.frame=some L
def CXI.unwish(h:CXI (X.wish E') pins σ E e s'):CXI X pins σ E e s':=by
 obtain⟨ea,C,a0,fl,B,H',s1,x1,x2,I,x3⟩:=h;exact⟨ea,C,a0,fl,B,H',s1,x1,x2,I.unwish,x3⟩
section
variable{X:Cx}{Ex:St->XK}{elt target iter:Expr}{scope:Scope}{pos:Pos}{caps own:List Str}{ix:List Nat}{wi:TI}{g:TG}{teX:(St->XK)->TE}
def qxq(Ex:St->XK)(ix:List Nat)(k:Nat)(wi:TI)(g:TG)(teX:(St->XK)->TE):TE:=λσ H Q=>zbw ix k wi g (teX λ_=>Ex σ) σ H Q
def qnn(hX:∀σ,PassesI X σ (Ex σ))(hfr:FrX X)(hc:X.calm=true)(S:CompScope X.env scope caps)(hi:PI X target iter wi)(hg:∀pins s3 H ex,PG (blk X pins scope (caps++own) s3 H ex) target g)(he:∀pins s3 H ex xe EB,(∀σ1,PassesI ((blk X pins scope (caps++own) s3 H ex).wish xe) σ1 (EB σ1))->PE ((blk X pins scope (caps++own) s3 H ex).wish xe) elt (teX EB))(hix:caps.length=ix.length)(hcapB:(caps.zip ix).all (λp=>X.N[p.2]?==some p.1)=true)(hs:∀x,Zn iter X.env x=pure x){σ:St}(I:Inv X pins σ H s)(h:qxq Ex ix own.length wi g teX σ H Qv)(fin:∀(D C:Addr)(s6:Ql)(H6:Hp)(m6:Str->Option Value),s6.heap.Ns C m6->Inv X pins σ H6 s6->H6 C=none->C≠X.env.locals->C∉X.fs->(C∈X.ex\/X.s₀.heap.objs.size<=C)->(∀x c,X.env.cells.lookup x=some c->c≠C)->(∀p∈X.pn++pins,p.1≠C)->Qv (.ref D) H6 ->
 Qin (model X.prog X.w) X.A X.xe use Q0 (.ref D) C (.ok .next) s6):
 wpAny (model X.prog X.w) X.A (Qcb (.ListComp elt [⟨target,iter,[],0⟩] scope pos) scope X.env pos' (Qla []) false (eval iter X.env) use) Q0 X.xe s:=by
  refine qrl (E0:=Ex σ) (cs:=[]) (tt:=xcs) (Tst:=λ_ P _ s=>P true s) (λJ turn n h=>qcw J turn n h) hc S hi hg (λpins s3 H ex=>he pins s3 H ex _ (λ_=>Ex σ) λσ1 pins1 e s' c=>⟨pins1,σ1,c.unwish⟩) (.inr hfr) (λ_ _ _ _ _ s _ H' _ _ _ I q k=>k true s H' I q) hix hcapB hs I (hX σ) h (λJ H1 z=>?_) fin;obtain⟨W,w0,turn⟩:=z;refine⟨W,w0,λi m ys σ1 H2 w=>?_⟩;rcases turn i m ys σ1 H2 w with z|z
  ·exact .inl z
  ·obtain⟨go,hz,N,hN,step⟩:=z;exact .inr ⟨go,hz,N,λ_ _=>False,hN,λ_ _ z=>z.elim,step⟩
def zly(hX:∀σ,PassesI X σ (Ex σ))(hfr:FrX X)(hc:X.calm=true)(S:CompScope X.env scope caps)(hi:PI X target iter wi)(hg:∀pins s3 H ex,PG (blk X pins scope (caps++own) s3 H ex) target g)(he:∀pins s3 H ex xe EB,(∀σ1,PassesI ((blk X pins scope (caps++own) s3 H ex).wish xe) σ1 (EB σ1))->PE ((blk X pins scope (caps++own) s3 H ex).wish xe) elt (teX EB))(hix:caps.length=ix.length:=by rfl)(hcapB:(caps.zip ix).all (λp=>X.N[p.2]?==some p.1)=true:=by rfl)(hs:∀x,Zn iter X.env x=pure x:=by intro _;rfl):PE X (.ListComp elt [⟨target,iter,[],0⟩] scope pos) (qxq Ex ix own.length wi g teX):=by
  intro pins s σ H Q I h;rw[Qio];exact qnn (use:=none) (Q0:=EP X pins σ Q) hX hfr hc S hi hg he hix hcapB hs I h λD C s6 H6 m6 ns6 IX c1 c2 c3 c4 c5 c6 q=>⟨m6,ns6,λh' sb=>⟨.ref D,H6,IX.turned (t':=s6.toks) (it:=C) (λb o hb q=>sb.extBut b o hb q) c1 c2 c4 c5 c6,rfl,q⟩⟩
def zma{py spos:Pos}(hX:∀σ,PassesI X σ (Ex σ))(hfr:FrX X)(hN:X.N.Nodup)(hiy:X.N[i]?=some y)(hy:X.env.scope.names.lookup y=some .local)(hsw:V8 (.ListComp elt [⟨target,iter,[],0⟩] scope pos) (some (.Name y py)) spos.line X.env=pure true)(hc:X.calm=true)(S:CompScope X.env scope caps)(hi:PI X target iter wi)(hg:∀pins s3 H ex,PG (blk X pins scope (caps++own) s3 H ex) target g)(he:∀pins s3 H ex xe EB,(∀σ1,PassesI ((blk X pins scope (caps++own) s3 H ex).wish xe) σ1 (EB σ1))->PE ((blk X pins scope (caps++own) s3 H ex).wish xe) elt (teX EB))(hix:caps.length=ix.length:=by rfl)(hcapB:(caps.zip ix).all (λp=>X.N[p.2]?==some p.1)=true:=by rfl)(hs:∀x,Zn iter X.env x=pure x:=by intro _;rfl):PS X (.Assign [.Name y py] (.ListComp elt [⟨target,iter,[],0⟩] scope pos) spos) (zvo (qxq Ex ix own.length wi g teX) (zjt i)):=by
  intro pins s σ H D I h;rw[Qgx _ _ _ _ hsw];refine Qe (Qcg (Qe ?_));show wpAny _ _ (do let _ <- Qcb (.ListComp elt [⟨target,iter,[],0⟩] scope pos) scope X.env _ (Qla []) false (eval iter X.env) (some (Qdi (.Name y py) X.env))) _ _ s;refine Qe (thn (qnn (use:=some (Qdi (.Name y py) X.env)) (Q0:=λ_ s'=>SP X pins D .next s') hX hfr hc S hi hg he hix hcapB hs I h λD' C s6 H6 m6 ns6 IX c1 c2 c3 c4 c5 c6 q=>?_) (λ_ s' hq=>Qx (Qx hq)));obtain⟨oC,esC,epC,hoC,hdC,rC⟩:=id ns6;have IX':Inv X (pins++[(C,oC)]) σ H6 s6:=IX.pins_of λp hp=>by
   rcases Zz.mp hp with z|z
   ·exact IX.pin p (Qw _ z)
   ·rw[Ze.mp z];exact⟨hoC,c1,c2,c3,λv q=>by rw[hdC]at q;cases q⟩
  show wpAny _ _ (Qdi (.Name y py) X.env (.ref D')) _ _ _;refine Qfl (qhv IX' hN hiy (Yi hy) (v :=.ref D') rfl (λs7 I7=>?_) (.inr hy));have gC:s7.heap.get? C=some oC:=(I7.pin (C,oC) (Qw _ (Qw _ (Ze.mpr rfl)))).1;refine⟨m6,⟨oC,esC,epC,gC,hdC,rC⟩,λh' sb=>?_⟩;exact⟨_,_,I7.unpinned.turned (t':=s7.toks) (it:=C) (λb o hb q=>sb.extBut b o hb q) c1 c2 c4 c5 c6,q⟩
end
def zoc(K:Qa)(Ex:St->XK)(W:WX->WF):TE:=λσ H R =>∃M env F Wx Q,EnvOk K M F H env σ/\W Wx env Q/\ExOk K M F Wx Ex /\ ∀a vs ds F' H' env',EnvOk K M F' H' env' σ->Same F F'->H' a=some (.lst vs)->F' a=none->M.B a=none->M.He a=none ->
 (∀i,(gS env' i).mut=true->vS σ i≠some (.ref a))->Iss K F' ds vs->Q ds env'->R (.ref a) H'
def qyk(K:Qa)(Ex:St->XK)(W:WX->WF):TA:=λσ H R =>∃M env F Wx Q,EnvOk K M F H env σ/\W Wx env Q/\ExOk K M F Wx Ex /\ ∀ds vs F' H' env',EnvOk K M F' H' env' σ->Same F F'->Iss K F' ds vs->Q ds env'->R vs H'
def zdq(K:Qa)(Ex:St->XK)(W:WX->WF):TI:=λσ H R =>∃M env F Wx Q,EnvOk K M F H env σ/\W Wx env Q/\ExOk K M F Wx Ex /\ ∀ds J F' H' env',EnvOk K M F' H' env' σ->Same F F'->ItD K J F' ds->Q ds env'->R J H'
def VIX(X:Cx)(Ex:St->XK)(tg e:Expr)(W:WX->WF):Prop:=PI X tg e (zdq X.K Ex W)
def VFX(X:Cx)(Ex:St->XK)(e:Expr)(W:WX->WF):Prop:=PE X e (zoc X.K Ex W)
def VAX(X:Cx)(Ex:St->XK)(e:List Expr)(W:WX->WF):Prop:=PA X e (qyk X.K Ex W)
def zed(ix:List Nat)(k:Nat)(Wi:WX->WF)(G:WG)(We:WX->WE):WX->WF:=λWx env Q=>Wi Wx env λds e0=>ds.length<Qo /\ ∃P:Nat->List Qh->Sto->Prop,P 0 [] (qrj ix k e0) /\
 (∀i d ys e,ds[i]?=some d->P i ys e->G d e λe1=>We (λC _=>Wx C e0) e1 λy e2=>P (i+1) (ys++[y]) e2) /\ ∀ys e,P ds.length ys e->Q ys e0
section
variable{K:Qa}{Ex:St->XK}{ix:List Nat}{n:Nat}{Wi:WX->WF}{G:WG}{We:WX->WE}{σ:St}{H:Hp}{R:VK}
def qqs(h:zoc K Ex (zed ix n Wi G We) σ H R):qxq Ex ix n (zdq K Ex Wi) (qov K G) (λEB=>qlb K EB We) σ H R:=by
 obtain⟨M,env,F,Wx,Q,I,h,hx,k⟩:=h;refine⟨M,env,F,Wx,_,I,h,hx,λds J F1 H1 e1 I1 s1 jt xx220=>?_⟩;obtain⟨hz,P,p0,turn,fin⟩:=xx220;refine⟨λi m ys σ1 H'=>m=ds.length-i/\i<=ds.length /\ ∃e' F' l,EnvOk K ⟨H1,H1,F1⟩ F' H' e' σ1/\Iss K F' l ys/\ys.length=i/\P i l e',⟨ds.length,by simp,Vb _,qrj ix n e1,F1,[],I1.cap ix n,qah,rfl,p0⟩,?_⟩;rintro i m ys σ1 H2 ⟨hm,hi,e2,F2,l,I2,i2,hl,p2⟩;have g2:=I2.goOf;by_cases he:i=ds.length
 ·subst he;exact .inl ⟨jt.stop H2 (g2.f.trans g2.fh),by omega,qme (I1.go g2) (s1.trans g2.f) i2 (fin l e2 p2) k⟩
 ·have hlt:i<ds.length:=by omega
  refine .inr ⟨jt.go i H2 (g2.f.trans g2.fh) hlt,by omega,λy σ' H' =>∃e' F' l',EnvOk K ⟨H1,H1,F1⟩ F' H' e' σ'/\Iss K F' l' (ys++[y])/\P (i+1) l' e',
   λy σ' H' xx219=>by obtain⟨e',F',l',I',i',p'⟩:=xx219;exact⟨ds.length-(i+1),by omega,rfl,hlt,e',F',l',I',i',by simp[hl],p'⟩,λx H3 hy=>?_⟩
  obtain⟨d,F3,hd,g,j⟩:=jt.yld i H2 x H3 F2 g2.f g2.fh hlt hy;refine⟨_,e2,F3,d,_,I2.go g,j,turn i d l e2 hd p2,λF4 H4 e4 σ4 I4 s4 h4=>⟨_,e4,F4,_,_,I4,h4,λC e5 F5 H5 σ5 I5 s5 q5=>?_,λd5 v5 F5 H5 e5 I5 s5 i5 h5=>?_⟩⟩
  ·exact hx C e1 F5 H5 σ (I1.go I5.goOf) (s1.trans I5.goOf.f) q5
  ·exact⟨e5,F5,l++[d5],I5,qbl ((i2.mono (g.f.trans s4)).mono s5) (qI i5 qah),h5⟩
end
section
variable{X:Cx}{Ex:St->XK}
def zdr(h:VI X tg e W):VIX X Ex tg e (λ_=>W):=PI.imp h λσ H R xx221=>by obtain⟨M,env,F,Wx,Q,I,h,hx,k⟩:=xx221;exact⟨M,env,F,Q,I,h,k⟩
def zes(h:VEX X Ex a W):VIX X Ex tg a (λWx=>zpo (W Wx)):=(zpc h).imp λσ H R xx222=>by
 obtain⟨M,env,F,Wx,Q,I,h,hx,k⟩:=xx222;refine⟨M,env,F,Wx,_,I,h,hx,λd v F1 H1 e1 I1 s1 i1 h1=>?_⟩;cases d with
 |list l =>
  obtain⟨b,xs,rfl,hs,hr⟩:=i1.lst_inv;exact⟨b,rfl,.inl ⟨⟨xs,I1.fh.seq hs⟩,k l _ F1 H1 e1 I1 s1 (zfr hs hr) h1⟩⟩
 |tuple l =>
  obtain⟨b,xs,rfl,hs,hr⟩:=i1.tup_inv;exact⟨b,rfl,.inr ⟨⟨xs,qJ I1.fh hs⟩,k l _ F1 H1 e1 I1 s1 (zeh hs hr) h1⟩⟩
 |_=>exact Q7 h1
def qlt{pos:Pos}{ix:List Nat}(hX:∀σ,PassesI X σ (Ex σ))(hfr:FrX X)(hc:X.calm=true)(S:CompScope X.env scope caps)(hi:VIX X Ex target iter Wi)(hg:∀pins s3 H ex,VG (blk X pins scope (caps++own) s3 H ex) target G)(he:∀pins s3 H ex xe EB,(∀σ1,PassesI ((blk X pins scope (caps++own) s3 H ex).wish xe) σ1 (EB σ1))->VEX ((blk X pins scope (caps++own) s3 H ex).wish xe) EB elt We)(hix:caps.length=ix.length:=by rfl)(hcapB:(caps.zip ix).all (λp=>X.N[p.2]?==some p.1)=true:=by rfl)(hs:∀x,Zn iter X.env x=pure x:=by intro _;rfl):VFX X Ex (.ListComp elt [⟨target,iter,[],0⟩] scope pos) (zed ix own.length Wi G We) :=
  (zly (g:=qov X.K G) (teX:=λEB=>qlb X.K EB We) hX hfr hc S hi hg he hix hcapB hs).imp λ_ _ _ h=>qqs h
def qyd(h:VFX X Ex e W):VEX X Ex e (λWx=>wL (W Wx)):=h.imp λσ H R xx223=>by
 obtain⟨M,env,F,Wx,Q,I,h,hx,k⟩:=xx223;refine⟨M,env,F,Wx,_,I,h,hx,λa vs ds F1 H1 e1 I1 s1 h1 h2 h3 h4 h5 h6 h7=>?_⟩;obtain⟨J,s⟩:=I1.frz h1 h2 h4 h5;exact k _ _ _ H1 e1 J (s1.trans s) (qdg (SqL.of qp) (h6.mono s)) h7
def zfj(h:VEX X Ex e W)(hs:Qi [e] X.env=(false,eval e X.env)::Qi [] X.env:=by rfl):VAX X Ex [e] (λWx env Q=>W Wx env λd e1=>Q [d] e1) :=
 (qF h qar hs).imp λσ H R xx224=>by obtain⟨M,env,F,Wx,Q,I,h,hx,k⟩:=xx224;exact⟨M,env,F,Wx,_,I,h,hx,λd v F1 H1 e1 I1 s1 i1 h1=>k [d] [v] F1 H1 e1 I1 s1 (qI i1 qah) h1⟩
def qqy(h:qlb X.K Ex (λWx=>qgp r (Wr Wx)) σ H R):qyk X.K Ex Wr σ H λvs H1=>qxw X.K r vs H1 R:=by
 obtain⟨M,env,F,Wx,Q,I,h,hx,k⟩:=h;exact⟨M,env,F,Wx,_,I,h,hx,λds vs F1 H1 e1 I1 s1 i1 h1=>⟨F1,ds,_,I1.fh,i1,h1,λd v F2 H2 g i2 q=>k d v F2 H2 e1 (I1.go g) (s1.trans g.f) i2 q⟩⟩
variable{x:Str}{p pos:Pos}{e:Expr}{es:List Expr}
def ztp(O:OkC X x k ps (PSp X.K sp))(hr:Room k X.A)(ha:VAX X Ex (e::es) Wr)(hg:Gl X x:=by rfl)(hdb:Nd0 x:=by decide)(he:Qi (e::es) X.env=(false,eval e X.env)::Qi es X.env:=by rfl)(hpl:(Z5 pos (Qi es X.env)).any (·.1)=false:=by rfl):VEX X Ex (.Call (.Name x p) (e::es) [] pos) (λWx=>qgp sp (Wr Wx)) :=
 (qxk O hr ha hg hdb he hpl).imp λσ H R h=>by
  have e:qjr (PSp X.K sp) [] E0 (qyk X.K Ex Wr) σ H R=qyk X.K Ex Wr σ H λvs H1=>qxw X.K sp vs H1 R:=by unfold qjr PSp;simp only[Yc]
  rw[e];exact qqy h
def zbu(hc:qjy X (.type T) r)(hm:X.mg x=none)(hv:Zj x=some (.type T))(ha:VAX X Ex (e::es) Wr)(hg:Gl X x:=by rfl)(hn:x ≠ "__name__":=by decide)(hdb:Nd0 x:=by decide)(he:Qi (e::es) X.env=(false,eval e X.env)::Qi es X.env:=by rfl)(hpl:(Z5 pos (Qi es X.env)).any (·.1)=false:=by rfl):VEX X Ex (.Call (.Name x p) (e::es) [] pos) (λWx=>qgp r (Wr Wx)) :=
 (qih hc hg hm hv ha hn hdb he hpl).imp λ_ _ _ h=>qqy h
def zlu{ix:List Nat}{py spos:Pos}(hX:∀σ,PassesI X σ (Ex σ))(hfr:FrX X)(hN:X.N.Nodup)(hc:X.calm=true)(S:CompScope X.env scope caps)(hi:VIX X Ex target iter Wi)(hg:∀pins s3 H ex,VG (blk X pins scope (caps++own) s3 H ex) target G)(he:∀pins s3 H ex xe EB,(∀σ1,PassesI ((blk X pins scope (caps++own) s3 H ex).wish xe) σ1 (EB σ1))->VEX ((blk X pins scope (caps++own) s3 H ex).wish xe) EB elt We)(hiy:X.N[i]?=some y:=by rfl)(hy:X.env.scope.names.lookup y=some .local:=by rfl)(hsw:V8 (.ListComp elt [⟨target,iter,[],0⟩] scope pos) (some (.Name y py)) spos.line X.env=pure true:=by rfl)(hix:caps.length=ix.length:=by rfl)(hcapB:(caps.zip ix).all (λp=>X.N[p.2]?==some p.1)=true:=by rfl)(hs:∀x,Zn iter X.env x=pure x:=by intro _;rfl):
  VSX X Ex (.Assign [.Name y py] (.ListComp elt [⟨target,iter,[],0⟩] scope pos) spos) (λWx=>zve i (wL (zed ix own.length Wi G We Wx))) :=
  (zma (wi:=zdq X.K Ex Wi) (g:=qov X.K G) (teX:=λEB=>qlb X.K EB We) hX hfr hN hiy hy hsw hc S hi hg he hix hcapB hs).imp λD σ H ⟨M,env,F,Wx,DD,I,h,hx,k⟩=>qqs ⟨M,env,F,Wx,_,I,h,hx,λa vs ds F1 H1 e1 I1 s1 h1 h2 h3 h4 h5 h6 h7=>by
   obtain⟨J,s⟩:=I1.frz h1 h2 h4 h5;exact k.nx _ _ H1 _ (J.setv (qdg (SqL.of qp) (h6.mono s))) (s1.trans s) h7⟩
def qlo{G:WG}{We:WE}{Q:List Qh->Sto->Prop}{ds:List Qh}(f:Qh->Qh->Prop)(hz:ds.length<Qo)(Iv:Sto->Prop)(h0:Iv (qrj ix k e0))(h:∀d e(q:Qh->Sto->Prop),d∈ds->Iv e->(∀y e2,f d y->Iv e2->q y e2)->G d e λe1=>We e1 q)(q:∀L,L.length=ds.length->(∀(i:Nat)d,ds[i]?=some d ->∃y,L[i]?=some y/\f d y)->Q L e0):
 ds.length<Qo /\ ∃P:Nat->List Qh->Sto->Prop,P 0 [] (qrj ix k e0)/\(∀i d ys e,ds[i]?=some d->P i ys e->G d e λe1=>We e1 λy e2=>P (i+1) (ys++[y]) e2) /\ ∀ys e,P ds.length ys e->Q ys e0:=by
  refine⟨hz,λi ys e=>(ys.length=i /\ ∀(j:Nat)d,j<i->ds[j]?=some d ->∃y,ys[j]?=some y/\f d y)/\Iv e,⟨⟨rfl,λ_ _ z=>absurd z (Qks _)⟩,h0⟩,λi d ys e hd hp=>?_,λys e hp=>q ys hp.1.1 λi d hd=>hp.1.2 i d (Q6.mp hd).1 hd⟩;refine h d e _ (Qz hd) hp.2 λy e2 h1 h2=>⟨⟨by simp[hp.1.1],λj d' hj hd'=>?_⟩,h2⟩
  rcases Nat.lt_or_ge j i with z|z
  ·obtain⟨y',a,b⟩:=hp.1.2 j d' z hd';exact⟨y',by rw[Yg (by rw[hp.1.1];exact z)];exact a,b⟩
  ·have:j=i:=by omega
   subst this;rw[hd]at hd';cases hd';exact⟨y,by rw[Jg (by rw[hp.1.1];exact z),hp.1.1];simp,h1⟩
end
end L2
namespace L2
open PySem PySem.Spec PyProof.Rows Builtin Builtin.Str
end L2
namespace L2
open PySem PySem.Spec PyProof.Rows Builtin Builtin.Str
section
variable{X:Cx}
end
end L2
namespace L2
open PySem PySem.Spec PyProof.Rows
section
variable{H0 F F':Hp}{ra:Addr}{as:List Addr}{L:List (List Str)}
end
section
variable{X:Cx}
end
abbrev DS:=List (Str×Qh)
def atE:DS->Str->Option Qh
 |[],_=>none
 |e::es,s=>if e.1=s then some e.2 else atE es s
def qng(es:DS)(s:Str)(d:Qh):DS:=if(atE es s).isSome=true then es.map (λe=>if e.1=s then(e.1,d)else e)else es++[(s,d)]
def Sl.isDsk:Sl->Bool
 |.dsk _ _ _ _ _ _=>true
 |_=>false
section
variable{K:Qa}{M:Frm}{F H:Hp}{env:Sto}{σ:St}
def DEnts.at(s:Str):∀{es:DS}{kvs:List (Key×V)},DEnts K F es kvs->(atE es s=none/\valV kvs (.inr s)=none) \/ ∃d v,atE es s=some d/\valV kvs (.inr s)=some v/\Is K F d v
 |[],_,h=>by
  obtain rfl:=(show _=[] from h)
  exact .inl ⟨rfl,rfl⟩
 |e::es,_,⟨v,r,ek,i,h⟩=>by
  subst ek;by_cases z:e.1=s
  ·exact .inr ⟨e.2,v,if_pos z,qhu (by rw[z]),i⟩
  ·have z' : ¬ (Qdb e.1:Key) = .inr s:=λy=>z (Qhy y);unfold atE;rw[if_neg z,qhr z'];exact DEnts.at s h
def DEnts.len:∀{es:DS}{kvs:List (Key×V)},DEnts K F es kvs->kvs.length=es.length
 |[],_,h=>by rw[(show _=[] from h)];rfl
 |_::_,_,⟨v,r,ek,i,h⟩=>by rw[ek,Zl,Zl,DEnts.len h]
theorem DEnts.snoc{s:Str}(i:Is K F d v):∀{es:DS}{kvs:List (Key×V)},DEnts K F es kvs->DEnts K F (es++[(s,d)]) (kvs++[(.inr s,v)])
 |[],_,h=>by
  obtain rfl:=(show _=[] from h)
  exact⟨v,[],rfl,i,rfl⟩
 |_::_,_,⟨u,r,ek,j,h⟩=>⟨u,r++[(.inr s,v)],by rw[ek];rfl,j,h.snoc i⟩
def DEnts.repl(i:Is K F d v):∀{es:DS}{kvs:List (Key×V)},DEnts K F es kvs->DEnts K F (es.map (λe=>if e.1=s then(e.1,d)else e)) (kvs.map (λkv=>if kv.1 = .inr s then(kv.1,v)else kv))
 |[],_,h=>by
  obtain rfl:=(show _=[] from h)
  exact rfl
 |e::es,_,⟨u,r,ek,j,h⟩=>by
  subst ek;rw[Qr,Qr];by_cases z:e.1=s
  ·rw[if_pos z,if_pos (show(Qdb e.1:Key) = .inr s by rw[z])];exact⟨v,_,rfl,i,h.repl i⟩
  ·rw[if_neg z,if_neg (show ¬ (Qdb e.1:Key) = .inr s from λy=>z (Qhy y))];exact⟨u,_,rfl,j,h.repl i⟩
def DEnts.put{es:DS}(h:DEnts K F es kvs)(i:Is K F d v):DEnts K F (qng es s d) (qkb kvs (.inr s) v):=by
 unfold qng qkb;rw[qlp];rcases h.at s with⟨h1,h2⟩|⟨d0,v0,h1,h2,_⟩
 ·rw[h1,h2];exact h.snoc i
 ·rw[h1,h2];exact h.repl i
def EnvOk.dput{es es':DS}(I:EnvOk K M F H env σ)(hi:gS env i = .dsk true a g C f es)(he:DEnts K F es' kvs')(lone:∀j,j≠i->(gS env j).isDsk=false):
 EnvOk K M F (upd H g (.dK kvs')) (env.set i (.dsk true a g C f es')) σ:=by
  have S:=I.slot i;rw[hi]at S;obtain⟨dx,kvs,e,h1,h2,h3,h4⟩:=S;have il:i<env.length:=by
   by_cases z:i<env.length
   ·exact z
   ·rw[qtt (by omega)]at hi;cases hi
  have muj:∀j,(gS (env.set i (.dsk true a g C f es')) j).mut=(gS env j).mut:=λj=>by
   rw[qbm];split
   ·rename_i z;rw[<- z.1,hi];rfl
   ·rfl
  have ag:a≠g:=λz=>by rw[z,h2]at h1;cases h1
  refine⟨by rw[Yk];exact I.len,λj=>?_,λj k b hjk m1 m2 e1 e2=>I.dis j k b hjk (muj j▸m1) (muj k▸m2) e1 e2,I.f0,I.fe,λb o e=>?_,λb o e=>?_,I.new,λb o e=>?_⟩
  ·rw[qbm];by_cases z:i=j
   ·subst z;rw[if_pos ⟨rfl,il⟩];exact⟨dx,kvs',e,by rw[qo ag];exact h1,qp,he,h4⟩
   ·rw[if_neg (λy=>z y.1)];have T:=I.slot j;have lj:=lone j (λy=>z y.symm);cases q:gS env j with
    |own ds =>
     rw[q]at T;obtain⟨b,vs,e,g1,g2,g3,g4,g5⟩:=T;exact⟨b,vs,e,by rw[qo (λy=>by rw[y,h2]at g1;cases g1)];exact g1,g2,g3,g4,g5⟩
    |pen ds =>
     rw[q]at T;obtain⟨b,vs,e,g1,g2,g3,gx,g5⟩:=T;exact⟨b,vs,e,by rw[qo (λy=>by rw[y,h2]at g1;cases g1)];exact g1,g2,g3,gx,g5⟩
    |dsk mm a0 g0 C0 f0 es0=>rw[q]at lj;cases lj
    |non=>trivial
    |val d=>rw[q]at T;exact T
    |new d=>rw[q]at T;exact T
    |exc C=>rw[q]at T;exact T
    | «at» v=>rw[q]at T;exact T
    |obj a0 C0 nm fs=>rw[q]at T;exact T
  ·rw[qo (qq e h4.1)];exact I.fh b o e
  ·rw[qo (qq e h4.2)];exact I.bh b o e
  ·obtain⟨o',q⟩:=I.dom b o e;by_cases z:b=g
   ·subst z;exact⟨_,qp⟩
   ·exact⟨o',by rw[qo z];exact q⟩
end
section
variable{X:Cx}
def qro{es:DS}(I:EnvOk X.K M F H env σ)(hi:gS env i = .dsk m a g C f es)(c:Cls X.K C)(n:NoAttr X.K C f)(k:∀kvs,H g=some (.dK kvs)->DEnts X.K F es kvs->Q (.ref g) H):xcv X.K (zbb i) f σ H Q:=by
  have S:=I.slot i;rw[hi]at S;obtain⟨dx,kvs,e,h1,h2,h3,h4⟩:=S;exact⟨_,qcf e,a,C,dx,_,.ref g,rfl,h1,c,n,by simp,k kvs h2 h3⟩
variable{x f:Str}{px pa pos:Pos}{e:Expr}{We:WE}
def ztj(C:Addr)(i:Nat)(f:Str)(We:WE):WT:=λenv Q=>We env λd e1 =>∃s m a g es,d = .str s/\gS e1 i = .dsk m a g C f es/\Q (!(atE es s).isSome) e1
def qup(i:Nat)(hu:X.A.units+2<cLine)(c:Cls X.K C)(n:NoAttr X.K C f)(he:VE X e We)(hN:X.N[i]?=some x:=by rfl)(hv:Vis X.env.scope x:=by first|exact Yi rfl|exact Zt (Yi rfl)|exact Zt (Zt rfl))(hd:Nd0 x:=by decide)(hcd:Nd1 x:=by decide)(hb:Z2 (.Name x px) f X.env (eval (.Name x px) X.env)=eval (.Name x px) X.env:=by rfl)(hm:Vd .NotIn (.Attribute (.Name x px) f pa)=false:=by rfl):
 VT X (.Compare e [.NotIn] [.Attribute (.Name x px) f pa] pos) (ztj C i f We) :=
 (zpd (zgt (Qff hu) he (qxp (qbo hN hv hd hcd) hb)) hm).imp λσ H R xx226=>by
  obtain⟨M,env,F,Q,I,h,k⟩:=xx226;refine⟨M,env,F,_,I,h,λd v F1 H1 e1 I1 s1 i1 h1=>?_⟩;obtain⟨s,m,a,g,es,rfl,hi,h1⟩:=h1;rw[qam i1];refine qro I1 hi c n λkvs hg he=>⟨g,valV kvs (.inr s),rfl,DGet.k (k :=.inr s) hg,_,rfl,?_⟩
  have eq:(valV kvs (.inr s)).isSome=(atE es s).isSome:=by
   rcases he.at s with⟨h1,h2⟩|⟨d0,v0,h1,h2,_⟩ <;> rw[h1,h2] <;> rfl
  rw[eq];exact k _ F1 H1 e1 I1 s1 h1
def zqr(C:Addr)(i:Nat)(f:Str)(We:WE):WE:=λenv Q =>∃m a g es,gS env i = .dsk m a g C f es/\We env λd e1=>gS e1 i = .dsk m a g C f es /\ ∃s r,d = .str s/\atE es s=some r/\Q r e1
def zgy(i:Nat)(hu:X.A.units+2<cLine)(c:Cls X.K C)(n:NoAttr X.K C f)(he:VE X e We)(hs:zvu e:=by intro _ _;rfl)(hN:X.N[i]?=some x:=by rfl)(hv:Vis X.env.scope x:=by first|exact Yi rfl|exact Zt (Yi rfl)|exact Zt (Zt rfl))(hd:Nd0 x:=by decide)(hcd:Nd1 x:=by decide)(hb:Z2 (.Name x px) f X.env (eval (.Name x px) X.env)=eval (.Name x px) X.env:=by rfl):
 VE X (.Subscript (.Attribute (.Name x px) f pa) e pos) (zqr C i f We) :=
 (zrb (Qff hu) (qxp (qbo hN hv hd hcd) hb) he hs).imp λσ H R xx227=>by
  obtain⟨M,env,F,Q,I,h,k⟩:=xx227;obtain⟨m,a,g,es,hi,h⟩:=h;refine qro I hi c n λkvs0 _ _=>⟨M,env,F,_,I,h,λd v F1 H1 e1 I1 s1 i1 h1=>?_⟩
  obtain⟨hi1,s,r,rfl,hr,h1⟩:=h1;have S:=I1.slot i;rw[hi1]at S;obtain⟨dx,kvs,e,g1,g2,g3,g4⟩:=S;rcases g3.at s with⟨z,_⟩|⟨d0,v0,z1,z2,z3⟩
  ·rw[hr]at z;cases z
  ·rw[hr]at z1;cases z1;refine⟨g,v0,rfl,?_,k r v0 F1 H1 e1 I1 s1 z3 h1⟩;rw[qam i1,<- z2];exact DGet.k (k :=.inr s) g2
def zgw:CallR X (.builtin "len") (λxs H Q =>∃p kvs,xs=[.ref p]/\H p=some (.dK kvs)/\Q (.int kvs.length) H):=by
 intro pins s σ H xs us Q I r h;obtain⟨p,kvs,rfl,hp,q⟩:=h;obtain⟨u,rfl,ru⟩:=qlj r;cases ru;exact xbz I (.inl hp) λt s' I'=>⟨.int _,H,I',⟨_,rfl⟩,q⟩
def zso(C:Addr)(i:Nat)(f:Str):WE:=λenv Q =>∃m a g es,gS env i = .dsk m a g C f es/\Q (.int es.length) env
def ziy(i:Nat){p:Pos}(hm:X.mg "len" = none)(c:Cls X.K C)(n:NoAttr X.K C f)(hN:X.N[i]?=some x:=by rfl)(hv:Vis X.env.scope x:=by first|exact Yi rfl|exact Zt (Yi rfl)|exact Zt (Zt rfl))(hd:Nd0 x:=by decide)(hcd:Nd1 x:=by decide)(hb:Z2 (.Name x px) f X.env (eval (.Name x px) X.env)=eval (.Name x px) X.env:=by rfl)(hg:Gl X "len":=by rfl)(hs:Qi [.Attribute (.Name x px) f pa] X.env=(false,eval (.Attribute (.Name x px) f pa) X.env)::Qi [] X.env:=by rfl)(hpl:(Z5 pos (Qi [] X.env)).any (·.1)=false:=by rfl):
 VE X (.Call (.Name "len" p) [.Attribute (.Name x px) f pa] [] pos) (zso C i f) :=
 (qfd zgw hg hm boot_len (qF (qxp (qbo hN hv hd hcd) hb) qar hs) (by decide) (by decide) hs hpl).imp λσ H R xx228=>by
  obtain⟨M,env,F,Q,I,h,k⟩:=xx228;obtain⟨m,a,g,es,hi,h⟩:=h;refine qro I hi c n λkvs hg he=>⟨g,kvs,rfl,hg,?_⟩
  rw[he.len];exact k _ _ F H env I (.refl _) (qaq _) h
def zsb(C:Addr)(i:Nat)(f:Str)(Wk We:WE):WS:=λD env=>We env λd e1 =>∃a g es,gS e1 i = .dsk true a g C f es/\Wk e1 λk e2=>gS e2 i = .dsk true a g C f es /\ ∃s,k = .str s/\(es.length<Qo /\ ∀j,j≠i->(gS e2 j).isDsk=false)/\D.nx (e2.set i (.dsk true a g C f (qng es s d)))
def zid(i:Nat)(hu:X.A.units+2<cLine)(c:Cls X.K C)(n:NoAttr X.K C f)(hk:VE X ek Wk)(he:VE X e We)(hs:V8 e (some (.Subscript (.Attribute (.Name x px) f pa) ek pos')) pos.line X.env=pure false:=by rfl)(hN:X.N[i]?=some x:=by rfl)(hv:Vis X.env.scope x:=by first|exact Yi rfl|exact Zt (Yi rfl)|exact Zt (Zt rfl))(hd:Nd0 x:=by decide)(hcd:Nd1 x:=by decide)(hb:Z2 (.Name x px) f X.env (eval (.Name x px) X.env)=eval (.Name x px) X.env:=by rfl):
 VS X (.Assign [.Subscript (.Attribute (.Name x px) f pa) ek pos'] e pos) (zsb C i f Wk We) :=
 (ztq (Qff hu) (qxp (qbo hN hv hd hcd) hb) hk he hs).imp λD σ H xx229=>by
  obtain⟨M,env,F,DD,I,h,k⟩:=xx229;refine⟨M,env,F,_,I,h,λd v F1 H1 e1 I1 s1 i1 h1=>?_⟩;obtain⟨a,g,es,hi,h1⟩:=h1;refine qro I1 hi c n λkvs0 _ _=>⟨M,e1,F1,_,I1,h1,λd2 v2 F2 H2 e2 I2 s2 i2 h2=>?_⟩
  obtain⟨hi2,s,rfl,⟨hl,lone⟩,h2⟩:=h2;rw[qam i2];have S:=I2.slot i;rw[hi2]at S;obtain⟨dx,kvs,e,g1,g2,g3,g4⟩:=S;exact⟨g,_,rfl,DPut.k (k :=.inr s) g2 (by rw[g3.len];exact hl),k.nx _ F2 _ σ (I2.dput hi2 (g3.put (i1.mono s2)) lone) (s1.trans s2) h2⟩
end
end L2
namespace L2
open PySem PySem.Spec PyProof.Rows PySem.W
abbrev DR:=DS->DE
abbrev DCh:=DS->List Qh->(Qh->DS->Prop)->(Addr->Prop)->Prop
def zfi(K:Qa)(C:Addr)(f:Str)(sp:DR):Sp:=λvs H Q E =>∃a g dx kvs rest F es ds q e,vs = .ref a::rest/\H a=some (.ins C dx [(f,.ref g)])/\H g=some (.dK kvs)/\Same F H/\DEnts K F es kvs/\Iss K F ds rest/\sp es ds q e /\
 (∀d v F' H',Go F H F' H'->Is K F' d v->q d->Q v H') /\ ∀C' F' H',Go F H F' H'->e C'->E (.ref C') none H'
def qva(K:Qa)(C:Addr)(f:Str)(sp:DCh):Sp:=λvs H Q E =>∃a g dx kvs rest F es ds q e,vs = .ref a::rest/\H a=some (.ins C dx [(f,.ref g)])/\H g=some (.dK kvs)/\F g=none/\Same F H/\DEnts K F es kvs/\Iss K F ds rest/\sp es ds q e /\
 (∀d v F' H' kvs' es',GoP g F H F' H'->H' g=some (.dK kvs')->DEnts K F' es' kvs'->Is K F' d v->q d es'->Q v H') /\ ∀C' F' H' kvs',GoP g F H F' H'->H' g=some (.dK kvs')->DEnts K F' es kvs'->e C'->E (.ref C') none H'
structure OkMX(P:Zk)(w:World)(K:Qa)(mg:Str->Option Value)(base:Heap)(C:Addr)(m:Str)(k:Nat)(ps:List Str)(sp:Sp):Prop where
 ex:∃(f:Addr)(fd:J5),FnOk P w K mg base (CX1 P w) k f fd ps sp/\Meth K C m f/\Binds K fd ps []
structure OkMXC(X:Cx)(C:Addr)(m:Str)(k:Nat)(ps:List Str)(sp:Sp):Prop where
 ex:∃sp0,OkMX X.prog X.w X.K X.mg X.base C m k ps sp0 /\ ∀(pins:List (Addr×Obj))(σ:St)(H:Hp)(s:Ql)(vs:List V)(Q:VK)(E:XK),Inv X pins σ H s->sp vs H Q E->sp0 vs H Q E
def OkMX.c(O:OkMX X.prog X.w X.K X.mg X.base C m k ps sp):OkMXC X C m k ps sp:=⟨sp,O,λ_ _ _ _ _ _ _ _ h=>h⟩
def OkMX.t(O:OkMX X.prog X.w X.K X.mg X.base C m k ps (qkt ts sp))(h:Tbs ts X.H₀):OkMXC X C m k ps sp :=
 ⟨_,O,λ_ _ _ _ _ _ _ I q=>⟨λt ht=>TbS.of I (h t ht),q⟩⟩
section
variable{K:Qa}{M:Frm}{F H F' H':Hp}{env:Sto}{σ:St}
def EnvOk.goD{es es':DS}(I:EnvOk K M F H env σ)(hi:gS env i = .dsk true a g C f es)(lone:∀j,j≠i->(gS env j).isDsk=false)(gp:GoP g F H F' H')(h':H' g=some (.dK kvs'))(he:DEnts K F' es' kvs'):
 EnvOk K M F' H' (env.set i (.dsk true a g C f es')) σ:=by
  have S:=I.slot i;rw[hi]at S;obtain⟨dx,kvs,e,h1,h2,h3,h4⟩:=S;have g1:Go F H F' (upd H' g (.dK kvs)):=by
   refine⟨gp.f,λb o e=>?_,λb o e=>?_,gp.new⟩
   ·by_cases z:b=g
    ·subst z;rw[h2]at e;cases e;rw[qp];exact .of rfl
    ·rw[qo z];exact gp.h b o (by unfold qiv;rw[if_neg z];exact e)
   ·rw[qo (qq e gp.fa)];exact gp.fh b o e
  have J:=(I.go g1).dput hi he lone;rw[ztf]at J;have eH:upd H' g (.dK kvs')=H':=by
   funext b
   by_cases z:b=g
   ·subst z;rw[qp,h']
   ·rw[qo z]
  rwa [eH]at J
def ztc:∀{env:Sto},gS env i=s->s≠.non->env.set i s=env:=λ{env} h n=>by
 apply Qcm;intro j;rw[Qfc];split
 ·rename_i z;subst z;split
  ·rename_i hi;have:∀(e:Sto)(i:Nat)(h:i<e.length),gS e i=e[i]:=λe=>by
    induction e with
    |nil=>intro i h;simp at h
    |cons a e ih =>
     intro i h;cases i with
     |zero=>rfl
     |succ i=>exact ih i (by simpa using h)
   rw[Qp hi,<- this env i hi,h]
  ·rename_i hi;rw[qtt (by omega)]at h;exact(n h.symm).elim
 ·rfl
end
section
variable{X:Cx}{Ex:St->XK}{x m:Str}{px apos pos:Pos}{pl:Sem Bool}{e:Expr}{es:List Expr}{Wr:WF}{k:Nat}{ps:List Str}{C:Addr}{f:Str}
def xak(C:Addr)(i:Nat)(f:Str)(sp:DR)(Wr:WF):WX->WE:=λWx env Q =>∃m0 a g es,gS env i = .dsk m0 a g C f es/\Wr env λds e=>gS e i = .dsk m0 a g C f es/\sp es ds (λd=>Q d e) λC'=>Wx C' e
def zpl(C:Addr)(i:Nat)(f:Str)(sp:DCh)(Wr:WF):WX->WE:=λWx env Q =>∃a g es,gS env i = .dsk true a g C f es/\Wr env λds e=>gS e i = .dsk true a g C f es/\(∀j,j≠i->(gS e j).isDsk=false) /\
 sp es ds (λd es'=>Q d (e.set i (.dsk true a g C f es'))) λC'=>Wx C' e
def zbk(i:Nat)(hx:∀σ,qay X σ (Ex σ))(O:OkMXC X C m k ps sp)(c:Cls X.K C)(hr:Room k X.A)(ha:VA X (e::es) Wr)(hfm:(m==f)=false)(hN:X.N[i]?=some x)(hv:Vis X.env.scope x)(hd:Nd0 x)(hcd:Nd1 x)(hst:Qi (e::es) X.env=(false,eval e X.env)::Qi es X.env)(hpl:(Z5 pos (Qi es X.env)).any (·.1)=false)(ht:eval (.Call (.Attribute (.Name x px) m apos) (e::es) [] pos) X.env=(do
 let ov <- eval (.Name x px) X.env
 Qhc apos.atName
 let (f,first) <- Qdf [ov] (Qgz ov m pl)
 callWith pos f first (Z5 pos (Qi (e::es) X.env)) (Qai pos (Ve [] X.env)))){σ:St}(I:Inv X pins σ H s)(J:EnvOk X.K M F0 H env σ){ds0:DS}(hi:gS env i = .dsk m0 a g C f ds0)(h:Wr env q)(kk:∀ds vs F1 H1 e1,EnvOk X.K M F1 H1 e1 σ->Same F0 F1->Iss X.K F1 ds vs->q ds e1->sp (.ref a::vs) H1 Q (Ex σ)):
 wpAny (model X.prog X.w) X.A (eval (.Call (.Attribute (.Name x px) m apos) (e::es) [] pos) X.env) (EP X pins σ Q) X.xe s:=by
  obtain⟨sp0,⟨fa,fd,Fn,hm,hb⟩,up⟩:=O.ex;have S:=J.slot i;rw[hi]at S;obtain⟨dx,kvs,ea,h1,h2,h3,h4⟩:=S;refine PySem.W.methodCall_KW (pl:=pl) (thn (qbo hN hv hd hcd pins s σ H (λv H1=>v = .ref a/\H1=H) I ⟨_,qcf ea,rfl,rfl⟩) λu s1 xx231=>?_) ht;obtain⟨y,H1,I1,ry,ey,eh⟩:=xx231;subst ey eh;obtain rfl:u=Zo a:=ry;have lk:([(f,V.ref g)]:List (Str×V)).lookup m=none:=by rw[Qbd,hfm];rfl
  refine zcn I1 h1 c hm lk ?_;refine Qbu (first:=[.ref a]) (h₀:=X.base) I.ok.mod.kin hm.kp (thn (ha pos pins s1 σ H1 (λvs H2=>sp (.ref a::vs) H2 Q (Ex σ)) I1 ⟨M,env,F0,q,J,h,λds vs F1 H2 e1 J1 t1 i1 h1=>kk ds vs F1 H2 e1 J1 t1 i1 h1⟩) λus s2 ⟨vs,H2,I2,r,q2⟩=>⟨I2.kIn,?_⟩) hst hpl;exact zfx (us :=.ref a::us) (vs :=.ref a::vs) Fn hr hb (hx σ) I2 (.cons rfl r) (up _ _ _ _ _ _ _ I2 q2)
def qsn(i:Nat)(hx:∀σ,qay X σ (Ex σ))(O:OkMXC X C m k ps (zfi X.K C f sp))(c:Cls X.K C)(hr:Room k X.A)(ha:VA X (e::es) Wr)(hfm:(m==f)=false:=by decide)(hN:X.N[i]?=some x:=by rfl)(hv:Vis X.env.scope x:=by first|exact Yi rfl|exact Zt (Yi rfl)|exact Zt (Zt rfl))(hd:Nd0 x:=by decide)(hcd:Nd1 x:=by decide)(hst:Qi (e::es) X.env=(false,eval e X.env)::Qi es X.env:=by rfl)(hpl:(Z5 pos (Qi es X.env)).any (·.1)=false:=by rfl)(ht:eval (.Call (.Attribute (.Name x px) m apos) (e::es) [] pos) X.env=(do
  let ov <- eval (.Name x px) X.env
  Qhc apos.atName
  let (f,first) <- Qdf [ov] (Qgz ov m pl)
  callWith pos f first (Z5 pos (Qi (e::es) X.env)) (Qai pos (Ve [] X.env))):=by rfl):
 VEX X Ex (.Call (.Attribute (.Name x px) m apos) (e::es) [] pos) (xak C i f sp Wr):=by
 rintro pins s σ H Q I ⟨M,env,F0,Wx,q,J,⟨m0,a,g,ds0,hi,h⟩,hex,kk⟩;refine zbk i hx O c hr ha hfm hN hv hd hcd hst hpl ht I J hi h λds vs F1 H1 e1 J1 s1 i1 xx232=>?_;obtain⟨hi1,h1⟩:=xx232;have S:=J1.slot i;rw[hi1]at S;obtain⟨dx,kvs,ea,g1,g2,g3,g4⟩:=S;exact⟨a,g,dx,kvs,vs,F1,ds0,ds,_,_,rfl,g1,g2,J1.fh,g3,i1,h1,λd v F2 H2 go i2 q=>kk d v F2 H2 e1 (J1.go go) (s1.trans go.f) i2 q,λC' F2 H2 go q=>hex C' e1 F2 H2 σ (J1.go go) (s1.trans go.f) q⟩
def zab(i:Nat)(hx:∀σ,qay X σ (Ex σ))(O:OkMXC X C m k ps (qva X.K C f sp))(c:Cls X.K C)(hr:Room k X.A)(ha:VA X (e::es) Wr)(hfm:(m==f)=false:=by decide)(hN:X.N[i]?=some x:=by rfl)(hv:Vis X.env.scope x:=by first|exact Yi rfl|exact Zt (Yi rfl)|exact Zt (Zt rfl))(hd:Nd0 x:=by decide)(hcd:Nd1 x:=by decide)(hst:Qi (e::es) X.env=(false,eval e X.env)::Qi es X.env:=by rfl)(hpl:(Z5 pos (Qi es X.env)).any (·.1)=false:=by rfl)(ht:eval (.Call (.Attribute (.Name x px) m apos) (e::es) [] pos) X.env=(do
  let ov <- eval (.Name x px) X.env
  Qhc apos.atName
  let (f,first) <- Qdf [ov] (Qgz ov m pl)
  callWith pos f first (Z5 pos (Qi (e::es) X.env)) (Qai pos (Ve [] X.env))):=by rfl):
 VEX X Ex (.Call (.Attribute (.Name x px) m apos) (e::es) [] pos) (zpl C i f sp Wr):=by
 rintro pins s σ H Q I ⟨M,env,F0,Wx,q,J,⟨a,g,ds0,hi,h⟩,hex,kk⟩;refine zbk i hx O c hr ha hfm hN hv hd hcd hst hpl ht I J hi h λds vs F1 H1 e1 J1 s1 i1 xx233=>?_;obtain⟨hi1,lone,h1⟩:=xx233;have S:=J1.slot i;rw[hi1]at S;obtain⟨dx,kvs,ea,g1,g2,g3,g4⟩:=S;refine⟨a,g,dx,kvs,vs,F1,ds0,ds,_,_,rfl,g1,g2,g4.1,J1.fh,g3,i1,h1,λd v F2 H2 kvs' es' go hg de i2 q=>kk d v F2 H2 _ (J1.goD hi1 lone go hg de) (s1.trans go.f) i2 q,λC' F2 H2 kvs' go hg de q=>?_⟩;have J2:=J1.goD hi1 lone go hg de;rw[ztc hi1 (λz=>by cases z)]at J2;exact hex C' e1 F2 H2 σ J2 (s1.trans go.f) q
def qlw(i:Nat)(O:OkMXC X C m k ps (qva X.K C f sp))(c:Cls X.K C)(hr:Room k X.A)(ha:VA X (e::es) Wr)(hfm:(m==f)=false:=by decide)(hN:X.N[i]?=some x:=by rfl)(hv:Vis X.env.scope x:=by first|exact Yi rfl|exact Zt (Yi rfl)|exact Zt (Zt rfl))(hd:Nd0 x:=by decide)(hcd:Nd1 x:=by decide)(hst:Qi (e::es) X.env=(false,eval e X.env)::Qi es X.env:=by rfl)(hpl:(Z5 pos (Qi es X.env)).any (·.1)=false:=by rfl)(ht:eval (.Call (.Attribute (.Name x px) m apos) (e::es) [] pos) X.env=(do
  let ov <- eval (.Name x px) X.env
  Qhc apos.atName
  let (f,first) <- Qdf [ov] (Qgz ov m pl)
  callWith pos f first (Z5 pos (Qi (e::es) X.env)) (Qai pos (Ve [] X.env))):=by rfl):
 VE X (.Call (.Attribute (.Name x px) m apos) (e::es) [] pos) (zpl C i f sp Wr λ_ _=>False) :=
 PE.imp (zab (Ex:=λ_=>E0) i (λ_=>ztu) O c hr ha hfm hN hv hd hcd hst hpl ht) λσ H R xx234=>by obtain⟨M,env,F,Q,I,h,k⟩:=xx234;exact⟨M,env,F,λ_ _=>False,Q,I,h,λ_ _ _ _ _ _ _ h=>h.elim,k⟩
end
section
variable{P:Zk}{w:World}{K:Qa}{mg:Str->Option Value}{base:Heap}{ts:List Addr}
def qxi(m:Bool)(a g C:Addr)(f:Str)(N:List Str)(es:DS)(ds:List Qh):Sto:=(qal N (.none::ds)).set 0 (.dsk m a g C f es)
def qkf{es:DS}{rest:List V}(I0:EnvOk K M F H (qal N (.none::ds)) (start N (.non::rest)))(ha:H a=some (.ins C dx [(f,.ref g)]))(hg:H g=some (.dK kvs))(he:DEnts K F es kvs)(hm:xcd M F g kvs m):
 EnvOk K M F H (qxi m a g C f N es ds) (start N (.ref a::rest)):=by
  have e:start N (.ref a::rest)=(start N (.non::rest)).set 0 (some (.ref a)):=rfl;rw[e];exact I0.sets (i:=0) (s :=.dsk m a g C f es) rfl ⟨dx,kvs,rfl,ha,hg,he,hm⟩
def zfe(s:Same F H)(fg:F g=none)(i:Iss K F ds vs):EnvOk K ⟨qiv H g,H,F⟩ F H (qal N ds) (start N vs):=by
 have I:=qbr (K:=K) (N:=N) s i;have nm:∀j,(gS (qal N ds) j).mut=false:=λj=>by
  unfold qal;rw[qtf];cases h:ds[j]? with
  |none=>rw[qpc];rfl
  |some d=>rfl
 refine⟨I.len,λj=>?_,λi j a _ m=>(by rw[nm i]at m;cases m),.refl _,s,s,λb o e=>?_,λb o e => .inl e,λb o e=>⟨o,e⟩⟩
 ·have S:=I.slot j;unfold qal at S ⊢;rw[qtf]at S ⊢;cases h:ds[j]? with
  |none=>rw[qpc];trivial
  |some d=>rw[h]at S;exact S
 ·have e:qiv H g b=some o:=e;unfold qiv at e;split at e
  ·cases e
  ·exact .of e
def MDef.vokR{st:Stmt}(F:MDef K C m qual st ps)(S:FnScope N ps (defScope st))(len:∀es ds q e,sp es ds q e->ds.length+1=ps.length)(hbody:∀(fa:Addr)(cdv:Value)(A:Z1)(outer:List Env)(s:Ql)(H:Hp)(E:XK),Room k (A.deeper (Qbo qual (defScope st) s.heap.objs.size fa cdv)) ->
 (∀σ,qay (qbv (CX1 P w) P w K mg base N qual (defScope st) fa cdv A outer s H E) σ E)->qlg (qbv (CX1 P w) P w K mg base N qual (defScope st) fa cdv A outer s H E) E ->∀a g es ds q e,sp es ds q e ->
 ∃W,qwl (qbv (CX1 P w) P w K mg base N qual (defScope st) fa cdv A outer s H E) (λ_=>E) (defBody st) W/\W (λC _=>e C) { nx:=λ_=>q .none,rt:=λr _=>q r.data } (qxi false a g C f N es ds)):OkMX P w K mg base C m (k+1) ps (zfi K C f sp):=by
  obtain⟨fa,fd,Fn,hm,hb⟩:=F.ex;refine⟨fa,fd,?_,hm,hb⟩;obtain⟨oc,od,kV,doc,pm,an,cdv,ct,osl,rfl,lk,hcd⟩:=Fn.ex;refine qyh lk hcd S (λvs H Q E xx236=>by obtain⟨a,g,dx,kvs,rest,F,es,ds,q,e,ev,_,_,_,_,i,h,_⟩:=xx236;rw[ev,Zl,i.len];exact len es ds q e h) λA outer s H vs Q E hr xx235=>?_;obtain⟨a,g,dx,kvs,rest,F,es,ds,q,e,ev,ha,hg,sm,de,i,h,kk,kx⟩:=xx235;subst ev;obtain⟨W,hW,hq⟩:=hbody fa cdv A outer s H E hr (λσ pins H1 s1 e1 s' I c=>qig pins σ H1 s1 e1 s' I c) qic a g es ds q e h;refine⟨_,hW,⟨H,H,F⟩,_,F,_,_,qkf (m:=false) (qbr sm (qI qei i)) ha hg de hg,hq,λC e1 F1 H1 σ1 I1 s1 q1=>kx C F1 H1 I1.goOf q1,⟨λe1 F1 H1 σ1 I1 s1 q1=>kk _ _ F1 H1 I1.goOf qei q1,λr v e1 F1 H1 σ1 I1 s1 r1 q1=>?_,λ_ _ _ _ _ _ h=>h.elim,λ_ _ _ _ _ _ h=>h.elim⟩⟩;obtain⟨F2,go,j⟩:=r1.is I1;exact kk _ _ F2 H1 go j q1
def qlx{es':DS}(I1:EnvOk K ⟨qiv H g,H,F⟩ F1 H1 e1 σ1)(e0:gS e1 0 = .dsk true a g C f es'):GoP g F H F1 H1 /\ ∃kvs',H1 g=some (.dK kvs')/\DEnts K F1 es' kvs':=by
 have T:=I1.slot 0;rw[e0]at T;obtain⟨dx,kvs',_,_,h2,h3,h4⟩:=T;exact⟨⟨I1.f0,I1.bh,I1.fh,I1.new,h4.1⟩,kvs',h2,h3⟩
def MDef.vokC{st:Stmt}{sp:DCh}(F:MDef K C m qual st ps)(S:FnScope N ps (defScope st))(len:∀es ds q e,sp es ds q e->ds.length+1=ps.length)(hbody:∀(fa:Addr)(cdv:Value)(A:Z1)(outer:List Env)(s:Ql)(H:Hp)(E:XK),Room k (A.deeper (Qbo qual (defScope st) s.heap.objs.size fa cdv)) ->
 (∀σ,qay (qbv (CX1 P w) P w K mg base N qual (defScope st) fa cdv A outer s H E) σ E)->qlg (qbv (CX1 P w) P w K mg base N qual (defScope st) fa cdv A outer s H E) E->Tbs ts H ->∀a g es ds q e,sp es ds q e ->
 ∃W,qwl (qbv (CX1 P w) P w K mg base N qual (defScope st) fa cdv A outer s H E) (λ_=>E) (defBody st) W/\W (λC' e1=>gS e1 0 = .dsk true a g C f es/\e C') { nx:=λe1 =>∃es',gS e1 0 = .dsk true a g C f es'/\q .none es',rt:=λr e1 =>∃d es',r = .val d/\gS e1 0 = .dsk true a g C f es'/\q d es' } (qxi true a g C f N es ds)):OkMX P w K mg base C m (k+1) ps (qkt ts (qva K C f sp)):=by
  obtain⟨fa,fd,Fn,hm,hb⟩:=F.ex;refine⟨fa,fd,?_,hm,hb⟩;obtain⟨oc,od,kV,doc,pm,an,cdv,ct,osl,rfl,lk,hcd⟩:=Fn.ex;refine qyh lk hcd S (λvs H Q E xx238=>by obtain⟨_,a,g,dx,kvs,rest,F,es,ds,q,e,ev,_,_,_,_,_,i,h,_⟩:=xx238;rw[ev,Zl,i.len];exact len es ds q e h) λA outer s H vs Q E hr xx237=>?_;obtain⟨hT,a,g,dx,kvs,rest,F,es,ds,q,e,ev,ha,hg,fg,sm,de,i,h,kk,kx⟩:=xx237;subst ev;obtain⟨W,hW,hq⟩:=hbody fa cdv A outer s H E hr (λσ pins H1 s1 e1 s' I c=>qig pins σ H1 s1 e1 s' I c) qic hT a g es ds q e h;have og:qiv H g g=none:=by unfold qiv;rw[if_pos rfl]
  refine⟨_,hW,⟨qiv H g,H,F⟩,_,F,_,_,qkf (m:=true) (zfe sm fg (qI qei i)) ha hg de ⟨fg,og⟩,hq,λC' e1 F1 H1 σ1 I1 s1 q1=>?_,⟨λe1 F1 H1 σ1 I1 s1 q1=>?_,λr v e1 F1 H1 σ1 I1 s1 r1 q1=>?_,λ_ _ _ _ _ _ h=>h.elim,λ_ _ _ _ _ _ h=>h.elim⟩⟩
  ·obtain⟨e0,q1⟩:=q1;obtain⟨gp,kvs',h1,h2⟩:=qlx I1 e0;exact kx C' F1 H1 kvs' gp h1 h2 q1
  ·obtain⟨es',e0,q1⟩:=q1;obtain⟨gp,kvs',h1,h2⟩:=qlx I1 e0;exact kk _ _ F1 H1 kvs' es' gp h1 h2 qei q1
  ·obtain⟨d,es',rfl,e0,q1⟩:=q1;obtain⟨gp,kvs',h1,h2⟩:=qlx I1 e0;exact kk _ _ F1 H1 kvs' es' gp h1 h2 r1 q1
def Def.vokD{st:Stmt}(F:Def K mg x st ps)(S:FnScope N ps (defScope st))(len:∀es ds q e,sp es ds q e->ds.length+1=ps.length)(hbody:∀(fa:Addr)(cdv:Value)(A:Z1)(outer:List Env)(s:Ql)(H:Hp)(E:XK),Room k (A.deeper (Qbo x (defScope st) s.heap.objs.size fa cdv))->Tbs ts H ->∀a g es ds q e,sp es ds q e ->
 ∃W,VSs (qbv CX0 P w K mg base N x (defScope st) fa cdv A outer s H E).nox (defBody st) W/\W { nx:=λe1 =>∃es',gS e1 0 = .dsk true a g C f es'/\q .none es',rt:=λr e1 =>∃d es',r = .val d/\gS e1 0 = .dsk true a g C f es'/\q d es' } (qxi true a g C f N es ds)):Ok P w K mg base x (k+1) ps (qkt ts (qva K C f sp)) :=
  F.ok S (λvs H Q E xx240=>by obtain⟨_,a,g,dx,kvs,rest,F,es,ds,q,e,ev,_,_,_,_,_,i,h,_⟩:=xx240;rw[ev,Zl,i.len];exact len es ds q e h) λfa cdv A outer s H vs Q E hr xx239=>by
   obtain⟨hT,a,g,dx,kvs,rest,F,es,ds,q,e,ev,ha,hg,fg,sm,de,i,h,kk,kx⟩:=xx239;subst ev;obtain⟨W,hW,hq⟩:=hbody fa cdv A outer s H E hr hT a g es ds q e h;have og:qiv H g g=none:=by unfold qiv;rw[if_pos rfl]
   refine⟨_,hW,⟨qiv H g,H,F⟩,_,F,_,qkf (m:=true) (zfe sm fg (qI qei i)) ha hg de ⟨fg,og⟩,hq,⟨λe1 F1 H1 σ1 I1 s1 q1=>?_,λr v e1 F1 H1 σ1 I1 s1 r1 q1=>?_,λ_ _ _ _ _ _ h=>h.elim,λ_ _ _ _ _ _ h=>h.elim⟩⟩
   ·obtain⟨es',e0,q1⟩:=q1;obtain⟨gp,kvs',h1,h2⟩:=qlx I1 e0;exact kk _ _ F1 H1 kvs' es' gp h1 h2 qei q1
   ·obtain⟨d,es',rfl,e0,q1⟩:=q1;obtain⟨gp,kvs',h1,h2⟩:=qlx I1 e0;exact kk _ _ F1 H1 kvs' es' gp h1 h2 r1 q1
end
section
variable{X:Cx}
def zok(i:Nat){p py pos:Pos}(O:OkC X x k ps (qva X.K C f sp))(hr:Room k X.A)(ha:VA X es Wr)(hN:X.N[i]?=some y:=by rfl)(hv:Vis X.env.scope y:=by first|exact Yi rfl|exact Zt (Yi rfl)|exact Zt (Zt rfl))(hd:Nd0 y:=by decide)(hcd:Nd1 y:=by decide)(hg:Gl X x:=by rfl)(hdb:Nd0 x:=by decide)(he:Qi (.Name y py::es) X.env=(false,eval (.Name y py) X.env)::Qi es X.env:=by rfl)(hpl:(Z5 pos (Qi es X.env)).any (·.1)=false:=by rfl):VE X (.Call (.Name x p) (.Name y py::es) [] pos) (zpl C i f sp Wr λ_ _=>False) :=
  (qxk O hr (qF (t:=qgr X.K Wr) (qbo hN hv hd hcd) ha he) hg hdb he hpl).imp λσ H R xx241=>by
   obtain⟨M,env,F,Q,I,⟨a,g,ds0,hi,h⟩,k⟩:=xx241;have S:=I.slot i;rw[hi]at S;obtain⟨dx,kvs,ea,_⟩:=S;have e:qjr (qva X.K C f sp) [] E0 (zcw (zbb i) (qgr X.K Wr)) σ H R=zcw (zbb i) (qgr X.K Wr) σ H λvs H1=>qva X.K C f sp vs H1 R E0:=by unfold qjr;simp only[Yc]
   rw[e];refine⟨_,qcf ea,M,env,F,_,I,h,λds us F1 H1 e1 I1 s1 i1 h1=>?_⟩;obtain⟨hi1,lone,h1⟩:=h1;have S1:=I1.slot i;rw[hi1]at S1;obtain⟨dx,kvs,ea1,g1,g2,g3,g4⟩:=S1;exact⟨a,g,dx,kvs,us,F1,ds0,ds,_,_,rfl,g1,g2,g4.1,I1.fh,g3,i1,h1,λd v F2 H2 kvs' es' go hg de i2 q=>k d v F2 H2 _ (I1.goD hi1 lone go hg de) (s1.trans go.f) i2 q,λ_ _ _ _ _ _ _ z=>z.elim⟩
def zjv(C:Addr)(f:Str):Sp:=λvs H Q _ =>∃a dx,vs=[.ref a]/\H a=some (.ins C dx []) /\ ∀g,H g=none->Q .non (upd (upd H g (.dK [])) a (.ins C dx [(f,.ref g)]))
def zoz(C:Addr)(i:Nat)(f:Str):WS:=λD env =>∀a g,D.nx (env.set i (.dsk true a g C f []))
def zme{f x y:Str}{i k:Nat}{p pos' pos:Pos}(hN:X.N.Nodup)(M:Mk X.K C fi)(Fn:FnOk X.prog X.w X.K X.mg X.base CX0 k fi fd ps (zjv C f))(hr:Room (k+1) X.A)(hm:X.mg x=some (.ref C))(hb:Binds X.K fd ps [])(hg:Gl X x:=by rfl)(hi:X.N[i]?=some y:=by rfl)(hx:Loc X.env.scope y:=by first|exact Yi rfl|exact Zt rfl){py:Pos}(hs':V8 (.Call (.Name x p) [] [] pos') (some (.Name y py)) pos.line X.env=pure false:=by rfl)(hf:X.fn y=true\/X.env.scope.names.lookup y=some .local:=by first|exact .inl rfl|exact .inr rfl)(hdb:Nd0 x:=by decide):
  VS X (.Assign [.Name y py] (.Call (.Name x p) [] [] pos') pos) (zoz C i f) :=
  (qin hN hi hx (zkt M Fn hr hg hm hb .nil zuu hdb) hs' hf).imp λD σ H xx242=>by
   obtain⟨Mm,env,F,DD,I,h,k⟩:=xx242;refine λa dx ha hdx ne=>⟨a,dx,rfl,qp,λg hgn=>⟨rfl,?_⟩⟩
   have ga:g≠a:=λz=>by rw[z,qp]at hgn;cases hgn
   have gd:g≠dx:=λz=>by rw[z,qo ne,qp]at hgn;cases hgn
   have hg0:H g=none:=by rw[qo ga,qo gd]at hgn;exact hgn
   have go:Go F H F (upd (upd (upd (upd H dx (.own a)) a (.ins C dx [])) g (.dK [])) a (.ins C dx [(f,.ref g)])):=by
    have sH:∀b o,H b=some o->(upd (upd (upd (upd H dx (.own a)) a (.ins C dx [])) g (.dK [])) a (.ins C dx [(f,.ref g)])) b=some o:=λb o e=>by
     rw[qo (qq e ha),qo (qq e hg0),qo (qq e ha),qo (qq e hdx)];exact e
    exact⟨.refl _,.of sH,I.fh.trans (.of sH),λ_ _ e => .inl e⟩
   have I2:=(I.go go).sets (i:=i) (s :=.dsk true a g C f []) (v:=some (.ref a)) rfl ⟨dx,[],rfl,qp,by rw[qo ga,qp],rfl,qL I.fh hg0,qL I.bh hg0⟩;exact k.nx _ F _ _ I2 (.refl _) (h a g)
def zwy{f x y:Str}{i k:Nat}{p pos' pos py:Pos}(hN:X.N.Nodup)(O:OkM X.prog X.w X.K X.mg X.base C "__init__" k ps (zjv C f))(mk:makesIn X.K C=true)(kp:keepIn X.K (.ref C)=true)(hr:Room (k+1) X.A)(hm:X.mg x=some (.ref C))(hg:Gl X x:=by rfl)(hi:X.N[i]?=some y:=by rfl)(hx:Loc X.env.scope y:=by first|exact Yi rfl|exact Zt rfl)(hs:V8 (.Call (.Name x p) [] [] pos') (some (.Name y py)) pos.line X.env=pure false:=by rfl)(hf:X.fn y=true\/X.env.scope.names.lookup y=some .local:=by first|exact .inl rfl|exact .inr rfl)(hdb:Nd0 x:=by decide):
  VS X (.Assign [.Name y py] (.Call (.Name x p) [] [] pos') pos) (zoz C i f):=by
  obtain⟨fi,fd,Fn,hme,hb⟩:=O.ex;exact zme hN ⟨mk,hme.at_,hme.fn,kp⟩ Fn hr hm hb hg hi hx hs hf hdb
end
def zjo:List Value->List Str->Bool
 |[],[]=>true
 |.str y _::vs,x::xs=>(y==x)&&zjo vs xs
 |_,_=>false
def qqb:∀{vs:List Value}{xs:List Str},zjo vs xs=true->Vals (xs.map V.str) vs
 |[],[],_ => .nil
 |[],_::_,h=>by cases h
 |v::vs,[],h=>by cases v <;> cases h
 |v::vs,x::xs,h=>by
  cases v with
  |str y t =>
   have h:((y==x)&&zjo vs xs)=true:=h;rw[Qy]at h;have e:y=x:=eq_of_beq h.1;subst e;exact .cons ⟨t,rfl⟩ (qqb h.2)
  |_=>cases h
def qrd(K:Qa)(q:Addr)(xs:List Str):Bool:=match K.lookup q with
 |some ⟨.type "tuple",_,.seq its _,_⟩=>zjo its.toList xs&&decide (its.size<=1000)
 |_=>false
def zge{K:Qa}(h:qrd K q xs=true):Is K F (.tuple (xs.map .str)) (.ref q):=by
 unfold qrd at h;split at h
 ·rename_i d its n sl ho;rw[Qy,decide_eq_true_eq]at h;refine qld (.inr ⟨_,its,n,ho,rfl,rfl,by rw[Yb];omega,qqb h.1⟩) (qhx xs)
 ·cases h
def atL:List (Str×List Str)->Str->Option (List Str)
 |[],_=>none
 |e::es,s=>if e.1=s then some e.2 else atL es s
def xdb(P:Qby)(e:Str×Tok×Addr):Qao:=⟨Qle P e.1,.str e.1 e.2.1,.ref e.2.2⟩
def qpa(K:Qa):List (Str×Tok×Addr)->List (Str×List Str)->Bool
 |[],[]=>true
 |e::es,r::l=>(e.1==r.1)&&(qrd K e.2.2 r.2&&qpa K es l)
 |_,_=>false
structure DicC(w:World)(K:Qa)(p:Addr)(l:List (Str×List Str)):Prop where
 ex:∃(es:List (Str×Tok×Addr))(n:Nat),K.lookup p=some ⟨.type "dict",none,.dict (es.map (xdb w.params)).toArray n,#[]⟩/\qpa K es l=true/\(l.map (·.1)).Nodup/\(p==V4)=false
def kvC(es:List (Str×Tok×Addr)):List (Key×Value):=es.map λe=>(.inr e.1,.ref e.2.2)
def atC{K:Qa}(s:Str):∀{es:List (Str×Tok×Addr)}{l:List (Str×List Str)},qpa K es l=true->(atL l s=none/\Qcf (kvC es) (.inr s)=none) \/ ∃r q,atL l s=some r/\Qcf (kvC es) (.inr s)=some (.ref q)/\qrd K q r=true
 |[],[],_ => .inl ⟨rfl,rfl⟩
 |[],_::_,h=>by cases h
 |_::_,[],h=>by cases h
 |e::es,r::l,h=>by
  have h:((e.1==r.1)&&(qrd K e.2.2 r.2&&qpa K es l))=true:=h;rw[Qy,Qy]at h;have e1:e.1=r.1:=eq_of_beq h.1;unfold atL;by_cases z:r.1=s
  ·rw[if_pos z];refine .inr ⟨r.2,e.2.2,rfl,?_,h.2.1⟩;have:((Qdb e.1:Key)=Qdb s):=by rw[e1,z]
   simp[Qcf,kvC,this]
  ·rw[if_neg z];have z' : ¬ ((Qdb e.1:Key)=Qdb s):=λy=>z (e1▸Qhy y);have ev:Qcf (kvC (e::es)) (.inr s)=Qcf (kvC es) (.inr s):=by simp only[Qcf,kvC,Qr,Ju,decide_eq_false z']
   rw[ev];exact atC s h.2.2
def zph{K:Qa}:∀{es:List (Str×Tok×Addr)}{l:List (Str×List Str)},qpa K es l=true->es.map (·.1)=l.map (·.1)
 |[],[],_=>rfl
 |[],_::_,h=>by cases h
 |_::_,[],h=>by cases h
 |e::es,r::l,h=>by
  have h:((e.1==r.1)&&(qrd K e.2.2 r.2&&qpa K es l))=true:=h;rw[Qy,Qy]at h;rw[Qr,Qr,zph h.2.2,eq_of_beq h.1]
def zum{h:Heap}(hp:h.get? p=some ⟨.type "dict",none,.dict (es.map (xdb w.params)).toArray n,#[]⟩)(nd:(es.map (·.1)).Nodup):h.DictOf (qao P w) p (kvC es):=by
 refine⟨_,_,n,hp,⟨rfl,rfl,rfl⟩,rfl,λe he=>?_,?_,?_⟩
 ·obtain⟨x,hx,rfl⟩:=Q1.mp (List.mem_toArray.mp he);exact⟨.inr x.1,qhd P w x.1 x.2.1,rfl⟩
 ·rw[J0];clear hp nd
  induction es with
  |nil=>exact .nil
  |cons e es ih=>exact .cons (qhd P w e.1 e.2.1) rfl ih
 ·unfold kvC;rw[Zi];have:(es.map (·.1)).map (Qdb:Str->Key)=es.map ((·.1) ∘ λe=>((.inr e.1,.ref e.2.2):Key×Value)):=by rw[Zi];rfl
  rw[<- this];exact Qmj _ (λa b h z=>h (Qhy z)) nd
section
variable{X:Cx}{p:Addr}{l:List (Str×List Str)}{x:Str}{px pos:Pos}{e:Expr}{We:WE}
def xbc(l:List (Str×List Str))(We:WE):WT:=λenv Q=>We env λd e1 =>∃s,d = .str s/\Q (!(atL l s).isSome) e1
def zrs(D:DicC X.w X.K p l)(hm:X.mg x=some (.ref p))(he:VE X e We)(hg:Gl X x:=by rfl)(hd:Nd0 x:=by decide)(hb:Vd .NotIn (.Name x px)=false:=by rfl):
 VT X (.Compare e [.NotIn] [.Name x px] pos) (xbc l We):=by
 have pc:PC X .NotIn e (.Name x px) (λσ H Q=>qdc X.K We σ H λy H1 =>∃s,y = .str s/\Q (.bl (!(atL l s).isSome)) H1):=by
  intro pins s σ H Q I h;refine thn (he pins s σ H _ I h) λv s1 xx244=>?_;obtain⟨y,H1,I1,ry,z,ey,q⟩:=xx244;subst ey;refine qdt I1 hg hm ?_ hd;obtain⟨es,n,lk,ti,nd,hs⟩:=D.ex;refine wpAny_notIn_of (knd:=qao X.prog X.w) (k :=.inr z) (qxl (k :=.inr z) ry) hs (zum (I1.kIn _ _ lk) (by rw[zph ti];exact nd)).mapOf ?_;have eq:(Qcf (kvC es) (.inr z)).isSome=(atL l z).isSome:=by
   rcases atC (K:=X.K) z ti with⟨h1,h2⟩|⟨r,q,h1,h2,_⟩ <;> rw[h1,h2] <;> rfl
  rw[eq];exact⟨.bl _,H1,I1.tok _,rfl,q⟩
 exact(zpd pc hb).imp λσ H R xx243=>by
  obtain⟨M,env,F,Q,I,h,k⟩:=xx243;refine⟨M,env,F,_,I,h,λd v F1 H1 e1 I1 s1 i1 h1=>?_⟩;obtain⟨s,rfl,h1⟩:=h1;exact⟨s,qam i1,_,rfl,k _ F1 H1 e1 I1 s1 h1⟩
def xbv(l:List (Str×List Str))(We:WE):WE:=λenv Q=>We env λd e1 =>∃s r,d = .str s/\atL l s=some r/\Q (.tuple (r.map .str)) e1
def zfh(D:DicC X.w X.K p l)(hm:X.mg x=some (.ref p))(he:VE X e We)(hs:zvu e:=by intro _ _;rfl)(hg:Gl X x:=by rfl)(hd:Nd0 x:=by decide):
 VE X (.Subscript (.Name x px) e pos) (xbv l We):=by
 rintro pins s σ H Q I ⟨M,env,F,q,J,h,k⟩;obtain⟨es,n,lk,ti,nd,hsm⟩:=D.ex;refine zfg Qeq.lookup hs (qdt I hg hm (thn (he pins s σ H (λy H1 =>∃z a,y = .str z/\Qcf (kvC es) (.inr z)=some (.ref a)/\Q (.ref a) H1) I ⟨M,env,F,_,J,h,λd v F1 H1 e1 I1 s1 i1 h1=>?_⟩) λv s1 ⟨y,H1,I1,ry,z,a,ey,hv,q⟩=>?_) hd)
 ·obtain⟨z,r,rfl,hr,h1⟩:=h1;rcases atC (K:=X.K) z ti with⟨h2,_⟩|⟨r',a,h2,h3,h4⟩
  ·rw[hr]at h2;cases h2
  ·rw[hr]at h2;cases h2;exact⟨z,a,qam i1,h3,k _ _ F1 H1 e1 I1 s1 (zge h4) h1⟩
 ·subst ey;have dd:s1.heap.DictOf (qao X.prog X.w) p (kvC es):=zum (I1.kIn _ _ lk) (by rw[zph ti];exact nd);exact⟨dd.typeIs,wpAny_getItem_of (knd:=qao X.prog X.w) (k :=.inr z) (qxl (k :=.inr z) ry) dd.mapOf hv ⟨.ref a,H1,I1.tok _,rfl,q⟩⟩
def zmz(hm:X.mg x=some (.ref p))(ht:qrd X.K p xs=true)(hg:Gl X x:=by rfl)(hd:Nd0 x:=by decide):VE X (.Name x px) (wC (.tuple (xs.map .str))):=zkc (qbt (v :=.ref p) hg hm rfl hd) λ_=>zge ht
end
end L2
namespace L2
open PySem PySem.Spec PyProof.Rows
section
variable{X:Cx}
def qsl(a b:Str)(k:Int):Prop:=((decide (k < -(2^63:Int))||decide (k>=2^63))=false/\(b.length==0)=false)/\a.length<=Qo/\(Zr a (Q5 a b 0 a.length (Qha a k)) b.length).length<=Qo/\(Yl a b k).length<=Qo
def zpx(x:V)(xs:List V)(H:Hp)(Q:VK):Prop :=∃a b k,x = .str a/\xs=[.str b,.int k]/\qsl a b k /\ ∀l,H l=none->Q (.ref l) (upd H l (.lst ((Yl a b k).map .str)))
def zhl:MtR X "str.split" zpx:=by
 intro pins s σ H x xs v us Q I r rs h;obtain⟨a,b,k,rfl,rfl,⟨⟨hk,hb⟩,ha,hp,hn⟩,q⟩:=h;obtain⟨t,rfl⟩:=r;cases rs with
 |cons r1 r2 =>
  obtain⟨u,rfl,ru⟩:=Vals.one r2;obtain⟨t2,rfl⟩:=r1;obtain⟨t3,rfl⟩:=ru;have lay:∀(l:List (Str×Tok))(k':Nat),l.map (·.1)=Yl a b k->EP X pins σ Q (.ref s.heap.objs.size) { s with toks:=k',heap:=s.heap.push { cls :=.type "list",data :=.seq (Qcc l).toArray } }:=λl k' e=>by
   have rv:Vals ((Yl a b k).map V.str) (Qcc l):=by rw[<- e];exact qmy l
   have I2:Inv X pins σ (upd H s.heap.objs.size (.lst ((Yl a b k).map .str))) { s with toks:=k',heap:=s.heap.push { cls :=.type "list",data :=.seq (Qcc l).toArray } } :=
    I.laid (t':=k') (λb o e=>Qf _ e) (Qn _) (show ObjOk X.prog X.w _ _ _ (.lst _) from⟨by rw[Qj];exact hn,Qcc l,_,rv,Qq _ rfl⟩)
   exact⟨.ref s.heap.objs.size,_,I2,rfl,q _ (I.hok.fresh (Qn _))⟩
  cases h1:(decide (a.length<b.length)||decide (Vr a<Vr b))
  ·cases hf:(Q5 a b 0 a.length (Qha a k)).isEmpty
   ·refine Qac J8 (Qau _ _ _) Jv (Qei _ _ _) (meets_str_split_sep_max a b k t t2 t3 hk h1 hb hf ha hp) ?_;show EP X pins σ Q _ { s with toks:=_,heap:=s.heap.push { cls :=.type "list",data :=.seq (strsFrom s.toks (Zr a (Q5 a b 0 a.length (Qha a k)) b.length)).toArray } };rw[strsFrom_eq];exact lay _ _ ((numbered_texts _ _).trans ((if_neg (ne_true_of_eq_false h1)).trans (if_neg (ne_true_of_eq_false hf))).symm)
   ·exact Qac J8 (Qau _ _ _) Jv (Qei _ _ _) (meets_str_split_max_not_found a b k t t2 t3 hk h1 hb hf) (lay [(a,t)] _ ((if_neg (ne_true_of_eq_false h1)).trans (if_pos hf)).symm)
  ·exact Qac J8 (Qau _ _ _) Jv (Qei _ _ _) (meets_str_split_max_cannot_occur a b k t t2 t3 hk h1) (lay [(a,t)] _ (if_pos h1).symm)
end
section
variable{X:Cx}{o e e2:Expr}{Wo We We2:WE}{apos cpos:Pos}
def zuc(Wo We We2:WE):WE:=λenv Q=>Wo env λd e1 =>∃a,d = .str a/\We e1 λd2 e2=>We2 e2 λd3 e3 =>∃b k,d2 = .str b/\d3 = .int k/\qsl a b k/\Q (.list ((Yl a b k).map .str)) e3
def zic(ho:VE X o Wo)(he:VE X e We)(he2:VE X e2 We2)(hbase:Z2 o "split" X.env (eval o X.env)=eval o X.env:=by rfl)(hfew:((Z5 cpos (Qi [e,e2] X.env)).all (λx => !x.1)&&(Qai cpos (Ve [] X.env)).all (λx=>x.1.isSome)&&decide ([e,e2].length+([]:List Jj).length+(if([]:List Jj).isEmpty then 0 else 1)<30))=true:=by rfl)(hline:(apos.endLine==cpos.line)=true:=by rfl)(hst:Qi [e,e2] X.env=(false,eval e X.env)::Qi [e2] X.env:=by rfl)(hst2:Qi [e2] X.env=(false,eval e2 X.env)::Qi [] X.env:=by rfl)(hplain:(Z5 cpos (Qi [e2] X.env)).any (·.1)=false:=by rfl):
 VE X (.Call (.Attribute o "split" apos) [e,e2] [] cpos) (zuc Wo We We2) :=
 (qtw Je Qgg Qgh zhl ho (qF he (qF he2 qar hst2) hst) hbase hfew hline hst hplain).imp λσ H R xx246=>by
  obtain⟨M,env,F,Q,I,h,k⟩:=xx246;refine⟨M,env,F,_,I,h,λd v F1 H1 e1 I1 s1 i1 h1=>?_⟩;obtain⟨a,rfl,h1⟩:=h1;rw[qam i1];refine⟨rfl,M,e1,F1,_,I1,h1,λd2 v2 F2 H2 e2 I2 s2 i2 h2=>⟨M,e2,F2,_,I2,h2,λd3 v3 F3 H3 e3 I3 s3 i3 h3=>?_⟩⟩;obtain⟨b,n,rfl,rfl,ok,h3⟩:=h3;refine⟨a,b,n,rfl,by rw[qam i2,i3.int_inv],ok,λl hl=>?_⟩;have g:=Go.put (o:=HO.lst ((Yl a b n).map V.str)) I3.fh hl;exact k _ _ _ _ e3 (I3.go g) (s1.trans (s2.trans (s3.trans g.f))) (qdg (SqL.of qp) (qhx _)) h3
end
section
variable{X:Cx}{Ex:St->XK}{e:Expr}{W:WX->WE}{x:Str}{p pos:Pos}
def zux(W:WX->WE):WX->WE:=λWx env _=>W Wx env λ_ _=>False
def qlk(hm:X.mg x=some (.ref a))(hk:Z4 X.K (.ref a)=true)(h:VEX X Ex e W)(hg:Gl X x:=by rfl)(hdb:Nd0 x:=by decide)(he:Qi [e] X.env=(false,eval e X.env)::Qi [] X.env:=by rfl)(hpl:(Z5 pos (Qi [] X.env)).any (·.1)=false:=by rfl):VEX X Ex (.Call (.Name x p) [e] [] pos) (zux W):=by
 rintro pins s σ H Q I ⟨M,env,F,Wx,q,J,h1,hex,kk⟩;refine V5 (qdt I hg hm ?_ hdb);refine Qbu (h₀:=X.base) I.ok.mod.kin hk (thn ((qF h qar he) pos pins s σ H (λ_ _=>False) I ⟨M,env,F,Wx,_,J,h1,hex,λd v F1 H1 e1 I1 s1 i1 z=>z.elim⟩) λus s1 xx247=>by obtain⟨vs,H1,I1,r,z⟩:=xx247;exact z.elim) he hpl
def zbr(h:VEX X Ex e W)(he:∀whole,Qln e X.env whole=(do let v <- whole;Qhc e.pos;Qdf [v] (truthy v)):=by intro _;rfl):VEX X Ex (.IfExp e b c pos) (zux W):=by
 rintro pins s σ H Q I ⟨M,env,F,Wx,q,J,h1,hex,kk⟩;refine wpAny_IfExp (isTrue_plain (thn (h pins s σ H (λ_ _=>False) I ⟨M,env,F,Wx,_,J,h1,hex,λd v F1 H1 e1 I1 s1 i1 z=>z.elim⟩) λv s1 xx248=>by obtain⟨y,H1,I1,r1,z⟩:=xx248;exact z.elim) (he _))
end
section
variable{X:Cx}
def xcm:D2
 |.str z,.int i,q =>∃c,(z.length<=Qo/\atI z.cps.toList i=some c)/\q (.str (chS c))
 |_,_,_=>False
def xbm:IxR X (qty X.K xcm):=zox.imp λx y H Q xx249=>by
 obtain⟨F,dx,dy,q,s,i1,i2,h,k⟩:=xx249;cases dx with
 |str z=>cases dy with
  |int i =>
   obtain⟨c,⟨hz,hc⟩,h⟩:=h;exact⟨z,i,c,qam i1,i2.int_inv,hz,hc,k _ _ F H (.refl s) (qeh _) h⟩
  |_=>exact(show False from h).elim
 |_=>exact(show False from h).elim
def znv(ha:VE X a Wa)(hb:VE X b Wb)(hs:qqx b:=by intro _ _;rfl):VE X (.Subscript a b pos) (wOp xcm Wa Wb):=(zpt xbm ha hb hs).imp λ_ _ _ h=>qmu h
end
end L2
def L2.Room.m{j k:Nat}{A:PySem.Around}(r:L2.Room k A)(h:j<=k:=by decide):L2.Room j A:=r.mono h
namespace My
open PySem L2
seal VE VF VA VT VW VS VSs VG VGs VI VO OpV qjy zee VN VFN VST xfl VEX VSX qwl
def top(i:Nat):Stmt:=Qd.main.body.getD i (.Pass ⟨0,0,0,0⟩)
def qtc(s:Stmt)(j:Nat):Stmt:=match s with |.ClassDef _ _ _ body _ _ _ _ _ _ _=>body.getD j (.Pass ⟨0,0,0,0⟩)|s=>s
abbrev qfo:Stmt:=qtc (top 117) 0
abbrev qqi:Stmt:=top 13
abbrev qnv:Stmt:=top 27
abbrev qiw:Stmt:=top 26
abbrev quw:Stmt:=top 14
abbrev qep:Stmt:=top 29
abbrev qqm:Stmt:=top 28
abbrev qqr:Stmt:=top 24
abbrev qis:Stmt:=top 33
abbrev qea:Stmt:=top 32
abbrev qgd:Stmt:=top 105
abbrev qve:Stmt:=top 16
abbrev zeu:Stmt:=top 15
abbrev qkv:Stmt:=top 97
abbrev qkm:Stmt:=top 108
abbrev qol:Stmt:=top 107
abbrev qku:Stmt:=top 106
abbrev qkp:Stmt:=top 104
abbrev qkr:Stmt:=top 102
abbrev qky:Stmt:=top 25
abbrev qgy:Stmt:=top 103
abbrev qik:Stmt:=top 110
abbrev qgw:Stmt:=top 109
abbrev qdj:Stmt:=qtc (top 117) 3
abbrev qdm:Stmt:=qtc (top 117) 2
abbrev qeb:Stmt:=qtc (top 117) 4
abbrev qdz:Stmt:=top 119
abbrev qrk:Stmt:=top 118
abbrev zgd:Stmt:=top 35
abbrev qnm:Stmt:=top 41
abbrev zbh:Stmt:=top 40
abbrev zav:Stmt:=top 34
abbrev qcx:Stmt:=top 46
abbrev qct:Stmt:=top 47
abbrev zbl:Stmt:=top 43
abbrev qzs:Stmt:=top 48
abbrev qux:Stmt:=top 31
abbrev qgt:Stmt:=top 30
abbrev qrc:Stmt:=top 38
abbrev zbd:Stmt:=top 36
abbrev qfi:Stmt:=top 76
abbrev qfs:Stmt:=top 74
abbrev qfw:Stmt:=top 73
abbrev qer:Stmt:=top 75
abbrev qrp:Stmt:=top 77
abbrev qpx:Stmt:=top 78
abbrev zgm:Stmt:=top 72
abbrev quo:Stmt:=top 120
abbrev qqd:Stmt:=top 61
abbrev qkx:Stmt:=top 63
abbrev zei:Stmt:=top 62
abbrev zey:Stmt:=top 80
abbrev qfq:Stmt:=top 86
abbrev zow:Stmt:=top 85
abbrev qrr:Stmt:=top 99
abbrev qrs:Stmt:=top 101
abbrev qkq:Stmt:=top 98
abbrev qok:Stmt:=top 121
abbrev qrq:Stmt:=qtc (top 117) 1
abbrev qns:Stmt:=top 127
abbrev qkw:Stmt:=top 128
abbrev qnx:Stmt:=top 133
abbrev qgz:Stmt:=top 129
abbrev qfu:Stmt:=top 130
abbrev qfv:Stmt:=top 131
abbrev qgs:Stmt:=top 132
abbrev qjl:Stmt:=top 134
abbrev qxv:Stmt:=top 135
def sc0{N P:List Str}{sc:Scope}(a:sc.kind = .function:=by rfl)(b:sc.isCoroutine=false:=by rfl)(c:sc.isGenerator=false:=by rfl)(d:N.Nodup:=by decide +kernel)(e:N.take P.length=P:=by rfl)(f:∀x∈P,sc.names.lookup x=some .local\/sc.names.lookup x=some .cell:=by decide +kernel)(g:∀y∈sc.names,y.2≠.free:=by decide +kernel):FnScope N P sc:=⟨a,b,c,d,e,f,g⟩
def pv{X:Cx}(i:Nat){x:Str}{pos:Pos}(hN:X.N[i]?=some x:=by rfl)(hv:Vis X.env.scope x:=by first|exact Yi rfl|exact Zt (Yi rfl)|exact Zt (Zt rfl))(hd:Nd0 x:=by decide)(hc:Nd1 x:=by decide):PE X (.Name x pos) (zbb i):=qbo hN hv hd hc
structure Cs where
 Desk:Addr
 FORMS:Addr
 Full:Addr
 GlassError:Addr
 NoBeliefs:Addr
 NoDulling:Addr
 NoFit:Addr
 NoGlass:Addr
 NoName:Addr
 NoRow:Addr
 NoShare:Addr
 NoText:Addr
 TEXTS:Addr
 TooMany:Addr
 show_best:Addr
 show_compared:Addr
 show_curve:Addr
 show_dulling:Addr
 tb:Addr
 c0:Addr
 bm:Addr
structure Txt(w:World)(K:Qa)(mg:Str->Option Value)(cs:Cs):Prop where
 Desk_:mg "Desk" = some (.ref cs.Desk)
 FORMS_:mg "FORMS" = some (.ref cs.FORMS)
 Full_:mg "Full" = some (.ref cs.Full)
 GlassError_:mg "GlassError" = some (.ref cs.GlassError)
 NoBeliefs_:mg "NoBeliefs" = some (.ref cs.NoBeliefs)
 NoDulling_:mg "NoDulling" = some (.ref cs.NoDulling)
 NoFit_:mg "NoFit" = some (.ref cs.NoFit)
 NoGlass_:mg "NoGlass" = some (.ref cs.NoGlass)
 NoName_:mg "NoName" = some (.ref cs.NoName)
 NoRow_:mg "NoRow" = some (.ref cs.NoRow)
 NoShare_:mg "NoShare" = some (.ref cs.NoShare)
 NoText_:mg "NoText" = some (.ref cs.NoText)
 TEXTS_:mg "TEXTS" = some (.ref cs.TEXTS)
 TooMany_:mg "TooMany" = some (.ref cs.TooMany)
 show_best_:mg "show_best" = some (.ref cs.show_best)
 show_compared_:mg "show_compared" = some (.ref cs.show_compared)
 show_curve_:mg "show_curve" = some (.ref cs.show_curve)
 show_dulling_:mg "show_dulling" = some (.ref cs.show_dulling)
 FORMS_d:DicC w K cs.FORMS [("glass",["new","glass"]),("dull",["new","name","dulling"]),("beside",["new","name","name"]),("join",["new","name","number","number"]),("least",["new","name"]),("show",["name"]),("best",["name","payoffs"]),("compare",["name","name"]),("by",["name","name"]),("alike",["name","name"]),("curve",["name"])]
 TEXTS_t:qrd K cs.TEXTS ["glass","dulling","payoffs"]=true
 show_best_kp:Z4 K (.ref cs.show_best)=true
 show_compared_kp:Z4 K (.ref cs.show_compared)=true
 show_curve_kp:Z4 K (.ref cs.show_curve)=true
 show_dulling_kp:Z4 K (.ref cs.show_dulling)=true
 Desk_c:Cls K cs.Desk
 Desk_mk:Qgn K cs.Desk=true
 Desk_kp:Z4 K (.ref cs.Desk)=true
 Desk_n_glasses:NoAttr K cs.Desk "glasses"
 Full_e:Yj K cs.Full qko "ValueError.__new__" = true
 GlassError_e:Yj K cs.GlassError qko "ValueError.__new__" = true
 NoFit_e:Yj K cs.NoFit qko "ValueError.__new__" = true
 NoName_e:Yj K cs.NoName qko "ValueError.__new__" = true
 NoRow_e:Yj K cs.NoRow qko "ValueError.__new__" = true
 NoText_e:Yj K cs.NoText qko "ValueError.__new__" = true
 TooMany_e:Yj K cs.TooMany qko "ValueError.__new__" = true
 Full_x:XCls K cs.Full
 u_Full_GlassError:qpv K cs.Full cs.GlassError
 k_Full_NoBeliefs_NoDulling_NoGlass_NoShare:Vw K (.ref cs.Full) [.ref cs.NoBeliefs,.ref cs.NoDulling,.ref cs.NoGlass,.ref cs.NoShare]=some false
 k_Full_ValueError:Qs K (.ref cs.Full) (.type "ValueError")=some true
 k_Full_NoText:Qs K (.ref cs.Full) (.ref cs.NoText)=some false
 k_Full_NoName:Qs K (.ref cs.Full) (.ref cs.NoName)=some false
 k_Full_NoRow:Qs K (.ref cs.Full) (.ref cs.NoRow)=some false
 k_Full_TooMany:Qs K (.ref cs.Full) (.ref cs.TooMany)=some false
 k_Full_NoFit:Qs K (.ref cs.Full) (.ref cs.NoFit)=some false
 k_Full_Full:Qs K (.ref cs.Full) (.ref cs.Full)=some true
 NoFit_x:XCls K cs.NoFit
 u_NoFit_GlassError:qpv K cs.NoFit cs.GlassError
 k_NoFit_NoBeliefs_NoDulling_NoGlass_NoShare:Vw K (.ref cs.NoFit) [.ref cs.NoBeliefs,.ref cs.NoDulling,.ref cs.NoGlass,.ref cs.NoShare]=some false
 k_NoFit_ValueError:Qs K (.ref cs.NoFit) (.type "ValueError")=some true
 k_NoFit_NoText:Qs K (.ref cs.NoFit) (.ref cs.NoText)=some false
 k_NoFit_NoName:Qs K (.ref cs.NoFit) (.ref cs.NoName)=some false
 k_NoFit_NoRow:Qs K (.ref cs.NoFit) (.ref cs.NoRow)=some false
 k_NoFit_TooMany:Qs K (.ref cs.NoFit) (.ref cs.TooMany)=some false
 k_NoFit_NoFit:Qs K (.ref cs.NoFit) (.ref cs.NoFit)=some true
 k_NoFit_Full:Qs K (.ref cs.NoFit) (.ref cs.Full)=some false
 NoName_x:XCls K cs.NoName
 u_NoName_GlassError:qpv K cs.NoName cs.GlassError
 k_NoName_NoBeliefs_NoDulling_NoGlass_NoShare:Vw K (.ref cs.NoName) [.ref cs.NoBeliefs,.ref cs.NoDulling,.ref cs.NoGlass,.ref cs.NoShare]=some false
 k_NoName_ValueError:Qs K (.ref cs.NoName) (.type "ValueError")=some true
 k_NoName_NoText:Qs K (.ref cs.NoName) (.ref cs.NoText)=some false
 k_NoName_NoName:Qs K (.ref cs.NoName) (.ref cs.NoName)=some true
 k_NoName_NoRow:Qs K (.ref cs.NoName) (.ref cs.NoRow)=some false
 k_NoName_TooMany:Qs K (.ref cs.NoName) (.ref cs.TooMany)=some false
 k_NoName_NoFit:Qs K (.ref cs.NoName) (.ref cs.NoFit)=some false
 k_NoName_Full:Qs K (.ref cs.NoName) (.ref cs.Full)=some false
 NoRow_x:XCls K cs.NoRow
 u_NoRow_GlassError:qpv K cs.NoRow cs.GlassError
 k_NoRow_NoBeliefs_NoDulling_NoGlass_NoShare:Vw K (.ref cs.NoRow) [.ref cs.NoBeliefs,.ref cs.NoDulling,.ref cs.NoGlass,.ref cs.NoShare]=some false
 k_NoRow_ValueError:Qs K (.ref cs.NoRow) (.type "ValueError")=some true
 k_NoRow_NoText:Qs K (.ref cs.NoRow) (.ref cs.NoText)=some false
 k_NoRow_NoName:Qs K (.ref cs.NoRow) (.ref cs.NoName)=some false
 k_NoRow_NoRow:Qs K (.ref cs.NoRow) (.ref cs.NoRow)=some true
 k_NoRow_TooMany:Qs K (.ref cs.NoRow) (.ref cs.TooMany)=some false
 k_NoRow_NoFit:Qs K (.ref cs.NoRow) (.ref cs.NoFit)=some false
 k_NoRow_Full:Qs K (.ref cs.NoRow) (.ref cs.Full)=some false
 NoText_x:XCls K cs.NoText
 u_NoText_GlassError:qpv K cs.NoText cs.GlassError
 k_NoText_NoBeliefs_NoDulling_NoGlass_NoShare:Vw K (.ref cs.NoText) [.ref cs.NoBeliefs,.ref cs.NoDulling,.ref cs.NoGlass,.ref cs.NoShare]=some false
 k_NoText_ValueError:Qs K (.ref cs.NoText) (.type "ValueError")=some true
 k_NoText_NoText:Qs K (.ref cs.NoText) (.ref cs.NoText)=some true
 k_NoText_NoName:Qs K (.ref cs.NoText) (.ref cs.NoName)=some false
 k_NoText_NoRow:Qs K (.ref cs.NoText) (.ref cs.NoRow)=some false
 k_NoText_TooMany:Qs K (.ref cs.NoText) (.ref cs.TooMany)=some false
 k_NoText_NoFit:Qs K (.ref cs.NoText) (.ref cs.NoFit)=some false
 k_NoText_Full:Qs K (.ref cs.NoText) (.ref cs.Full)=some false
 TooMany_x:XCls K cs.TooMany
 u_TooMany_GlassError:qpv K cs.TooMany cs.GlassError
 k_TooMany_NoBeliefs_NoDulling_NoGlass_NoShare:Vw K (.ref cs.TooMany) [.ref cs.NoBeliefs,.ref cs.NoDulling,.ref cs.NoGlass,.ref cs.NoShare]=some false
 k_TooMany_ValueError:Qs K (.ref cs.TooMany) (.type "ValueError")=some true
 k_TooMany_NoText:Qs K (.ref cs.TooMany) (.ref cs.NoText)=some false
 k_TooMany_NoName:Qs K (.ref cs.TooMany) (.ref cs.NoName)=some false
 k_TooMany_NoRow:Qs K (.ref cs.TooMany) (.ref cs.NoRow)=some false
 k_TooMany_TooMany:Qs K (.ref cs.TooMany) (.ref cs.TooMany)=some true
 k_TooMany_NoFit:Qs K (.ref cs.TooMany) (.ref cs.NoFit)=some false
 k_TooMany_Full:Qs K (.ref cs.TooMany) (.ref cs.Full)=some false
 tab_h:zpg K cs.c0 cs.tb=true
 bm_h:zzc K cs.bm cs.tb=true
 bm_:mg "__builtins__" = some (.ref cs.bm)
 ValueError_:mg "ValueError" = none
 abs_:mg "abs" = none
 all_:mg "all" = none
 any_:mg "any" = none
 bool_:mg "bool" = none
 enumerate_:mg "enumerate" = none
 int_:mg "int" = none
 isinstance_:mg "isinstance" = none
 len_:mg "len" = none
 list_:mg "list" = none
 range_:mg "range" = none
 sorted_:mg "sorted" = none
 str_:mg "str" = none
 sum_:mg "sum" = none
 tuple_:mg "tuple" = none
 zip_:mg "zip" = none
 FEWEST_STANDS_:∃t,mg "FEWEST_STANDS" = some (.int 2 t)
 FIGURES_:∃t,mg "FIGURES" = some (.str "0123456789" t)
 LETTERS_:∃t,mg "LETTERS" = some (.str "abcdefghijklmnopqrstuvwxyz" t)
 MOST_ACTS_:∃t,mg "MOST_ACTS" = some (.int 12 t)
 MOST_BOTTOM_:∃t,mg "MOST_BOTTOM" = some (.int 999999 t)
 MOST_FIGURES_:∃t,mg "MOST_FIGURES" = some (.int 6 t)
 MOST_LETTERS_:∃t,mg "MOST_LETTERS" = some (.int 8 t)
 MOST_NAMES_:∃t,mg "MOST_NAMES" = some (.int 20 t)
 MOST_PAYOFF_:∃t,mg "MOST_PAYOFF" = some (.int 1000000 t)
 MOST_PAYOFF_FIGURES_:∃t,mg "MOST_PAYOFF_FIGURES" = some (.int 7 t)
 MOST_SIGNS_:∃t,mg "MOST_SIGNS" = some (.int 12 t)
 MOST_STANDS_:∃t,mg "MOST_STANDS" = some (.int 4 t)
section
variable{P:Zk}{w:World}{K:Qa}{mg:Str->Option Value}{base:Heap}{cs:Cs}
def qmk:FnScope ["self"] ["self"] (defScope qfo):=sc0
def qmd(F:MDef K cs.Desk "__init__" "Desk.__init__" qfo ["self"])(T:Txt w K mg cs):OkM P w K mg base cs.Desk "__init__" 1 ["self"] (zjv cs.Desk "glasses"):=by
  obtain⟨f,fd,Fn,hm,hb⟩:=F.ex;refine⟨f,fd,Fn.ok qmk (by rintro vs H Q E ⟨_,_,h,_⟩;rw[h];rfl) λcdv A outer s H vs Q E hr h=>?_,hm,hb⟩;obtain⟨a,dx,rfl,ha,kk⟩:=h;refine⟨_,qmp (zwj (pv 0) zlf rfl),?_⟩;exact λg hg=>⟨.ref a,rfl,a,cs.Desk,dx,[],rfl,by rw[qo (qq ha hg)];exact ha,T.Desk_c,T.Desk_n_glasses,(show 0<1000 by decide),kk g hg⟩
def zyj:Qh->Bool
 |.int _=>true
 |_=>false
def qce:DC
 |[d],q=>q (.bool (zyj d))
 |_,_=>False
def qyy:FnScope ["thing"] ["thing"] (defScope qqi):=sc0
def qzg(F:Def K mg "is_whole" qqi ["thing"])(T:Txt w K mg cs):Ok P w K mg base "is_whole" 1 ["thing"] (PSp K qce):=by
  refine F.vok qyy (λds q h=>by unfold qce at h;split at h;all_goals first|rfl|exact h.elim) λf cdv A outer s H E hr ds q h=>?_
  match ds,h with
  |[d],h =>
  refine⟨_,(qm (qu (qpd (qlf T.isinstance_ T.int_ L2.boot_int (qc 0)) (qjk (zny (qlf T.isinstance_ T.bool_ L2.boot_bool (qc 0))))))),?_⟩;cases d <;> exact h
def zlo{a b:Int}{g:Nat}(h0:0<=a)(hb:0<=b)(h1:b≠0)(h:Qls a.toNat b.toNat=g):
 0<=a%b/\a%b<b/\Qls b.toNat (a%b).toNat=g:=by
  have hp:0<b:=by omega
  have e1:=Yy a h1;have e2:=Yw a hp;refine⟨e1,e2,?_⟩;have e3:(a%b).toNat=a.toNat%b.toNat:=by
   grind
  grind[Nat.gcd_comm,Nat.gcd_rec]
def zqc{a:Int}{b:Int}{g:Nat}(h0:0<=a)(h1:b=0)(h:Qls a.toNat b.toNat=g):a=(g:Int):=by
 subst h1;grind
def zio(a b:Int):Qls (if a<0 then -a else a).toNat (if b<0 then -b else b).toNat=Vc a b:=by
 have e:∀x:Int,(if x<0 then -x else x).toNat=x.natAbs:=λx=>by grind
 rw[e,e];rfl
structure Shr(p q:Int):Prop where
 pos:1<=q
 gcd:Vc p q=1
def cm(t b:Int):Int:=if b<0 then -(Vc t b:Int)else(Vc t b:Int)
def shT(t b:Int):Int:=t.fdiv (cm t b)
def shB(t b:Int):Int:=b.fdiv (cm t b)
def zfm{t b:Int}(hb:b≠0):0<Vc t b:=Qdm t hb
def qqh{t b:Int}(hb:b≠0):cm t b≠0:=by
 have:=zfm (t:=t) hb;unfold cm;split <;> omega
def zlc(t b:Int):cm t b∣t:=by
 have h:(Vc t b:Int)∣t:=Qkc ..;unfold cm;split
 ·exact Int.neg_dvd.mpr h
 ·exact h
def zni(t b:Int):cm t b∣b:=by
 have h:(Vc t b:Int)∣b:=Qjd ..;unfold cm;split
 ·exact Int.neg_dvd.mpr h
 ·exact h
def qoe{c t:Int}(h:c∣t):c*(t.fdiv c)=t:=Int.mul_fdiv_cancel' h
def qpw(t b:Int):cm t b*shT t b=t:=qoe (zlc t b)
def qpq(t b:Int):cm t b*shB t b=b:=qoe (zni t b)
def qud(t b:Int):(cm t b).natAbs=Vc t b:=by unfold cm;split <;> omega
def xaf{t b:Int}(hb:b≠0):Shr (shT t b) (shB t b)/\shT t b*b=t*shB t b:=by
 have h1:=qpw t b;have h2:=qpq t b;have hc:=qqh (t:=t) hb;have hg:=zfm (t:=t) hb;refine⟨⟨?_,?_⟩,?_⟩
 ·by_cases hn:b<0
  ·have hcn:cm t b<0:=by unfold cm;grind
   have:0<shB t b:=by
    rcases Qej 0 (shB t b)with h|h
    ·exact h
    ·have:=Int.mul_nonneg_of_nonpos_of_nonpos (Qbn hcn) h;omega
   omega
  ·have hcn:0<cm t b:=by unfold cm;grind
   have hbp:0<b:=by omega
   have:0<shB t b:=by
    rcases Qej 0 (shB t b)with h|h
    ·exact h
    ·have:=Int.mul_nonpos_of_nonneg_of_nonpos (Qbn hcn) h;omega
   omega
 ·have e:Vc (cm t b*shT t b) (cm t b*shB t b)=(cm t b).natAbs*Vc (shT t b) (shB t b):=Int.gcd_mul_left ..;rw[h1,h2,qud]at e;have e2:Vc t b*1=Vc t b*Vc (shT t b) (shB t b):=by omega
  exact(Nat.eq_of_mul_eq_mul_left hg e2).symm
 grind
open Builtin.Int (intBits)
def zrm{t b:Int}{m:Nat}(hb:b≠0)(h:intBits b<=m):intBits (cm t b)<=m:=by
 refine Jr ?_ h;rw[qud];exact Qft (by omega) (Nat.gcd_dvd_right t.natAbs b.natAbs)
def zbe{t b:Int}{m:Nat}(h:intBits t<=m):intBits (shT t b)<=m:=intBits_fdiv_le h
def zam{t b:Int}{m:Nat}(h:intBits b<=m):intBits (shB t b)<=m:=intBits_fdiv_le h
def zch{a b:Int}(ha:intBits a<=4000)(hb:intBits b<=4000):IntMulOk a b :=.of_le ha hb (by decide)
def qai{x:Int}{m n:Nat}(h:intBits x<=m)(e:m<=n):intBits x<=n:=Qk h e
def qcl{x:Int}(h1 : -(2^64)<x)(h2:x<2^64):intBits x<=64:=intBits_le_64 h1 h2
def ziz{zs:LI}{i:Nat}{z:Int}(h:zs[i]?=some z):zs.take (i+1)=zs.take i++[z]:=by
 rw[Vp,h];rfl
def zgh{zs:LI}{i:Nat}{x:Qh}(h:(zs.map Yp)[i]?=some x):∃z,x = .int z/\zs[i]?=some z/\z∈zs:=by
 grind
structure Tab(b:Int)(R:LL)(n:Nat):Prop where
 pos:1<=b
 len:∀r∈R,r.length=n
 nn:∀r∈R,∀x∈r,0<=x
 sum:∀r∈R,r.sum=b
def xcy(r:LI):Qh :=.list (r.map .int)
def qji(r:LI):Qh :=.tuple (r.map .int)
def qgj{α:Type}{l:List α}{i:Nat}{x:α}(h:l[i]?=some x):x∈l:=Qz h
def qM{α:Type}(y:α)(l:List α):atI (y::l) 0=some y:=qK (j:=0) rfl
def qcr{c:Bool}{A B:Prop}(h1:c=true->A)(h2:c=false->B):if c=true then A else B:=by
 grind
def znr:∀{r:LI},(∀n∈r,0<=n)->0<=r.sum
 |[],_=>by simp
 |n::r,h=>by
  rw[Qdn];have a:=h n (by simp);have b:=znr λm hm=>h m (Qt _ hm);omega
def qqf:∀{r:LI}{x:Int},(∀n∈r,0<=n)->x∈r->x<=r.sum
 |n::r,x,h,hx=>by
  rw[Qdn];have a:=h n (by simp);have b:=znr λm hm=>h m (Qt _ hm);rcases Q2.mp hx with rfl|hx
  ·omega
  ·have:=qqf (λm hm=>h m (Qt _ hm)) hx;omega
def Tab.le{b:Int}{R:LL}{n:Nat}{r:LI}{x:Int}(h:Tab b R n)(hr:r∈R)(hx:x∈r):0<=x/\x<=b :=
 ⟨h.nn r hr x hx,h.sum r hr▸qqf (h.nn r hr) hx⟩
def zkd{b:Bool}{A B:Prop}(h:b=true)(k:B):if(!b)=true then A else B:=by rw[h];exact qdl k
def qqv{b:Bool}{A B:Prop}(h:b=true)(k:A):if b=true then A else B:=by rw[h];exact qho k
def qca{b:Bool}{A B:Prop}(h:b=false)(k:B):if b=true then A else B:=by rw[h];exact qdl k
def qev(g:Nat)(r:LI):Nat:=r.foldl (λ(g:Nat) (n:Int)=>Vc g n) g
def qgl(R:LL):Nat:=R.foldl qev 0
def qfh:∀(r:LI)(g:Nat),qev g r∣g
 |[],g=>Nat.dvd_refl _
 |n::r,g=>Qlt (qfh r (Vc g n)) (by have:=Int.gcd_dvd_natAbs_left (g:Int) n;simpa using this)
theorem qfe:∀(r:LI)(g:Nat),∀n∈r,(qev g r:Int)∣n
 |m::r,g,n,h=>by
  rcases Q2.mp h with rfl|h
  ·exact Qfu (J4.mpr (qfh r (Vc g n))) (Qjd ..)
  ·exact qfe r (Vc g m) n h
def qiq:∀(R:LL)(g:Nat),R.foldl qev g∣g
 |[],g=>Nat.dvd_refl _
 |r::R,g=>Qlt (qiq R (qev g r)) (qfh r g)
def qvj:∀(R:LL)(g:Nat),∀r∈R,∀n∈r,((R.foldl qev g:Nat):Int)∣n
 |s::R,g,r,h,n,hn=>by
  rcases Q2.mp h with rfl|h
  ·exact Qfu (J4.mpr (qiq R (qev g r))) (qfe r g n hn)
  ·exact qvj R (qev g s) r h n hn
def zar{R:LL}{r:LI}{n:Int}(h:r∈R)(hn:n∈r):(qgl R:Int)∣n:=qvj R 0 r h n hn
def zsx(R:LL)(g:Int):LL:=R.map λr=>r.map λn=>n/g
theorem qda{α:Type}{f:α->α}:∀{l:List α},(∀x∈l,f x=x)->l.map f=l
 |[],_=>rfl
 |x::l,h=>by rw[Qr,h x (by simp),qda λy hy=>h y (Qt _ hy)]
def qzy:∀{r:LI},(∀n∈r,n=0)->r.sum=0
 |[],_=>rfl
 |n::r,h=>by rw[Qdn,h n (by simp),qzy λm hm=>h m (Qt _ hm)];rfl
def Tab.gpos{b:Int}{R:LL}{n:Nat}(h:Tab b R n)(hR:R≠[]):0<qgl R:=by
 rcases Qii (qgl R)with e|e
 ·exfalso;obtain⟨r,R',rfl⟩:=Ys hR;have h1:=h.sum r (by simp);have h2:∀m∈r,m=0:=λm hm=>by
   have:=zar (R:=r::R') (by simp) hm;rw[e]at this;grind
  rw[qzy h2]at h1;have:=h.pos;omega
 ·exact e
def zgk{g:Int}:∀{r:LI},(∀n∈r,g∣n)->g∣r.sum
 |[],_=>by simp
 |n::r,h=>by rw[Qdn];exact Int.dvd_add (h n (by simp)) (zgk λm hm=>h m (Qt _ hm))
def Tab.gdvd{b:Int}{R:LL}{n:Nat}(h:Tab b R n)(hR:R≠[]):(qgl R:Int)∣b:=by
 obtain⟨r,R',rfl⟩:=Ys hR;rw[<- h.sum r (by simp)];exact zgk λm hm=>zar (by simp) hm
def zhw(g:Nat)(r:LI)(n:Int):qev g (r++[n])=Vc (qev g r) n:=by unfold qev;rw[Qje];rfl
def zbt(R:LL)(r:LI):qgl (R++[r])=qev (qgl R) r:=by unfold qgl;rw[Qje];rfl
def qvc:Qh->Bool
 |.int n=>decide (0<=n)
 |_=>false
def qke:Qh->Int
 |.int n=>n
 |_=>0
def qS(d:Qh)(b:Int):Bool:=match qaa d with
 |none=>false
 |some l=>(decide (1<=l.length)&&decide (l.length<=12))&&(l.all qvc&&decide ((l.map qke).sum=b))
def qip(d:Qh):Nat:=((qaa d).getD []).length
def qQ(bd rd:Qh)(lo hi:Int):Bool:=match bd,qaa rd with
 |.int b,some l=>decide (1<=b)&&((decide (lo<=l.length)&&decide ((l.length:Int)<=hi))&&(l.all (qS · b)&&l.all λr=>qip r==qip ((l[0]?).getD .none)))
 |_,_=>false
def RowsD(d:Qh)(R:LL):Prop :=∃l,qaa d=some l/\l.map (λx=>(qaa x).getD [])=R.map (λr=>r.map Yp) /\ ∀x∈l,(qaa x).isSome=true
def RowsD.len{d:Qh}{R:LL}{l:List Qh}(h:RowsD d R)(e:qaa d=some l):l.length=R.length:=by
 obtain⟨m,e',h1,_⟩:=h;rw[e]at e';cases e';have:=congrArg Jz h1;grind
def RowsD.get{d:Qh}{R:LL}{l:List Qh}{i:Nat}{x:Qh}(h:RowsD d R)(e:qaa d=some l)(hx:l[i]?=some x):∃r,R[i]?=some r/\qaa x=some (r.map .int):=by
 obtain⟨m,e',h1,h2⟩:=h;rw[e]at e';cases e';have h3:(l.map λx=>(qaa x).getD [])[i]?=some ((qaa x).getD []):=by grind
 rw[h1,Qg]at h3;obtain⟨y,hy⟩:=Jt.mp (h2 x (Qz hx));grind
def RowsD.of{d:Qh}{R:LL}{f:List Qh->Qh}(hf:∀l,qaa (f l)=some l)(e:qaa d=some (R.map λr=>f (r.map .int))):RowsD d R:=by
 refine⟨_,e,?_,?_⟩
 ·grind[Zi,Y2]
 grind
theorem qhf:∀{l:List Qh},l.all qvc=true->l=(l.map qke).map Yp /\ ∀n∈l.map qke,0<=n
 |[],_=>by simp
 |d::l,h=>by
  rw[Qbt,Qy]at h;obtain⟨e,g⟩:=qhf h.2;cases d with
  |int n =>
   have hn:0<=n:=of_decide_eq_true h.1;refine⟨?_,?_⟩
   ·rw[Qr,Qr,<- e];rfl
   ·intro m hm;rcases Q2.mp hm with rfl|hm
    ·exact hn
    grind
  |_=>exact absurd h.1 (by simp[qvc])
theorem qnq{ns:LI}(h:∀n∈ns,0<=n):(ns.map Yp).all qvc=true/\(ns.map Yp).map qke=ns:=by
 refine⟨?_,?_⟩
 ·rw[Q4];intro x hx;obtain⟨n,hn,rfl⟩:=Q1.mp hx;exact decide_eq_true (h n hn)
 ·rw[Zi];exact qda λn _=>rfl
def qkk{d:Qh}{b:Int}:qS d b=true↔∃r:LI,qaa d=some (r.map .int)/\1<=r.length/\r.length<=12/\(∀n∈r,0<=n)/\r.sum=b:=by
 unfold qS;cases h:qaa d with
 |none=>simp
 |some l =>
  simp only[Qy,decide_eq_true_eq];grind[qhf,qnq]
def qpj{bd rd:Qh}{lo hi:Int}(h1:1<=lo)(h:qQ bd rd lo hi=true):∃(b:Int)(R:LL)(n:Nat),bd = .int b/\RowsD rd R/\Tab b R n/\1<=n/\n<=12/\lo<=R.length/\R.length<=hi:=by
 unfold qQ at h;cases bd with
 |int b =>
  cases e:qaa rd with
  |none=>rw[e]at h;cases h
  |some l =>
   rw[e]at h;simp only[Qy,decide_eq_true_eq,Q4,beq_iff_eq]at h;obtain⟨hb,⟨g1,g2⟩,g3,g4⟩:=h;have rows:∀x∈l,∃r:LI,qaa x=some (r.map .int)/\1<=r.length/\r.length<=12/\(∀n∈r,0<=n)/\r.sum=b:=λx hx=>qkk.mp (g3 x hx);have rl:∀x∈l,((((qaa x).getD []).map qke).map Yp)=(qaa x).getD []/\(qaa x).isSome=true/\qip x=(((qaa x).getD []).map qke).length/\1<=qip x/\qip x<=12/\(∀n∈((qaa x).getD []).map qke,0<=n)/\(((qaa x).getD []).map qke).sum=b:=λx hx=>by
    obtain⟨r,e',a1,a2,a3,a4⟩:=rows x hx;have e2:=(qnq a3).2;unfold qip;rw[e'];simp only[Jk,e2,Qee,Qj];exact⟨trivial,trivial,trivial,a1,a2,a3,a4⟩
   obtain⟨y,l',rfl⟩:∃y l',l=y::l':=by
    cases l with
    |nil=>simp at g1;omega
    |cons y l'=>exact⟨y,l',rfl⟩
   refine⟨b,(y::l').map (λx=>((qaa x).getD []).map qke),qip y,rfl,⟨_,e,?_,λx hx=>(rl x hx).2.1⟩,⟨hb,?_,?_,?_⟩,(rl y (by simp)).2.2.2.1,(rl y (by simp)).2.2.2.2.1,by simpa using g1,by simpa using g2⟩
   ·rw[Zi];exact Y2 λx hx=>((rl x hx).1).symm
   ·intro r hr;obtain⟨x,hx,rfl⟩:=Q1.mp hr;rw[<- (rl x hx).2.2.1];exact g4 x hx
   ·intro r hr;obtain⟨x,hx,rfl⟩:=Q1.mp hr;exact(rl x hx).2.2.2.2.2.1
   ·intro r hr;obtain⟨x,hx,rfl⟩:=Q1.mp hr;exact(rl x hx).2.2.2.2.2.2
 |_=>cases h
def qba(b:Int)(R:LL):Qh :=.tuple [.int b,.tuple (R.map qji)]
def qua(R:LL):RowsD (.tuple (R.map qji)) R:=RowsD.of (f :=.tuple) (λ_=>rfl) rfl
def quh(R:LL):RowsD (.list (R.map xcy)) R:=RowsD.of (f :=.list) (λ_=>rfl) rfl
def qfg:DC
 |[d,.int b],q=>q (.bool (qS d b))
 |_,_=>False
def qvm:FnScope ["row","bottom"] ["row","bottom"] (defScope qnv):=sc0
def qvs(F:Def K mg "makes_row" qnv ["row","bottom"])(T:Txt w K mg cs)(O_is_whole:Ok P w K mg base "is_whole" 1 ["thing"] (PSp K qce)):Ok P w K mg base "makes_row" 2 ["row","bottom"] (PSp K qfg):=by
  refine F.vok qvm (λds q h=>by unfold qfg at h;split at h;all_goals first|rfl|exact h.elim) λf cdv A outer s H E hr ds q h=>?_
  match ds,h with
  |[d,.int b],h =>
  refine⟨_,(qi (qbw (VW.pt (qee (qW (qV (zfc T.isinstance_ T.list_ L2.boot_list T.tuple_ L2.boot_tuple (qc 0)))) (qde (qW (qsj zfq zfq ql (qv qbj T.len_ L2.boot_len (qa (qc 0) qe)) (qaj T.MOST_SIGNS_)))))) (qm (qu qgc)) qj)
   (qm (qu (qpd (qv (qtz rfl) T.all_ L2.boot_all (qa (qr (qP (caps:=[]) (own:=["number"]) (ix:=[]) rfl ⟨rfl,rfl,rfl,rfl,rfl,rfl⟩ (qae (qc 0)) (λ_ _ _ _=>(qw (i:=0) (show Zm (["number"]:List Str) by decide))) (λ_ _ _ _=>(qpd (qB O_is_whole.c hr.m (qa (qc 0) qe)) (qjk (qds xcj (qc 0) ql)))))) qe)) (qjk (qds (qdk hr.units) (qv (zjx rfl) T.sum_ L2.boot_sum (qa (qc 0) qe)) (qc 1))))))),?_⟩
  have h:q (.bool (qS d b)):=h;cases hs:qaa d with
  |none =>
   have e:(qjx "list" d||qjx "tuple" d)=false:=by rw[qqz,hs];rfl
   have h0:qS d b=false:=by unfold qS;rw[hs]
   rw[h0]at h;refine qcr (λ_=>?_) (λz=>?_)
   ·exact h
   ·rw[e]at z;cases z
  |some l =>
   have hm:qS d b=((decide (1<=l.length)&&decide (l.length<=12))&&(l.all qvc&&decide ((l.map qke).sum=b))):=by unfold qS;rw[hs]
   rw[hm]at h;refine qcr (λz=>?_) (λ_=>qqp hs (qod (λh1=>qcr (λh2=>?_) (λh2=>?_)) (λh1=>qho ?_)))
   ·rw[qqz,hs]at z;cases z
   ·have e:decide (l.length<=12)=false:=by simp at h2 ⊢;omega
    rw[e,Qes,Yz]at h;exact h
   ·have e1:decide (1<=l.length)=true:=by simp;omega
    have e2:decide (l.length<=12)=true:=by simp at h2 ⊢;omega
    rw[e1,e2]at h;replace h:q (.bool (l.all qvc&&decide ((l.map qke).sum=b))):=h
    refine qaw hs (qO (l.map λx => .bool (qvc x)) (by simp) (qx (by simp at e2 ⊢;omega)) (λe =>∃s,e=[s]) ⟨_,rfl⟩ ?_ ?_)
    ·rintro i x ys e hx hys ⟨s,rfl⟩;have hL:(l.map λx=>Qbi (qvc x))[i]?=some (.bool (qvc x)):=by rw[Qg,hx];rfl
     cases x with
     |int n=>exact⟨qy hL hys,_,rfl⟩
     |_=>exact⟨qy hL hys,_,rfl⟩
    ·refine⟨l.map qvc,by rw[Zi];rfl,?_⟩;have e:(l.map qvc).all id=l.all qvc:=by rw[Qcw];rfl
     rw[e];refine qcr (λz=>?_) (λz=>?_)
     ·obtain⟨g1,g2⟩:=qhf z;rw[z]at h;refine zto (ns:=l.map qke) (by rw[hs,<- g1]) ⟨rfl,rfl,?_⟩;have e3:Yx (.int (l.map qke).sum) (.int b)=decide ((l.map qke).sum=b):=by rw[qil];exact Bool.beq_eq_decide_eq _ _
      rw[e3];exact h
     ·rw[z]at h;exact h
   ·have e1:decide (1<=l.length)=false:=decide_eq_false (by omega);rw[e1]at h;exact h
def qdn:DC
 |[bd,rd,.int lo,.int hi],q=>(1<=lo/\hi<=900)/\q (.bool (qQ bd rd lo hi))
 |_,_=>False
def qpm:FnScope ["bottom","rows","fewest","most"] ["bottom","rows","fewest","most"] (defScope qiw):=sc0
def qpi(F:Def K mg "makes_table" qiw ["bottom","rows","fewest","most"])(T:Txt w K mg cs)(O_is_whole:Ok P w K mg base "is_whole" 1 ["thing"] (PSp K qce))(O_makes_row:Ok P w K mg base "makes_row" 2 ["row","bottom"] (PSp K qfg)):Ok P w K mg base "makes_table" 3 ["bottom","rows","fewest","most"] (PSp K qdn):=by
  refine F.vok qpm (λds q h=>by unfold qdn at h;split at h;all_goals first|rfl|exact h.elim) λf cdv A outer s H E hr ds q h=>?_
  match ds,h with
  |[bd,rd,.int lo,.int hi],⟨⟨h1,h2⟩,h⟩ =>
  refine⟨_,(qi (qbw (VW.pt (qee (qW (qV (qB O_is_whole.c hr.m (qa (qc 0) qe)))) (qde (qA zsc (qc 0) ql)))) (qm (qu qgc)) qj)
   (qi (qbw (VW.pt (qee (qW (qV (zfc T.isinstance_ T.list_ L2.boot_list T.tuple_ L2.boot_tuple (qc 1)))) (qde (qW (qsj zfq zfq (qc 2) (qv qbj T.len_ L2.boot_len (qa (qc 1) qe)) (qc 3)))))) (qm (qu qgc)) qj)
   (qi (qbw (qW (qV (qv (qtz rfl) T.all_ L2.boot_all (qa (qr (qP (caps:=["bottom"]) (own:=["row"]) (ix:=[0]) rfl ⟨rfl,rfl,rfl,rfl,rfl,rfl⟩ (qae (qc 1)) (λ_ _ _ _=>(qw (i:=1) (show Zm (["bottom","row"]:List Str) by decide))) (λ_ _ _ _=>(qB O_makes_row.c hr.m (qa (qc 1) (qa (qc 0) qe)))))) qe)))) (qm (qu qgc)) qj)
   (qm (qu (qv (qtz rfl) T.all_ L2.boot_all (qa (qr (qP (caps:=["rows"]) (own:=["row"]) (ix:=[1]) rfl ⟨rfl,rfl,rfl,rfl,rfl,rfl⟩ (qae (qc 1)) (λ_ _ _ _=>(qw (i:=1) (show Zm (["rows","row"]:List Str) by decide))) (λ_ _ _ _=>(qds (qdk hr.units) (qv qbj T.len_ L2.boot_len (qa (qc 1) qe)) (qv qbj T.len_ L2.boot_len (qa (qz (qc 0) ql) qe)))))) qe))))))),?_⟩
  have h:q (.bool (qQ bd rd lo hi)):=h;cases bd with
  |int b =>
   refine qod (λhb=>?_) (λhb=>?_)
   ·have e:qQ (.int b) rd lo hi=false:=by
     unfold qQ;cases qaa rd with
     |none=>rfl
     |some l=>show(decide (1<=b)&&_)=false;rw[decide_eq_false (by omega)];rfl
    rw[e]at h;exact h
   cases hs:qaa rd with
   |none =>
    have e:(qjx "list" rd||qjx "tuple" rd)=false:=by rw[qqz,hs];rfl
    have h0:qQ (.int b) rd lo hi=false:=by unfold qQ;rw[hs]
    rw[h0]at h;refine qcr (λ_=>h) (λz=>?_);rw[e]at z;cases z
   |some l =>
    have hm:qQ (.int b) rd lo hi=((decide (lo<=l.length)&&decide ((l.length:Int)<=hi))&&(l.all (qS · b)&&l.all λr=>qip r==qip ((l[0]?).getD .none))):=by
     unfold qQ;rw[hs];show(decide (1<=b)&&_)=_;rw[decide_eq_true (by omega)];rfl
    rw[hm]at h;refine qcr (λz=>?_) (λ_=>qqp hs (qod (λg1=>qcr (λg2=>?_) (λg2=>?_)) (λg1=>qho ?_)))
    ·rw[qqz,hs]at z;cases z
    ·have e:decide ((l.length:Int)<=hi)=false:=by
      cases q:decide ((l.length:Int)<=hi)with
      |false=>rfl
      |true=>rw[q]at g2;cases g2
     rw[e,Qes,Yz]at h;exact h
    ·have e2:decide ((l.length:Int)<=hi)=true:=by
      cases q:decide ((l.length:Int)<=hi)with
      |true=>rfl
      |false=>rw[q]at g2;cases g2
     have g3:=of_decide_eq_true e2;rw[decide_eq_true g1,e2,Yq,Yq]at h;refine qaw hs (qO (l.map λx => .bool (qS x b)) (by simp) (qx (by simp;omega)) (λe =>∃s,e=[.val (.int b),s]) ⟨_,rfl⟩ ?_ ?_)
     ·rintro i x ys e hx hys ⟨s,rfl⟩;exact⟨qy (by rw[Qg,hx];rfl) hys,_,rfl⟩
     refine⟨l.map (qS · b),by rw[Zi];rfl,?_⟩;have e:(l.map (qS · b)).all id=l.all (qS · b):=by rw[Qcw];rfl
     rw[e];refine qcr (λz=>?_) (λz=>?_)
     ·have z':l.all (qS · b)=false:=by
       cases q:l.all (qS · b)with
       |false=>rfl
       |true=>rw[q]at z;cases z
      rw[z',Yz]at h;exact h
     ·have z':l.all (qS · b)=true:=by
       cases q:l.all (qS · b)with
       |true=>rfl
       |false=>rw[q]at z;cases z
      rw[z',Yq]at h;have sq:∀x∈l,qaa x=some ((qaa x).getD []):=λx hx=>by
       obtain⟨r,hr,_⟩:=qkk.mp (Q4.mp z' x hx);rw[hr];rfl
      obtain⟨y,l',rfl⟩:∃y l',l=y::l':=by
       cases l with
       |nil=>simp at g1;omega
       |cons y l'=>exact⟨y,l',rfl⟩
      refine qaw hs (qO ((y::l').map λx => .bool (qip x==qip y)) (by simp) (qx (by rw[Qj];omega)) (λe =>∃s,e=[.val rd,s]) ⟨_,rfl⟩ ?_ ?_)
      ·rintro i x ys e hx hys ⟨s,rfl⟩;refine qqp (sq x (qgj hx)) (qwx hs (qM _ _) (qqp (sq y (by simp)) ⟨rfl,rfl,?_,_,rfl⟩));refine qy ?_ hys;rw[Qg,hx];have e3:Yx (.int ((qaa x).getD []).length) (.int ((qaa y).getD []).length)=(qip x==qip y):=by
        rw[qil];unfold qip;rw[Qbw];simp;omega
       rw[e3];rfl
      ·refine⟨(y::l').map λx=>qip x==qip y,by rw[Zi];rfl,?_⟩;have e:((y::l').map λx=>qip x==qip y).all id=(y::l').all λx=>qip x==qip y:=by rw[Qcw];rfl
       rw[e];exact h
    ·rw[decide_eq_false g1,Yz,Yz]at h;exact h
  |_=>exact h
def qdu:DC
 |[.int a,.int b],q=>q (.int (Vc a b))
 |_,_=>False
def zot(x:Int):0<=(if x<0 then -x else x):=by split <;> omega
def qcu:FnScope ["one","other","rest"] ["one","other"] (defScope quw):=sc0
def zbz(F:Def K mg "divisor" quw ["one","other"])(T:Txt w K mg cs):Ok P w K mg base "divisor" 1 ["one","other"] (PSp K qdu):=by
  refine F.vok qcu (λds q h=>by unfold qdu at h;split at h;all_goals first|rfl|exact h.elim) λf cdv A outer s H E hr ds q h=>?_
  match ds,h with
  |[.int a,.int b],h =>
  refine⟨_,(qi (qt (i:=0) qcu.nd (qv zpj T.abs_ L2.boot_abs (qa (qc 0) qe)))
   (qi (qt (i:=1) qcu.nd (qv zpj T.abs_ L2.boot_abs (qa (qc 1) qe)))
   (qi (zkh (qA (qmt hr.units) (qc 1) ql) (qi (qt (i:=2) qcu.nd (qf qjz (qc 0) (qc 1)))
   (qi (qt (i:=0) qcu.nd (qc 1))
   (qm (qt (i:=1) qcu.nd (qc 2))))))
   (qm (qu (qc 0)))))),?_⟩
  refine⟨λm e =>∃x y r,e=[.val (.int x),.val (.int y),r]/\0<=x/\0<=y/\Qls x.toNat y.toNat=Vc a b/\m=y.toNat,⟨_,_,_,_,rfl,zot a,zot b,zio a b,rfl⟩,?_⟩;rintro m e ⟨x,y,r,rfl,hx,hy,hg,rfl⟩;refine⟨rfl,rfl,qey (λhne=>?_) (λhe=>?_)⟩
  ·obtain⟨t1,t2,t3⟩:=zlo hx hy hne hg;exact⟨by omega,(x%y).toNat,by omega,y,x%y,_,rfl,hy,t1,t3,rfl⟩
  ·subst he;have:=zqc hx rfl hg;rw[this];exact h
def qbd(ds:List Qh)(q:Qh->Prop):Prop :=∃d R,ds=[d]/\RowsD d R/\q (.int (qgl R))
def qan:FnScope ["rows","common","row","number"] ["rows"] (defScope qep):=sc0
def qki(F:Def K mg "common_divisor" qep ["rows"])(T:Txt w K mg cs)(O_divisor:Ok P w K mg base "divisor" 1 ["one","other"] (PSp K qdu)):Ok P w K mg base "common_divisor" 2 ["rows"] (PSp K qbd):=by
  refine F.vok qan (by rintro ds q ⟨_,_,h,_⟩;rw[h];rfl) λf cdv A outer s H E hr ds q h=>?_;obtain⟨d,R,rfl,hR,h⟩:=h;refine⟨_,(qi (qt (i:=1) qan.nd ql)
   (qi (qgn rfl (qae (qc 0)) (qw (i:=2) qan.nd) (qm (qgn rfl (qae (qc 2)) (qw (i:=3) qan.nd) (qm (qt (i:=1) qan.nd (qB O_divisor.c hr.m (qa (qc 1) (qa (qc 3) qe))))))))
   (qm (qu (qc 1))))),?_⟩
  obtain⟨l,e,_⟩:=id hR;refine qaw e ⟨λi e =>∃t1 t2 c,e=[.val d,.val (.int c),t1,t2]/\c=(qgl (R.take i):Int),⟨_,_,_,rfl,rfl⟩,?_,?_⟩
  ·rintro i x e' hx ⟨t1,t2,_,rfl,rfl⟩;obtain⟨r,hr,er⟩:=hR.get e hx;refine qaw er ⟨λj e =>∃t2 c,e=[.val d,.val (.int c),.val x,t2]/\c=(qev (qgl (R.take i)) (r.take j):Int),⟨_,_,rfl,rfl⟩,?_,?_⟩
   ·rintro j y e hy ⟨t2,_,rfl,rfl⟩;obtain⟨z,rfl,hz,_⟩:=zgh hy;refine⟨_,_,rfl,?_⟩;rw[ziz hz,zhw]
   ·rintro e ⟨t2,_,rfl,rfl⟩;refine⟨_,_,_,rfl,?_⟩;rw[Qj,J6,Vp,hr];show _=((qgl (R.take i++[r]):Nat):Int);rw[zbt]
  ·rintro e' ⟨t1,t2,_,rfl,rfl⟩;rw[hR.len e,J6];exact h
def qoq:Qh->Bool
 |.tuple _=>true
 |_=>false
def rowsI(d:Qh):LL:=((qaa d).getD []).map λx=>((qaa x).getD []).map qke
def qbc(d:Qh)(lo hi:Int):Bool:=match d with
 |.tuple [b,r]=>qQ b r lo hi&&(qoq r&&(((qaa r).getD []).all qoq&&decide (qgl (rowsI r)=1)))
 |_=>false
def RowsD.rowsI{d:Qh}{R:LL}(h:RowsD d R):rowsI d=R:=by
 obtain⟨l,e,h1,h2⟩:=h;unfold My.rowsI;rw[e];show l.map (λx=>((qaa x).getD []).map qke)=R;have e2:l.map (λx=>((qaa x).getD []).map qke)=(l.map λx=>(qaa x).getD []).map (λy=>y.map qke):=by rw[Zi];rfl
 rw[e2,h1,Zi];refine qda λr _=>?_;show(r.map Yp).map qke=r;rw[Zi];exact qda λn _=>rfl
def qec:DC
 |[d,.int lo,.int hi],q=>(1<=lo/\hi<=900)/\q (.bool (qbc d lo hi))
 |_,_=>False
def zut{b:Bool}(h:(!b)=true):b=false:=by cases b <;> simp_all
def notB'{b:Bool}(h:(!b)=false):b=true:=by cases b <;> simp_all
def qoc:FnScope ["thing","fewest","most","rows"] ["thing","fewest","most"] (defScope qqm):=sc0
def qza(F:Def K mg "is_table" qqm ["thing","fewest","most"])(T:Txt w K mg cs)(O_makes_table:Ok P w K mg base "makes_table" 3 ["bottom","rows","fewest","most"] (PSp K qdn))(O_common_divisor:Ok P w K mg base "common_divisor" 2 ["rows"] (PSp K qbd)):Ok P w K mg base "is_table" 4 ["thing","fewest","most"] (PSp K qec):=by
  refine F.vok qoc (λds q h=>by unfold qec at h;split at h;all_goals first|rfl|exact h.elim) λf cdv A outer s H E hr ds q h=>?_
  match ds,h with
  |[d,.int lo,.int hi],⟨⟨h1,h2⟩,h⟩ =>
  refine⟨_,(qi (qbw (VW.pt (qee (qW (qV (qlf T.isinstance_ T.tuple_ L2.boot_tuple (qc 0)))) (qde (qA (qmt hr.units) (qv qbj T.len_ L2.boot_len (qa (qc 0) qe)) ql)))) (qm (qu qgc)) qj)
   (qi (qt (i:=3) qoc.nd (qz (qc 0) ql))
   (qi (qbw (qW (qV (qB O_makes_table.c hr.m (qa (qz (qc 0) ql) (qa (qc 3) (qa (qc 1) (qa (qc 2) qe))))))) (qm (qu qgc)) qj)
   (qi (qbw (VW.pt (qee (qW (qV (qlf T.isinstance_ T.tuple_ L2.boot_tuple (qc 3)))) (qde (qW (qV (qv (qtz rfl) T.all_ L2.boot_all (qa (qr (qP (caps:=[]) (own:=["row"]) (ix:=[]) rfl ⟨rfl,rfl,rfl,rfl,rfl,rfl⟩ (qae (qc 3)) (λ_ _ _ _=>(qw (i:=0) (show Zm (["row"]:List Str) by decide))) (λ_ _ _ _=>(qlf T.isinstance_ T.tuple_ L2.boot_tuple (qc 0))))) qe))))))) (qm (qu qgc)) qj)
   (qm (qu (qds (qdk hr.units) (qB O_common_divisor.c hr.m (qa (qc 3) qe)) ql))))))),?_⟩
  replace h:q (.bool (qbc d lo hi)):=h
  cases d with
  |tuple l =>
   match l,h with
   |[],h=>exact⟨rfl,rfl,h⟩
   |[x],h=>exact⟨rfl,rfl,h⟩
   |x::y::z::t,h =>
    refine⟨rfl,rfl,qey (λ_=>h) (λz=>?_)⟩;simp at z;omega
   |[b,r],h =>
    refine⟨rfl,rfl,_,rfl,_,rfl,⟨h1,h2⟩,qcr (λz=>?_) (λz=>?_)⟩
    ·have e:qbc (.tuple [b,r]) lo hi=false:=by
      show(qQ b r lo hi&&_)=false;rw[zut z];rfl
     rw[e]at h;exact h
    ·have em:=notB' z;have e:qbc (.tuple [b,r]) lo hi=(qoq r&&(((qaa r).getD []).all qoq&&decide (qgl (rowsI r)=1))):=by
      show(qQ b r lo hi&&_)=_;rw[em];rfl
     rw[e]at h;obtain⟨b',R,n,rfl,hR,hT,n1,n2,r1,r2⟩:=qpj h1 em;obtain⟨m,es,_⟩:=id hR;cases r with
     |tuple m' =>
      cases es;replace h:q (.bool (m.all qoq&&decide (qgl (rowsI (.tuple m))=1))):=h
      have hl:=hR.len (l:=m) rfl;refine qO (m.map λx => .bool (qoq x)) (by simp) (qx (by rw[Qj];omega)) (λe =>∃s,e=[s]) ⟨_,rfl⟩ ?_ ?_
      ·rintro i x ys e hx hys ⟨s,rfl⟩;refine⟨qy ?_ hys,_,rfl⟩;rw[Qg,hx];cases x <;> rfl
      ·refine⟨m.map qoq,by rw[Zi];rfl,?_⟩;have e:(m.map qoq).all id=m.all qoq:=by rw[Qcw];rfl
       rw[e];refine qcr (λz=>?_) (λz=>?_)
       ·rw[zut z]at h;exact h
       ·rw[notB' z]at h;refine⟨_,R,rfl,hR,rfl,rfl,?_⟩;rw[hR.rowsI]at h;have e3:Yx (.int (qgl R:Int)) (.int 1)=decide (qgl R=1):=by
         rw[qil,Qbw];simp;omega
        rw[e3];exact h
     |list m'=>exact h
     |_=>cases es
  |_=>exact h
def qhe:DC
 |[d],q=>q (.bool (qbc d 2 4))
 |_,_=>False
def qym:FnScope ["thing"] ["thing"] (defScope qqr):=sc0
def qzl(F:Def K mg "is_glass" qqr ["thing"])(T:Txt w K mg cs)(O_is_table:Ok P w K mg base "is_table" 4 ["thing","fewest","most"] (PSp K qec)):Ok P w K mg base "is_glass" 5 ["thing"] (PSp K qhe):=by
  refine F.vok qym (λds q h=>by unfold qhe at h;split at h;all_goals first|rfl|exact h.elim) λf cdv A outer s H E hr ds q h=>?_
  match ds,h with
  |[d],h =>
  refine⟨_,(qm (qu (qB O_is_table.c hr.m (qa (qc 0) (qa (qaj T.FEWEST_STANDS_) (qa (qaj T.MOST_STANDS_) qe)))))),?_⟩;exact⟨⟨by decide,by decide⟩,h⟩
def at2(Ls:LL)(k j:Nat):Int:=(((Ls[k]?).getD [])[j]?).getD 0
structure Bd(m w:Nat)(Ls:LL)(ss:LI):Prop where
 l:Ls.length=m
 s:ss.length=m
 w:∀r∈Ls,r.length=w
 z:∀r∈Ls,∀x∈r,intBits x<=2000
def atI_last{α:Type}{l:List α}{x:α}(h:l[l.length-1]?=some x):atI l (-1)=some x:=by
 have h0:0<l.length:=by
  grind
 unfold atI ixN;rw[if_neg (by decide),if_pos (by omega)];show l[(-1+(l.length:Int)).toNat]?=some x;rw[show(-1+(l.length:Int)).toNat=l.length-1 by omega];exact h
section
variable{Ls:LL}{ss:LI}{w p i r:Nat}
end
def sgn(i:Nat):Int:=if i%2=0 then 1 else -1
theorem zmt(i:Nat):sgn (i+1) = - sgn i:=by
 unfold sgn;split <;> split <;> omega
def qcq:Nat->(Nat->Int)->Int
 |0,_=>0
 |n+1,f=>qcq n f+f n
def qjw{f g:Nat->Int}:∀{n:Nat},(∀i,i<n->f i=g i)->qcq n f=qcq n g
 |0,_=>rfl
 |n+1,h=>by
  show qcq n f+f n=qcq n g+g n;rw[qjw λi hi=>h i (by omega),h n (by omega)]
def ziv{f:Nat->Int}{n:Nat}(h:∀i,i<n->f i=0):qcq n f=0:=by
 induction n with
 |zero=>rfl
 |succ n ih =>
  show qcq n f+f n=0;grind
def qsm(k l:Int)(f g:Nat->Int):∀n:Nat,qcq n (λi=>k*f i+l*g i)=k*qcq n f+l*qcq n g
 |0=>by show(0:Int)=k*0+l*0;omega
 |n+1=>by
  show qcq n (λi=>k*f i+l*g i)+(k*f n+l*g n)=k*(qcq n f+f n)+l*(qcq n g+g n);rw[qsm k l f g n];grind
def qzx(k:Int)(f:Nat->Int)(n:Nat):qcq n (λi=>k*f i)=k*qcq n f:=by
 have:=qsm k 0 f (λ_=>0) n;grind
def zlj(f g:Nat->Int)(n:Nat):qcq n (λi=>f i+g i)=qcq n f+qcq n g:=by
 have:=qsm 1 1 f g n;simpa using this
def zal{f:Nat->Nat->Int}:∀n:Nat,(∀i j,i<=j->j<n->f (j+1) i = - f i j)->qcq (n+1) (λi=>qcq n (f i))=0
 |0,_=>rfl
 |n+1,h=>by
  have ih:=zal n λi j hi hj=>h i j hi (by omega);have e:qcq (n+1) (λi=>qcq (n+1) (f i))=qcq (n+1) (λi=>qcq n (f i))+qcq (n+1) (λi=>f i n):=by
   rw[<- zlj];rfl
  have e2:qcq (n+1) (f (n+1)) = - qcq (n+1) (λi=>f i n):=by
   rw[qjw (g:=λi => -1*f i n) λi hi=>by grind,qzx];omega
  show qcq (n+1) (λi=>qcq (n+1) (f i))+qcq (n+1) (f (n+1))=0;grind
def skip(i x:Nat):Nat:=if x<i then x else x+1
def zse{i x m:Nat}(h:x<m):skip i x<m+1:=by unfold skip;split <;> omega
theorem zhy{i j x:Nat}(h:i<=j):skip (j+1) (skip i x)=skip i (skip j x):=by
 unfold skip;grind
def det:Nat->(Nat->Nat->Int)->Int
 |0,_=>1
 |m+1,a=>qcq (m+1) λi=>sgn i*a i 0*det m (λx y=>a (skip i x) (y+1))
def ztx:∀{m:Nat}{a:Nat->Nat->Int}{y:Nat},y+1<m->(∀x,x<m->a x y=a x (y+1))->det m a=0
 |m+2,a,0,_,h=>by
  have e:det (m+2) a=qcq (m+2) (λi=>qcq (m+1) (λj=>sgn i*a i 0*(sgn j*a (skip i j) 1*det m (λx y=>a (skip i (skip j x)) (y+2))))):=by
   show qcq (m+2) _=_;refine qjw λi _=>?_;rw[qzx];rfl
  rw[e];refine zal (m+1) λi j hi hj=>?_;have s1:skip (j+1) i=i:=by unfold skip;grind
  have s2:skip i j=j+1:=by unfold skip;grind
  grind[zmt,zhy]
 |m+1,a,y+1,hy,h=>by
  show qcq (m+1) _=0;refine ziv λi _=>?_;rw[ztx (m:=m) (a:=λx z=>a (skip i x) (z+1)) (y:=y) (by omega) λx hx=>h (skip i x) (zse hx)];omega
def enc(B:Nat)(st:Nat->Nat):Nat->Nat
 |0=>0
 |k+1=>enc B st k+st k*B^k
def qsf{B q d:Int}(hB:0<B)(hq:0<q)(h1:B∣d)(h2:q∣d):0<B*q/(Vc B q:Int)/\B*q/(Vc B q:Int)∣d/\B∣B*q/(Vc B q:Int)/\q∣B*q/(Vc B q:Int):=by
 obtain⟨x,rfl⟩:=Yr (Qbn hB);obtain⟨y,rfl⟩:=Yr (Qbn hq);have e:(x:Int)*(y:Int)/(Vc x y:Int)=((Nat.lcm x y:Nat):Int):=by
  unfold Nat.lcm;rw[Int.gcd_natCast_natCast,Int.natCast_ediv,Qku]
 rw[e];have p:0<Nat.lcm x y:=Nat.lcm_pos (by omega) (by omega);refine⟨by omega,?_,J4.mpr (Nat.dvd_lcm_left x y),J4.mpr (Nat.dvd_lcm_right x y)⟩;rw[Int.ofNat_dvd_left]at h1 h2 ⊢;grind[Nat.lcm_dvd]
def dSh(p q:Int):Qh :=.tuple [.int p,.int q]
section
variable{b:Int}{R:LL}{m:Nat}{c:Int}{S:LL}{n:Nat}
structure LcmB(V:List (List (Int×Int)))(B:Int):Prop where
 pos:0<B
 dv:∀r∈V,∀x∈r,x.2∣B
 un:∀d:Int,(∀r∈V,∀x∈r,x.2∣d)->B∣d
def qfr(B:Int)(r:List (Int×Int)):LI:=r.map λx=>x.1*(B/x.2)
end
def dS(x:Int×Int):Qh:=dSh x.1 x.2
def shG{vs:List (Int×Int)}{i:Nat}{x:Qh}(h:(vs.map dS)[i]?=some x):∃y,vs[i]?=some y/\x=dSh y.1 y.2:=by
 rw[Qg]at h;cases q:vs[i]? with
 |none=>grind
 |some y=>rw[q]at h;exact⟨y,rfl,(Za h).symm⟩
def zor{x d:Int}{m:Nat}(h:x∣d)(d0:0<d)(z:intBits d<=m):intBits x<=m :=
 Jr (Qft (by omega) (Qcx.mpr h)) z
def zzs(d:Qh)(V:List (List (Int×Int))):Prop :=∃l,qaa d=some l/\l.length=V.length /\ ∀(i:Nat)(x:Qh),l[i]?=some x ->∃r:List (Int×Int),V[i]?=some r/\qaa x=some (r.map dS)
structure LcmL(xs:List (Int×Int))(B:Int):Prop where
 pos:0<B
 dv:∀x∈xs,x.2∣B
 un:∀d:Int,(∀x∈xs,x.2∣d)->B∣d
def LcmL.nil:LcmL [] 1:=⟨by decide,λx hx=>by simp at hx,λd _=>⟨d,by omega⟩⟩
theorem LcmL.snoc{xs:List (Int×Int)}{B:Int}{y:Int×Int}(h:LcmL xs B)(hy:0<y.2):LcmL (xs++[y]) (B*y.2/(Vc B y.2:Int)):=by
 have k:=qsf (d:=B*y.2) h.pos hy ⟨_,rfl⟩ ⟨B,Int.mul_comm _ _⟩;refine⟨k.1,λx hx=>?_,λd hd=>(qsf h.pos hy (h.un d λx hx=>hd x (Zz.mpr (.inl hx))) (hd y (by simp))).2.1⟩;rcases Zz.mp hx with q|q
 ·exact Qfu (h.dv x q) k.2.2.1
 grind
def LcmL.b{V:List (List (Int×Int))}{B:Int}(h:LcmL V.flatten B):LcmB V B :=
 ⟨h.pos,λr hr x hx=>h.dv x (Qfz.mpr ⟨r,hr,hx⟩),λd hd=>h.un d λx hx=>by
  obtain⟨r,hr,hx⟩:=Qfz.mp hx;grind⟩
def xbx{V:List (List (Int×Int))}{i:Nat}{r:List (Int×Int)}(h:V[i]?=some r):(V.take (i+1)).flatten=(V.take i).flatten++r:=by
 grind[Vp]
def xaz{α:Type}{zs:List α}{i:Nat}{z:α}(h:zs[i]?=some z):zs.take (i+1)=zs.take i++[z]:=by
 rw[Vp,h];rfl
def qgv(ds:List Qh)(q:Qh->Prop):Prop :=∃(d:Qh)(r:List (Int×Int))(B:Int),ds=[d,.int B]/\(qaa d=some (r.map dS)/\r.length<=900/\(∀x∈r,Shr x.1 x.2/\intBits x.1<=4000/\x.2∣B)/\0<B/\intBits B<=4000)/\q (qji (qfr B r))
def qpk:FnScope ["row","bottom"] ["row","bottom"] (defScope qis):=sc0
def qpl(F:Def K mg "over_bottom" qis ["row","bottom"])(T:Txt w K mg cs):Ok P w K mg base "over_bottom" 1 ["row","bottom"] (PSp K qgv):=by
  refine F.vok qpk (by rintro ds q ⟨_,_,_,h,_⟩;rw[h];rfl) λf cdv A outer s H E hr ds q h=>?_;obtain⟨d,r,B,rfl,⟨e,hl,hx,B0,zB⟩,h⟩:=h;refine⟨_,(qm (qu (qav qgk T.tuple_ L2.boot_tuple (qa (qr (qP (caps:=["bottom"]) (own:=["part"]) (ix:=[1]) rfl ⟨rfl,rfl,rfl,rfl,rfl,rfl⟩ (qae (qc 0)) (λ_ _ _ _=>(qw (i:=1) (show Zm (["bottom","part"]:List Str) by decide))) (λ_ _ _ _=>(qf qeg (qz (qc 1) ql) (qf qot (qc 0) (qz (qc 1) ql)))))) qe)))),?_⟩;refine qaw e (qO ((qfr B r).map .int) (by simp[qfr]) (qx (by simp[qfr];omega)) (λe =>∃s,e=[.val (.int B),s]) ⟨_,rfl⟩ ?_ h);rintro i x ys e hx' hys ⟨s,rfl⟩;obtain⟨y,hy,rfl⟩:=shG hx';obtain⟨s1,s2,s3⟩:=hx y (Qz hy);have q0:=s1.pos;refine⟨.int y.1,rfl,.int y.2,rfl,⟨by omega,qai (zor s3 B0 zB) (by decide)⟩,zch s2 (zor (x:=B/y.2) ⟨y.2,(Int.ediv_mul_cancel s3).symm⟩ B0 zB),qy ?_ hys,_,rfl⟩;unfold qfr;rw[Qg,Qg,hy];rfl
def qbz(ds:List Qh)(q:Qh->Prop):Prop :=∃(d:Qh)(V:List (List (Int×Int)))(D0:Int),ds=[d]/\(zzs d V/\V.length<=900/\(∀r∈V,r.length<=900 /\ ∀x∈r,Shr x.1 x.2/\intBits x.1<=4000/\x.2∣D0)/\0<D0/\intBits D0<=4000) /\ ∀B,LcmB V B->q (qba B (V.map (qfr B)))
def qak:FnScope ["rows","bottom","row","part"] ["rows"] (defScope qea):=sc0
def qjo(F:Def K mg "table_of_shares" qea ["rows"])(T:Txt w K mg cs)(O_divisor:Ok P w K mg base "divisor" 1 ["one","other"] (PSp K qdu))(O_over_bottom:Ok P w K mg base "over_bottom" 1 ["row","bottom"] (PSp K qgv)):Ok P w K mg base "table_of_shares" 2 ["rows"] (PSp K qbz):=by
  refine F.vok qak (by rintro ds q ⟨_,_,_,h,_⟩;rw[h];rfl) λf cdv A outer s H E hr ds q h=>?_;obtain⟨d,V,D0,rfl,⟨⟨l,e,el,hV⟩,hl,hx,d0,zd⟩,h⟩:=h;refine⟨_,(qi (qt (i:=1) qak.nd ql)
   (qi (qgn rfl (qae (qc 0)) (qw (i:=2) qak.nd) (qm (qgn rfl (qae (qc 2)) (qw (i:=3) qak.nd) (qm (qt (i:=1) qak.nd (qf qot (qf qeg (qc 1) (qz (qc 3) ql)) (qB O_divisor.c hr.m (qa (qc 1) (qa (qz (qc 3) ql) qe)))))))))
   (qm (qu (qac (qa (qc 1) (qa (qav qgk T.tuple_ L2.boot_tuple (qa (qr (qP (caps:=["bottom"]) (own:=["row"]) (ix:=[1]) rfl ⟨rfl,rfl,rfl,rfl,rfl,rfl⟩ (qae (qc 0)) (λ_ _ _ _=>(qw (i:=1) (show Zm (["bottom","row"]:List Str) by decide))) (λ_ _ _ _=>(qB O_over_bottom.c hr.m (qa (qc 1) (qa (qc 0) qe)))))) qe)) qe))))))),?_⟩
  refine qaw e ⟨λi e =>∃t1 t2 B,e=[.val d,.val (.int B),t1,t2]/\LcmL (V.take i).flatten B/\B∣D0,⟨_,_,_,rfl,by simpa using LcmL.nil,⟨D0,by omega⟩⟩,?_,?_⟩
  ·rintro i x e' hxi ⟨t1,t2,B,rfl,hB,Bd⟩;obtain⟨r,hr,er⟩:=hV i x hxi;refine qaw er ⟨λj e =>∃t2 B,e=[.val d,.val (.int B),.val x,t2]/\LcmL ((V.take i).flatten++r.take j) B/\B∣D0,⟨_,_,rfl,by simpa using hB,Bd⟩,?_,?_⟩
   ·rintro j y e hy ⟨t2,B,rfl,hB,Bd⟩;obtain⟨z,hz,rfl⟩:=shG hy;obtain⟨s1,s2,s3⟩:=(hx r (Qz hr)).2 z (Qz hz);have q0:=s1.pos;have B0:=hB.pos;have gp:(0:Int)<(Vc B z.2:Nat):=by have:=Qdm B (show z.2≠0 by omega);omega
    refine⟨.int z.2,rfl,zch (zor Bd d0 zd) (zor s3 d0 zd),.int z.2,rfl,⟨gp,qai (zor (Qfu (Qkc ..) Bd) d0 zd) (by decide)⟩,_,_,rfl,?_,(qsf B0 (show 0<z.2 by omega) Bd s3).2.1⟩;rw[xaz hz,<- Vs];exact hB.snoc (by omega)
   ·rintro e ⟨t2,B,rfl,hB,Bd⟩;refine⟨_,_,_,rfl,?_,Bd⟩;rw[Qj,J6]at hB;rw[xbx hr];exact hB
  rintro e' ⟨t1,t2,B,rfl,hB,Bd⟩;rw[el,J6]at hB;have hB':=hB.b;have B0:=hB.pos;have zB:=zor Bd d0 zd;refine qaw e (qO ((V.map (qfr B)).map qji) (by simp[el]) (qx (by simp;omega)) (λe =>∃s,e=[.val (.int B),s]) ⟨_,rfl⟩ ?_ ⟨szl,h B hB'⟩);rintro i x ys e' hxi hys ⟨s,rfl⟩;obtain⟨r,hr,er⟩:=hV i x hxi;obtain⟨rl,rx⟩:=hx r (Qz hr);refine⟨x,r,B,rfl,⟨er,rl,λy hy=>⟨(rx y hy).1,(rx y hy).2.1,hB'.dv r (Qz hr) y hy⟩,B0,zB⟩,qy ?_ hys,_,rfl⟩;rw[Qg,Qg,hr];rfl
def nT(n:Int):Str:=Qc (toString n)
def qxh{n:Int}{k:Nat}(h:intBits n<=k)(hk:k<=1900):n.natAbs.log2<1920:=by
 unfold intBits at h;by_cases z:n=0
 ·subst z;decide
 ·rw[if_neg (by simpa using z)]at h;omega
def zec{n:Int}{k:Nat}(h:intBits n<=k)(hk:k<=1900):(nT n).length<=1921:=PyProof.Rows.int_text_len_1921 (qxh h hk)
def qpg(p q:Int):Str:=if q=1 then nT p else Zf++nT p ++ "/" ++ nT q
def zap{p q:Int}(hp:intBits p<=400)(hq:intBits q<=400):(Zf++nT p).length<=1921/\(Zf++nT p ++ "/").length<=1922/\(Zf++nT p ++ "/" ++ nT q).length<=3843:=by
 have a:=zec hp (by decide);have b:=zec hq (by decide);have e0:Zf.length=0:=rfl;have e1:(Qc "/").length=1:=rfl;refine⟨by rw[Qat,e0];omega,by rw[Qat,Qat,e0,e1];omega,by rw[Qat,Qat,Qat,e0,e1];omega⟩
def qH{n k:Nat}(h:n<=k)(hk:k<=1000000):n<=Qo:=by rw[Yb];omega
def rTx(b:Int)(r:LI):List Str:=r.map λx=>qpg (shT x b) (shB x b)
def xcx(L:List (List Str)):Str:=Y8 " | " (L.map (Y8 " "))
def qwf{s:Str}{l:List Str}{B:Nat}(hB:∀y∈l,y.length<=B)(h:l.length*B+l.length*s.length<=16777216):JoinOk s l=true:=by
 unfold JoinOk;rw[StrLaws.joinFits hB h];rfl
def zqg{s:Str}{l:List Str}{B:Nat}(hB:∀y∈l,y.length<=B):(Y8 s l).length<=l.length*B+l.length*s.length:=by
 have a:=StrLaws.sumLen_le l hB;have b:=StrLaws.join_length_le s l;have e:Y8 s l=Q8 s l:=V2 s l;rw[e];omega
def zqj{p q:Int}(hp:intBits p<=400)(hq:intBits q<=400):(qpg p q).length<=4000:=by
 obtain⟨_,_,l3⟩:=zap hp hq;have a:=zec hp (by decide);unfold qpg;split
 ·exact Qk a (by decide)
 ·exact Qk l3 (by decide)
def Shp(n:Nat)(d:Qh):Prop:=d.canLay0=true/\d.depth<=n
def Shp.ok{n:Nat}{d:Qh}(h:Shp n d)(hn:n<=64:=by decide):Jm d=true:=by
 unfold Jm;rw[h.1,decide_eq_true (Qk h.2 hn)];rfl
def Shp.refl{n:Nat}{d:Qh}(h:Shp n d):Yx d d=true:=SeqAt.eqv_refl d h.1
def qcd{x:Str}(n:Nat)(h:Qal x=true):Shp n (.str x):=by simp[Shp,Qep,Qh.depth,h]
def mdo(x y:Str):Bool := !(Yx (.str x) (.str ""))&&x.cps.toList.all λc=>Qcv y (chS c)
def qim{x:Str}(h:x.cps.all (· < 128)=true):Qal x=true:=by
 unfold Qal;rw[Qij]at h ⊢;intro c hc;have:=h c hc;simp at this ⊢;omega
def qrg(x:Str):Str:=if Va x "-" = true then qml x (some 1) none else x
def qla(x:Str)(m:Int):Bool:=(mdo (qrg x) "0123456789" && decide (((qrg x).length:Int)<=m))&&(Yx (.str x) (.str "0") || !Txt.startswith (qrg x) "0")
def qlq{p:Int}(h:0<=p):(nT p).cps.toList=(Qjq 10 p.toNat).map Qjf:=by
 obtain⟨m,rfl⟩:=Yr h;exact PySem.W.KIN.signs_num m
def zrr{ch:Char}(h:ch.isDigit=true):48<=ch.toNat/\ch.toNat<=57:=by
 unfold Char.isDigit at h;rw[Qy,decide_eq_true_eq,decide_eq_true_eq]at h;exact⟨h.1,h.2⟩
def zae{p:Int}(h:0<=p):∀c∈(nT p).cps.toList,48<=c/\c<=57:=λc hc=>by
 rw[qlq h]at hc;obtain⟨ch,hch,rfl⟩:=Q1.mp hc;exact zrr (Nat.isDigit_of_mem_toDigits (by decide) (by decide) hch)
def qxb{p:Int}{k:Nat}(h:0<=p)(k1:1<=k)(hk:p<10^k):1<=(nT p).length/\(nT p).length<=k:=by
 have e:(nT p).length=(Qjq 10 p.toNat).length:=by
  have:=congrArg Jz (qlq h);rw[Qj,Zw]at this;exact this
 rw[e];have hp:p.toNat<10^k:=by
  have:((p.toNat:Nat):Int)<((10^k:Nat):Int):=by rw[Qdu h];simpa using hk
  exact Int.ofNat_lt.mp this
 exact⟨PySem.toDigits_len_ge 10 _,PySem.toDigits_len_pow (by decide) k1 hp⟩
def qkc{x:Str}{c:Nat}:Va x (chS c)=true↔x.cps.toList[0]?=some c:=by
 have:=Qas x c 0;rw[<- this];unfold Va;rw[Qy,decide_eq_true_eq];rfl
def zgc(x:Str)(c:Nat):Qcv x (chS c)=decide (c∈x.cps.toList):=StrLaws.found_one x c
def qmc(x y:Str):(x++y).cps.toList=x.cps.toList++y.cps.toList:=by
 show(x.cps++y.cps).toList=_;simp
def qbk{x y:Str}(h:x.cps.toList=y.cps.toList):x=y:=by
 cases x;cases y;simp at h;rw[h]
def qlm(x:Str)(i j:Nat):(Q9 x i j).cps.toList=(x.cps.toList.drop i).take (j-i):=by
 show(x.cps.extract i j).toList=_;simp[List.extract]
def ziw{x:Str}{c:Nat}(h:c∉x.cps.toList):qet x (chS c)=[x,Zf,Zf]:=by
 unfold qet;rcases Qkd x (chS c) 1 (Qn 1)with⟨h0,hn⟩|⟨i,r,h0,hi,hn⟩
 ·rw[h0]
 ·exact absurd (Qz ((Qas x c i).mp hi)) h
def zts{x a b:Str}{c:Nat}(hx:x.cps.toList=a.cps.toList++c::b.cps.toList)(h:c∉a.cps.toList):qet x (chS c)=[a,chS c,b]:=by
 unfold qet;have at_a:x.cps.toList[a.cps.toList.length]?=some c:=by rw[hx,Jg (Qn _)];simp
 rcases Qkd x (chS c) 1 (Qn 1)with⟨h0,hn⟩|⟨i,r,h0,hi,hn⟩
 ·exact absurd ((Qas x c _).mpr at_a) (hn _)
 ·have e:i=a.cps.toList.length:=by
   rcases Qjg i a.cps.toList.length with z|z|z
   ·exfalso;have:=(Qas x c i).mp hi;rw[hx,Yg z]at this;exact h (Qz this)
   ·exact z
   ·exact absurd ((Qas x c _).mpr at_a) (hn _ z)
  rw[h0];show[Q9 x 0 i,chS c,Q9 x (i+1) x.length]=[a,chS c,b];have e1:Q9 x 0 i=a:=qbk (by rw[qlm,hx,e,Qlh,Nat.sub_zero,Qhu]);have lx:x.length=a.cps.toList.length+(b.cps.toList.length+1):=by
   show x.cps.size=_;have:=congrArg Jz hx;rw[Zw]at this;simpa using this
  have e2:Q9 x (i+1) x.length=b:=qbk (by
   rw[qlm,hx,e,lx];have:(a.cps.toList++c::b.cps.toList).drop (a.cps.toList.length+1)=b.cps.toList:=by
    rw[List.drop_append];simp
   rw[this];exact Vm (by omega))
  rw[e1,e2]
def zlw{p:Int}(h:0<=p)(hp:p<10^10):Zd (nT p)=some p:=PySem.W.KIN.num_reads h hp
def zfv{p:Int}(h:0<=p){c:Nat}(hc:c<48\/57<c):c∉(nT p).cps.toList:=λz=>by
 have:=zae h c z;omega
def zje{p q:Int}(h:q≠1):(qpg p q).cps.toList=(nT p).cps.toList++47::(nT q).cps.toList:=by
 unfold qpg;rw[if_neg h,qmc,qmc,qmc];have e:(Qc "/").cps.toList=[47]:=by decide +kernel
 have e2:Zf.cps.toList=[]:=rfl;rw[e,e2];simp
def qbh(y r r':Str)(rs:List Str):(Q8 y (r::r'::rs)).cps.toList=r.cps.toList++(y.cps.toList++(Q8 y (r'::rs)).cps.toList):=by
 show(r++y++Q8 y (r'::rs)).cps.toList=_;rw[qmc,qmc,Vs]
def zfs{x y:Str}{c o i:Nat}(ho:y.cps.toList[o]?=some c)(h:Qhh x y x.length i):x.cps.toList[i+o]?=some c:=by
 have e:=h.2;rw[Qke]at e;have e:=eq_of_beq e;rw[<- e]at ho;have ol:o<y.length:=by
  have:=(Q6.mp ho).1;rw[Qga]at this;omega
 rw[Qey ol,Qek]at ho;exact ho
def qad(x:Str):x.length=x.cps.toList.length:=by rw[Zw];rfl
def zzk{x y:Str}{i:Nat}{t:List Nat}(h:x.cps.toList.drop i=y.cps.toList++t)(hi:i<=x.length):Qhh x y x.length i:=by
 refine⟨?_,?_⟩
 ·have:=congrArg Jz h;rw[Qgb,Yu,<- qad,<- qad]at this;omega
 ·rw[Qke,h,qad,Qhu];exact beq_self_eq_true _
def zbc{x y:Str}{c o:Nat}(ho:y.cps.toList[o]?=some c)(hf:∀j,j<o->y.cps.toList[j]?≠some c):∀(rs:List Str)(r:Str)(a:Nat)(cuts:List Nat)(f:Nat),(∀p∈r::rs,c∉p.cps.toList)->x.cps.toList.drop a=(Q8 y (r::rs)).cps.toList->a<=x.length ->
 StrLaws.ChainG x y x.length a cuts f->(∀k,f<=k -> ¬ Qhh x y x.length k)->Y7 x y.length a cuts=r::rs
  |[],r,a,cuts,f,hp,hx,ha,hc,hn=>by
   have hx:x.cps.toList.drop a=r.cps.toList:=hx;cases cuts with
   |nil =>
    have e:Q9 x a x.length=r:=qbk (by
     rw[qlm,hx];refine Vm ?_;have:=congrArg Jz hx;rw[Qgb,<- qad]at this;omega)
    show[Q9 x a x.length]=[r];rw[e]
   |cons i cuts =>
    exfalso;have s:=zfs ho hc.2.1;have a1:=hc.1;have:r.cps.toList[i+o-a]?=some c:=by
     rw[<- hx,Qek,show a+(i+o-a)=i+o by omega];exact s
    exact hp r (by simp) (Qz this)
  |r'::rs,r,a,cuts,f,hp,hx,ha,hc,hn=>by
   rw[qbh]at hx;have lx:=congrArg Jz hx;rw[Qgb,Yu,Yu,<- qad,<- qad,<- qad]at lx;have hd:x.cps.toList.drop (a+r.length)=y.cps.toList++(Q8 y (r'::rs)).cps.toList:=by
    rw[<- Qli,hx,qad,Qlj]
   have at1:Qhh x y x.length (a+r.length):=zzk hd (by omega);have no:∀k,a<=k->k<a+r.length -> ¬ Qhh x y x.length k:=λk k1 k2 z=>by
    have s:=zfs ho z;have g:(x.cps.toList.drop a)[k+o-a]?=some c:=by
     rw[Qek,show a+(k+o-a)=k+o by omega];exact s
    rw[hx]at g;by_cases q:k+o-a<r.cps.toList.length
    ·rw[Yg q]at g;exact hp r (by simp) (Qz g)
    ·rw[qad]at k2;have ol:=(Q6.mp ho).1;rw[Jg (by omega),Yg (by omega)]at g;exact hf _ (by omega) g
   cases cuts with
   |nil =>
    have e:f=a:=hc;exact absurd at1 (hn _ (by omega))
   |cons i cuts =>
    obtain⟨c1,c2,c3,c4⟩:=hc;have ei:i=a+r.length:=by
     rcases Qjg i (a+r.length)with z|z|z
     ·exact absurd c2 (no i c1 z)
     ·exact z
     ·exact absurd at1 (c3 _ (by omega) z)
    subst ei;have e1:Q9 x a (a+r.length)=r:=qbk (by rw[qlm,hx,show a+r.length-a=r.cps.toList.length by rw[<- qad];omega,Qhu]);show Q9 x a (a+r.length)::Y7 x y.length (a+r.length+y.length) cuts=_;rw[e1,zbc ho hf rs r' _ cuts f (λp h=>hp p (Qt _ h)) (by rw[<- Qli,hd,qad,Qlj]) (by omega) c4 hn]
def zkx{y:Str}{c o:Nat}(y1:1<=y.length)(yk:Vr y=1)(ho:y.cps.toList[o]?=some c)(hf:∀j,j<o->y.cps.toList[j]?≠some c){rs:List Str}(ne:rs≠[])(hp:∀p∈rs,c∉p.cps.toList):
 Zr (Y8 y rs) (Q5 (Y8 y rs) y 0 (Y8 y rs).length ((Y8 y rs).length+1)) y.length=rs/\Z8 (Y8 y rs) y=rs:=by
  have ej:Y8 y rs=Q8 y rs:=V2 y rs;rw[ej];obtain⟨r,rs,rfl⟩:=Ys ne;obtain⟨f,hc,hn⟩:=StrLaws.occ_tight (Q8 y (r::rs)) y y1;have e:=zbc ho hf rs r 0 _ f hp (by rw[Qlh]) (Vb _) hc hn;rw[V9];refine⟨e,?_⟩;unfold Z8;rw[V9,e];generalize hcu:Q5 (Q8 y (r::rs)) y 0 (Q8 y (r::rs)).length ((Q8 y (r::rs)).length+1)=cuts at hc e;cases cuts with
  |nil =>
   have e:[Q9 (Q8 y (r::rs)) 0 (Q8 y (r::rs)).length]=r::rs:=e;rw[Qjh]at e;rw[e,ite_self,ite_self]
  |cons i cuts =>
   have l:=hc.2.1.1;rw[if_neg,if_neg]
   ·simp
   ·rw[yk,Qam,decide_eq_true_eq,decide_eq_true_eq];have:1<=Vr (Q8 y (r::rs)):=by
     unfold Vr;split
     ·decide
     ·split <;> decide
    omega
def qqc{ws:List Str}(ne:ws≠[])(h:∀p∈ws,32∉p.cps.toList):Zr (Y8 (Qc " ") ws) (Q5 (Y8 (Qc " ") ws) (Qc " ") 0 (Y8 (Qc " ") ws).length ((Y8 (Qc " ") ws).length+1)) (Qc " ").length=ws/\Z8 (Y8 (Qc " ") ws) (Qc " ")=ws :=
 zkx (o:=0) (by decide) (by decide +kernel) (by decide +kernel) (λj hj=>by omega) ne h
def qxe{p:Int}(h:p<0):(nT p).cps.toList=45::(nT (-p)).cps.toList:=by
 cases p with
 |ofNat m=>exact absurd h (by simp)
 |negSucc m =>
  have e : -(Int.negSucc m)=((m+1:Nat):Int):=rfl;rw[e];unfold nT;rw[Qdy,Qdy];show(("-" ++ Nat.repr (m+1)):String).toList.map Qjf=45::(Nat.repr (m+1)).toList.map Qjf;rw[String.toList_append,V1];rfl
def qcb(x:Str):x.length=x.cps.toList.length:=by rw[Zw];rfl
def zfz{x y:Str}(h:x.cps.toList=45::y.cps.toList):qml x (some 1) none=y:=by
 have lx:x.length=y.cps.toList.length+1:=by rw[qcb x,h,Zl]
 have e:Z3 (some 1) none 1 x.length=Z3 (some ((1:Nat):Int)) (some (x.length:Int)) 1 x.length:=StrLaws.sliceIdx_none_hi _ _;unfold qml;rw[e,if_neg]
 ·apply qbk;show((Z3 (some ((1:Nat):Int)) (some (x.length:Int)) 1 x.length).filterMap (x.cps[·]?))=y.cps.toList;rw[StrLaws.sliced_plain x (by omega) (Qn _),h];refine(Vm ?_).trans rfl;show y.cps.toList.length<=_;omega
 ·rw[StrLaws.strSliceIndices_plain (by omega) (Qn _),Qj,Qfg];omega
def qfa{p:Int}{k:Nat}(k1:1<=k)(hk:(p.natAbs:Int)<10^k):(nT p).length<=k+1:=by
 rcases Qej p 0 with h|h
 ·have:=(qxb (p := -p) (by omega) k1 (by rw[show -p=((p.natAbs:Nat):Int) by omega];exact hk)).2;rw[qcb,qxe h,Zl,<- qcb];omega
 ·have:=(qxb h k1 (by rw[show p=((p.natAbs:Nat):Int) by omega];exact hk)).2;omega
def qcz{p:Int}(h:(p.natAbs:Int)<10^10):Zd (nT p)=some p:=by
 rcases Qej p 0 with z|z
 ·have hl:=qfa (p:=p) (k:=10) (by decide) h;have l1:=qxb (p := -p) (k:=10) (by omega) (by decide) (by rw[show -p=((p.natAbs:Nat):Int) by omega];exact h);have e:=PySem.intText_neg (qxe z) (zae (p := -p) (by omega)) (λy=>by rw[qcb,y]at l1;exact absurd l1.1 (by decide)) (Qk hl (by decide));rw[qlq (p := -p) (by omega),PySem.W.KIN.val_back,Qdu (by omega),Int.neg_neg]at e;exact e
 ·exact zlw z (by rw[show p=((p.natAbs:Nat):Int) by omega];exact h)
def qsb{p:Int}{c:Nat}(hc:c≠45/\(c<48\/57<c)):c∉(nT p).cps.toList:=λz=>by
 rcases Qej p 0 with h|h
 ·rw[qxe h]at z;rcases Q2.mp z with z|z
  ·exact hc.1 z
  ·exact zfv (p := -p) (by omega) hc.2 z
 ·exact zfv h hc.2 z
def qzt{c:Nat}(h:48<=c/\c<=57):(Nat.digitChar (c-48)).toNat=c:=by
 have:c=48\/c=49\/c=50\/c=51\/c=52\/c=53\/c=54\/c=55\/c=56\/c=57:=by omega
 rcases this with rfl|rfl|rfl|rfl|rfl|rfl|rfl|rfl|rfl|rfl <;> decide
def zib:∀(k:Nat)(ds:List Nat),ds.length=k+1->(∀c∈ds,48<=c/\c<=57)->ds[0]?≠some 48 ->∃n,0<n/\n<10^(k+1)/\(Qjq 10 n).map Qjf=ds:=λk=>by
 induction k with
 |zero =>
  intro ds hl hd h0
  match ds,hl with
  |[c],_ =>
   have hc:=hd c (Ze.mpr rfl);have:c≠48:=λz=>h0 (by rw[z];rfl);refine⟨c-48,by omega,by omega,?_⟩;rw[Qfv (by omega)];show[_]=[c];rw[qzt hc]
 |succ k ih =>
  intro ds hl hd h0;have ne:ds≠[]:=λz=>by rw[z]at hl;cases hl
  have e:=List.dropLast_concat_getLast ne;have l1:ds.dropLast.length=k+1:=by rw[List.length_dropLast,hl];rfl
  obtain⟨n,n0,n1,en⟩:=ih ds.dropLast l1 (λc hc=>hd c (List.dropLast_subset _ hc)) (λz=>h0 (by rw[<- e,Yg (by omega)];exact z));have hc:=hd _ (List.getLast_mem ne);refine⟨10*n+(ds.getLast ne-48),by omega,?_,?_⟩
  ·have:10^(k+1+1)=10*10^(k+1):=by rw[Nat.pow_succ,Nat.mul_comm]
   omega
  ·rw[<- Nat.toDigits_append_toDigits (by decide) n0 (by omega),V1,en,Qfv (by omega)];show ds.dropLast++[_]=ds;rw[qzt hc];exact e
def qpt{x y:Str}:Yx (.str x) (.str y)=true↔x=y:=by
 rw[Yx];simp
def zqe{x:Str}(h:mdo x "0123456789" = true):x.cps.toList≠[] /\ ∀c∈x.cps.toList,48<=c/\c<=57:=by
 unfold mdo at h;rw[Qy,Q4]at h;refine⟨λz=>?_,λc hc=>?_⟩
 ·have:x=Qc "" := qbk z;rw[this]at h;exact absurd h.1 (by decide +kernel)
 ·have:=h.2 c hc;rw[zgc]at this;have d:c∈(Qc "0123456789").cps.toList:=of_decide_eq_true this;have:(Qc "0123456789").cps.toList=[48,49,50,51,52,53,54,55,56,57]:=by decide +kernel
  rw[this]at d;simp at d;omega
def zag{x:Str}{k:Nat}(h:mdo x "0123456789" = true)(hl:(x.length:Int)<=k)(h0:Va x "0" = false):∃p:Int,x=nT p/\0<p/\p<10^k:=by
 obtain⟨ne,hd⟩:=zqe h;have h0:x.cps.toList[0]?≠some 48:=λz=>by
  have:Va x (chS 48)=true:=qkc.mpr z;have e:chS 48=Qc "0":=by decide +kernel
  rw[e]at this;rw[this]at h0;cases h0
 have l0:0<x.cps.toList.length:=List.length_pos_iff.mpr ne;obtain⟨n,n0,n1,en⟩:=zib (x.cps.toList.length-1) x.cps.toList (by omega) hd h0;have n2:n<10^k:=Zh n1 (Nat.pow_le_pow_right (by decide) (by rw[qcb]at hl;omega));have n3:((10^k:Nat):Int)=10^k:=by simp
 refine⟨n,qbk ?_,by omega,by omega⟩;rw[qlq (by omega),Qfd,en]
def qdx{x:Str}{k:Nat}(h:qla x k=true):∃p:Int,x=nT p/\(p.natAbs:Int)<10^k:=by
 unfold qla at h;rw[Qy,Qy,Qam,decide_eq_true_eq]at h;obtain⟨⟨h1,h2⟩,h3⟩:=h;by_cases hm:Va x "-" = true
 ·have e:chS 45=Qc "-":=by decide +kernel
  have s:x.cps.toList[0]?=some 45:=qkc.mp (by rw[e];exact hm);cases ex:x.cps.toList with
  |nil=>rw[ex]at s;cases s
  |cons c t =>
   rw[ex]at s;cases s;have ec:=zfz (x:=x) (y:=⟨t.toArray⟩) (by rw[ex]);have ef:qrg x=⟨t.toArray⟩:=by unfold qrg;rw[if_pos hm];exact ec
   rw[ef]at h1 h2 h3;have h3:Va (⟨t.toArray⟩:Str) "0" = false:=by
    rcases h3 with z|z
    ·have e0:(Qc "0").cps.toList=[48]:=by decide +kernel
     rw[qpt.mp z,e0]at ex;simp at ex
    ·simpa using z
   obtain⟨p,ep,p0,p1⟩:=zag h1 h2 h3;refine⟨-p,qbk ?_,by rw[show(((-p).natAbs:Nat):Int)=p by omega];exact p1⟩;rw[qxe (by omega),Int.neg_neg,<- ep,ex]
 ·have ef:qrg x=x:=if_neg hm;rw[ef]at h1 h2 h3;by_cases z:Va x "0" = true
  ·rcases h3 with y|y
   ·refine⟨0,(qpt.mp y).trans (by decide +kernel),?_⟩;have:(0:Int)<10^k:=Int.pow_pos (by decide);simpa using this
   ·rw[z]at y;cases y
  ·obtain⟨p,ep,p0,p1⟩:=zag h1 h2 (by simpa using z);exact⟨p,ep,by rw[show((p.natAbs:Nat):Int)=p by omega];exact p1⟩
def qsw(a b w:Str):Option (Int×Int):=if qla a 6=true then(if qla b 6=true then(if Yx (.str b) (.str "0")=true then none else
 if Yx (.str (qpg (shT ((Zd a).getD 0) ((Zd b).getD 1)) (shB ((Zd a).getD 0) ((Zd b).getD 1)))) (.str w)=true then some (shT ((Zd a).getD 0) ((Zd b).getD 1),shB ((Zd a).getD 0) ((Zd b).getD 1))else none)else none)else none
def qhz(w:Str):Option (Int×Int):=match qet w "/" with
 |[a,s,b]=>qsw a (if Yx (.str s) (.str "/")=true then b else "1") w
 |_=>none
def AscW(w:Str):Prop:=w.cps.all (· < 128)=true/\w.length<=900
def qcs{w:Str}:w.cps.all (· < 128)=true↔∀c∈w.cps.toList,c<128:=by
 rw[Qij];simp
def AscW.sub{w x:Str}(h:AscW w)(hs:∀c∈x.cps.toList,c∈w.cps.toList)(hl:x.length<=w.length):AscW x:=⟨qcs.mpr λc hc=>qcs.mp h.1 c (hs c hc),Qk hl h.2⟩
def AscW.fig{w:Str}(h:AscW w):AscW (qrg w):=by
 by_cases hm:Va w "-" = true
 ·have e:chS 45=Qc "-":=by decide +kernel
  have s:w.cps.toList[0]?=some 45:=qkc.mp (by rw[e];exact hm);cases ex:w.cps.toList with
  |nil=>rw[ex]at s;cases s
  |cons c t =>
   rw[ex]at s;cases s;have ec:=zfz (x:=w) (y:=⟨t.toArray⟩) (by rw[ex]);have ef:qrg w=⟨t.toArray⟩:=by unfold qrg;rw[if_pos hm];exact ec
   rw[ef];exact h.sub (λc hc=>by rw[ex];exact Qt _ hc) (by rw[qcb,qcb w,ex];simp)
 ·rw[show qrg w=w from if_neg hm];exact h
def qqw(x:Str):∃a s b,qet x "/" = [a,s,b]/\((47∉x.cps.toList/\a=x/\s=Zf/\b=Zf)\/(x.cps.toList=a.cps.toList++47::b.cps.toList/\47∉a.cps.toList/\s=Qc "/")):=by
 have e:chS 47=Qc "/":=by decide +kernel
 by_cases h:47∈x.cps.toList
 ·obtain⟨as,bs,e1,e2⟩:=List.eq_append_cons_of_mem h;have:=zts (x:=x) (a:=⟨as.toArray⟩) (b:=⟨bs.toArray⟩) (c:=47) (by simpa using e1) (by simpa using e2);rw[e]at this;exact⟨_,_,_,this,.inr ⟨by simpa using e1,by simpa using e2,rfl⟩⟩
 ·have:=ziw h;rw[e]at this;exact⟨_,_,_,this,.inl ⟨h,rfl,rfl,rfl⟩⟩
def xax{w:Str}(h:AscW w):∃a s b,qet w "/" = [a,s,b]/\AscW a/\AscW s/\AscW b:=by
 have n:AscW Zf:=⟨by decide +kernel,by decide +kernel⟩
 obtain⟨a,s,b,e,h2⟩:=qqw w;refine⟨a,s,b,e,?_⟩;rcases h2 with⟨_,rfl,rfl,rfl⟩|⟨ex,_,rfl⟩
 ·exact⟨h,n,n⟩
 ·have l:=congrArg Jz ex;rw[Yu,Zl,<- qcb,<- qcb,<- qcb]at l;exact⟨h.sub (λc hc=>by rw[ex];exact Zx _ hc) (by omega),⟨by decide +kernel,by decide +kernel⟩,h.sub (λc hc=>by rw[ex];exact Qw _ (Qt _ hc)) (by omega)⟩
def qew{c x t:Int}(h:c*x=t)(hc:c≠0):x.natAbs<=t.natAbs:=by
 rw[<- h,Int.natAbs_mul];exact Nat.le_mul_of_pos_left _ (by omega)
def qyu{a b w:Str}{r:Int×Int}(h:qsw a b w=some r):w=qpg r.1 r.2/\Shr r.1 r.2/\r.1.natAbs<1000000/\r.2<1000000:=by
 unfold qsw at h;split at h
 ·rename_i na;split at h
  ·rename_i nb;split at h
   ·cases h
   ·rename_i b0;split at h
    ·rename_i ew;obtain⟨p,rfl,hp⟩:=qdx (k:=6) na;obtain⟨q,rfl,hq⟩:=qdx (k:=6) nb;have i1:(10:Int)^6=1000000:=by decide
     have i2:(10:Int)^10=10000000000:=by decide
     have e1:Zd (nT p)=some p:=qcz (by omega);have e2:Zd (nT q)=some q:=qcz (by omega);rw[e1,e2]at h ew;simp only[Jk]at h ew;cases h;have q0:q≠0:=λz=>by rw[z]at b0;exact b0 (by decide +kernel)
     have:=qew (qpw p q) (qqh q0);have:=qew (qpq p q) (qqh q0);exact⟨(qpt.mp ew).symm,(xaf q0).1,by omega,by omega⟩
    ·cases h
  ·cases h
 ·cases h
def qqq{w:Str}{r:Int×Int}(h:qhz w=some r):w=qpg r.1 r.2/\Shr r.1 r.2/\r.1.natAbs<1000000/\r.2<1000000:=by
 obtain⟨a,s,b,e,_⟩:=qqw w;unfold qhz at h;rw[e]at h;exact qyu h
def qqg{p q:Int}{c:Nat}(h:c∈(qpg p q).cps.toList):c=45\/c=47\/(48<=c/\c<=57):=by
 apply Classical.byContradiction;intro z;by_cases hq:q=1
 ·rw[show qpg p q=nT p from if_pos hq]at h;exact qsb (by omega) h
 ·rw[zje hq]at h;rcases Zz.mp h with h|h
  ·exact qsb (by omega) h
  ·rcases Q2.mp h with h|h
   ·omega
   ·exact qsb (by omega) h
def qY(x:Str):List (List Str):=(Z8 x (Qc " | ")).map λr=>Z8 r (Qc " ")
def qgm:List (List Str)->List Str
 |[]=>[]
 |[r]=>r
 |r::s::rs=>r++Qc "|" :: qgm (s::rs)
def zai(x y:Str):Z8 x y≠[]:=λz=>by
 have:=Qgi x y;rw[z]at this;exact absurd this (by decide)
def qth(x:Str):∀p∈Z8 x (Qc " "),32∉p.cps.toList:=λp hp=>by
 have e:Qc " " = ⟨#[32]⟩:=by decide +kernel
 rw[e]at hp;exact StrLaws.split_free x 32 p hp
def qru{y:Str}:∀{as bs:List Str},as≠[]->bs≠[]->(Q8 y (as++bs)).cps.toList=(Q8 y as).cps.toList++(y.cps.toList++(Q8 y bs).cps.toList)
 |[],_,h,_=>absurd rfl h
 |[a],b::bs,_,_=>qbh y a b bs
 |a::a'::as,bs,_,hb=>by
  show(Q8 y (a::a'::(as++bs))).cps.toList=_;rw[qbh,qbh];have:=qru (y:=y) (as:=a'::as) (bs:=bs) (by simp) hb;rw[show a'::(as++bs)=a'::as++bs from rfl,this];simp[Vs]
def zfu:∀{R:List (List Str)},R≠[]->(∀r∈R,r≠[])->qgm R≠[]
 |[],h,_=>absurd rfl h
 |[r],_,h=>h r (by simp)
 |r::s::rs,_,h=>λz=>by
  have:r++Qc "|" :: qgm (s::rs)=[]:=z;simp at this
def qvd:∀{R:List (List Str)},R≠[]->(∀r∈R,r≠[])->(Q8 (Qc " ") (qgm R)).cps.toList=(Q8 (Qc " | ") (R.map λr=>Q8 (Qc " ") r)).cps.toList
 |[],h,_=>absurd rfl h
 |[r],_,h=>rfl
 |r::s::rs,_,h=>by
  have ih:=qvd (R:=s::rs) (by simp) (λq hq=>h q (Qt _ hq));have fn:=zfu (R:=s::rs) (by simp) (λq hq=>h q (Qt _ hq));show(Q8 (Qc " ") (r++Qc "|" :: qgm (s::rs))).cps.toList=_;rw[qru (h r (by simp)) (by simp),show(Qc "|" :: qgm (s::rs))=[Qc "|"]++qgm (s::rs) from rfl,qru (by simp) fn,ih];simp only[Qr];rw[qbh];have e1:(Qc " ").cps.toList=[32]:=by decide +kernel
  have e2:(Q8 (Qc " ") [Qc "|"]).cps.toList=[124]:=by decide +kernel
  have e3:(Qc " | ").cps.toList=[32,124,32]:=by decide +kernel
  rw[e1,e2,e3];simp[Vs]
def qrz(x:Str):qY x≠[] /\ ∀r∈qY x,r≠[]:=by
 refine⟨λz=>zai x _ (List.map_eq_nil_iff.mp z),λr hr=>?_⟩;obtain⟨t,_,rfl⟩:=Q1.mp hr;exact zai _ _
def qst(x:Str):∀r∈qY x,∀w∈r,32∉w.cps.toList:=λr hr w hw=>by
 obtain⟨t,_,rfl⟩:=Q1.mp hr;exact qth t w hw
def qkz:∀{R:List (List Str)},(∀r∈R,∀w∈r,32∉w.cps.toList) ->∀w∈qgm R,32∉w.cps.toList
 |[],_,w,hw=>by cases hw
 |[r],h,w,hw=>h r (by simp) w hw
 |r::s::rs,h,w,hw=>by
  have hw:w∈r++Qc "|" :: qgm (s::rs):=hw;rcases Zz.mp hw with z|z
  ·exact h r (by simp) w z
  ·rcases Q2.mp z with z|z
   ·rw[z];decide +kernel
   ·exact qkz (λq hq=>h q (Qt _ hq)) w z
def zdb(x:Str):Y8 (Qc " ") (qgm (qY x))=x:=by
 obtain⟨h1,h2⟩:=qrz x;have ej:Y8 (Qc " ") (qgm (qY x))=Q8 (Qc " ") (qgm (qY x)):=V2 _ _;rw[ej];refine qbk ((qvd h1 h2).trans ?_);unfold qY;rw[Zi];have e:((λr=>Q8 (Qc " ") r) ∘ λr=>Z8 r (Qc " "))=id:=funext λr=>Qah r _;rw[e,List.map_id,Qah]
def toks(x:Str):Z8 x (Qc " ")=qgm (qY x):=by
 obtain⟨h1,h2⟩:=qrz x;have:=(qqc (zfu h1 h2) (qkz (qst x))).2;rw[zdb]at this;exact this
def qck(x y:Str)(hy:1<=y.length):∀p∈Z8 x y,p.length<=x.length:=λp hp=>by
 have h:=Qet x y hy;have h2:p.length<=((Z8 x y).map (·.length)).sum:=by
  have:∀(l:List Nat)(n:Nat),n∈l->n<=l.sum:=λl=>by
   induction l with
   |nil=>intro n hn;cases hn
   |cons a l ih =>
    intro n hn;rw[Qdn];rcases Q2.mp hn with z|z
    ·omega
    ·have:=ih n z;omega
  exact this _ _ (Q1.mpr ⟨p,hp,rfl⟩)
 have h3:=Qgi x y;omega
def qfy(x y:Str):(Zr x (Q5 x y 0 x.length (x.length+1)) y.length).length<=x.length+2/\(Z8 x y).length<=x.length+2:=by
 refine⟨?_,PyProof.Rows.split_le x y⟩;rw[J9];have:=Qgt x y 0 x.length (x.length+1);omega
def qhl{y p:Str}{c:Nat}:∀{rs:List Str},p∈rs->c∈p.cps.toList->c∈(Q8 y rs).cps.toList
 |[],h,_=>by cases h
 |[r],h,hc=>by
  rw[Ze.mp h]at hc;exact hc
 |r::r'::rs,h,hc=>by
  rw[qbh];rcases Q2.mp h with z|z
  ·rw[z]at hc;exact Zx _ hc
  ·exact Qw _ (Qw _ (qhl z hc))
def qxy(x:Str):Prop:=x.cps.all (· < 128)=true/\x.length<=800
def zfk{x:Str}(h:qxy x){r:List Str}(hr:r∈qY x){w:Str}(hw:w∈r):AscW w:=by
 obtain⟨t,ht,rfl⟩:=Q1.mp hr;refine⟨qcs.mpr λc hc=>qcs.mp h.1 c ?_,?_⟩
 ·rw[<- Qah x (Qc " | ")];refine qhl ht ?_;rw[<- Qah t (Qc " ")];exact qhl hw hc
 ·have:=qck x _ (by decide) t ht;have:=qck t _ (by decide) w hw;have:=h.2;omega
def zac(x:Str):(qY x).length<=x.length+1 /\ ∀r∈qY x,r.length<=x.length+1:=by
 have one:∀x y:Str,1<=y.length->(Z8 x y).length<=x.length+1:=λx y h=>by
  have:=Qet x y h;omega
 refine⟨by unfold qY;rw[Qj];exact one x _ (by decide),λr hr=>?_⟩;obtain⟨t,ht,rfl⟩:=Q1.mp hr;have:=qck x _ (by decide) t ht;have:=one t (Qc " ") (by decide);omega
section
variable{α:Type}{rd:Str->Option α}
def qma{x:Str}{V:List (List α)}(h:(qY x).map (λr=>r.map rd)=V.map λr=>r.map some):V.length=(qY x).length /\ ∀(i:Nat)r,(qY x)[i]?=some r ->∃v,V[i]?=some v/\r.map rd=v.map some:=by
 refine⟨by have:=congrArg Jz h;simpa using this.symm,λi r hr=>?_⟩;have:=congrArg (λl=>l[i]?) h;simp only[Qg,hr,Option.map_some]at this;cases ev:V[i]? with
 |none=>rw[ev]at this;cases this
 |some v=>rw[ev]at this;exact⟨v,rfl,by simpa using this⟩
def qez{r:List Str}{v:List α}(h:r.map rd=v.map some):r.length=v.length/\(∀w∈r,rd w≠none) /\ ∀z∈v,∃w∈r,rd w=some z:=by
 refine⟨by have:=congrArg Jz h;simpa using this,λw hw z=>?_,λz hz=>?_⟩
 ·have:rd w∈v.map some:=by rw[<- h];exact Q1.mpr ⟨w,hw,rfl⟩
  rw[z]at this;simp at this
 ·have:some z∈r.map rd:=by rw[h];exact Q1.mpr ⟨z,hz,rfl⟩
  obtain⟨w,hw,e⟩:=Q1.mp this;exact⟨w,hw,e⟩
def qkn{a b:List α}(h:a.map some=b.map some):a=b:=by
 have:=congrArg (λl=>l.filterMap id) h;simpa using this
def WdT(rd:Str->Option α)(g:α->Qh)(d y:Qh):Prop :=∃w r,d = .str w/\rd w=some r/\y=g r
def RwT(rd:Str->Option α)(g:α->Qh)(mk:List Qh->Qh)(d y:Qh):Prop :=∃(ws:List Str)(rs:List α),d = .list (ws.map .str)/\ws.map rd=rs.map some/\y=mk (rs.map g)
def zep{g:α->Qh}{ws:List Str}{L:List Qh}(hl:L.length=(ws.map Zc).length)(h:∀(i:Nat)d,(ws.map Zc)[i]?=some d ->∃y,L[i]?=some y/\WdT rd g d y):∃rs:List α,ws.map rd=rs.map some/\L=rs.map g:=by
 induction ws generalizing L with
 |nil=>exact⟨[],rfl,by simpa using hl⟩
 |cons a ws ih =>
  match L,hl with
  |y::L,hl =>
   obtain⟨y',e1,w,r,e2,e3,e4⟩:=h 0 (.str a) rfl;cases e1;cases e2;obtain⟨rs,h1,h2⟩:=ih (L:=L) (by simpa using hl) λi d hd=>h (i+1) d (by simpa using hd);exact⟨r::rs,by rw[Qr,Qr,e3,h1],by rw[Qr,<- h2,e4]⟩
def zoj{g:α->Qh}{mk:List Qh->Qh}{x:Str}{L:List Qh}(hr:∀(i:Nat)d,((qY x).map λws=>Qfw (ws.map .str))[i]?=some d ->∃y,L[i]?=some y/\RwT rd g mk d y)(i:Nat)(ws:List Str)(hw:(qY x)[i]?=some ws):∃rs:List α,L[i]?=some (mk (rs.map g))/\ws.map rd=rs.map some:=by
 obtain⟨y,h1,ws',rs,h2,h3,h4⟩:=hr i (.list (ws.map .str)) (by rw[Qg,hw];rfl);have e:ws=ws':=(List.map_inj_right λ_ _ z=>Zc.inj z).mp (Qfw.inj h2);subst e;exact⟨rs,by rw[h1,h4],h3⟩
end
def zck(x:Str)(V:List (List (Int×Int))):Prop:=(qY x).map (λr=>r.map qhz)=V.map λr=>r.map some
def zte(x:Str):Prop :=∃r∈qY x,∃w∈r,qhz w=none
def qvq{x:Str}{V:List (List (Int×Int))}(h:zck x V):¬ zte x:=λxx250=>by
 obtain⟨r,hr,w,hw,hn⟩:=xx250;obtain⟨i,hi⟩:=Vi hr;obtain⟨v,_,e⟩:=(qma h).2 i r hi;exact(qez e).2.1 w hw hn
def xdo(R:List (List Str)):Qh :=.list (R.map λws => .list (ws.map .str))
def qch(C:Addr)(ds:List Qh)(k:Qh->Prop)(e:Addr->Prop):Prop :=∃d,ds=[d]/\((qjx "str" d=false/\e C) \/ ∃x:Str,d = .str x/\x.length<=900/\k (xdo (qY x)))
def qmg:FnScope ["text"] ["text"] (defScope qgd):=sc0
def qmr(F:Def K mg "words_in_rows" qgd ["text"])(T:Txt w K mg cs):OkX P w K mg base "words_in_rows" 1 ["text"] (XSp K (qch cs.NoText)):=by
  refine F.vokX qmg (by rintro ds q e ⟨_,h,_⟩;rw[h];rfl) λf cdv A outer s H E hr hp ht ds k e h=>?_;obtain⟨d,rfl,h⟩:=h;refine⟨_,(qg (qN (qW (qV (qlf T.isinstance_ T.str_ L2.boot_str (qc 0)))) (qg (qG ht rfl T.NoText_ T.NoText_x.exc (qa qd qe))
   (qk qj)) (qk qj))
   (qk (qm (qu (qr (qP (caps:=[]) (own:=["row"]) (ix:=[]) rfl ⟨rfl,rfl,rfl,rfl,rfl,rfl⟩ (qae (qrw (qc 0) qd)) (λ_ _ _ _=>(qw (i:=0) (show Zm (["row"]:List Str) by decide))) (λ_ _ _ _=>(qrw (qc 0) qd)))))))),?_⟩
  rcases h with⟨h1,h⟩|⟨x,rfl,hx,h⟩
  ·cases d <;> first|exact⟨szl,h⟩|cases h1
  ·have z1:=qfy x (Qc " | ");refine⟨_,rfl,_,rfl,⟨rfl,qH hx (by decide),qH (Qk z1.1 (Yt hx 2)) (by decide),qH (Qk z1.2 (Yt hx 2)) (by decide)⟩,?_⟩;refine qO ((qY x).map λws:List Str=>Qfw (ws.map Zc)) (by simp[qY]) (qx (by simp[qY];omega)) (λe =>∃s,e=[s]) ⟨_,rfl⟩ ?_ h;rintro i y ys e hy hys ⟨s,rfl⟩;rw[Qg]at hy;cases er:(Z8 x (Qc " | "))[i]? with
   |none=>rw[er]at hy;cases hy
   |some r =>
    rw[er]at hy;cases hy;have hl:=Qk (qck x _ (by decide) r (Qz er)) hx;have z2:=qfy r (Qc " ");refine⟨_,rfl,_,rfl,⟨rfl,qH hl (by decide),qH (Qk z2.1 (Yt hl 2)) (by decide),qH (Qk z2.2 (Yt hl 2)) (by decide)⟩,?_⟩;refine⟨qy ?_ hys,_,rfl⟩;rw[Qg];unfold qY;rw[Qg,er];rfl
def qjt:DC
 |[.int t,.int b],q=>(b≠0/\intBits b<=9000)/\q (dSh (shT t b) (shB t b))
 |_,_=>False
def qju:FnScope ["top","bottom","common"] ["top","bottom"] (defScope qve):=sc0
def zdh(F:Def K mg "reduced" qve ["top","bottom"])(T:Txt w K mg cs)(O_divisor:Ok P w K mg base "divisor" 1 ["one","other"] (PSp K qdu)):Ok P w K mg base "reduced" 2 ["top","bottom"] (PSp K qjt):=by
  refine F.vok qju (λds q h=>by unfold qjt at h;split at h;all_goals first|rfl|exact h.elim) λf cdv A outer s H E hr ds q h=>?_
  match ds,h with
  |[.int t,.int b],⟨⟨hb,hz⟩,h⟩ =>
  refine⟨_,(qi (qt (i:=2) qju.nd (qB O_divisor.c hr.m (qa (qc 0) (qa (qc 1) qe))))
   (ztk (qbw (qA zsc (qc 1) ql) (qm (qt (i:=2) qju.nd (zon (qc 2)))) qj)
   (qm (qu (qac (qa (qf znx (qc 0) (qc 2)) (qa (qf znx (qc 1) (qc 2)) qe))))))),?_⟩
  have hc:=qqh (t:=t) hb;have hcz:=zrm (t:=t) hb hz;refine⟨λe=>e=[.val (.int t),.val (.int b),.val (.int (cm t b))],?_,?_⟩
  ·refine qod (λhn=>?_) (λhn=>?_)
   ·show _=_;unfold cm;rw[if_pos hn];rfl
   ·show _=_;unfold cm;rw[if_neg hn];rfl
  ·rintro e rfl;exact⟨⟨hc,hcz⟩,⟨hc,hcz⟩,szl,h⟩
def qhw:DC
 |[.int t,.int b],q=>(b≠0/\intBits b<=9000)/\q (dSh (shT t b) (shB t b))
 |_,_=>False
def zmx:FnScope ["top","bottom"] ["top","bottom"] (defScope zeu):=sc0
def zld(F:Def K mg "share" zeu ["top","bottom"])(T:Txt w K mg cs)(O_is_whole:Ok P w K mg base "is_whole" 1 ["thing"] (PSp K qce))(O_reduced:Ok P w K mg base "reduced" 2 ["top","bottom"] (PSp K qjt)):Ok P w K mg base "share" 3 ["top","bottom"] (PSp K qhw):=by
  refine F.vok zmx (λds q h=>by unfold qhw at h;split at h;all_goals first|rfl|exact h.elim) λf cdv A outer s H E hr ds q h=>?_
  match ds,h with
  |[.int t,.int b],h =>
  refine⟨_,(qi (qbw (VW.pt (qee (qW (qV (qB O_is_whole.c hr.m (qa (qc 0) qe)))) (qee (qW (qV (qB O_is_whole.c hr.m (qa (qc 1) qe)))) (qde (qA (qdk hr.units) (qc 1) ql))))) qcy qj)
   (qm (qu (qB O_reduced.c hr.m (qa (qc 0) (qa (qc 1) qe)))))),?_⟩
  exact⟨rfl,rfl,qsv (λz=>(h.1.1 z).elim) (λ_=>h)⟩
def qek(ds:List Qh)(k:Qh->Prop):Prop :=∃p q:Int,ds=[dSh p q]/\(intBits p<=400/\intBits q<=400)/\k (.str (qpg p q))
def qem:FnScope ["one","top","bottom"] ["one"] (defScope qkv):=sc0
def qtn(F:Def K mg "show_share" qkv ["one"])(T:Txt w K mg cs):Ok P w K mg base "show_share" 1 ["one"] (PSp K qek):=by
  refine F.vok qem (by rintro ds q ⟨_,_,h,_⟩;rw[h];rfl) λf cdv A outer s H E hr ds k h=>?_;obtain⟨p,q,rfl,⟨zp,zq⟩,h⟩:=h;refine⟨_,(qi (qt (i:=1) qem.nd (qz (qc 0) ql))
   (qi (qt (i:=2) qem.nd (qz (qc 0) ql))
   (qm (qu (qfc (qA (qdk hr.units) (qc 2) ql) (zwa (qwg (qc 1))) (zxx (qwg (qc 1)) qd (qwg (qc 2)))))))),?_⟩
  obtain⟨l1,l2,l3⟩:=zap zp zq;refine⟨_,rfl,_,rfl,rfl,rfl,qsv (λz=>?_) (λz=>?_)⟩
  ·unfold qpg at h;rw[if_pos z]at h;exact⟨p,rfl,qxh zp (by decide),h⟩
  ·unfold qpg at h;rw[if_neg z]at h;exact⟨p,rfl,qxh zp (by decide),_,rfl,qH l1 (by decide),_,rfl,qH l2 (by decide),q,rfl,qxh zq (by decide),_,rfl,qH l3 (by decide),h⟩
def qel(ds:List Qh)(k:Qh->Prop):Prop :=∃x y:Str,ds=[.str x,.str y]/\(x.cps.all (· < 128)=true/\x.length<=900)/\k (.bool (mdo x y))
def qsr:FnScope ["word","letters"] ["word","letters"] (defScope qkm):=sc0
def qsp(F:Def K mg "is_made_of" qkm ["word","letters"])(T:Txt w K mg cs):Ok P w K mg base "is_made_of" 1 ["word","letters"] (PSp K qel):=by
  refine F.vok qsr (by rintro ds q ⟨_,_,h,_⟩;rw[h];rfl) λf cdv A outer s H E hr ds k h=>?_;obtain⟨x,y,rfl,⟨ax,lx⟩,h⟩:=h;refine⟨_,(qm (qu (qpd (qds (qmt hr.units) (qc 0) qd) (qjk (qv (qtz rfl) T.all_ L2.boot_all (qa (qr (qP (caps:=["letters"]) (own:=["letter"]) (ix:=[1]) rfl ⟨rfl,rfl,rfl,rfl,rfl,rfl⟩ (zxu (qc 0)) (λ_ _ _ _=>(qw (i:=1) (show Zm (["letters","letter"]:List Str) by decide))) (λ_ _ _ _=>(qds zzl (qc 1) (qc 0))))) qe)))))),?_⟩;have sx:=qcd (x:=x) 0 (qim ax);have se:=qcd (x := "") 0 (by decide +kernel);unfold mdo at h;refine⟨sx.ok,se.ok,qcr (λz=>?_) (λz=>?_)⟩
  ·rw[z,Yq]at h;refine⟨ax,qO (x.cps.toList.map λc=>Qbi (Qcv y (chS c))) (by simp[qir]) (qx (by rw[Qj,Zw];exact Qk lx (by decide))) (λe =>∃s,e=[.val (.str y),s]) ⟨_,rfl⟩ ?_ ?_⟩
   ·rintro i d ys e hd hys ⟨s,rfl⟩;unfold qir at hd;rw[Qg]at hd;cases ec:x.cps.toList[i]? with
    |none=>rw[ec]at hd;cases hd
    |some c =>
     rw[ec]at hd;cases hd;refine⟨qy ?_ hys,_,rfl⟩;rw[Qg,ec];rfl
   ·refine⟨x.cps.toList.map λc=>Qcv y (chS c),by rw[Zi];rfl,?_⟩;rw[Qcw];exact h
  ·rw[z,Yz]at h;exact h
def qdh(ds:List Qh)(k:Qh->Prop):Prop :=∃(x:Str)(m:Int),ds=[.str x,.int m]/\(x.cps.all (· < 128)=true/\x.length<=900/\(qrg x).cps.all (· < 128)=true/\(qrg x).length<=900)/\k (.bool (qla x m))
def qks:FnScope ["word","most","figures"] ["word","most"] (defScope qol):=sc0
def qvz(F:Def K mg "is_number" qol ["word","most"])(T:Txt w K mg cs)(O_is_made_of:Ok P w K mg base "is_made_of" 1 ["word","letters"] (PSp K qel)):Ok P w K mg base "is_number" 2 ["word","most"] (PSp K qdh):=by
  refine F.vok qks (by rintro ds q ⟨_,_,h,_⟩;rw[h];rfl) λf cdv A outer s H E hr ds k h=>?_;obtain⟨x,m,rfl,⟨ax,lx,af,lf⟩,h⟩:=h;refine⟨_,(qi (qt (i:=2) qks.nd (qfc (qV (qug (qc 0) qd)) (zjd (qc 0) (qlz ql) qlv) (qc 0)))
   (qi (qbw (VW.pt (qee (qW (qV (qB O_is_made_of.c hr.m (qa (qc 2) (qa (zay T.FIGURES_) qe))))) (qde (qA zuh (qv qbj T.len_ L2.boot_len (qa (qc 2) qe)) (qc 1))))) (qm (qu qgc)) qj)
   (qm (qu (zvp (qds (qdk hr.units) (qc 0) qd) (qjk (zny (qug (qc 2) qd)))))))),?_⟩
  have sx:=qcd (x:=x) 0 (qim ax);have s0:=qcd (x := "0") 0 (by decide +kernel);unfold qla at h;refine⟨x,rfl,_,rfl,qcr (λz=>?_) (λz=>?_)⟩
  ·have eg:qrg x=qml x (some 1) none:=if_pos z;rw[eg]at af lf h;refine⟨qH lf (by decide),?_⟩;refine⟨(qml x (some 1) none),_,rfl,⟨af,Qk lf (by decide)⟩,qcr (λc1=>?_) (λc1=>⟨qH lf (by decide),qod (λc2=>?_) (λc2=>?_)⟩)⟩
   ·have c1:mdo (qml x (some 1) none) "0123456789" = false:=by
     cases y:mdo (qml x (some 1) none) "0123456789" with
     |false=>rfl
     |true=>rw[y]at c1;cases c1
    rw[c1,Yz,Yz]at h;exact h
   ·rw[decide_eq_false (p:=((qml x (some 1) none).length:Int)<=m) (by omega),Qes,Yz]at h;exact h
   ·have c1:mdo (qml x (some 1) none) "0123456789" = true:=by
     cases y:mdo (qml x (some 1) none) "0123456789" with
     |true=>rfl
     |false=>rw[y]at c1;cases c1
    rw[c1,decide_eq_true (p:=((qml x (some 1) none).length:Int)<=m) (by omega),Yq,Yq]at h;refine⟨sx.ok,s0.ok,qcr (λc3=>?_) (λc3=>?_)⟩
    ·rw[c3,Qjn]at h;exact h
    ·rw[c3,Qih]at h;exact⟨(qml x (some 1) none),rfl,_,rfl,h⟩
  ·have eg:qrg x=x:=if_neg (by rw[z];exact Zb);rw[eg]at af lf h;refine⟨x,_,rfl,⟨af,Qk lf (by decide)⟩,qcr (λc1=>?_) (λc1=>⟨qH lf (by decide),qod (λc2=>?_) (λc2=>?_)⟩)⟩
   ·have c1:mdo x "0123456789" = false:=by
     cases y:mdo x "0123456789" with
     |false=>rfl
     |true=>rw[y]at c1;cases c1
    rw[c1,Yz,Yz]at h;exact h
   ·rw[decide_eq_false (p:=(x.length:Int)<=m) (by omega),Qes,Yz]at h;exact h
   ·have c1:mdo x "0123456789" = true:=by
     cases y:mdo x "0123456789" with
     |true=>rfl
     |false=>rw[y]at c1;cases c1
    rw[c1,decide_eq_true (p:=(x.length:Int)<=m) (by omega),Yq,Yq]at h;refine⟨sx.ok,s0.ok,qcr (λc3=>?_) (λc3=>?_)⟩
    ·rw[c3,Qjn]at h;exact h
    ·rw[c3,Qih]at h;exact⟨x,rfl,_,rfl,h⟩
def qgx(C:Addr)(ds:List Qh)(k:Qh->Prop)(e:Addr->Prop):Prop :=∃w:Str,ds=[.str w]/\AscW w/\(∀r,qhz w=some r->k (dSh r.1 r.2))/\(qhz w=none->e C)
def qbu:FnScope ["word","parts","top","bottom","found"] ["word"] (defScope qku):=sc0
def qtr(F:Def K mg "read_share" qku ["word"])(T:Txt w K mg cs)(O_share:Ok P w K mg base "share" 3 ["top","bottom"] (PSp K qhw))(O_show_share:Ok P w K mg base "show_share" 1 ["one"] (PSp K qek))(O_is_number:Ok P w K mg base "is_number" 2 ["word","most"] (PSp K qdh)):OkX P w K mg base "read_share" 4 ["word"] (XSp K (qgx cs.NoText)):=by
  refine F.vokX qbu (by rintro ds q e ⟨_,h,_⟩;rw[h];rfl) λf cdv A outer s H E hr hp ht ds k e h=>?_;obtain⟨w,rfl,hw,hg,hb⟩:=h;refine⟨_,(qg (qex (qt (i:=1) qbu.nd (zex (qc 0) qd)))
   (qg (qex (qt (i:=2) qbu.nd (qz (qc 1) ql)))
   (qg (qex (qt (i:=3) qbu.nd (qfc (qA (qdk hr.units) (qz (qc 1) ql) qd) (qz (qc 1) ql) qd)))
   (qg (qN (VW.pt (qee (qW (qV (qB O_is_number.c hr.m (qa (qc 2) (qa (qaj T.MOST_FIGURES_) qe))))) (qee (qW (qV (qB O_is_number.c hr.m (qa (qc 3) (qa (qaj T.MOST_FIGURES_) qe))))) (qde (qA (qdk hr.units) (qc 3) qd))))) (qg (qG ht rfl T.NoText_ T.NoText_x.exc (qa qd qe))
   (qk qj)) (qk qj))
   (qg (qex (qt (i:=4) qbu.nd (qB O_share.c hr.m (qa (qav qsy T.int_ L2.boot_int (qa (qc 2) qe)) (qa (qav qsy T.int_ L2.boot_int (qa (qc 3) qe)) qe)))))
   (qg (qN (qA (qmt hr.units) (qB O_show_share.c hr.m (qa (qc 4) qe)) (qc 0)) (qg (qG ht rfl T.NoText_ T.NoText_x.exc (qa qd qe))
   (qk qj)) (qk qj))
   (qk (qm (qu (qc 4)))))))))),?_⟩
  obtain⟨a,sp,b0,ep,ha,hs,hb0⟩:=xax hw;have sx:=qcd (x:=w) 0 (qim hw.1);have s0:=qcd (x := "0") 0 (by decide +kernel);have ss:=qcd (x := "/") 0 (by decide +kernel);have sz:=qcd (x:=sp) 0 (qim hs.1);unfold qhz at hg hb;refine⟨_,rfl,_,rfl,⟨by decide +kernel,qH hw.2 (by decide)⟩,?_⟩;rw[ep]at hg hb ⊢;dsimp only at hg hb;have one:AscW (Qc "1"):=⟨by decide +kernel,by decide +kernel⟩
  refine⟨_,rfl,_,rfl,sz.ok,ss.ok,qcr (λz=>⟨_,rfl,?_⟩) (λz=>?_)⟩
  ·rw[if_pos z]at hg hb;have sb:=qcd (x:=b0) 0 (qim hb0.1);have fa:=ha.fig;have fb:=hb0.fig;unfold qsw at hg hb;refine⟨a,6,rfl,⟨ha.1,ha.2,fa.1,fa.2⟩,qcr (λz1=>?_) (λz1=>?_)⟩
   ·rw[if_neg (by rw[show qla a 6=false by simpa using z1];exact Zb)]at hb;exact⟨szl,hb rfl⟩
   have na:qla a 6=true:=by simpa using z1
   rw[if_pos na]at hg hb;refine⟨b0,6,rfl,⟨hb0.1,hb0.2,fb.1,fb.2⟩,qcr (λz2=>?_) (λz2=>?_)⟩
   ·rw[if_neg (by rw[show qla b0 6=false by simpa using z2];exact Zb)]at hb;exact⟨szl,hb rfl⟩
   have nb:qla b0 6=true:=by simpa using z2
   rw[if_pos nb]at hg hb;refine⟨sb.ok,s0.ok,qcr (λz3=>?_) (λz3=>?_)⟩
   ·rw[if_pos z3]at hb;exact⟨szl,hb rfl⟩
   rw[if_neg (by rw[z3];exact Zb)]at hg hb;obtain⟨p,rfl,hp'⟩:=qdx (k:=6) na;obtain⟨q,rfl,hq'⟩:=qdx (k:=6) nb;have i1:(10:Int)^6=1000000:=by decide
   have i2:(10:Int)^10=10000000000:=by decide
   have e1:Zd (nT p)=some p:=qcz (by omega);have e2:Zd (nT q)=some q:=qcz (by omega);rw[e1,e2]at hg hb;simp only[Jk]at hg hb;have q0:q≠0:=λz=>by rw[z]at z3;exact absurd z3 (by decide +kernel)
   have t1:=qew (qpw p q) (qqh q0);have t2:=qew (qpq p q) (qqh q0);have l1:=qfa (k:=6) (by decide) hp';have l2:=qfa (k:=6) (by decide) hq';refine⟨p,e1,Qk l1 (by decide),q,e2,Qk l2 (by decide),⟨q0,qai (qcl (by omega) (by omega)) (by decide)⟩,?_⟩;have st:=qcd (x:=qpg (shT p q) (shB p q)) 0 (qim (qcs.mpr λc hc=>by have:=qqg hc;omega));refine⟨shT p q,shB p q,rfl,⟨qai (qcl (by omega) (by omega)) (by decide),qai (qcl (by omega) (by omega)) (by decide)⟩,st.ok,sx.ok,qcr (λz4=>?_) (λz4=>?_)⟩
   ·rw[if_neg (by simpa using z4)]at hb;exact⟨szl,hb rfl⟩
   ·rw[if_pos (by simpa using z4)]at hg;exact hg _ rfl
  ·rw[if_neg (by rw[z];exact Zb)]at hg hb;generalize Qc "1" = b0 at one hg hb ⊢;have hb0:=one;have sb:=qcd (x:=b0) 0 (qim hb0.1);have fa:=ha.fig;have fb:=hb0.fig;unfold qsw at hg hb;refine⟨a,6,rfl,⟨ha.1,ha.2,fa.1,fa.2⟩,qcr (λz1=>?_) (λz1=>?_)⟩
   ·rw[if_neg (by rw[show qla a 6=false by simpa using z1];exact Zb)]at hb;exact⟨szl,hb rfl⟩
   have na:qla a 6=true:=by simpa using z1
   rw[if_pos na]at hg hb;refine⟨b0,6,rfl,⟨hb0.1,hb0.2,fb.1,fb.2⟩,qcr (λz2=>?_) (λz2=>?_)⟩
   ·rw[if_neg (by rw[show qla b0 6=false by simpa using z2];exact Zb)]at hb;exact⟨szl,hb rfl⟩
   have nb:qla b0 6=true:=by simpa using z2
   rw[if_pos nb]at hg hb;refine⟨sb.ok,s0.ok,qcr (λz3=>?_) (λz3=>?_)⟩
   ·rw[if_pos z3]at hb;exact⟨szl,hb rfl⟩
   rw[if_neg (by rw[z3];exact Zb)]at hg hb;obtain⟨p,rfl,hp'⟩:=qdx (k:=6) na;obtain⟨q,rfl,hq'⟩:=qdx (k:=6) nb;have i1:(10:Int)^6=1000000:=by decide
   have i2:(10:Int)^10=10000000000:=by decide
   have e1:Zd (nT p)=some p:=qcz (by omega);have e2:Zd (nT q)=some q:=qcz (by omega);rw[e1,e2]at hg hb;simp only[Jk]at hg hb;have q0:q≠0:=λz=>by rw[z]at z3;exact absurd z3 (by decide +kernel)
   have t1:=qew (qpw p q) (qqh q0);have t2:=qew (qpq p q) (qqh q0);have l1:=qfa (k:=6) (by decide) hp';have l2:=qfa (k:=6) (by decide) hq';refine⟨p,e1,Qk l1 (by decide),q,e2,Qk l2 (by decide),⟨q0,qai (qcl (by omega) (by omega)) (by decide)⟩,?_⟩;have st:=qcd (x:=qpg (shT p q) (shB p q)) 0 (qim (qcs.mpr λc hc=>by have:=qqg hc;omega));refine⟨shT p q,shB p q,rfl,⟨qai (qcl (by omega) (by omega)) (by decide),qai (qcl (by omega) (by omega)) (by decide)⟩,st.ok,sx.ok,qcr (λz4=>?_) (λz4=>?_)⟩
   ·rw[if_neg (by simpa using z4)]at hb;exact⟨szl,hb rfl⟩
   ·rw[if_pos (by simpa using z4)]at hg;exact hg _ rfl
def qdp(C:Addr)(ds:List Qh)(k:Qh->Prop)(e:Addr->Prop):Prop :=∃d,ds=[d]/\((qjx "str" d=false/\e C) \/ ∃x:Str,d = .str x/\qxy x /\
 ((zte x/\e C) \/ ∃V D0,zck x V/\(0<D0/\intBits D0<=4000 /\ ∀r∈V,∀z∈r,z.2∣D0) /\ ∀B,LcmB V B->(B>999999->e C)/\(B<=999999->k (qba B (V.map (qfr B))))))
def qcc(C:Addr)(ok:Qh->Bool)(ds:List Qh)(k:Qh->Prop)(e:Addr->Prop):Prop :=∃d,ds=[d]/\((qjx "str" d=false/\e C) \/ ∃x:Str,d = .str x/\qxy x /\
 ((zte x/\e C) \/ ∃V D0,zck x V/\(0<D0/\intBits D0<=4000 /\ ∀r∈V,∀z∈r,z.2∣D0) /\ ∀B,LcmB V B->((B>999999\/ok (qba B (V.map (qfr B)))=false)->e C)/\(B<=999999->ok (qba B (V.map (qfr B)))=true->k (qba B (V.map (qfr B))))))
def qiz:FnScope ["text","table"] ["text"] (defScope qkp):=sc0
def qta(F:Def K mg "read_table" qkp ["text"])(T:Txt w K mg cs)(O_table_of_shares:Ok P w K mg base "table_of_shares" 2 ["rows"] (PSp K qbz))(O_words_in_rows:OkX P w K mg base "words_in_rows" 1 ["text"] (XSp K (qch cs.NoText)))(O_read_share:OkX P w K mg base "read_share" 4 ["word"] (XSp K (qgx cs.NoText))):OkX P w K mg base "read_table" 5 ["text"] (XSp K (qdp cs.NoText)):=by
  refine F.vokX qiz (by rintro ds q e ⟨_,h,_⟩;rw[h];rfl) λf cdv A outer s H E hr hp ht ds k e h=>?_;obtain⟨d,rfl,h⟩:=h;refine⟨_,(qg (qiu (i:=1) qiz.nd (ztp O_table_of_shares.c hr.m (zfj (qyd (qlt (caps:=[]) (own:=["row"]) (ix:=[]) (λ_=>qkd) ⟨_,_,_,rfl,rfl,rfl⟩ rfl ⟨rfl,rfl,rfl,rfl,rfl,rfl⟩ (zes (qT hp O_words_in_rows.c hr.m (qa (qc 0) qe))) (λ_ _ _ _=>(qw (i:=0) (show Zm (["row"]:List Str) by decide))) (λ_ _ _ _ _ _ hB=>(qyd (qlt (caps:=[]) (own:=["word"]) (ix:=[]) hB ⟨_,_,_,rfl,rfl,rfl⟩ rfl ⟨rfl,rfl,rfl,rfl,rfl,rfl⟩ (zdr (qae (qc 0))) (λ_ _ _ _=>(qw (i:=0) (show Zm (["word"]:List Str) by decide))) (λ_ _ _ _ _ _ hB1=>(qT (λσ=>(hB1 σ).at) O_read_share.c hr.m (qa (qc 0) qe)))))))))))
   (qg (qN (qA zuh (qz (qc 1) ql) (qaj T.MOST_BOTTOM_)) (qg (qG ht rfl T.NoText_ T.NoText_x.exc (qa qd qe))
   (qk qj)) (qk qj))
   (qk (qm (qu (qc 1)))))),?_⟩
  rcases h with⟨h1,h⟩|⟨x,rfl,hx,h⟩
  ·exact⟨_,rfl,.inl ⟨h1,h⟩⟩
  have hbad:zte x->e cs.NoText:=λhb=>by
   rcases h with h|⟨V,D0,hV,_⟩
   ·exact h.2
   ·exact absurd hb (qvq hV)
  have hl:=zac x;have hx2:=hx.2;refine⟨_,rfl,.inr ⟨x,rfl,by omega,?_⟩⟩;refine qlo (RwT qhz dS .list) (qx (by simp;omega)) (λe =>∃s,e=[s]) ⟨_,rfl⟩ ?_ (λL hL hr=>?_)
  ·rintro d e' q hd ⟨s,rfl⟩ hq;obtain⟨ws,hws,rfl⟩:=Q1.mp hd;have:=hl.2 ws hws;refine qlo (WdT qhz dS) (qx (by simp;omega)) (λe =>∃s,e=[s]) ⟨_,rfl⟩ ?_ (λL hL hr=>?_)
   ·rintro d e' q hd ⟨s,rfl⟩ hq;obtain⟨w,hw,rfl⟩:=Q1.mp hd;exact⟨w,rfl,zfk hx hws hw,λr hr=>hq _ _ ⟨w,r,rfl,hr,rfl⟩ ⟨_,rfl⟩,λhn=>hbad ⟨ws,hws,w,hw,hn⟩⟩
   ·obtain⟨rs,h1,rfl⟩:=zep hL hr;exact hq _ _ ⟨ws,rs,rfl,h1,rfl⟩ ⟨_,rfl⟩
  ·have hr:=zoj hr;rcases h with⟨⟨r,hr1,w,hw,hn⟩,_⟩|⟨V,D0,hV,⟨d0,zd,dv⟩,h⟩
   ·obtain⟨i,hi⟩:=Vi hr1;obtain⟨rs,_,e⟩:=hr i r hi;exact absurd hn ((qez e).2.1 w hw)
   obtain⟨vl,vat⟩:=qma hV;refine⟨_,V,D0,rfl,⟨⟨L,rfl,by rw[hL,vl];simp,λi y hy=>?_⟩,by omega,λr hr'=>?_,d0,zd⟩,λB hB=>?_⟩
   ·have li:i<(qY x).length:=by
     have:=(Q6.mp hy).1;rw[hL]at this;simpa using this
    obtain⟨rs,e1,e2⟩:=hr i _ (Qp li);obtain⟨v,v1,v2⟩:=vat i _ (Qp li);rw[e1]at hy;cases hy;rw[e2]at v2;exact⟨v,v1,by rw[qkn v2];rfl⟩
   ·obtain⟨i,hi⟩:=Vi hr';have li:i<(qY x).length:=by rw[<- vl];exact(Q6.mp hi).1
    obtain⟨v,v1,v2⟩:=vat i _ (Qp li);rw[hi]at v1;cases v1;obtain⟨r1,r2,r3⟩:=qez v2;refine⟨by rw[<- r1];have:=hl.2 _ (Qdd li);omega,λz hz=>?_⟩;obtain⟨w,hw,e⟩:=r3 z hz;obtain⟨_,s1,s2,s3⟩:=qqq e;exact⟨s1,qai (qcl (by omega) (by omega)) (by decide),dv _ hr' z hz⟩
   ·exact⟨_,rfl,qod (λz=>⟨szl,(h B hB).1 z⟩) (λz=>(h B hB).2 (by omega))⟩
def qjj:FnScope ["text","table"] ["text"] (defScope qkr):=sc0
def qtl(F:Def K mg "read_glass" qkr ["text"])(T:Txt w K mg cs)(O_is_glass:Ok P w K mg base "is_glass" 5 ["thing"] (PSp K qhe))(O_read_table:OkX P w K mg base "read_table" 5 ["text"] (XSp K (qdp cs.NoText))):OkX P w K mg base "read_glass" 6 ["text"] (XSp K (qcc cs.NoText (qbc · 2 4))):=by
  refine F.vokX qjj (by rintro ds q e ⟨_,h,_⟩;rw[h];rfl) λf cdv A outer s H E hr hp ht ds k e h=>?_;obtain⟨d,rfl,h⟩:=h;refine⟨_,(qg (qiu (i:=1) qjj.nd (qT hp O_read_table.c hr.m (qa (qc 0) qe)))
   (qg (qN (qW (qV (qB O_is_glass.c hr.m (qa (qc 1) qe)))) (qg (qG ht rfl T.NoText_ T.NoText_x.exc (qa qd qe))
   (qk qj)) (qk qj))
   (qk (qm (qu (qc 1)))))),?_⟩
  refine⟨d,rfl,?_⟩;rcases h with h|⟨x,rfl,hx,h⟩
  ·exact .inl h
  refine .inr ⟨x,rfl,hx,?_⟩;rcases h with h|⟨V,D0,hV,hd,h⟩
  ·exact .inl h
  refine .inr ⟨V,D0,hV,hd,λB hB=>⟨λz=>(h B hB).1 (.inl z),λz=>?_⟩⟩;exact qcr (λy=>⟨szl,(h B hB).1 (.inr (by simpa using y))⟩) (λy=>(h B hB).2 z (by simpa using y))
def qef:DC
 |[d],q=>q (.bool (qbc d 1 12))
 |_,_=>False
def qtb:FnScope ["thing"] ["thing"] (defScope qky):=sc0
def qsz(F:Def K mg "is_dulling" qky ["thing"])(T:Txt w K mg cs)(O_is_table:Ok P w K mg base "is_table" 4 ["thing","fewest","most"] (PSp K qec)):Ok P w K mg base "is_dulling" 5 ["thing"] (PSp K qef):=by
  refine F.vok qtb (λds q h=>by unfold qef at h;split at h;all_goals first|rfl|exact h.elim) λf cdv A outer s H E hr ds q h=>?_
  match ds,h with
  |[d],h =>
  refine⟨_,(qm (qu (qB O_is_table.c hr.m (qa (qc 0) (qa ql (qa (qaj T.MOST_SIGNS_) qe)))))),?_⟩;exact⟨⟨by decide,by decide⟩,h⟩
def qga:FnScope ["text","table"] ["text"] (defScope qgy):=sc0
def qox(F:Def K mg "read_dulling" qgy ["text"])(T:Txt w K mg cs)(O_read_table:OkX P w K mg base "read_table" 5 ["text"] (XSp K (qdp cs.NoText)))(O_is_dulling:Ok P w K mg base "is_dulling" 5 ["thing"] (PSp K qef)):OkX P w K mg base "read_dulling" 6 ["text"] (XSp K (qcc cs.NoText (qbc · 1 12))):=by
  refine F.vokX qga (by rintro ds q e ⟨_,h,_⟩;rw[h];rfl) λf cdv A outer s H E hr hp ht ds k e h=>?_;obtain⟨d,rfl,h⟩:=h;refine⟨_,(qg (qiu (i:=1) qga.nd (qT hp O_read_table.c hr.m (qa (qc 0) qe)))
   (qg (qN (qW (qV (qB O_is_dulling.c hr.m (qa (qc 1) qe)))) (qg (qG ht rfl T.NoText_ T.NoText_x.exc (qa qd qe))
   (qk qj)) (qk qj))
   (qk (qm (qu (qc 1)))))),?_⟩
  refine⟨d,rfl,?_⟩;rcases h with h|⟨x,rfl,hx,h⟩
  ·exact .inl h
  refine .inr ⟨x,rfl,hx,?_⟩;rcases h with h|⟨V,D0,hV,hd,h⟩
  ·exact .inl h
  refine .inr ⟨V,D0,hV,hd,λB hB=>⟨λz=>(h B hB).1 (.inl z),λz=>?_⟩⟩;exact qcr (λy=>⟨szl,(h B hB).1 (.inr (by simpa using y))⟩) (λy=>(h B hB).2 z (by simpa using y))
def qid(w:Str):Option Int:=if qla w 7=true then(if(if(Zd w).getD 0<0 then -((Zd w).getD 0)else(Zd w).getD 0)>1000000 then none else some ((Zd w).getD 0))else none
def qfj(C:Addr)(ds:List Qh)(k:Qh->Prop)(e:Addr->Prop):Prop :=∃w:Str,ds=[.str w]/\AscW w/\(∀p,qid w=some p->k (.int p))/\(qid w=none->e C)
def qpp:FnScope ["word"] ["word"] (defScope qik):=sc0
def qph(F:Def K mg "read_payoff" qik ["word"])(T:Txt w K mg cs)(O_is_number:Ok P w K mg base "is_number" 2 ["word","most"] (PSp K qdh)):OkX P w K mg base "read_payoff" 3 ["word"] (XSp K (qfj cs.NoText)):=by
  refine F.vokX qpp (by rintro ds q e ⟨_,h,_⟩;rw[h];rfl) λf cdv A outer s H E hr hp ht ds k e h=>?_;obtain⟨w,rfl,hw,hg,hb⟩:=h;refine⟨_,(qg (qN (VW.pt (qee (qW (qV (qB O_is_number.c hr.m (qa (qc 0) (qa (qaj T.MOST_PAYOFF_FIGURES_) qe))))) (qde (qA zuh (qv zpj T.abs_ L2.boot_abs (qa (qav qsy T.int_ L2.boot_int (qa (qc 0) qe)) qe)) (qaj T.MOST_PAYOFF_))))) (qg (qG ht rfl T.NoText_ T.NoText_x.exc (qa qd qe))
   (qk qj)) (qk qj))
   (qk (qm (qu (qav qsy T.int_ L2.boot_int (qa (qc 0) qe)))))),?_⟩
  have fw:=hw.fig;unfold qid at hg hb;refine⟨w,7,rfl,⟨hw.1,hw.2,fw.1,fw.2⟩,qcr (λz=>?_) (λz=>?_)⟩
  ·rw[if_neg (by rw[show qla w 7=false by simpa using z];exact Zb)]at hb;exact⟨szl,hb rfl⟩
  have nw:qla w 7=true:=by simpa using z
  rw[if_pos nw]at hg hb;obtain⟨p,rfl,hp'⟩:=qdx (k:=7) nw;have i1:(10:Int)^7=10000000:=by decide
  have i2:(10:Int)^10=10000000000:=by decide
  have e1:Zd (nT p)=some p:=qcz (by omega);have l1:=qfa (k:=7) (by decide) hp';rw[e1]at hg hb;simp only[Jk]at hg hb;refine⟨p,e1,Qk l1 (by decide),qod (λz=>?_) (λz=>?_)⟩
  ·rw[if_pos z]at hb;exact⟨szl,hb rfl⟩
  ·rw[if_neg z]at hg;exact⟨p,e1,Qk l1 (by decide),hg _ rfl⟩
def zdl(Y:LL):Bool:=decide (2<=Y.length/\Y.length<=4/\(Y.headD []).length<=12)&&Y.all λr=>r.length==(Y.headD []).length
def qat(C:Addr)(ds:List Qh)(k:Qh->Prop)(e:Addr->Prop):Prop :=∃d,ds=[d]/\((qjx "str" d=false/\e C) \/ ∃x:Str,d = .str x/\qxy x /\
 (((∃r∈qY x,∃w∈r,qid w=none)/\e C) \/ ∃Y:LL,(qY x).map (λr=>r.map qid)=Y.map (λr=>r.map some)/\(zdl Y=false->e C)/\(zdl Y=true->k (.tuple (Y.map qji)))))
def qgb:FnScope ["text","rows"] ["text"] (defScope qgw):=sc0
def qow(F:Def K mg "read_payoffs" qgw ["text"])(T:Txt w K mg cs)(O_words_in_rows:OkX P w K mg base "words_in_rows" 1 ["text"] (XSp K (qch cs.NoText)))(O_read_payoff:OkX P w K mg base "read_payoff" 3 ["word"] (XSp K (qfj cs.NoText))):OkX P w K mg base "read_payoffs" 4 ["text"] (XSp K (qat cs.NoText)):=by
  refine F.vokX qgb (by rintro ds q e ⟨_,h,_⟩;rw[h];rfl) λf cdv A outer s H E hr hp ht ds k e h=>?_;obtain⟨d,rfl,h⟩:=h;refine⟨_,(qg (qiu (i:=1) qgb.nd (qyd (qlt (caps:=[]) (own:=["row"]) (ix:=[]) (λ_=>qkd) ⟨_,_,_,rfl,rfl,rfl⟩ rfl ⟨rfl,rfl,rfl,rfl,rfl,rfl⟩ (zes (qT hp O_words_in_rows.c hr.m (qa (qc 0) qe))) (λ_ _ _ _=>(qw (i:=0) (show Zm (["row"]:List Str) by decide))) (λ_ _ _ _ _ _ hB=>(zbu qgk T.tuple_ L2.boot_tuple (zfj (qyd (qlt (caps:=[]) (own:=["word"]) (ix:=[]) hB ⟨_,_,_,rfl,rfl,rfl⟩ rfl ⟨rfl,rfl,rfl,rfl,rfl,rfl⟩ (zdr (qae (qc 0))) (λ_ _ _ _=>(qw (i:=0) (show Zm (["word"]:List Str) by decide))) (λ_ _ _ _ _ _ hB1=>(qT (λσ=>(hB1 σ).at) O_read_payoff.c hr.m (qa (qc 0) qe)))))))))))
   (qg (qN (VW.pt (qee (qW (qsj zfq zfq (qaj T.FEWEST_STANDS_) (qv qbj T.len_ L2.boot_len (qa (qc 1) qe)) (qaj T.MOST_STANDS_))) (qde (qA zuh (qv qbj T.len_ L2.boot_len (qa (qz (qc 1) ql) qe)) (qaj T.MOST_ACTS_))))) (qg (qG ht rfl T.NoText_ T.NoText_x.exc (qa qd qe))
   (qk qj)) (qk qj))
   (qg (qN (qW (qV (qv (qtz rfl) T.all_ L2.boot_all (qa (qr (qP (caps:=["rows"]) (own:=["row"]) (ix:=[1]) rfl ⟨rfl,rfl,rfl,rfl,rfl,rfl⟩ (qae (qc 1)) (λ_ _ _ _=>(qw (i:=1) (show Zm (["rows","row"]:List Str) by decide))) (λ_ _ _ _=>(qds (qdk hr.units) (qv qbj T.len_ L2.boot_len (qa (qc 1) qe)) (qv qbj T.len_ L2.boot_len (qa (qz (qc 0) ql) qe)))))) qe)))) (qg (qG ht rfl T.NoText_ T.NoText_x.exc (qa qd qe))
   (qk qj)) (qk qj))
   (qk (qm (qu (qav qgk T.tuple_ L2.boot_tuple (qa (qc 1) qe)))))))),?_⟩
  rcases h with⟨h1,h⟩|⟨x,rfl,hx,h⟩
  ·exact⟨_,rfl,.inl ⟨h1,h⟩⟩
  have hbad:(∃r∈qY x,∃w∈r,qid w=none)->e cs.NoText:=λxx251=>by
   obtain⟨r,hr,w,hw,hn⟩:=xx251;rcases h with h|⟨Y,hY,_⟩
   ·exact h.2
   ·obtain⟨i,hi⟩:=Vi hr;obtain⟨v,_,e⟩:=(qma hY).2 i r hi;exact absurd hn ((qez e).2.1 w hw)
  have hl:=zac x;have hx2:=hx.2;refine⟨_,rfl,.inr ⟨x,rfl,by omega,?_⟩⟩;refine qlo (RwT qid Yp .tuple) (qx (by simp;omega)) (λe =>∃s,e=[s]) ⟨_,rfl⟩ ?_ (λL hL hr=>?_)
  ·rintro d e' q hd ⟨s,rfl⟩ hq;obtain⟨ws,hws,rfl⟩:=Q1.mp hd;have:=hl.2 ws hws;refine qlo (WdT qid Yp) (qx (by simp;omega)) (λe =>∃s,e=[s]) ⟨_,rfl⟩ ?_ (λL hL hr=>?_)
   ·rintro d e' q hd ⟨s,rfl⟩ hq;obtain⟨w,hw,rfl⟩:=Q1.mp hd;exact⟨w,rfl,zfk hx hws hw,λr hr=>hq _ _ ⟨w,r,rfl,hr,rfl⟩ ⟨_,rfl⟩,λhn=>hbad ⟨ws,hws,w,hw,hn⟩⟩
   ·obtain⟨rs,h1,rfl⟩:=zep hL hr;exact hq _ _ ⟨ws,rs,rfl,h1,rfl⟩ ⟨_,rfl⟩
  have hr:=zoj hr;rcases h with⟨⟨r,hr1,w,hw,hn⟩,_⟩|⟨Y,hY,hno,hyes⟩
  ·obtain⟨i,hi⟩:=Vi hr1;obtain⟨rs,_,e⟩:=hr i r hi;exact absurd hn ((qez e).2.1 w hw)
  obtain⟨yl,yat⟩:=qma hY;have eL:L=Y.map qji:=Qcm λi=>by
   rcases Nat.lt_or_ge i (qY x).length with li|li
   ·obtain⟨rs,e1,e2⟩:=hr i _ (Qp li);obtain⟨v,v1,v2⟩:=yat i _ (Qp li);rw[e2]at v2;rw[e1,Qg,v1,qkn v2];rfl
   ·rw[Qak (by rw[hL];simpa using li),Qak (by rw[Qj,yl];exact li)]
  subst eL;have lY:(Y.map qji).length=Y.length:=Qj ..;unfold zdl at hno hyes;have ne:Y≠[]:=λz=>by
   rw[z]at yl;exact(qrz x).1 (Qbv.mp yl.symm)
  cases Y with
  |nil=>exact absurd rfl ne
  |cons r0 Y0 =>
  have le0:((r0.map Yp).length:Int)=(r0.length:Nat):=by rw[Qj]
  have a0:atI ((r0::Y0).map qji) 0=some (.tuple (r0.map Yp)):=qK (j:=0) rfl;have l0:((((r0::Y0).map qji).length:Nat):Int)=((r0::Y0).length:Nat):=by rw[lY]
  have no : ¬ (2<=(r0::Y0).length/\(r0::Y0).length<=4/\r0.length<=12)->e cs.NoText:=λz=>hno (by
   rw[decide_eq_false (by exact z)];rfl)
  refine qcr (λc1=>qcr (λc2=>⟨szl,no λz=>?_⟩) (λc2=>?_)) (λc1=>⟨szl,no λz=>?_⟩)
  ·rw[Qcn,decide_eq_false_iff_not]at c2;omega
  ·rw[decide_eq_true_eq]at c1;rw[Bool.not_eq_false',decide_eq_true_eq]at c2;refine⟨.tuple (r0.map Yp),a0,qod (λz=>⟨szl,no λy=>by omega⟩) (λc3=>?_)⟩;have hy:(r0::Y0).length<=4:=by omega
   refine qO ((r0::Y0).map λr=>Qbi (r.length==r0.length)) (by simp) (qx (by rw[Qj];omega)) (λe =>∃s,e=[.val (.list ((r0::Y0).map qji)),s]) ⟨_,rfl⟩ ?_ ?_
   ·rintro i x ys e hx hys ⟨s,rfl⟩;rw[Qg]at hx;cases er:(r0::Y0)[i]? with
    |none=>rw[er]at hx;cases hx
    |some r =>
     rw[er]at hx;cases hx;refine⟨.tuple (r0.map Yp),a0,rfl,rfl,qy ?_ hys,_,rfl⟩;rw[Qg,er,qil,Qj,Qj];show some (Qbi (r.length==r0.length))=some (Qbi (decide ((r.length:Int)=(r0.length:Int))))
     congr 2
     rw[Qbw];simp;omega
   ·have d1:decide (2<=(r0::Y0).length/\(r0::Y0).length<=4/\r0.length<=12)=true:=decide_eq_true ⟨by omega,by omega,by omega⟩;refine⟨(r0::Y0).map λr=>r.length==r0.length,by rw[Zi];rfl,qcr (λc4=>⟨szl,hno ?_⟩) (λc4=>hyes ?_)⟩
    ·show(decide (2<=(r0::Y0).length/\(r0::Y0).length<=4/\r0.length<=12)&&_)=false;rw[d1,Yq];simpa using c4
    ·show(decide (2<=(r0::Y0).length/\(r0::Y0).length<=4/\r0.length<=12)&&_)=true;rw[d1,Yq];simpa using c4
  ·rw[decide_eq_false_iff_not]at c1;omega
def qdo(C:Addr)(es:DS)(ds:List Qh)(q:Qh->Prop)(e:Addr->Prop):Prop :=∃s,ds=[.str s]/\((atE es s=none/\e C) \/ ∃d,atE es s=some d/\q d)
def qhq:FnScope ["self","name"] ["self","name"] (defScope qdj):=sc0
def qhm(F:MDef K cs.Desk "glass_named" "Desk.glass_named" qdj ["self","name"])(T:Txt w K mg cs):OkMX P w K mg base cs.Desk "glass_named" 1 ["self","name"] (zfi K cs.Desk "glasses" (qdo cs.NoName)):=by
  refine F.vokR qhq (λes ds q e xx252=>by obtain⟨_,h,_⟩:=xx252;rw[h];rfl) λf cdv A outer s H E hr hp ht a g es ds q e h=>?_;obtain⟨nm,rfl,h⟩:=h;refine⟨_,(qg (qN (qup 0 hr.u2 T.Desk_c T.Desk_n_glasses (qc 1)) (qg (qG ht rfl T.NoName_ T.NoName_x.exc (qa qd qe))
   (qk qj)) (qk qj))
   (qk (qm (qu (zgy 0 hr.u2 T.Desk_c T.Desk_n_glasses (qc 1)))))),?_⟩
  rcases h with⟨h1,h⟩|⟨d,h1,h⟩
  ·refine⟨nm,false,a,g,es,rfl,rfl,?_⟩;rw[h1];exact qho ⟨szl,h⟩
  ·refine⟨nm,false,a,g,es,rfl,rfl,?_⟩;rw[h1];exact qdl ⟨false,a,g,es,rfl,rfl,nm,d,rfl,h1,h⟩
def xdg(V:List (List (Int×Int)))(D0:Int):Prop:=0<D0/\intBits D0<=4000 /\ ∀r∈V,∀z∈r,z.2∣D0
def qau(cN cT:Addr)(es:DS)(ds:List Qh)(q:Qh->Prop)(e:Addr->Prop):Prop :=∃kind word:Str,ds=[.str kind,.str word] /\
 ((kind=Qc "name" /\ qdo cN es [.str word] q e)\/(kind=Qc "number" /\ ∃n,Zd word=some n/\word.length<=640/\q (.int n))\/(kind=Qc "glass" /\ qcc cT (qbc · 2 4) [.str word] q e) \/
  (kind=Qc "dulling" /\ qcc cT (qbc · 1 12) [.str word] q e)\/(kind=Qc "payoffs" /\ qat cT [.str word] q e)\/(kind=Qc "new" /\ q (.str word)))
def qhp:FnScope ["self","kind","word"] ["self","kind","word"] (defScope qdm):=sc0
def qhs(F:MDef K cs.Desk "thing_meant" "Desk.thing_meant" qdm ["self","kind","word"])(T:Txt w K mg cs)(O_read_glass:OkX P w K mg base "read_glass" 6 ["text"] (XSp K (qcc cs.NoText (qbc · 2 4))))(O_read_dulling:OkX P w K mg base "read_dulling" 6 ["text"] (XSp K (qcc cs.NoText (qbc · 1 12))))(O_read_payoffs:OkX P w K mg base "read_payoffs" 4 ["text"] (XSp K (qat cs.NoText)))(O_Desk_glass_named:OkMX P w K mg base cs.Desk "glass_named" 1 ["self","name"] (zfi K cs.Desk "glasses" (qdo cs.NoName))):OkMX P w K mg base cs.Desk "thing_meant" 7 ["self","kind","word"] (zfi K cs.Desk "glasses" (qau cs.NoName cs.NoText)):=by
  refine F.vokR qhp (λes ds q e xx253=>by obtain⟨_,_,h,_⟩:=xx253;rw[h];rfl) λf cdv A outer s H E hr hp ht a g es ds q e h=>?_;obtain⟨kd,wd,rfl,h⟩:=h;refine⟨_,(qg (qN (qA (qdk hr.units) (qc 1) qd) (qg (qaz (qsn 0 hp O_Desk_glass_named.c T.Desk_c hr.m (qa (qc 2) qe)))
   (qk qj)) (qk qj))
   (qg (qex (qbw (qA (qdk hr.units) (qc 1) qd) (qm (qu (qav qsy T.int_ L2.boot_int (qa (qc 2) qe)))) qj))
   (qg (qN (qA (qdk hr.units) (qc 1) qd) (qg (qaz (qT hp O_read_glass.c hr.m (qa (qc 2) qe)))
   (qk qj)) (qk qj))
   (qg (qN (qA (qdk hr.units) (qc 1) qd) (qg (qaz (qT hp O_read_dulling.c hr.m (qa (qc 2) qe)))
   (qk qj)) (qk qj))
   (qg (qN (qA (qdk hr.units) (qc 1) qd) (qg (qaz (qT hp O_read_payoffs.c hr.m (qa (qc 2) qe)))
   (qk qj)) (qk qj))
   (qk (qm (qu (qc 2))))))))),?_⟩
  have shN:=qcd (x := "name") 0 (by decide +kernel);have shB:=qcd (x := "number") 0 (by decide +kernel);have shG:=qcd (x := "glass") 0 (by decide +kernel);have shD:=qcd (x := "dulling") 0 (by decide +kernel);have shP:=qcd (x := "payoffs") 0 (by decide +kernel);have shW:=qcd (x := "new") 0 (by decide +kernel);rcases h with⟨rfl,h⟩|⟨rfl,h⟩|⟨rfl,h⟩|⟨rfl,h⟩|⟨rfl,h⟩|⟨rfl,h⟩
  ·exact⟨shN.ok,shN.ok,qqv shN.refl ⟨false,a,g,es,rfl,rfl,h⟩⟩
  ·exact⟨shB.ok,shN.ok,qca (by decide +kernel) ⟨shB.ok,shB.ok,qqv shB.refl (let ⟨n,h1,h2,h3⟩:=h; ⟨n,h1,h2,h3⟩)⟩⟩
  ·exact⟨shG.ok,shN.ok,qca (by decide +kernel) ⟨shG.ok,shB.ok,qca (by decide +kernel) ⟨shG.ok,shG.ok,qqv shG.refl h⟩⟩⟩
  ·exact⟨shD.ok,shN.ok,qca (by decide +kernel) ⟨shD.ok,shB.ok,qca (by decide +kernel) ⟨shD.ok,shG.ok,qca (by decide +kernel) ⟨shD.ok,shD.ok,qqv shD.refl h⟩⟩⟩⟩
  ·exact⟨shP.ok,shN.ok,qca (by decide +kernel) ⟨shP.ok,shB.ok,qca (by decide +kernel) ⟨shP.ok,shG.ok,qca (by decide +kernel) ⟨shP.ok,shD.ok,qca (by decide +kernel) ⟨shP.ok,shP.ok,qqv shP.refl h⟩⟩⟩⟩⟩
  ·exact⟨shW.ok,shN.ok,qca (by decide +kernel) ⟨shW.ok,shB.ok,qca (by decide +kernel) ⟨shW.ok,shG.ok,qca (by decide +kernel) ⟨shW.ok,shD.ok,qca (by decide +kernel) ⟨shW.ok,shP.ok,qca (by decide +kernel) h⟩⟩⟩⟩⟩
def qjg(C:Addr)(es:DS)(ds:List Qh)(q:Qh->Prop)(e:Addr->Prop):Prop :=∃s,ds=[.str s]/\((atE es s=none/\20<=es.length/\e C)\/((atE es s).isSome=true\/es.length<20)/\q .none)
def qjm:FnScope ["self","name"] ["self","name"] (defScope qeb):=sc0
def qjn(F:MDef K cs.Desk "check_room" "Desk.check_room" qeb ["self","name"])(T:Txt w K mg cs):OkMX P w K mg base cs.Desk "check_room" 1 ["self","name"] (zfi K cs.Desk "glasses" (qjg cs.Full)):=by
  refine F.vokR qjm (λes ds q e xx254=>by obtain⟨_,h,_⟩:=xx254;rw[h];rfl) λf cdv A outer s H E hr hp ht a g es ds q e h=>?_;obtain⟨nm,rfl,h⟩:=h;refine⟨_,(qg (qN (VW.pt (zxm (qup 0 hr.u2 T.Desk_c T.Desk_n_glasses (qc 1)) (zrq (qA xcj (ziy 0 T.len_ T.Desk_c T.Desk_n_glasses) (qaj T.MOST_NAMES_))))) (qg (qG ht rfl T.Full_ T.Full_x.exc (qa qd qe))
   (qk qj)) (qk qj))
   (qk qj)),?_⟩
  rcases h with⟨h1,h2,h⟩|⟨h1,h⟩
  ·refine⟨nm,false,a,g,es,rfl,rfl,?_⟩;rw[h1];refine qho ⟨false,a,g,es,rfl,?_⟩;exact qod (λ_=>⟨szl,h⟩) (λz=>absurd (show(20:Int)<=es.length by omega) z)
  ·refine⟨nm,false,a,g,es,rfl,rfl,?_⟩;cases e1:(atE es nm).isSome with
   |true=>exact qdl h
   |false =>
    refine qho ⟨false,a,g,es,rfl,?_⟩;rw[e1]at h1;have:es.length<20:=h1.resolve_left (by simp);exact qod (λz=>absurd z (by omega)) (λ_=>h)
def zrt:Str:=Qc "abcdefghijklmnopqrstuvwxyz"
def qfz(kd w:Str):Bool:=if(Zc kd).eqv (.str (Qc "new"))=true then mdo w zrt&&decide ((w.length:Int)<=8)else !(Zc kd).eqv (.str (Qc "number"))||qla w 6
def qby(ds:List Qh)(k:Qh->Prop):Prop :=∃kd w:Str,ds=[.str kd,.str w]/\(Qal kd=true/\AscW w)/\k (.bool (qfz kd w))
def qjp:FnScope ["kind","word"] ["kind","word"] (defScope qdz):=sc0
def qjq(F:Def K mg "is_well_written" qdz ["kind","word"])(T:Txt w K mg cs)(O_is_made_of:Ok P w K mg base "is_made_of" 1 ["word","letters"] (PSp K qel))(O_is_number:Ok P w K mg base "is_number" 2 ["word","most"] (PSp K qdh)):Ok P w K mg base "is_well_written" 3 ["kind","word"] (PSp K qby):=by
  refine F.vok qjp (by rintro ds q ⟨_,_,h,_⟩;rw[h];rfl) λf cdv A outer s H E hr ds k h=>?_;obtain⟨kd,w,rfl,⟨ok,aw⟩,h⟩:=h;refine⟨_,(qi (qbw (qA (qdk hr.units) (qc 0) qd) (qm (qu (qpd (qB O_is_made_of.c hr.m (qa (qc 1) (qa (zay T.LETTERS_) qe))) (qjk (qds zfq (qv qbj T.len_ L2.boot_len (qa (qc 1) qe)) (qaj T.MOST_LETTERS_)))))) qj)
   (qm (qu (zvp (qds (qmt hr.units) (qc 0) qd) (qjk (qB O_is_number.c hr.m (qa (qc 1) (qa (qaj T.MOST_FIGURES_) qe)))))))),?_⟩
  have sk:=qcd (x:=kd) 0 ok;have sn:=qcd (x := "new") 0 (by decide +kernel);have sb:=qcd (x := "number") 0 (by decide +kernel);have fw:=aw.fig;unfold qfz at h;refine⟨sk.ok,sn.ok,qcr (λz=>?_) (λz=>?_)⟩
  ·rw[if_pos z]at h;refine⟨w,_,rfl,aw,?_⟩;refine qcr (λm=>?_) (λm=>?_)
   ·have m:mdo w zrt=true:=m;rw[m]at h;exact⟨qH aw.2 (by decide),h⟩
   ·have m:mdo w zrt=false:=m;rw[m]at h;exact h
  ·rw[if_neg (by rw[z];decide)]at h;refine⟨sk.ok,sb.ok,?_⟩;refine qcr (λm=>?_) (λm=>?_)
   ·rw[m]at h;exact h
   ·rw[m]at h;exact⟨w,6,rfl,⟨aw.1,aw.2,fw.1,fw.2⟩,h⟩
def znm(x y:Str)(k:Int):Q8 y (Yl x y k)=x:=by
 unfold Yl;split
 ·rfl
 ·split
  ·rfl
  ·rw[<- V2];exact StrLaws.glued_between_self x y _
def zba(x y:Str)(k:Nat):(Zr x (Q5 x y 0 x.length (Qha x k)) y.length).length<=k+1/\(Yl x y k).length<=k+1:=by
 have e:Qha x (k:Int)=k:=by unfold Qha;rw[if_neg (by omega)];rfl
 have a:(Zr x (Q5 x y 0 x.length (Qha x k)) y.length).length<=k+1:=by
  rw[J9,e];have:=Qgt x y 0 x.length k;omega
 refine⟨a,?_⟩;unfold Yl;split
 ·simp
 ·split
  ·simp
  ·exact a
def zwx{x:Str}(h:AscW x){k:Nat}(hk:k<=10):qsl x (Qc " ") k:=by
 obtain⟨a,b⟩:=zba x (Qc " ") k;refine⟨⟨?_,rfl⟩,qH h.2 (by decide),qH (Qk a (Yt hk 1)) (by decide),qH (Qk b (Yt hk 1)) (by decide)⟩;rw[Bool.or_eq_false_iff];exact⟨decide_eq_false (by omega),decide_eq_false (by omega)⟩
def zrh{x w:Str}{k:Int}(h:AscW x)(hw:w∈Yl x (Qc " ") k):AscW w:=by
 refine⟨qcs.mpr λc hc=>qcs.mp h.1 c ?_,Qk (PyProof.Rows.partMax_short hw) h.2⟩;rw[<- znm x (Qc " ") k];exact qhl hw hc
def ztn{x w:Str}(h:AscW x)(hw:w∈Z8 x (Qc " ")):AscW w:=by
 refine⟨qcs.mpr λc hc=>qcs.mp h.1 c ?_,Qk (qck x _ (by decide) w hw) h.2⟩;rw[<- Qah x (Qc " ")];exact qhl hw hc
def qqe{s:Str}{fm:List Str}:∀{l:List (Str×List Str)},atL l s=some fm->(s,fm)∈l
 |[],h=>by cases h
 |e::l,h=>by
  unfold atL at h;split at h
  ·rename_i z;have:e=(s,fm):=by rw[<- z,<- Za h]
   rw[this];simp
  ·exact Qt _ (qqe h)
def FRM:List (Str×List Str):=[("glass",["new","glass"]),("dull",["new","name","dulling"]),("beside",["new","name","name"]),("join",["new","name","number","number"]),("least",["new","name"]),("show",["name"]),("best",["name","payoffs"]),("compare",["name","name"]),("by",["name","name"]),("alike",["name","name"]),("curve",["name"])]
def TXS:List Str:=["glass","dulling","payoffs"]
def qxg(fm:List Str):Str:=(fm.getLast?).getD Zf
def hd1(x:Str):Str:=(qet x (Qc " ")).headD Zf
def qdf(x:Str)(fm:List Str):List Str:=if TXS.any (· == qxg fm)=true then Yl x (Qc " ") fm.length else Z8 x (Qc " ")
def zou{s:Str}{fm:List Str}(h:atL FRM s=some fm):fm≠[]/\fm.length<=4 /\ ∀w∈fm,Qal w=true:=by
 have:FRM.all (λp => !p.2.isEmpty&&(decide (p.2.length<=4)&&p.2.all Qal))=true:=by decide +kernel
 have:=Q4.mp this _ (qqe h);simp only[Qy,Qcn,decide_eq_true_eq,Q4]at this;exact⟨λz=>by rw[z]at this;exact absurd this.1 (by simp),this.2.1,this.2.2⟩
def zru{fm:List Str}(h:fm≠[]):atI (fm.map Zc) (-1)=some (.str (qxg fm)):=by
 refine atI_last ?_;rw[Qj,Qg,<- List.getLast?_eq_getElem?];unfold qxg;cases e:fm.getLast? with
 |none=>exact absurd (List.getLast?_eq_none_iff.mp e) h
 |some a=>rfl
def xbu(x:Str):atI ((qet x (Qc " ")).map Zc) 0=some (.str (hd1 x)):=by
 unfold hd1 qet;split <;> exact qM _ _
def zin{x:Str}{fm:List Str}(h:AscW x):∀w∈qdf x fm,AscW w:=λw hw=>by
 unfold qdf at hw;split at hw
 ·exact zrh h hw
 ·exact ztn h hw
def zqy{n d:Nat}{v:Int}(h:0<=v):HT.sIx n d (some v)=min v.toNat n:=by
 show(if v<0 then _ else _)=_;rw[if_neg (by omega)]
def qws{α:Type}(l:List α){i:Int}(h:0<=i):zkb l (some i) none=l.drop i.toNat:=by
 unfold zkb;rw[zqy h,HT.sIx_none];by_cases h1:i.toNat<=l.length
 ·grind[Nat.min_eq_left,Vm]
 ·rw[Nat.min_eq_right (by omega),Qgj (Qn _),Qgj (by omega)];simp
def qtx(x:Str)(fm:List Str):Bool:=decide ((qdf x fm).length=fm.length+1)&&(fm.zip (qdf x fm).tail).all λp=>qfz p.1 p.2
def qnh(C:Addr)(ds:List Qh)(q:Qh->Prop)(e:Addr->Prop):Prop :=∃d,ds=[d]/\((qjx "str" d=false/\e C) \/ ∃x:Str,d = .str x/\AscW x/\((atL FRM (hd1 x)=none/\e C) \/ ∃fm,atL FRM (hd1 x)=some fm/\((qtx x fm=false/\e C)\/(qtx x fm=true/\q (.list ((qdf x fm).map .str))))))
def qqt{C:Addr}{q:Qh->Prop}{e:Addr->Prop}{fm W:List Str}{s0 s1:Sl}(f4:fm.length<=4)(fo:∀w∈fm,Qal w=true)(wl:W.length<=902)(wa:∀w∈W,AscW w)(h:((decide (W.length=fm.length+1)&&(fm.zip W.tail).all λp=>qfz p.1 p.2)=false/\e C)\/((decide (W.length=fm.length+1)&&(fm.zip W.tail).all λp=>qfz p.1 p.2)=true/\q (.list (W.map .str)))):
 zkg (wIf (qrb (wOp dNe (qgp zpy (qeu (qui 3) zca)) (wOp xcl (qgp zpy (qeu (qui 2) zca)) (wC (.int 1))))) (zkg (zea C (qeu (wC (.str (Qc "the row has too few or too many words"))) zca) λC _=>e C) qyg) qyg)
 (zkg (wIf (xcz (qrb (qgp xch (qeu (wL (zju [] 2 (zvg (qui 2) (wL (xco (qui 3) (zvb (wC (.int 1))) zfn))) (zup 2 (zdv (qxs 0) (zdv (qxs 1) zvd))) (qgp qby (qeu (qui 0) (qeu (qui 1) zca))))) zca)))) (zkg (zea C (qeu (wC (.str (Qc "a new name has one to eight small letters, and a number at most six figures"))) zca) λC _=>e C) qyg) qyg) (zta (qui 3)))
 { nx:=λ_=>q .none,rt:=λr _=>q r.data } [s0,s1,.val (.tuple (fm.map .str)),.val (.list (W.map .str))]:=by
  have lm:(((W.map Zc).length:Nat):Int)=(W.length:Int):=by rw[Qj]
  have lf:(((fm.map Zc).length:Nat):Int)=(fm.length:Int):=by rw[Qj]
  refine⟨rfl,rfl,qey (λz=>?_) (λz=>?_)⟩
  ·rcases h with⟨_,h⟩|⟨h1,_⟩
   ·exact⟨szl,h⟩
   ·rw[Qy,decide_eq_true_eq]at h1;exact absurd (by rw[lm,lf];omega) z
  ·rw[lm,lf]at z;have z:W.length=fm.length+1:=by omega
   rw[decide_eq_true z,Yq]at h;refine λr hr=>?_;have hr:r=W.tail.map Zc:=by
    have hr:r=zkb (W.map Zc) (some 1) none:=hr;rw[hr,qws _ (by decide),Qlu];simp
   subst hr;refine qO ((fm.zip W.tail).map λp=>Qbi (qfz p.1 p.2)) ?_ (qx ?_) (λe =>∃s t,e=[s,t]) ⟨_,_,rfl⟩ ?_ ?_
   ·simp[qhj]
   ·simp;omega
   ·rintro i x ys e1 hx hys ⟨s,t,rfl⟩;obtain⟨y1,y2,h1,h2,rfl⟩:=zaw hx;rw[Qg]at h1 h2;cases g1:fm[i]? with
    |none=>rw[g1]at h1;cases h1
    |some kd =>
     cases g2:W.tail[i]? with
     |none=>rw[g2]at h2;cases h2
     |some w =>
      rw[g1]at h1;rw[g2]at h2;cases h1;cases h2;refine⟨rfl,rfl,kd,w,rfl,⟨fo kd (Qz g1),wa w (List.mem_of_mem_tail (Qz g2))⟩,qy ?_ hys,_,_,rfl⟩;rw[Qg,Qbb (z:=(kd,w)) |>.mpr ⟨g1,g2⟩];rfl
   ·refine⟨(fm.zip W.tail).map λp=>qfz p.1 p.2,by rw[Zi];rfl,?_⟩;have ea:((fm.zip W.tail).map λp=>qfz p.1 p.2).all id=(fm.zip W.tail).all λp=>qfz p.1 p.2:=by rw[Qcw];rfl
    rw[ea];rcases h with⟨h1,h⟩|⟨h1,h⟩
    ·rw[h1];exact qho ⟨szl,h⟩
    ·rw[h1];exact qdl h
def qed:FnScope ["row","first","form","words"] ["row"] (defScope qrk):=sc0
def qze(F:Def K mg "words_of" qrk ["row"])(T:Txt w K mg cs)(O_is_well_written:Ok P w K mg base "is_well_written" 3 ["kind","word"] (PSp K qby)):OkX P w K mg base "words_of" 4 ["row"] (XSp K (qnh cs.NoRow)):=by
  refine F.vokX qed (by rintro ds q e ⟨_,h,_⟩;rw[h];rfl) λf cdv A outer s H E hr hp ht ds q e h=>?_;obtain⟨d,rfl,h⟩:=h;refine⟨_,(qg (qN (qW (qV (qlf T.isinstance_ T.str_ L2.boot_str (qc 0)))) (qg (qG ht rfl T.NoRow_ T.NoRow_x.exc (qa qd qe))
   (qk qj)) (qk qj))
   (qg (qex (qt (i:=1) qed.nd (qz (zex (qc 0) qd) ql)))
   (qg (qN (zrs T.FORMS_d T.FORMS_ (qc 1)) (qg (qG ht rfl T.NoRow_ T.NoRow_x.exc (qa qd qe))
   (qk qj)) (qk qj))
   (qg (qex (qt (i:=2) qed.nd (zfh T.FORMS_d T.FORMS_ (qc 1))))
   (qg (qex (qt (i:=3) qed.nd (qfc (qA zzo (qz (qc 2) (zon ql)) (zmz T.TEXTS_ T.TEXTS_t)) (zic (qc 0) qd (qv qbj T.len_ L2.boot_len (qa (qc 2) qe))) (qrw (qc 0) qd))))
   (qg (qN (qA (qmt hr.units) (qv qbj T.len_ L2.boot_len (qa (qc 3) qe)) (qf qh (qv qbj T.len_ L2.boot_len (qa (qc 2) qe)) ql)) (qg (qG ht rfl T.NoRow_ T.NoRow_x.exc (qa qd qe))
   (qk qj)) (qk qj))
   (qg (qN (qW (qV (qv (qtz rfl) T.all_ L2.boot_all (qa (qr (qP (caps:=[]) (own:=["kind","word"]) (ix:=[]) rfl ⟨rfl,rfl,rfl,rfl,rfl,rfl⟩ (zel T.zip_ (qc 2) (qr (qlr (qc 3) (qlz ql) qlv))) (λ_ _ _ _=>(qts (n:=2) rfl (qax (qw (i:=0) (show Zm (["kind","word"]:List Str) by decide)) (qax (qw (i:=1) (show Zm (["kind","word"]:List Str) by decide)) qix)))) (λ_ _ _ _=>(qB O_is_well_written.c hr.m (qa (qc 0) (qa (qc 1) qe)))))) qe)))) (qg (qG ht rfl T.NoRow_ T.NoRow_x.exc (qa qd qe))
   (qk qj)) (qk qj))
   (qk (qm (qu (qc 3))))))))))),?_⟩
  rcases h with⟨h1,h⟩|⟨x,rfl,ax,h⟩
  ·cases d <;> first|exact⟨szl,h⟩|cases h1
  refine⟨_,rfl,_,rfl,⟨rfl,qH ax.2 (by decide)⟩,_,xbu x,?_⟩;rcases h with⟨h1,h⟩|⟨fm,hf,h⟩
  ·refine⟨_,rfl,?_⟩;have h1:atL [("glass",["new","glass"]),("dull",["new","name","dulling"]),("beside",["new","name","name"]),("join",["new","name","number","number"]),("least",["new","name"]),("show",["name"]),("best",["name","payoffs"]),("compare",["name","name"]),("by",["name","name"]),("alike",["name","name"]),("curve",["name"])] (hd1 x)=none:=h1;rw[h1];exact qho ⟨szl,h⟩
  obtain⟨f0,f4,fo⟩:=zou hf;have hf':atL [("glass",["new","glass"]),("dull",["new","name","dulling"]),("beside",["new","name","name"]),("join",["new","name","number","number"]),("least",["new","name"]),("show",["name"]),("best",["name","payoffs"]),("compare",["name","name"]),("by",["name","name"]),("alike",["name","name"]),("curve",["name"])] (hd1 x)=some fm:=hf;refine⟨_,rfl,?_⟩;rw[hf'];refine qdl ⟨_,fm,rfl,hf',?_⟩;have wl:(qdf x fm).length<=902:=by
   have:=ax.2;unfold qdf;split
   ·have:=(zba x (Qc " ") fm.length).2;omega
   ·have:=(qfy x (Qc " ")).2;omega
  have wa:=zin (fm:=fm) ax;refine⟨_,zru f0,_,TXS,rfl,rfl,?_⟩;unfold qtx at h;refine qcr (λz=>?_) (λz=>?_)
  ·have ew:qdf x fm=Yl x (Qc " ") ((fm.map Zc).length:Nat):=by rw[Qj];exact if_pos z
   refine⟨_,rfl,_,_,rfl,rfl,zwx ax (by rw[Qj];omega),?_⟩;rw[ew]at h wl wa;exact qqt f4 fo wl wa h
  ·have ew:qdf x fm=Z8 x (Qc " "):=if_neg (by rw[show TXS.any (· == qxg fm)=false from z];decide);have z1:=qfy x (Qc " ");refine⟨_,rfl,_,rfl,⟨rfl,qH ax.2 (by decide),qH (Qk z1.1 (Yt ax.2 2)) (by decide),qH (Qk z1.2 (Yt ax.2 2)) (by decide)⟩,?_⟩;rw[ew]at h wl wa;exact qqt f4 fo wl wa h
def qdw(ds:List Qh)(q:Qh->Prop):Prop :=∃b r R,ds=[qba b (r::R)]/\q (.int (r.length:Nat))
def zlg:FnScope ["glass"] ["glass"] (defScope zgd):=sc0
def zkz(F:Def K mg "signs" zgd ["glass"])(T:Txt w K mg cs):Ok P w K mg base "signs" 1 ["glass"] (PSp K qdw):=by
  refine F.vok zlg (by rintro ds q ⟨_,_,_,h,_⟩;rw[h];rfl) λf cdv A outer s H E hr ds q h=>?_;obtain⟨b,r,R,rfl,h⟩:=h;refine⟨_,(qm (qu (qv qbj T.len_ L2.boot_len (qa (qz (qz (qc 0) ql) ql) qe)))),?_⟩;refine⟨_,rfl,_,qM _ _,?_⟩;have e:(r.map Yp).length=r.length:=by simp
  show q (.int ((r.map Yp).length:Nat));rw[e];exact h
def qht(C:Addr)(ds:List Qh)(q:Qh->Prop)(e:Addr->Prop):Prop :=∃(b:Int)(r0:LI)(R0:LL)(c:Int)(D:LL),ds=[qba b (r0::R0),qba c D]/\r0.length≠D.length/\e C
def qvw:FnScope ["table","dulling"] ["table","dulling"] (defScope qnm):=sc0
def qvo(F:Def K mg "passed_on" qnm ["table","dulling"])(T:Txt w K mg cs)(O_signs:Ok P w K mg base "signs" 1 ["glass"] (PSp K qdw)):OkX P w K mg base "passed_on" 2 ["table","dulling"] (XSp K (qht cs.NoFit)):=by
  refine F.vokX qvw (by rintro ds q e ⟨_,_,_,_,_,h,_⟩;rw[h];rfl) λf cdv A outer s H E hr hp ht ds q e h=>?_;obtain⟨b,r0,R0,c,D,rfl,hne,h⟩:=h;refine⟨_,(qg (qN (qA (qmt hr.units) (qB O_signs.c hr.m (qa (qc 0) qe)) (qv qbj T.len_ L2.boot_len (qa (qz (qc 1) ql) qe))) (qg (qG ht rfl T.NoFit_ T.NoFit_x.exc (qa qd qe))
   (qk qj)) (qk qj))
   (qk qcy)),?_⟩
  refine⟨b,r0,R0,rfl,_,rfl,rfl,rfl,qey (λ_=>⟨szl,h⟩) (λz=>?_)⟩;exfalso;apply hne;simp at z;omega
def zhc:FnScope ["glass","dulling"] ["glass","dulling"] (defScope zbh):=sc0
def zit(F:Def K mg "dulled" zbh ["glass","dulling"])(T:Txt w K mg cs)(O_passed_on:OkX P w K mg base "passed_on" 2 ["table","dulling"] (XSp K (qht cs.NoFit))):OkX P w K mg base "dulled" 3 ["glass","dulling"] (XSp K (qht cs.NoFit)):=by
  refine F.vokX zhc (by rintro ds q e ⟨_,_,_,_,_,h,_⟩;rw[h];rfl) λf cdv A outer s H E hr hp ht ds q e h=>?_;obtain⟨b,r0,R0,c,D,rfl,hne,h⟩:=h;refine⟨_,(qg (qaz (qT hp O_passed_on.c hr.m (qa (qc 0) (qa (qc 1) qe))))
   (qk qj)),?_⟩
  exact⟨b,r0,R0,c,D,rfl,hne,h⟩
def qie(ds:List Qh)(q:Qh->Prop):Prop :=∃b R,ds=[qba b R]/\q (.int (R.length:Nat))
def zhv:FnScope ["glass"] ["glass"] (defScope zav):=sc0
def zhs(F:Def K mg "stands" zav ["glass"])(T:Txt w K mg cs):Ok P w K mg base "stands" 1 ["glass"] (PSp K qie):=by
  refine F.vok zhv (by rintro ds q ⟨_,_,h,_⟩;rw[h];rfl) λf cdv A outer s H E hr ds q h=>?_;obtain⟨b,R,rfl,h⟩:=h;refine⟨_,(qm (qu (qv qbj T.len_ L2.boot_len (qa (qz (qc 0) ql) qe)))),?_⟩;refine⟨_,rfl,?_⟩;have e:(R.map qji).length=R.length:=by simp
  show q (.int ((R.map qji).length:Nat));rw[e];exact h
def qmz(C:Addr)(ds:List Qh)(q:Qh->Prop)(e:Addr->Prop):Prop :=∃b R c S,ds=[qba b R,qba c S]/\((R.length=S.length/\q .none)\/(R.length≠S.length/\e C))
def qgg:FnScope ["one","other"] ["one","other"] (defScope qcx):=sc0
def qgf(F:Def K mg "check_alike_stands" qcx ["one","other"])(T:Txt w K mg cs)(O_stands:Ok P w K mg base "stands" 1 ["glass"] (PSp K qie)):OkX P w K mg base "check_alike_stands" 2 ["one","other"] (XSp K (qmz cs.NoFit)):=by
  refine F.vokX qgg (by rintro ds q e ⟨_,_,_,_,h,_⟩;rw[h];rfl) λf cdv A outer s H E hr hp ht ds q e h=>?_;obtain⟨b,R,c,S,rfl,h⟩:=h;refine⟨_,(qg (qN (qA (qmt hr.units) (qB O_stands.c hr.m (qa (qc 0) qe)) (qB O_stands.c hr.m (qa (qc 1) qe))) (qg (qG ht rfl T.NoFit_ T.NoFit_x.exc (qa qd qe))
   (qk qj)) (qk qj))
   (qk qj)),?_⟩
  rcases h with⟨hl,h⟩|⟨hl,h⟩
  ·refine⟨b,R,rfl,c,S,rfl,rfl,rfl,qey (λz=>?_) (λ_=>h)⟩;exfalso;apply z;rw[hl]
  ·refine⟨b,R,rfl,c,S,rfl,rfl,rfl,qey (λ_=>⟨szl,h⟩) (λz=>?_)⟩;exfalso;apply hl;omega
def qzr(C:Addr)(ds:List Qh)(q:Qh->Prop)(e:Addr->Prop):Prop :=∃k:Int,ds=[.int k]/\((k<=12/\q .none)\/(12<k/\e C))
def qgh:FnScope ["many"] ["many"] (defScope qct):=sc0
def qge(F:Def K mg "check_not_too_many" qct ["many"])(T:Txt w K mg cs):OkX P w K mg base "check_not_too_many" 1 ["many"] (XSp K (qzr cs.TooMany)):=by
  refine F.vokX qgh (by rintro ds q e ⟨_,h,_⟩;rw[h];rfl) λf cdv A outer s H E hr hp ht ds q e h=>?_;obtain⟨k,rfl,h⟩:=h;refine⟨_,(qg (qN (qA zuh (qc 0) (qaj T.MOST_SIGNS_)) (qg (qG ht rfl T.TooMany_ T.TooMany_x.exc (qa qd qe))
   (qk qj)) (qk qj))
   (qk qj)),?_⟩
  rcases h with⟨hl,h⟩|⟨hl,h⟩
  ·exact qod (λz=>by omega) (λ_=>h)
  ·exact qod (λ_=>⟨szl,h⟩) (λz=>by omega)
def qwi(C C2:Addr)(ds:List Qh)(q:Qh->Prop)(e:Addr->Prop):Prop :=∃(b:Int)(r0:LI)(R0:LL)(c:Int)(s0:LI)(S0:LL),ds=[qba b (r0::R0),qba c (s0::S0)]/\(r0.length<=12/\s0.length<=12)/\((R0.length≠S0.length/\e C)\/(R0.length=S0.length/\12<r0.length*s0.length/\e C2))
def zhf:FnScope ["one","other","rows"] ["one","other"] (defScope zbl):=sc0
def zgs(F:Def K mg "beside" zbl ["one","other"])(T:Txt w K mg cs)(O_signs:Ok P w K mg base "signs" 1 ["glass"] (PSp K qdw))(O_check_alike_stands:OkX P w K mg base "check_alike_stands" 2 ["one","other"] (XSp K (qmz cs.NoFit)))(O_check_not_too_many:OkX P w K mg base "check_not_too_many" 1 ["many"] (XSp K (qzr cs.TooMany))):OkX P w K mg base "beside" 3 ["one","other"] (XSp K (qwi cs.NoFit cs.TooMany)):=by
  refine F.vokX zhf (by rintro ds q e ⟨_,_,_,_,_,_,h,_⟩;rw[h];rfl) λf cdv A outer s H E hr hp ht ds q e h=>?_;obtain⟨b,r0,R0,c,s0,S0,rfl,⟨l1,l2⟩,h⟩:=h;refine⟨_,(qg (qfb (qT hp O_check_alike_stands.c hr.m (qa (qc 0) (qa (qc 1) qe))))
   (qg (qfb (qT hp O_check_not_too_many.c hr.m (qa (qf qeg (qB O_signs.c hr.m (qa (qc 0) qe)) (qB O_signs.c hr.m (qa (qc 1) qe))) qe)))
   (qk qcy))),?_⟩
  rcases h with⟨h1,h⟩|⟨h1,h2,h⟩
  ·exact⟨b,_,c,_,rfl,.inr ⟨by simpa using h1,h⟩⟩
  ·refine⟨b,_,c,_,rfl,.inl ⟨by simpa using h1,?_⟩⟩;have sm:∀n:Nat,n<=12->intBits (n:Int)<=4000:=λn hn=>qai (qcl (by omega) (by omega)) (by decide);refine⟨b,r0,R0,rfl,c,s0,S0,rfl,zch (sm _ l1) (sm _ l2),_,rfl,.inr ⟨?_,h⟩⟩;rw[<- Qku];omega
def qsc(C:Addr)(ds:List Qh)(q:Qh->Prop)(e:Addr->Prop):Prop :=∃(b:Int)(r0:LI)(R0:LL)(i j:Int),ds=[qba b (r0::R0),.int i,.int j] /\ ¬ (0<=i/\i<j/\j<r0.length)/\e C
def zht:FnScope ["glass","i","j"] ["glass","i","j"] (defScope qzs):=sc0
def zij(F:Def K mg "joined" qzs ["glass","i","j"])(T:Txt w K mg cs)(O_is_whole:Ok P w K mg base "is_whole" 1 ["thing"] (PSp K qce))(O_signs:Ok P w K mg base "signs" 1 ["glass"] (PSp K qdw)):OkX P w K mg base "joined" 2 ["glass","i","j"] (XSp K (qsc cs.NoFit)):=by
  refine F.vokX zht (by rintro ds q e ⟨_,_,_,_,_,h,_⟩;rw[h];rfl) λf cdv A outer s H E hr hp ht ds q e h=>?_;obtain⟨b,r0,R0,i,j,rfl,hne,h⟩:=h;refine⟨_,(qg (qN (VW.pt (qee (qW (qV (qB O_is_whole.c hr.m (qa (qc 1) qe)))) (qee (qW (qV (qB O_is_whole.c hr.m (qa (qc 2) qe)))) (qde (qW (zjb zfq zsc zsc ql (qc 1) (qc 2) (qB O_signs.c hr.m (qa (qc 0) qe)))))))) (qg (qG ht rfl T.NoFit_ T.NoFit_x.exc (qa qd qe))
   (qk qj)) (qk qj))
   (qk qcy)),?_⟩
  refine qod (λa1=>qod (λa2=>⟨b,r0,R0,rfl,?_⟩) (λ_=>⟨szl,h⟩)) (λ_=>⟨szl,h⟩);have hf:decide (j<(r0.length:Int))=false:=decide_eq_false (λz=>hne ⟨a1,a2,z⟩);show if(!decide (j<(r0.length:Int)))=true then _ else _
  rw[hf];exact⟨szl,h⟩
def qjv(ds:List Qh)(q:Qh->Prop):Prop :=∃(d:Qh)(r:LI)(g:Int),ds=[d,.int g]/\(qaa d=some (r.map .int)/\r.length<=900/\0<g/\intBits g<=9000)/\q (qji (r.map λn=>n/g))
def zcx:FnScope ["row","common"] ["row","common"] (defScope qux):=sc0
def zbv(F:Def K mg "divided" qux ["row","common"])(T:Txt w K mg cs):Ok P w K mg base "divided" 1 ["row","common"] (qtu K qjv):=by
  refine F.vokN zcx (by rintro ds q ⟨_,_,_,h,_⟩;rw[h];rfl) λf cdv A outer s H E hr ds q h=>?_;obtain⟨d,r,g,rfl,⟨e,hl,g0,g1⟩,h⟩:=h;refine⟨_,(qm (zui (zqf T.tuple_ (qr (qP (caps:=["common"]) (own:=["number"]) (ix:=[1]) rfl ⟨rfl,rfl,rfl,rfl,rfl,rfl⟩ (qae (qc 0)) (λ_ _ _ _=>(qw (i:=1) (show Zm (["common","number"]:List Str) by decide))) (λ_ _ _ _=>(qf qot (qc 1) (qc 0)))))))),?_⟩;refine qaw e (qO ((r.map λn=>n/g).map .int) (by simp) (qx (by simp;omega)) (λe =>∃s,e=[.val (.int g),s]) ⟨_,rfl⟩ ?_ ?_)
  ·rintro i x ys e hx hys ⟨s,rfl⟩;obtain⟨z,rfl,hz,_⟩:=zgh hx;refine⟨⟨g0,g1⟩,qy ?_ hys,_,rfl⟩;rw[Qg,Qg,hz];rfl
  ·exact⟨Q4.mpr λx hx=>by obtain⟨n,_,rfl⟩:=Q1.mp hx;rfl,_,rfl,h⟩
def qfp(ds:List Qh)(q:Qh->Prop):Prop :=∃(b:Int)(d:Qh)(R:LL)(n:Nat),ds=[.int b,d]/\(RowsD d R/\Tab b R n/\R≠[]/\R.length<=900/\n<=900/\intBits b<=9000)/\q (qba (b/qgl R) (zsx R (qgl R)))
def zmr{g b:Int}{m:Nat}(hb:0<b)(h:g∣b)(hz:intBits b<=m):intBits g<=m:=by
 refine Jr ?_ hz;exact Qft (by omega) (Qcx.mpr h)
def qfl:FnScope ["bottom","rows","common"] ["bottom","rows"] (defScope qgt):=sc0
def qou(F:Def K mg "lowest_table" qgt ["bottom","rows"])(T:Txt w K mg cs)(O_common_divisor:Ok P w K mg base "common_divisor" 2 ["rows"] (PSp K qbd))(O_divided:Ok P w K mg base "divided" 1 ["row","common"] (qtu K qjv)):Ok P w K mg base "lowest_table" 3 ["bottom","rows"] (PSp K qfp):=by
  refine F.vok qfl (by rintro ds q ⟨_,_,_,_,h,_⟩;rw[h];rfl) λf cdv A outer s H E hr ds q h=>?_;obtain⟨b,d,R,n,rfl,⟨hR,hT,hn,hl,hn2,hz⟩,h⟩:=h;refine⟨_,(qi (qt (i:=2) qfl.nd (qB O_common_divisor.c hr.m (qa (qc 1) qe)))
   (qm (qu (qac (qa (qf qot (qc 0) (qc 2)) (qa (qav qgk T.tuple_ L2.boot_tuple (qa (qr (qP (caps:=["common"]) (own:=["row"]) (ix:=[2]) rfl ⟨rfl,rfl,rfl,rfl,rfl,rfl⟩ (qae (qc 1)) (λ_ _ _ _=>(qw (i:=1) (show Zm (["common","row"]:List Str) by decide))) (λ_ _ _ _=>(xec (zuy O_divided.c hr.m (qa (qc 1) (qa (qc 0) qe))))))) qe)) qe)))))),?_⟩
  have g0:=hT.gpos hn;have g1:intBits (qgl R:Int)<=9000:=zmr (by have:=hT.pos;omega) (hT.gdvd hn) hz;refine⟨d,R,rfl,hR,⟨by omega,g1⟩,?_⟩;obtain⟨l,e,_⟩:=id hR;refine qaw e (qO ((zsx R (qgl R)).map qji) (by unfold zsx;simp[hR.len e]) (qx (by unfold zsx;simp;omega)) (λe =>∃s,e=[.val (.int (qgl R)),s]) ⟨_,rfl⟩ ?_ ⟨szl,h⟩);rintro i x ys e' hx hys ⟨s,rfl⟩;obtain⟨r,hr,er⟩:=hR.get e hx;refine⟨x,r,qgl R,rfl,⟨er,by rw[hT.len r (qgj hr)];exact hn2,by omega,g1⟩,qy ?_ hys,_,rfl⟩;unfold zsx;rw[Qg,Qg,hr];rfl
def qle(p n:Nat):LI:=(Z9 n).map λk=>if k=p then 1 else 0
def qno(ds:List Qh)(q:Qh->Prop):Prop :=∃p n:Nat,ds=[.int p,.int n]/\n<=900/\q (qji (qle p n))
def qzm:FnScope ["place","many"] ["place","many"] (defScope qrc):=sc0
def qyv(F:Def K mg "one_sign" qrc ["place","many"])(T:Txt w K mg cs):Ok P w K mg base "one_sign" 1 ["place","many"] (PSp K qno):=by
  refine F.vok qzm (by rintro ds q ⟨_,_,h,_⟩;rw[h];rfl) λf cdv A outer s H E hr ds q h=>?_;obtain⟨p,n,rfl,hn,h⟩:=h;refine⟨_,(qm (qu (qav qgk T.tuple_ L2.boot_tuple (qa (qr (qP (caps:=["place"]) (own:=["sign"]) (ix:=[0]) rfl ⟨rfl,rfl,rfl,rfl,rfl,rfl⟩ (qbs T.range_ (qc 1)) (λ_ _ _ _=>(qw (i:=1) (show Zm (["place","sign"]:List Str) by decide))) (λ_ _ _ _=>(qfc (qA (qdk hr.units) (qc 1) (qc 0)) ql ql)))) qe)))),?_⟩;refine⟨⟨by omega,by omega⟩,qO ((qle p n).map .int) (by unfold qle;simp[qbg]) (qx (by unfold qle;simp;omega)) (λe =>∃s,e=[.val (.int p),s]) ⟨_,rfl⟩ ?_ h⟩;rintro i x ys e hx hys ⟨s,rfl⟩;obtain⟨hi,rfl⟩:=qcm hx;have hi':i<n:=by omega
  refine⟨rfl,rfl,qsv (λz=>?_) (λz=>?_)⟩
  ·refine⟨qy ?_ hys,_,rfl⟩;unfold qle;rw[Qg,Qg,Vt hi'];have:i=p:=by omega
   simp[this]
  ·refine⟨qy ?_ hys,_,rfl⟩;unfold qle;rw[Qg,Qg,Vt hi'];have : ¬ i=p:=by omega
   simp[this]
def qbb(D:LL)(k:Nat):LI:=D.map λr=>(r[k]?).getD 0
def zti{D:LL}{k:Nat}{x:Int}(h:x∈qbb D k):x=0 \/ ∃d∈D,x∈d:=by
 obtain⟨d,hd,rfl⟩:=Q1.mp h;grind
def zpv{x b:Int}{m:Nat}(h0:0<=x)(h:x<=b)(hz:intBits b<=m):intBits x<=m:=Jr (by omega) hz
def Tab.bits{b:Int}{R:LL}{n m:Nat}{r:LI}{x:Int}(h:Tab b R n)(hz:intBits b<=m)(hr:r∈R)(hx:x∈r):intBits x<=m:=zpv (h.le hr hx).1 (h.le hr hx).2 hz
def zql{D:LL}{k i:Nat}{d:LI}{x:Int}(h:D[i]?=some d)(hx:d[k]?=some x):(qbb D k)[i]?=some x:=by
 unfold qbb;grind
def zsi(D:LL)(k:Nat):(qbb D k).length=D.length:=by simp[qbb]
def qnb(ds:List Qh)(q:List Qh->Prop):Prop :=∃(d:Qh)(R:LL)(k:Nat),ds=[d,.int k]/\(RowsD d R/\R.length<=900 /\ ∀r∈R,k<r.length)/\q ((qbb R k).map .int)
def zhp:FnScope ["rows","place"] ["rows","place"] (defScope zbd):=sc0
def zhh(F:Def K mg "column" zbd ["rows","place"])(T:Txt w K mg cs):Ok P w K mg base "column" 1 ["rows","place"] (FSp K qnb):=by
  refine F.vokF zhp (by rintro ds q ⟨_,_,_,h,_⟩;rw[h];rfl) λf cdv A outer s H E hr ds q h=>?_;obtain⟨d,R,k,rfl,⟨hR,hl,hk⟩,h⟩:=h;refine⟨_,(qm (qxa (qP (caps:=["place"]) (own:=["row"]) (ix:=[1]) rfl ⟨rfl,rfl,rfl,rfl,rfl,rfl⟩ (qae (qc 0)) (λ_ _ _ _=>(qw (i:=1) (show Zm (["place","row"]:List Str) by decide))) (λ_ _ _ _=>(qz (qc 1) (qc 0)))))),?_⟩;obtain⟨l,e,_⟩:=id hR;refine qaw e (qO ((qbb R k).map .int) (by simp[qbb,hR.len e]) (qx (by simp[qbb];omega)) (λe =>∃s,e=[.val (.int k),s]) ⟨_,rfl⟩ ?_ ?_)
  ·rintro i x ys e' hx hys ⟨s,rfl⟩;obtain⟨r,hr,er⟩:=hR.get e hx;have hk':=hk r (qgj hr);have hx:=Qp hk';refine qwx er (qK (by rw[Qg,hx];rfl)) ⟨qy ?_ hys,_,rfl⟩;rw[Qg,zql hr hx];rfl
  ·exact⟨_,rfl,h⟩
def nrm(c:LI):LI:=c.map λn=>n/(qev 0 c:Int)
structure Col(c:LI):Prop where
 nn:∀n∈c,0<=n
 nz:∃n∈c,n≠0
theorem qvh:∀{c:LI},qev 0 c=0 ->∀n∈c,n=0:=λ{c} h n hn=>by
 have:=qfe c 0 n hn;rw[h]at this;grind
def Col.g{c:LI}(h:Col c):0<qev 0 c:=by
 rcases Qii (qev 0 c)with e|e
 ·obtain⟨n,hn,z⟩:=h.nz;grind[qvh]
 ·exact e
theorem zen{c:LI}:(nrm c).map (λn=>(qev 0 c:Int)*n)=c:=by
 unfold nrm;rw[Zi];grind[qda,Qhp,qfe]
def Col.nrm{c:LI}(h:Col c):Col (nrm c):=by
 have g:=h.g;constructor
 ·intro n hn;obtain⟨m,hm,rfl⟩:=Q1.mp hn;exact Int.ediv_nonneg (h.nn m hm) (by omega)
 ·obtain⟨n,hn,z⟩:=h.nz;refine⟨n/(qev 0 c:Int),Q1.mpr ⟨n,hn,rfl⟩,λe=>z ?_⟩;have:=Qhp (qfe c 0 n hn);grind
def jc(R:LL)(G:List Nat):LI:=R.map λr=>(G.map λi=>(r[i]?).getD 0).sum
theorem zyp(R:LL)(j:Nat):jc R [j]=qbb R j:=by
 unfold jc qbb;refine Y2 λr _=>?_;simp
theorem ztw(R:LL)(j:Nat)(G:List Nat):jc R (j::G)=Qly (· + ·) (qbb R j) (jc R G):=by
 unfold jc qbb
 induction R with
 |nil=>rfl
 |cons r R ih =>
  show((j::G).map λi=>(r[i]?).getD 0).sum::_=(_+_)::_;grind
def zdo(R:LL)(G:List Nat):(jc R G).length=R.length:=Qj _
theorem zha(w:LI)(a b:Int):Qly (· + ·) (w.map λn=>a*n) (w.map λn=>b*n)=w.map λn=>(a+b)*n:=by
 induction w with
 |nil=>rfl
 |cons x w ih=>rw[Qr,Qr,List.zipWith_cons_cons,ih,Qr,Int.add_mul]
def zlm{R:LL}{κ:LI}:∀{G:List Nat},G≠[]->(∀i∈G,Col (qbb R i)/\nrm (qbb R i)=κ) ->∃k:Nat,0<k/\jc R G=κ.map λn=>(k:Int)*n
 |[i],_,h=>by
  obtain⟨c,e⟩:=h i (by simp);exact⟨qev 0 (qbb R i),c.g,by grind[zyp,zen]⟩
 |i::j::G,_,h=>by
  obtain⟨k,hk,e⟩:=zlm (G:=j::G) (by simp) λx hx=>h x (Qt _ hx);obtain⟨c,e2⟩:=h i (by simp);refine⟨qev 0 (qbb R i)+k,by omega,?_⟩;grind[zen,ztw,zha]
def sgD(G:List Nat):List Qh:=G.map λi => .int ((i:Nat):Int)
def ztz{G:List Nat}{i:Nat}{x:Qh}(h:(sgD G)[i]?=some x):∃s:Nat,G[i]?=some s/\x = .int (s:Nat):=by
 unfold sgD at h;grind
def qzw(G:List Nat):qaa (.list (sgD G))=some ((G.map λi=>((i:Nat):Int)).map .int):=by
 unfold sgD qaa;rw[Zi];rfl
def qyc{G:List Nat}{s:Nat}:((G.map λi=>((i:Nat):Int)).any (· == (s:Int)))=true↔s∈G:=by
 grind
def zvk(r:LI)(G:List Nat):Int:=(G.map λi=>(r[i]?).getD 0).sum
def grD(Gs:List (List Nat)):List Qh:=Gs.map λG => .list (sgD G)
def zeq{Gs:List (List Nat)}{i:Nat}{x:Qh}(h:(grD Gs)[i]?=some x):∃G,Gs[i]?=some G/\x = .list (sgD G):=by
 unfold grD at h;grind
def grs(R:LL):Nat->List (LI×List Nat)
 |0=>[]
 |i+1=>if(qbb R i).any (· != 0)=true then zcp (grs R i) (nrm (qbb R i)) i else grs R i
def qsx(R:LL)(n i:Nat):List Nat:=((grs R n)[i]?.getD ([],[])).2
theorem zle{gs:List (LI×List Nat)}{k:LI}{s:Nat}:(zcp gs k s).length<=gs.length+1:=by
 unfold zcp;grind
def qxd(R:LL):∀i,(grs R i).length<=i
 |0=>Qn _
 |i+1=>by
  have:=qxd R i;unfold grs;grind[Qk,zle]
def qsq(R:LL):∀i,∀x∈grs R i,x.2.length<=i
 |0,x,hx=>by cases hx
 |i+1,x,hx=>by
  unfold grs at hx;split at hx
  ·unfold zcp at hx;split at hx
   ·obtain⟨y,hy,rfl⟩:=Q1.mp hx;have:=qsq R i y hy;grind
   ·rcases Zz.mp hx with z|z
    ·have:=qsq R i x z;omega
    grind
  ·have:=qsq R i x hx;omega
def qxf(R:LL):∀i,∀x∈grs R i,∀s∈x.2,s<i
 |0,x,hx=>by cases hx
 |i+1,x,hx=>by
  unfold grs at hx;split at hx
  ·unfold zcp at hx;split at hx
   ·obtain⟨y,hy,rfl⟩:=Q1.mp hx;have ih:=qxf R i y hy;grind
   ·rcases Zz.mp hx with z|z
    ·intro s hs;have:=qxf R i x z s hs;omega
    grind
  ·intro s hs;have:=qxf R i x hx s hs;omega
def zgl{K:Qa}{F:Hp}(G:List Nat):Iss K F (sgD G) (grL G):=by
 have e:=qry (K:=K) (H:=F) (G.map λi=>((i:Nat):Int));unfold sgD grL;rw[Zi,Zi]at e;exact e
def FL(F H:Hp)(ks:List Grp):Hp:=λb=>if b∈ks.map (·.2.1)then H b else F b
section
variable{F H:Hp}{ks:List Grp}
def FL.le(h:∀x∈ks,F x.2.1=none):Same F (FL F H ks):=λb o e=>by
 unfold FL;rw[if_neg λz=>?_]
 ·exact .of e
 grind
def FL.fh(h:Same F H):Same (FL F H ks) H:=λb o e=>by
 unfold FL at e;split at e
 ·exact .of e
 ·exact h b o e
def FL.at{x:Grp}{o:HO}(hx:x∈ks)(h:H x.2.1=some o):FL F H ks x.2.1=some o:=by
 unfold FL;grind
end
def qco(ds:List Qh)(q:Qh->Prop):Prop :=∃(d g:Qh)(r:LI)(G:List Nat),ds=[d,g]/\(qaa d=some (r.map .int)/\qaa g=some (sgD G)/\G.length<=900 /\ ∀i∈G,i<r.length)/\q (.int (zvk r G))
def qmm:FnScope ["row","group"] ["row","group"] (defScope qfi):=sc0
def qly(F:Def K mg "joined_number" qfi ["row","group"])(T:Txt w K mg cs):Ok P w K mg base "joined_number" 1 ["row","group"] (PSp K qco):=by
  refine F.vok qmm (by rintro ds q ⟨_,_,_,_,h,_⟩;rw[h];rfl) λf cdv A outer s H E hr ds q h=>?_;obtain⟨d,g,r,G,rfl,⟨e1,e2,hl,hk⟩,h⟩:=h;refine⟨_,(qm (qu (qv (zjx rfl) T.sum_ L2.boot_sum (qa (qr (qP (caps:=["row"]) (own:=["sign"]) (ix:=[0]) rfl ⟨rfl,rfl,rfl,rfl,rfl,rfl⟩ (qae (qc 1)) (λ_ _ _ _=>(qw (i:=1) (show Zm (["row","sign"]:List Str) by decide))) (λ_ _ _ _=>(qz (qc 0) (qc 1))))) qe)))),?_⟩;refine qaw e2 (qO ((G.map λi=>(r[i]?).getD 0).map .int) (by simp[sgD]) (qx (by simp;omega)) (λe =>∃s,e=[.val d,s]) ⟨_,rfl⟩ ?_ ⟨_,rfl,h⟩);rintro i x ys e hx hys ⟨s,rfl⟩;obtain⟨k,hi,rfl⟩:=ztz hx;have hk':=hk k (qgj hi);have hx:=Qp hk';refine qwx e1 (qK (by rw[Qg,hx];rfl)) ⟨qy ?_ hys,_,rfl⟩;rw[Qg,Qg,hi];show some (Yp ((r[k]?).getD 0))=_;rw[hx];rfl
def qcp(ds:List Qh)(q:List Qh->Prop):Prop :=∃(b:Int)(R:LL)(g:Qh)(G:List Nat),ds=[qba b R,g]/\(R.length<=900/\qaa g=some (sgD G)/\G.length<=900 /\ ∀r∈R,∀i∈G,i<r.length)/\q ((jc R G).map .int)
def qmb:FnScope ["glass","group"] ["glass","group"] (defScope qfs):=sc0
def qms(F:Def K mg "joined_column" qfs ["glass","group"])(T:Txt w K mg cs)(O_joined_number:Ok P w K mg base "joined_number" 1 ["row","group"] (PSp K qco)):Ok P w K mg base "joined_column" 2 ["glass","group"] (FSp K qcp):=by
  refine F.vokF qmb (by rintro ds q ⟨_,_,_,_,h,_⟩;rw[h];rfl) λf cdv A outer s H E hr ds q h=>?_;obtain⟨b,R,g,G,rfl,⟨hR,eg,hl,hk⟩,h⟩:=h;refine⟨_,(qm (qxa (qP (caps:=["group"]) (own:=["row"]) (ix:=[1]) rfl ⟨rfl,rfl,rfl,rfl,rfl,rfl⟩ (qae (qz (qc 0) ql)) (λ_ _ _ _=>(qw (i:=1) (show Zm (["group","row"]:List Str) by decide))) (λ_ _ _ _=>(qB O_joined_number.c hr.m (qa (qc 1) (qa (qc 0) qe))))))),?_⟩;refine⟨_,rfl,?_⟩;refine qO ((jc R G).map .int) (by simp[zdo]) (qx (by simp[zdo];omega)) (λe =>∃s,e=[.val g,s]) ⟨_,rfl⟩ ?_ ⟨_,rfl,h⟩;rintro i x ys e hx hys ⟨s,rfl⟩;rw[Qg]at hx;cases er:R[i]? with
  |none=>rw[er]at hx;cases hx
  |some r =>
   rw[er]at hx;cases hx;refine⟨_,_,r,G,rfl,⟨rfl,eg,hl,hk r (qgj er)⟩,qy ?_ hys,_,rfl⟩;unfold jc;rw[Qg,Qg,er];rfl
structure GrsOk(R:LL)(gs:List (LI×List Nat)):Prop where
 ky:(gs.map (·.1)).Nodup
 ne:∀x∈gs,x.2≠[]
 me:∀x∈gs,∀s∈x.2,Col (qbb R s)/\nrm (qbb R s)=x.1
def GrsOk.put{R:LL}{gs:List (LI×List Nat)}{s:Nat}(h:GrsOk R gs)(c:Col (qbb R s)):GrsOk R (zcp gs (nrm (qbb R s)) s):=by
 unfold zcp;split
 ·have key:∀y:LI×List Nat,(if y.1=nrm (qbb R s)then(y.1,y.2++[s])else y).1=y.1:=λy=>by split <;> rfl
  refine⟨?_,λx hx=>?_,λx hx=>?_⟩
  ·rw[Zi];have:gs.map ((·.1) ∘ λx=>if x.1=nrm (qbb R s)then(x.1,x.2++[s])else x)=gs.map (·.1):=Y2 λy _=>key y;rw[this];exact h.ky
  ·obtain⟨y,hy,rfl⟩:=Q1.mp hx;split
   ·simp
   ·exact h.ne y hy
  ·obtain⟨y,hy,rfl⟩:=Q1.mp hx;split
   ·rename_i e;intro t ht;rcases Zz.mp ht with z|z
    ·exact h.me y hy t z
    grind
   ·exact h.me y hy
 ·rename_i na;have two:∀{P:LI×List Nat->Prop},(∀x∈gs,P x)->P (nrm (qbb R s),[s]) ->∀x∈gs++[(nrm (qbb R s),[s])],P x:=λa b x hx=>by
   grind
  refine⟨?_,two h.ne (by simp),two h.me λt ht=>?_⟩
  ·rw[V1,Qr,Qbl,Qfe];refine⟨h.ky,by simp,λa ha b hb=>?_⟩;grind
  grind
def qeq(ds:List Qh)(q:Qh->Prop):Prop :=∃(b:Int)(R:LL)(n:Nat),ds=[qba b R]/\(Tab b R n/\R≠[]/\R.length<=900/\n<=60/\intBits b<=9000/\(grs R n).length=2) /\ ∀p,PmN (grs R n).length p->zcr (qbe (λi=>jc R (qsx R n i)) R.length) p (grs R n).length->q (.list (grD (p.toList.map λi=>qsx R n i)))
def xbs{b:Int}{R:LL}{n i:Nat}(hT:Tab b R n)(ea:(qbb R i).any (· != 0)=true)(bz:intBits b<=9000):0<(qev 0 (qbb R i):Int)/\intBits (qev 0 (qbb R i):Int)<=9000:=by
 obtain⟨x,hx,z⟩:=Vk.mp ea;have z:x≠0:=by simpa using z
 have dv:=qfe (qbb R i) 0 x hx;have hz:intBits x<=9000:=by
  rcases zti hx with rfl|⟨r,hr,hx⟩
  ·grind
  ·exact hT.bits bz hr hx
 have g0:qev 0 (qbb R i)≠0:=λe=>z (qvh e x hx);refine⟨by omega,Jr ?_ hz⟩;exact Qft (by omega) (Qcx.mpr dv)
def SgW(R:LL)(vg:V)(d:Addr)(F0 H0 Fi:Hp)(n i m:Nat)(σ:St)(H:Hp):Prop:=m+i=n /\ ∃F ks o2 o3 o4,σ=[some vg,some (.ref d),o2,o3,o4]/\Go F0 H0 F H/\Same Fi F/\GrAt H0 F H d ks/\qjs ks=grs R i
def qas:FnScope ["glass","groups","sign","numbers","alone"] ["glass"] (defScope qfw):=sc0
def qmq(F:DefT K mg "sorted_groups" qfw ["glass"] cs.c0)(T:Txt w K mg cs)(KB:K.In base)(O_common_divisor:Ok P w K mg base "common_divisor" 2 ["rows"] (PSp K qbd))(O_signs:Ok P w K mg base "signs" 1 ["glass"] (PSp K qdw))(O_divided:Ok P w K mg base "divided" 1 ["row","common"] (qtu K qjv))(O_column:Ok P w K mg base "column" 1 ["rows","place"] (FSp K qnb))(O_joined_column:Ok P w K mg base "joined_column" 2 ["glass","group"] (FSp K qcp)):Ok P w K mg base "sorted_groups" 4 ["glass"] (qkt [cs.tb] (PSp K qeq)):=by
  refine F.ok qas (by rintro vs H Q E ⟨_,F,ds,q,_,i,⟨_,_,_,h,_⟩,_⟩;rw[i.len,h];rfl) λf A outer s H vs Q E hr h=>?_;obtain⟨tss,F0,ds,q,sm,hi,⟨b,R,n,rfl,⟨hT,hR,hl,n9,bz,ho⟩,hq⟩,kk⟩:=h;have ts:TbS cs.tb H:=tss _ (by simp);obtain⟨hu1,hu2,hd2⟩:=hr.sort;refine⟨_,qdv (qin (i:=1) qas.nd rfl (by first|exact Yi rfl|exact Zt rfl) zlp) (qdv (zos Qgp rfl (VI.pi (qbs T.range_ (qB O_signs.c hr.m (qa (qc 0) qe)))) (zgj (i:=2) qas.nd rfl (by first|exact Yi rfl|exact Zt rfl) (by first|exact .inl rfl|exact .inr rfl)) (qdv (qin (i:=3) qas.nd rfl (by first|exact Yi rfl|exact Zt rfl) (VE.pe (qr (zdj O_column.c hr.m (qa (qz (qc 0) ql) (qa (qc 2) qe)))))) (qmp (zpq (VT.pt (qV (qv (zxl rfl) T.any_ L2.boot_any (qa (qc 3) qe)))) (qdv (qin (i:=4) qas.nd rfl (by first|exact Yi rfl|exact Zt rfl) (VN.pe (zuy O_divided.c hr.m (qa (qc 3) (qa (qB O_common_divisor.c hr.m (qa (qr (qC (qa (qc 3) qe))) qe)) qe))))) (qmp (qwm
   (quc (zcs hu1 (pv 1) (pv 4) (zoy qar) ⟨rfl,rfl,rfl,rfl⟩)
    (pv 2))))) zej))))
   (qmp (qoz (zcd (tb:=cs.tb) (c0:=cs.c0) (ig:=1) (iy:=0) (x := "group") (y := "glass") hu2 hr.hd hd2 ts rfl (zhz KB T.tab_h) (zrj KB T.bm_ T.bm_h) rfl T.sorted_ (pv 1)
    ⟨rfl,rfl,rfl,rfl,rfl,by decide,by decide +kernel,quf (by decide +kernel)⟩ rfl rfl rfl rfl (λ_ _ _ _ _ _=>rfl) (λq f c s H=>qxk O_joined_column.c (hr.lam _) (qF (qbo (i:=1) rfl (Zt (Zt rfl)) (by decide) (by decide)) (qF (qbo (i:=0) rfl (Yi rfl) (by decide) (by decide)) qar))))))),?_⟩
  obtain⟨r0,R0,eR⟩:=Ys hR;have l0:r0.length=n:=hT.len r0 (by rw[eR];simp);obtain⟨vg,rfl,ig⟩:=qql hi;refine λd hd=>?_;have g0:Go F0 H F0 (upd H d (.dT [])):=Go.side sm hd;have gr0:GrAt H F0 (upd H d (.dT [])) d []:=⟨qp,qL sm hd,hd,λx hx=>(by cases hx),λx hx=>(by cases hx),λx hx=>(by cases hx),λx hx=>(by cases hx),Qht,Qht⟩
  have hE:EnvOk K ⟨upd H d (.dT []),upd H d (.dT []),F0⟩ F0 (upd H d (.dT [])) [.val (qba b R),.non,.non,.non,.non] [some vg,some (.ref d),none,none,none] :=
   qxt g0.fh ⟨_,_,rfl,⟨⟨vg,rfl,ig⟩,rfl⟩,_,_,rfl,⟨trivial,rfl⟩,_,_,rfl,⟨trivial,rfl⟩,_,_,rfl,⟨trivial,rfl⟩,_,_,rfl,⟨trivial,rfl⟩,rfl⟩
  refine⟨⟨upd H d (.dT []),upd H d (.dT []),F0⟩,_,F0,λds e=>ds=zeg 0 n/\e=[.val (qba b R),.non,.non,.non,.non],hE,?_,λds J F1 H1 e1 I1 s1 hJ q1=>?_⟩
  ·refine⟨b,r0,R0,by rw[eR],?_⟩;rw[l0];exact⟨⟨by omega,by omega⟩,rfl,rfl⟩
  obtain⟨rfl,rfl⟩:=q1;have g1:=g0.trans I1.goOf;refine⟨SgW R vg d F0 H F1 n,⟨n,by omega,F1,[],none,none,none,rfl,g1,.refl _,gr0.go I1.goOf,rfl⟩,?_⟩;rintro i m σ H2 ⟨him,F2,ks,o2,o3,o4,rfl,g2,s2,gr,es⟩;by_cases hin:i=n
  ·left;subst hin;refine⟨by have:=hJ.stop H2 (s2.trans g2.fh);rwa [qbg]at this,?_⟩;clear hJ I1 s1 g1;have len:ks.length=(grs R i).length:=by rw[<- es];unfold qjs;rw[Qj]
   have lenV:((ks.map qof).map (·.2)).length=(grs R i).length:=by rw[Qj,Qj,len]
   have at_:∀{j:Nat}{x:Grp},ks[j]?=some x->qsx R i j=x.2.2:=λ{j x} e=>by
    unfold qsx;rw[<- es];unfold qjs;rw[Qg,e];rfl
   have inG:∀x∈ks,x.2.2.length<=i /\ ∀s∈x.2.2,s<i:=λx hx=>by
    have z:(x.1,x.2.2)∈grs R i:=by rw[<- es];exact Q1.mpr ⟨x,hx,rfl⟩
    exact⟨qsq R i _ z,qxf R i _ z⟩
   have ht0:H cs.tb≠none:=by obtain⟨ps,e,_⟩:=ts;rw[e];exact λz=>by cases z
   have tbl:∀x∈ks,x.2.1≠cs.tb:=λx hx z=>ht0 (z▸gr.nl x hx);refine⟨d,ks.map qof,vg,λj=>jc R (qsx R i j),R.length,⟨rfl,rfl,gr.hd,?_⟩,?_,λj _=>zdo _ _,λH3 go gs=>?_⟩
   ·rw[Qj,len];have:=qxd R i;omega
   ·rw[lenV];exact ho
   refine⟨λH'=>Same F2 H' /\ ∀x∈ks,H' x.2.1=some (.lst (grL x.2.2)),⟨g2.fh.trans gs,λx hx=>go.h _ _ (tbl x hx) (gr.hl x hx)⟩,λj v H4 ev gg=>?_,λp l H4 hp hs sm4 gg nl4 nl2=>?_⟩
   ·obtain⟨sF,sL⟩:=gg;rw[Qg,Qg]at ev;cases ek:ks[j]? with
    |none=>rw[ek]at ev;cases ev
    |some x =>
     rw[ek]at ev;cases ev;have xm:=Qz ek;have hx:=inG x xm;refine⟨vg,rfl,_,rfl,FL F2 H4 ks,[qba b R,.list (sgD x.2.2)],λl=>l=(jc R x.2.2).map .int,FL.fh sF,qI ((ig.mono g2.f).mono (FL.le gr.fl)) (qI (qdg (SqL.of (FL.at xm (sL x xm))) (zgl _)) qah),⟨b,R,_,x.2.2,rfl,⟨hl,rfl,by omega,λr hr s hs=>by rw[hT.len r hr];exact hx.2 s hs⟩,rfl⟩,?_⟩;rintro l a xs F5 H5 g5 na fa ha hx5 rfl;have e5:=hx5.ints_inv;subst e5;refine⟨g5.h,⟨sF.trans g5.h,λy hy=>g5.h.at (sL y hy)⟩,a,rfl,?_⟩;show H5 a=some (.lst ((jc R (qsx R i j)).map V.int));rw[at_ ek];exact ha
   ·obtain⟨sF,sL⟩:=gg;have nl0:H l=none:=qL g2.h nl2;rw[lenV]at hp hs;have ltb:cs.tb≠l:=λz=>ht0 (z▸nl0);have fl0:FL F2 H4 ks l=none:=by
     cases e:FL F2 H4 ks l with
     |none=>rfl
     |some o =>
      obtain⟨_,this⟩:=(FL.fh (ks:=ks) sF).any e;rw[nl4]at this;cases this
    have key:∀js:List Nat,(∀j∈js,j<ks.length) ->∀ys,Iss K (upd (FL F2 H4 ks) l (.lst ys)) (grD (js.map λj=>qsx R i j)) (js.map λj=>((ks.map qof).map (·.2)).getD j .non):=by
     intro js
     induction js with
     |nil=>intro _ _;exact qah
     |cons j js ih =>
      intro hj ys;obtain⟨x,ej⟩:∃x,ks[j]?=some x:=⟨_,Qp (hj j (by simp))⟩
      have xm:=Qz ej;have e1:((ks.map qof).map (·.2)).getD j V.non = .ref x.2.1:=by
       rw[List.getD_eq_getElem?_getD,Qg,Qg,ej];rfl
      have ne:x.2.1≠l:=λz=>by have:=sL _ xm;rw[z,nl4]at this;cases this
      show Iss K _ (Qfw (sgD (qsx R i j))::grD (js.map λj=>qsx R i j)) (((ks.map qof).map (·.2)).getD j V.non::_);rw[e1,at_ ej];exact qI (qdg (SqL.of (by rw[qo ne];exact FL.at xm (sL _ xm))) (zgl _)) (ih (λk hk=>hj k (Qt _ hk)) ys)
    refine kk (.list (grD (p.toList.map λj=>qsx R i j))) (.ref l) (upd (FL F2 H4 ks) l (.lst (p.toList.map λj=>((ks.map qof).map (·.2)).getD j .non))) _ ⟨(g2.f.trans (FL.le gr.fl)).trans (qbi fl0),((g2.h.trans gs).trans sm4).trans (qbi nl4),λc o e=>?_,λc o e=>?_⟩ (qdg (SqL.of qp) (key _ (λj hj=>?_) _)) (hq p hp hs)
    ·by_cases z:c=l
     ·subst z;rw[qp]at e;rw[qp];exact .of e
     ·rw[qo z]at e;rw[qo z];exact FL.fh sF c o e
    ·by_cases z:c=l
     ·rw[z];exact .inr nl0
     ·rw[qo z]at e;unfold FL at e;split at e
      ·rename_i zz;obtain⟨x,hx,rfl⟩:=Q1.mp zz;exact .inr (gr.nl x hx)
      ·exact g2.new c o e
    ·rw[len];exact Qba.mp (hp.p.mem_iff.mp hj)
  have hin':i<n:=by omega
  right;refine⟨hJ.go i H2 (s2.trans g2.fh) (by rw[qbg];exact hin'),λσ' H' =>∃m',m'<m/\SgW R vg d F0 H F1 n (i+1) m' σ' H',λ_ _ z=>z,λx H3 hy=>?_⟩;obtain⟨dx,F3,ex,g3,ix⟩:=hJ.yld i H2 x H3 F2 s2 g2.fh (by rw[qbg];exact hin') hy;obtain⟨_,rfl⟩:=qcm ex;rw[Qel]at ix;obtain rfl:=ix.int_inv;have gr3:=gr.go g3;have g23:=g2.trans g3;have s3:=s2.trans g3.f;clear g2 g3 gr s2 hy;have hE:EnvOk K ⟨H3,H3,F3⟩ F3 H3 [.val (qba b R),.non,.val (.int i),.non,.non] [some vg,some (.ref d),some (.int i),o3,o4] :=
   qxt g23.fh ⟨_,_,rfl,⟨⟨vg,rfl,ig.mono g23.f⟩,rfl⟩,_,_,rfl,⟨trivial,rfl⟩,_,_,rfl,⟨⟨_,rfl,qaq _⟩,rfl⟩,_,_,rfl,⟨trivial,rfl⟩,_,_,rfl,⟨trivial,rfl⟩,rfl⟩
  refine⟨⟨H3,H3,F3⟩,_,F3,λdd e=>dd = .list ((qbb R i).map .int)/\e=[.val (qba b R),.non,.val (.int i),.non,.non],hE,?_,λdd v3 F4 H4 e4 I4 s4 i4 q4=>?_⟩
  ·exact⟨_,rfl,_,R,i,rfl,⟨qua _,hl,λr hr=>by rw[hT.len r hr];exact hin'⟩,rfl,rfl⟩
  obtain⟨rfl,rfl⟩:=q4;have g4:=I4.goOf;have gr4:=gr3.go g4;have g24:=g23.trans g4;have s24:=s3.trans g4.f;clear g23 gr3 s3 hE I4 g4;have hE:EnvOk K ⟨H4,H4,F4⟩ F4 H4 [.val (qba b R),.non,.val (.int i),.val (.list ((qbb R i).map .int)),.non] [some vg,some (.ref d),some (.int i),some v3,o4] :=
   qxt g24.fh ⟨_,_,rfl,⟨⟨vg,rfl,ig.mono g24.f⟩,rfl⟩,_,_,rfl,⟨trivial,rfl⟩,_,_,rfl,⟨⟨_,rfl,qaq _⟩,rfl⟩,_,_,rfl,⟨⟨_,rfl,i4⟩,rfl⟩,_,_,rfl,⟨trivial,rfl⟩,rfl⟩
  refine⟨⟨H4,H4,F4⟩,_,F4,λbb e=>bb=(qbb R i).any (· != 0)/\e=[.val (qba b R),.non,.val (.int i),.val (.list ((qbb R i).map .int)),.non],hE,?_,λbb F5 H5 e5 I5 s5 q5=>?_⟩
  ·exact⟨_,rfl,rfl,rfl⟩
  obtain⟨rfl,rfl⟩:=q5;have g5:=I5.goOf;have gr5:=gr4.go g5;have g25:=g24.trans g5;have s25:=s24.trans g5.f;have i5:=i4.mono g5.f;clear g24 gr4 s24 hE I5 g5 i4;cases ea:(qbb R i).any (· != 0)with
  |false =>
   refine⟨m-1,by omega,by omega,F5,ks,_,_,_,rfl,g25,s25,gr5,?_⟩;rw[es];show _=if(qbb R i).any (· != 0)=true then _ else _
   rw[ea];rfl
  |true =>
   obtain⟨gp,gz⟩:=xbs hT ea bz;have hE:EnvOk K ⟨H5,H5,F5⟩ F5 H5 [.val (qba b R),.non,.val (.int i),.val (.list ((qbb R i).map .int)),.non] [some vg,some (.ref d),some (.int i),some v3,o4] :=
    qxt g25.fh ⟨_,_,rfl,⟨⟨vg,rfl,ig.mono g25.f⟩,rfl⟩,_,_,rfl,⟨trivial,rfl⟩,_,_,rfl,⟨⟨_,rfl,qaq _⟩,rfl⟩,_,_,rfl,⟨⟨_,rfl,i5⟩,rfl⟩,_,_,rfl,⟨trivial,rfl⟩,rfl⟩
   refine⟨⟨H5,H5,F5⟩,_,F5,λdd e=>dd=qji (nrm (qbb R i))/\e=[.val (qba b R),.non,.val (.int i),.val (.list ((qbb R i).map .int)),.non],hE,?_,λdd v4 F6 H6 e6 I6 s6 i6 q6=>?_⟩
   ·have eg:qgl [qbb R i]=qev 0 (qbb R i):=rfl;refine⟨by simp[Yb],_,[qbb R i],rfl,quh [qbb R i],?_⟩;exact⟨_,qbb R i,_,rfl,⟨rfl,by rw[zsi];exact hl,gp,gz⟩,rfl,rfl⟩
   obtain⟨rfl,rfl⟩:=q6;have g6:=I6.goOf;have gr6:=gr5.go g6;have g26:=g25.trans g6;unfold qji IsN at i6;obtain⟨b4,xs4,rfl,hb4,hx4⟩:=i6;have hb4:=qit.at hb4;have ex4:xs4=(nrm (qbb R i)).map V.int:=(IssN.is qit hx4).ints_inv;subst ex4;refine zwk (s:=i) g26 gr6 rfl rfl rfl hb4 ?_ ?_ λp H' g' gr'=>⟨m-1,by omega,by omega,F6,_,_,_,_,rfl,g',s25.trans g6.f,gr',?_⟩
   ·have:(qjs ks).length=ks.length:=by unfold qjs;rw[Qj]
    have:=qxd R i;rw[<- es]at this;omega
   ·intro x hx;have:(x.1,x.2.2)∈grs R i:=by rw[<- es];exact Q1.mpr ⟨x,hx,rfl⟩
    have:=qsq R i _ this;show x.2.2.length<900;have:x.2.2.length<=i:=this;omega
   ·rw[zgr,es];show _=if(qbb R i).any (· != 0)=true then _ else _
    rw[ea];rfl
def qdy(ds:List Qh)(q:Qh->Prop):Prop :=∃(d:Qh)(r:LI)(Gs:List (List Nat)),ds=[d,.list (grD Gs)]/\(qaa d=some (r.map .int)/\Gs.length<=900 /\ ∀G∈Gs,G.length<=900 /\ ∀i∈G,i<r.length)/\q (.list ((Gs.map λG=>zvk r G).map .int))
def qkj:FnScope ["row","groups"] ["row","groups"] (defScope qer):=sc0
def qkh(F:Def K mg "joined_numbers" qer ["row","groups"])(T:Txt w K mg cs)(O_joined_number:Ok P w K mg base "joined_number" 1 ["row","group"] (PSp K qco)):Ok P w K mg base "joined_numbers" 2 ["row","groups"] (PSp K qdy):=by
  refine F.vok qkj (by rintro ds q ⟨_,_,_,h,_⟩;rw[h];rfl) λf cdv A outer s H E hr ds q h=>?_;obtain⟨d,r,Gs,rfl,⟨e1,hl,hk⟩,h⟩:=h;refine⟨_,(qm (qu (qr (qP (caps:=["row"]) (own:=["group"]) (ix:=[0]) rfl ⟨rfl,rfl,rfl,rfl,rfl,rfl⟩ (qae (qc 1)) (λ_ _ _ _=>(qw (i:=1) (show Zm (["row","group"]:List Str) by decide))) (λ_ _ _ _=>(qB O_joined_number.c hr.m (qa (qc 0) (qa (qc 1) qe)))))))),?_⟩;refine qO ((Gs.map λG=>zvk r G).map .int) (by simp[grD]) (qx (by simp;omega)) (λe =>∃s,e=[.val d,s]) ⟨_,rfl⟩ ?_ h;rintro i x ys e hx hys ⟨s,rfl⟩;unfold grD at hx;rw[Qg]at hx;cases er:Gs[i]? with
  |none=>rw[er]at hx;cases hx
  |some G =>
   rw[er]at hx;cases hx;refine⟨_,_,r,G,rfl,⟨e1,rfl,(hk G (qgj er)).1,(hk G (qgj er)).2⟩,qy ?_ hys,_,rfl⟩;rw[Qg,Qg,er];rfl
def qgi(Gs:List (List Nat))(s:Nat):Nat:=(Gs.findIdx? λG=>G.contains s).getD 0
def zdd{Gs:List (List Nat)}{s i:Nat}{G:List Nat}(e:Gs[i]?=some G)(h:s∈G)(hI:∀j(G':List Nat),j<i->Gs[j]?=some G'->s∉G'):qgi Gs s=i:=by
 unfold qgi;have:Gs.findIdx? (λG=>G.contains s)=some i:=by
  grind[List.findIdx?_eq_some_iff_getElem,Qp]
 grind
def qvt{Gs:List (List Nat)}{s:Nat}(hI:∀G∈Gs,s∉G):qgi Gs s=0:=by
 unfold qgi;grind[List.findIdx?_eq_none_iff]
def qnp(ds:List Qh)(q:Qh->Prop):Prop :=∃(s:Nat)(Gs:List (List Nat)),ds=[.int s,.list (grD Gs)]/\q (.int (qgi Gs s:Nat))
def qhb:FnScope ["sign","groups","place","group"] ["sign","groups"] (defScope qrp):=sc0
def qyp(F:Def K mg "place_of" qrp ["sign","groups"])(T:Txt w K mg cs):Ok P w K mg base "place_of" 1 ["sign","groups"] (PSp K qnp):=by
  refine F.vok qhb (by rintro ds q ⟨_,_,h,_⟩;rw[h];rfl) λf cdv A outer s H E hr ds q h=>?_;obtain⟨s,Gs,rfl,h⟩:=h;refine⟨_,(qi (qgn rfl (zqq T.enumerate_ (qc 1)) (qts (n:=2) rfl (qax (qw (i:=2) qhb.nd) (qax (qw (i:=3) qhb.nd) qix))) (qm (qbw (qA zuz (qc 0) (qc 3)) (qm (qu (qc 2))) qj)))
   (qm (qu ql))),?_⟩
  refine⟨λi e =>∃t1 t2,e=[.val (.int s),.val (.list (grD Gs)),t1,t2] /\ ∀j(G:List Nat),j<i->Gs[j]?=some G->s∉G,⟨_,_,rfl,λj y hj=>by omega⟩,?_,?_⟩
  ·rintro i x e hx ⟨t1,t2,rfl,hI⟩;obtain⟨x,hx',rfl⟩:=zgu hx;obtain⟨G,hG,rfl⟩:=zeq hx';refine⟨rfl,rfl,_,_,rfl,qzw G,?_⟩;cases a:(G.map λi=>((i:Nat):Int)).any (· == (s:Int))with
   |true =>
    have hm:=qyc.mp a;rw[zdd hG hm hI]at h;exact h
   |false =>
    refine⟨_,_,rfl,λj y hj hy=>?_⟩;by_cases e:j=i
    ·subst e;rw[hG]at hy;cases hy;exact λm=>by rw[qyc.mpr m]at a;cases a
    ·exact hI j y (by omega) hy
  ·rintro e ⟨t1,t2,rfl,hI⟩;rw[qib,grD,Qj]at hI;rw[qvt λG hG=>?_]at h
   ·exact h
   ·obtain⟨j,hj,rfl⟩:=List.mem_iff_getElem.mp hG;exact hI j _ hj (Qp hj)
def qjd(R:LL)(G:List Nat)(k:Nat):Int:=if k∈G then(qbb R k).sum else 0
def qcn(R:LL)(G:List Nat)(n:Nat):List (Int×Int):=(Z9 n).map λk=>(shT (qjd R G k) (jc R G).sum,shB (qjd R G k) (jc R G).sum)
def qnr(ds:List Qh)(q:Qh->Prop):Prop :=∃(b:Int)(R:LL)(n:Nat)(G:List Nat),ds=[.list (sgD G),qba b R]/\((∀r∈R,r.length=n)/\R≠[]/\R.length<=900/\n<=900/\G.length<=900/\(∀i∈G,i<n)/\(jc R G).sum≠0/\intBits (jc R G).sum<=9000)/\q (.list ((qcn R G n).map dS))
def qoj:FnScope ["group","glass","whole"] ["group","glass"] (defScope qpx):=sc0
def qyq(F:Def K mg "parts_of" qpx ["group","glass"])(T:Txt w K mg cs)(O_share:Ok P w K mg base "share" 3 ["top","bottom"] (PSp K qhw))(O_signs:Ok P w K mg base "signs" 1 ["glass"] (PSp K qdw))(O_column:Ok P w K mg base "column" 1 ["rows","place"] (FSp K qnb))(O_joined_column:Ok P w K mg base "joined_column" 2 ["glass","group"] (FSp K qcp)):Ok P w K mg base "parts_of" 4 ["group","glass"] (PSp K qnr):=by
  refine F.vok qoj (by rintro ds q ⟨_,_,_,_,h,_⟩;rw[h];rfl) λf cdv A outer s H E hr ds q h=>?_;obtain⟨b,R,n,G,rfl,⟨hn,hR,hl,n9,g9,hG,w0,wz⟩,h⟩:=h;refine⟨_,(qi (qt (i:=2) qoj.nd (qv (zjx rfl) T.sum_ L2.boot_sum (qa (qr (zdj O_joined_column.c hr.m (qa (qc 1) (qa (qc 0) qe)))) qe)))
   (qm (qu (qr (qP (caps:=["group","glass","whole"]) (own:=["sign"]) (ix:=[0,1,2]) rfl ⟨rfl,rfl,rfl,rfl,rfl,rfl⟩ (qbs T.range_ (qB O_signs.c hr.m (qa (qc 1) qe))) (λ_ _ _ _=>(qw (i:=3) (show Zm (["group","glass","whole","sign"]:List Str) by decide))) (λ_ _ _ _=>(qB O_share.c hr.m (qa (qfc (qA zuz (qc 3) (qc 0)) (qv (zjx rfl) T.sum_ L2.boot_sum (qa (qr (zdj O_column.c hr.m (qa (qz (qc 1) ql) (qa (qc 3) qe)))) qe)) ql) (qa (qc 2) qe))))))))),?_⟩
  obtain⟨r0,R0,rfl⟩:=Ys hR;have l0:r0.length=n:=hn r0 (by simp);refine⟨b,_,_,G,rfl,⟨hl,rfl,g9,λr hr i hi=>by rw[hn r hr];exact hG i hi⟩,?_⟩;refine⟨_,rfl,?_⟩;refine⟨b,r0,R0,rfl,?_⟩;rw[l0];refine⟨⟨by omega,by omega⟩,qO ((qcn (r0::R0) G n).map dS) (by simp[qbg,qcn]) (qx (by simp[qcn];omega)) (λe =>∃s,e=[.val (.list (sgD G)),.val (qba b (r0::R0)),.val (.int (jc (r0::R0) G).sum),s]) ⟨_,rfl⟩ ?_ h⟩;rintro i x ys e hx hys ⟨s,rfl⟩;obtain⟨hi,rfl⟩:=qcm hx;rw[Qel];have hi':i<n:=by omega
  have g:((qcn (r0::R0) G n).map dS)[i]?=some (dS (shT (qjd (r0::R0) G i) (jc (r0::R0) G).sum,shB (qjd (r0::R0) G i) (jc (r0::R0) G).sum)):=by
   unfold qcn;rw[Qg,Qg,Vt hi'];rfl
  refine⟨_,_,rfl,qzw G,?_⟩;cases a:(G.map λk=>((k:Nat):Int)).any (· == (i:Int))with
  |true =>
   have hm:=qyc.mp a;have e:qjd (r0::R0) G i=(qbb (r0::R0) i).sum:=if_pos hm;rw[e]at g;exact⟨_,rfl,_,_,i,rfl,⟨qua _,hl,λr hr=>by rw[hn r hr];exact hi'⟩,_,rfl,⟨w0,wz⟩,qy g hys,_,rfl⟩
  |false =>
   have e:qjd (r0::R0) G i=0:=if_neg λm=>by rw[qyc.mpr m]at a;cases a
   rw[e]at g;exact⟨⟨w0,wz⟩,qy g hys,_,rfl⟩
def gb:LL:=[[7,7],[2,12],[0,14]]
def gbT:Tab 14 gb 2:=⟨by decide,by decide,by decide,by decide⟩
def zza(Gs:List (List Nat))(r:LI):LI:=Gs.map λG=>zvk r G
def zah(ds:List Qh)(q:Qh->Prop):Prop:=ds=[qba 14 gb] /\ ∀d e f,q (.tuple [d,e,f])
def zwe{p:Array Nat}(hp:PmN (grs gb 2).length p):p.toList.map (λi=>qsx gb 2 i)=[[0],[1]]\/p.toList.map (λi=>qsx gb 2 i)=[[1],[0]]:=by
 have h:p.toList.Perm [0,1]:=hp.p;generalize p.toList=l at h;have n:=h.length_eq
 match l,n with
 |[a,b],_ =>
  have ha:a∈[0,1]:=h.mem_iff.mp (by simp);have hb:b∈[0,1]:=h.mem_iff.mp (by simp);have ne:=h.nodup_iff.mpr (by decide);simp at ha hb ne;rcases ha with rfl|rfl <;> rcases hb with rfl|rfl <;> first|exact(ne rfl).elim|exact .inl rfl|exact .inr rfl
def qhh:FnScope ["glass","groups","form","there","back"] ["glass"] (defScope zgm):=sc0
def zmn(F:Def K mg "least" zgm ["glass"])(T:Txt w K mg cs)(O_table_of_shares:Ok P w K mg base "table_of_shares" 2 ["rows"] (PSp K qbz))(O_signs:Ok P w K mg base "signs" 1 ["glass"] (PSp K qdw))(O_lowest_table:Ok P w K mg base "lowest_table" 3 ["bottom","rows"] (PSp K qfp))(O_one_sign:Ok P w K mg base "one_sign" 1 ["place","many"] (PSp K qno))(O_sorted_groups:Ok P w K mg base "sorted_groups" 4 ["glass"] (qkt [cs.tb] (PSp K qeq)))(O_joined_numbers:Ok P w K mg base "joined_numbers" 2 ["row","groups"] (PSp K qdy))(O_place_of:Ok P w K mg base "place_of" 1 ["sign","groups"] (PSp K qnp))(O_parts_of:Ok P w K mg base "parts_of" 4 ["group","glass"] (PSp K qnr)):Ok P w K mg base "least" 5 ["glass"] (qkt [cs.tb] (PSp K zah)):=by
  refine F.tvok qhh (by rintro ds q ⟨h,_⟩;rw[h];rfl) λf cdv A outer s H E hr hTb ds q h=>?_;obtain⟨rfl,hq⟩:=h;refine⟨_,(qi (qt (i:=1) qhh.nd (qB (O_sorted_groups.t hTb) hr.m (qa (qc 0) qe)))
   (qi (qt (i:=2) qhh.nd (qB O_lowest_table.c hr.m (qa (qz (qc 0) ql) (qa (qr (qP (caps:=["groups"]) (own:=["row"]) (ix:=[1]) rfl ⟨rfl,rfl,rfl,rfl,rfl,rfl⟩ (qae (qz (qc 0) ql)) (λ_ _ _ _=>(qw (i:=1) (show Zm (["groups","row"]:List Str) by decide))) (λ_ _ _ _=>(qB O_joined_numbers.c hr.m (qa (qc 1) (qa (qc 0) qe)))))) qe))))
   (qi (qt (i:=3) qhh.nd (qac (qa ql (qa (qav qgk T.tuple_ L2.boot_tuple (qa (qr (qP (caps:=["groups"]) (own:=["sign"]) (ix:=[1]) rfl ⟨rfl,rfl,rfl,rfl,rfl,rfl⟩ (qbs T.range_ (qB O_signs.c hr.m (qa (qc 0) qe))) (λ_ _ _ _=>(qw (i:=1) (show Zm (["groups","sign"]:List Str) by decide))) (λ_ _ _ _=>(qB O_one_sign.c hr.m (qa (qB O_place_of.c hr.m (qa (qc 1) (qa (qc 0) qe))) (qa (qv qbj T.len_ L2.boot_len (qa (qc 0) qe)) qe)))))) qe)) qe))))
   (qi (qt (i:=4) qhh.nd (qB O_table_of_shares.c hr.m (qa (qr (qP (caps:=["glass"]) (own:=["group"]) (ix:=[0]) rfl ⟨rfl,rfl,rfl,rfl,rfl,rfl⟩ (qae (qc 1)) (λ_ _ _ _=>(qw (i:=1) (show Zm (["glass","group"]:List Str) by decide))) (λ_ _ _ _=>(qB O_parts_of.c hr.m (qa (qc 1) (qa (qc 0) qe)))))) qe)))
   (qm (qu (qac (qa (qc 2) (qa (qc 3) (qa (qc 4) qe)))))))))),?_⟩
  refine⟨14,gb,2,rfl,⟨gbT,by decide,by decide,by decide,by decide,by decide⟩,λp hp _=>?_⟩;have hG:=zwe hp;generalize p.toList.map (λi=>qsx gb 2 i)=Gs at hG;have gl:Gs.length=2:=by rcases hG with rfl|rfl <;> rfl
  have gk:∀G∈Gs,(G.length<=2 /\ ∀s∈G,s<2)/\((jc gb G).sum≠0/\intBits (jc gb G).sum<=9000)/\(qcn gb G 2).length<=900 /\ ∀x∈qcn gb G 2,(1<=x.2/\Vc x.1 x.2=1)/\intBits x.1<=4000/\x.2∣297:=by rcases hG with rfl|rfl <;> decide +kernel
  have tj:Tab 14 (gb.map (zza Gs)) 2:=by rcases hG with rfl|rfl <;> exact⟨by decide,by decide,by decide,by decide⟩
  clear hG;refine⟨_,rfl,_,rfl,qO ((gb.map (zza Gs)).map xcy) (by simp) (qx (by simp[gb])) (λe =>∃s,e=[.val (.list (grD Gs)),s]) ⟨_,rfl⟩ ?_ ?_⟩
  ·rintro i x ys e hx hys ⟨s,rfl⟩;rw[Qg]at hx;cases er:gb[i]? with
   |none=>rw[er]at hx;cases hx
   |some r =>
    rw[er]at hx;cases hx;have rm:=Qz er;refine⟨_,r,Gs,rfl,⟨rfl,by omega,λG hG=>⟨by have:=(gk G hG).1.1;omega,λs hs=>by rw[gbT.len r rm];exact(gk G hG).1.2 s hs⟩⟩,qy ?_ hys,_,rfl⟩;rw[Qg,Qg,er];rfl
  refine⟨14,_,gb.map (zza Gs),2,rfl,⟨quh _,tj,by simp[gb],by simp[gb],by decide,by decide⟩,?_⟩;refine⟨14,[7,7],[[2,12],[0,14]],rfl,?_⟩;have lg:(grD Gs).length=Gs.length:=by unfold grD;rw[Qj]
  refine⟨⟨by decide,by decide⟩,qO (((Z9 2).map λs=>qle (qgi Gs s) Gs.length).map qji) (by simp[qbg]) (qx (by simp)) (λe =>∃s,e=[.val (.list (grD Gs)),s]) ⟨_,rfl⟩ ?_ ?_⟩
  ·rintro i x ys e hx hys ⟨s,rfl⟩;obtain⟨hi',rfl⟩:=qcm hx;rw[Qel];have hi2:i<2:=by simpa using hi'
   refine⟨i,Gs,rfl,qgi Gs i,Gs.length,by rw[lg],by omega,qy ?_ hys,_,rfl⟩;rw[Qg,Qg,Vt hi2];rfl
  refine⟨by rw[Yb];simp,?_⟩;refine qO ((Gs.map λG=>qcn gb G 2).map λV => .list (V.map dS)) (by simp[grD]) (qx (by simp;omega)) (λe =>∃s,e=[.val (qba 14 gb),s]) ⟨_,rfl⟩ ?_ ?_
  ·rintro i x ys e hx hys ⟨s,rfl⟩;obtain⟨G,hG,rfl⟩:=zeq hx;have k:=gk G (Qz hG);refine⟨14,gb,2,G,rfl,⟨gbT.len,by decide,by decide,by decide,by have:=k.1.1;omega,k.1.2,k.2.1⟩,qy ?_ hys,_,rfl⟩;rw[Qg,Qg,hG];rfl
  refine⟨_,Gs.map λG=>qcn gb G 2,297,rfl,⟨⟨_,rfl,by simp,λi x hx=>?_⟩,by simp;omega,λr hr=>?_,by decide,by decide⟩,λB hB=>⟨by rw[Yb];simp,hq _ _ _⟩⟩
  ·rw[Qg]at hx;cases e:(Gs.map λG=>qcn gb G 2)[i]? with
   |none=>rw[e]at hx;cases hx
   |some r=>rw[e]at hx;cases hx;exact⟨r,rfl,rfl⟩
  ·obtain⟨G,hG,rfl⟩:=Q1.mp hr;exact⟨(gk G hG).2.2.1,λx hx=>let z:=(gk G hG).2.2.2 x hx; ⟨⟨z.1.1,z.1.2⟩,z.2⟩⟩
def qcv(C C2:Addr)(ds:List Qh)(q:Qh->Prop)(e:Addr->Prop):Prop :=∃(w:Str)(th:List Qh),ds=[.str w,.list th] /\
 ((w=Qc "dull" /\ qht C th q e)\/(w=Qc "beside" /\ qwi C C2 th q e)\/(w=Qc "join" /\ qsc C th q e)\/(w=Qc "least" /\ th=[qba 14 gb] /\ ∀d,q d)\/(w=Qc "glass" /\ ∃d,th=[d]/\q d))
def zcj:FnScope ["word","things"] ["word","things"] (defScope quo):=sc0
def zco(F:Def K mg "made_by" quo ["word","things"])(T:Txt w K mg cs)(O_dulled:OkX P w K mg base "dulled" 3 ["glass","dulling"] (XSp K (qht cs.NoFit)))(O_beside:OkX P w K mg base "beside" 3 ["one","other"] (XSp K (qwi cs.NoFit cs.TooMany)))(O_joined:OkX P w K mg base "joined" 2 ["glass","i","j"] (XSp K (qsc cs.NoFit)))(O_least:Ok P w K mg base "least" 5 ["glass"] (qkt [cs.tb] (PSp K zah))):OkX P w K mg base "made_by" 6 ["word","things"] (qkt [cs.tb] (XSp K (qcv cs.NoFit cs.TooMany))):=by
  refine F.tvokX zcj (by rintro ds q e ⟨_,_,h,_⟩;rw[h];rfl) λf cdv A outer s H E hr hp ht hTb ds q e h=>?_;obtain⟨w,th,rfl,h⟩:=h;refine⟨_,(qg (qN (qA (qdk hr.units) (qc 0) qd) (qg (qaz (qT hp O_dulled.c hr.m (qa (qz (qc 1) ql) (qa (qz (qc 1) ql) qe))))
   (qk qj)) (qk qj))
   (qg (qN (qA (qdk hr.units) (qc 0) qd) (qg (qaz (qT hp O_beside.c hr.m (qa (qz (qc 1) ql) (qa (qz (qc 1) ql) qe))))
   (qk qj)) (qk qj))
   (qg (qN (qA (qdk hr.units) (qc 0) qd) (qg (qaz (qT hp O_joined.c hr.m (qa (qz (qc 1) ql) (qa (qz (qc 1) ql) (qa (qz (qc 1) ql) qe)))))
   (qk qj)) (qk qj))
   (qk (qi (qbw (qA (qdk hr.units) (qc 0) qd) (qm (qu (qz (qB (O_least.t hTb) hr.m (qa (qz (qc 1) ql) qe)) ql))) qj)
   (qm (qu (qz (qc 1) ql)))))))),?_⟩
  have shD:=qcd (x := "dull") 0 (by decide +kernel);have shB:=qcd (x := "beside") 0 (by decide +kernel);have shJ:=qcd (x := "join") 0 (by decide +kernel);have shL:=qcd (x := "least") 0 (by decide +kernel);have shG:=qcd (x := "glass") 0 (by decide +kernel);rcases h with⟨rfl,h⟩|⟨rfl,h⟩|⟨rfl,h⟩|⟨rfl,h⟩|⟨rfl,h⟩
  ·obtain⟨b,r0,R0,c,D,rfl,h⟩:=h;exact⟨shD.ok,shD.ok,qqv shD.refl ⟨_,qM _ _,_,qK (j:=1) rfl,b,r0,R0,c,D,rfl,h⟩⟩
  ·obtain⟨b,r0,R0,c,s0,S0,rfl,h⟩:=h;exact⟨shB.ok,shD.ok,qca (by decide +kernel) ⟨shB.ok,shB.ok,qqv shB.refl ⟨_,qM _ _,_,qK (j:=1) rfl,b,r0,R0,c,s0,S0,rfl,h⟩⟩⟩
  ·obtain⟨b,r0,R0,i,j,rfl,h⟩:=h;exact⟨shJ.ok,shD.ok,qca (by decide +kernel) ⟨shJ.ok,shB.ok,qca (by decide +kernel) ⟨shJ.ok,shJ.ok,qqv shJ.refl ⟨_,qM _ _,_,qK (j:=1) rfl,_,qK (j:=2) rfl,b,r0,R0,i,j,rfl,h⟩⟩⟩⟩
  ·obtain⟨rfl,h⟩:=h;exact⟨shL.ok,shD.ok,qca (by decide +kernel) ⟨shL.ok,shB.ok,qca (by decide +kernel) ⟨shL.ok,shJ.ok,qca (by decide +kernel) ⟨shL.ok,shL.ok,qqv shL.refl ⟨_,qM _ _,rfl,λ_ _ _=>⟨_,qM _ _,h _⟩⟩⟩⟩⟩⟩
  ·obtain⟨d,rfl,h⟩:=h;exact⟨shG.ok,shD.ok,qca (by decide +kernel) ⟨shG.ok,shB.ok,qca (by decide +kernel) ⟨shG.ok,shJ.ok,qca (by decide +kernel) ⟨shG.ok,shL.ok,qca (by decide +kernel) ⟨_,qM _ _,h⟩⟩⟩⟩⟩
def qdd(C:Addr)(ds:List Qh)(q:Qh->Prop)(e:Addr->Prop):Prop :=∃(b:Int)(R:LL)(c:Int)(S:LL),ds=[qba b R,qba c S]/\R.length≠S.length/\e C
def qyn:FnScope ["one","other","answer"] ["one","other"] (defScope qqd):=sc0
def qzc(F:Def K mg "compared" qqd ["one","other"])(T:Txt w K mg cs)(O_check_alike_stands:OkX P w K mg base "check_alike_stands" 2 ["one","other"] (XSp K (qmz cs.NoFit))):OkX P w K mg base "compared" 3 ["one","other"] (XSp K (qdd cs.NoFit)):=by
  refine F.vokX qyn (by rintro ds q e ⟨_,_,_,_,h,_⟩;rw[h];rfl) λf cdv A outer s H E hr hp ht ds q e h=>?_;obtain⟨b,R,c,S,rfl,hne,h⟩:=h;refine⟨_,(qg (qfb (qT hp O_check_alike_stands.c hr.m (qa (qc 0) (qa (qc 1) qe))))
   (qk qcy)),?_⟩
  exact⟨b,R,c,S,rfl,.inr ⟨hne,h⟩⟩
def qtp:FnScope ["one","other"] ["one","other"] (defScope qkx):=sc0
def qtq(F:Def K mg "dulls_into" qkx ["one","other"])(T:Txt w K mg cs)(O_compared:OkX P w K mg base "compared" 3 ["one","other"] (XSp K (qdd cs.NoFit))):OkX P w K mg base "dulls_into" 4 ["one","other"] (XSp K (qdd cs.NoFit)):=by
  refine F.vokX qtp (by rintro ds q e ⟨_,_,_,_,h,_⟩;rw[h];rfl) λf cdv A outer s H E hr hp ht ds q e h=>?_;obtain⟨b,R,c,S,rfl,hne,h⟩:=h;refine⟨_,(qg (qaz (zrv (qdk hr.units) (zyg (qT hp O_compared.c hr.m (qa (qc 0) (qa (qc 1) qe))) ql) qd))
   (qk qj)),?_⟩
  exact⟨b,R,c,S,rfl,hne,h⟩
def zmv:FnScope ["one","other"] ["one","other"] (defScope zei):=sc0
def znj(F:Def K mg "alike" zei ["one","other"])(T:Txt w K mg cs)(O_dulls_into:OkX P w K mg base "dulls_into" 4 ["one","other"] (XSp K (qdd cs.NoFit))):OkX P w K mg base "alike" 5 ["one","other"] (XSp K (qdd cs.NoFit)):=by
  refine F.vokX zmv (by rintro ds q e ⟨_,_,_,_,h,_⟩;rw[h];rfl) λf cdv A outer s H E hr hp ht ds q e h=>?_;obtain⟨b,R,c,S,rfl,hne,h⟩:=h;refine⟨_,(qg (qaz (zub (qT hp O_dulls_into.c hr.m (qa (qc 0) (qa (qc 1) qe))) (zrg (qT hp O_dulls_into.c hr.m (qa (qc 1) (qa (qc 0) qe))))))
   (qk qj)),?_⟩
  exact⟨b,R,c,S,rfl,hne,h⟩
def qmx(C:Addr)(ds:List Qh)(q:Qh->Prop)(e:Addr->Prop):Prop :=∃(b:Int)(R:LL),ds=[qba b R]/\R.length≠2/\e C
def zkw:FnScope ["glass","form","x","y","corners","step"] ["glass"] (defScope zey):=sc0
def zll(F:Def K mg "curve" zey ["glass"])(T:Txt w K mg cs)(O_stands:Ok P w K mg base "stands" 1 ["glass"] (PSp K qie)):OkX P w K mg base "curve" 2 ["glass"] (XSp K (qmx cs.NoFit)):=by
  refine F.vokX zkw (by rintro ds q e ⟨_,_,h,_⟩;rw[h];rfl) λf cdv A outer s H E hr hp ht ds q e h=>?_;obtain⟨b,R,rfl,r2,h⟩:=h;refine⟨_,(qg (qN (qA (qmt hr.units) (qB O_stands.c hr.m (qa (qc 0) qe)) ql) (qg (qG ht rfl T.NoFit_ T.NoFit_x.exc (qa qd qe))
   (qk qj)) (qk qj))
   (qk qcy)),?_⟩
  refine⟨b,R,rfl,rfl,rfl,qey (λ_=>⟨szl,h⟩) (λz=>(r2 (by omega)).elim)⟩
def zvv(Y:LL):Qh :=.tuple (Y.map qji)
def qzq(C:Addr)(ds:List Qh)(q:Qh->Prop)(e:Addr->Prop):Prop :=∃b R Y,ds=[qba b R,zvv Y]/\((Y.length=R.length/\q .none)\/(Y.length≠R.length/\e C))
def qmj:FnScope ["glass","payoffs"] ["glass","payoffs"] (defScope qfq):=sc0
def qlu(F:Def K mg "check_payoffs" qfq ["glass","payoffs"])(T:Txt w K mg cs)(O_stands:Ok P w K mg base "stands" 1 ["glass"] (PSp K qie)):OkX P w K mg base "check_payoffs" 2 ["glass","payoffs"] (XSp K (qzq cs.NoFit)):=by
  refine F.vokX qmj (by rintro ds q e ⟨_,_,_,h,_⟩;rw[h];rfl) λf cdv A outer s H E hr hp ht ds q e h=>?_;obtain⟨b,R,Y,rfl,h⟩:=h;refine⟨_,(qg (qN (qA (qmt hr.units) (qv qbj T.len_ L2.boot_len (qa (qc 1) qe)) (qB O_stands.c hr.m (qa (qc 0) qe))) (qg (qG ht rfl T.NoFit_ T.NoFit_x.exc (qa qd qe))
   (qk qj)) (qk qj))
   (qk qj)),?_⟩
  rcases h with⟨hl,h⟩|⟨hl,h⟩
  ·refine⟨b,R,rfl,rfl,rfl,qey (λz=>?_) (λ_=>h)⟩;exfalso;apply z;simp[hl]
  ·refine⟨b,R,rfl,rfl,rfl,qey (λ_=>⟨szl,h⟩) (λz=>?_)⟩;exfalso;apply hl;simp at z;omega
def qsg(C:Addr)(ds:List Qh)(q:Qh->Prop)(e:Addr->Prop):Prop :=∃b R Y,ds=[qba b R,zvv Y]/\Y.length≠R.length/\e C
def zqt:FnScope ["glass","payoffs","plan"] ["glass","payoffs"] (defScope zow):=sc0
def zst(F:Def K mg "best" zow ["glass","payoffs"])(T:Txt w K mg cs)(O_check_payoffs:OkX P w K mg base "check_payoffs" 2 ["glass","payoffs"] (XSp K (qzq cs.NoFit))):OkX P w K mg base "best" 3 ["glass","payoffs"] (XSp K (qsg cs.NoFit)):=by
  refine F.vokX zqt (by rintro ds q e ⟨_,_,_,h,_⟩;rw[h];rfl) λf cdv A outer s H E hr hp ht ds q e h=>?_;obtain⟨b,R,Y,rfl,hne,h⟩:=h;refine⟨_,(qg (qfb (qT hp O_check_payoffs.c hr.m (qa (qc 0) (qa (qc 1) qe))))
   (qk qcy)),?_⟩
  exact⟨b,R,Y,rfl,.inr ⟨hne,h⟩⟩
def qog(ds:List Qh)(k:List Qh->Prop):Prop :=∃(b:Int)(r:LI),ds=[qji r,.int b]/\(1<=b/\intBits b<=300/\r.length<=12 /\ ∀x∈r,intBits x<=300)/\k ((rTx b r).map .str)
def qyo:FnScope ["row","bottom"] ["row","bottom"] (defScope qrr):=sc0
def qzh(F:Def K mg "show_row" qrr ["row","bottom"])(T:Txt w K mg cs)(O_share:Ok P w K mg base "share" 3 ["top","bottom"] (PSp K qhw))(O_show_share:Ok P w K mg base "show_share" 1 ["one"] (PSp K qek)):Ok P w K mg base "show_row" 4 ["row","bottom"] (FSp K qog):=by
  refine F.vokF qyo (by rintro ds q ⟨_,_,h,_⟩;rw[h];rfl) λf cdv A outer s H E hr ds k h=>?_;obtain⟨b,r,rfl,⟨b1,zb,lr,zr⟩,h⟩:=h;refine⟨_,(qm (qxa (qP (caps:=["bottom"]) (own:=["number"]) (ix:=[1]) rfl ⟨rfl,rfl,rfl,rfl,rfl,rfl⟩ (qae (qc 0)) (λ_ _ _ _=>(qw (i:=1) (show Zm (["bottom","number"]:List Str) by decide))) (λ_ _ _ _=>(qB O_show_share.c hr.m (qa (qB O_share.c hr.m (qa (qc 1) (qa (qc 0) qe))) qe)))))),?_⟩;refine qO ((rTx b r).map Zc) (by simp[rTx]) (qx (by simp[rTx];omega)) (λe =>∃s,e=[.val (.int b),s]) ⟨_,rfl⟩ ?_ ⟨_,rfl,h⟩;rintro i x ys e hx hys ⟨s,rfl⟩;rw[Qg]at hx;cases er:r[i]? with
  |none=>rw[er]at hx;cases hx
  |some y =>
   rw[er]at hx;cases hx;have zy:=zr y (Qz er);refine⟨⟨by omega,qai zb (by decide)⟩,_,_,rfl,⟨qai (zbe zy) (by decide),qai (zam zb) (by decide)⟩,qy ?_ hys,_,rfl⟩;unfold rTx;rw[Qg,Qg,er];rfl
def qny(ds:List Qh)(k:Qh->Prop):Prop :=∃L:List (List Str),ds=[.list (L.map λws => .list (ws.map .str))]/\(L.length<=12/\(∀ws∈L,ws.length<=12) /\ ∀ws∈L,∀x∈ws,x.length<=4000)/\k (.str (xcx L))
def qzb:FnScope ["rows"] ["rows"] (defScope qrs):=sc0
def qzi(F:Def K mg "laid_out" qrs ["rows"])(T:Txt w K mg cs):Ok P w K mg base "laid_out" 1 ["rows"] (PSp K qny):=by
  refine F.vok qzb (by rintro ds q ⟨_,h,_⟩;rw[h];rfl) λf cdv A outer s H E hr ds k h=>?_;obtain⟨L,rfl,⟨l1,l2,l3⟩,h⟩:=h;refine⟨_,(qm (qu (qwt qd (qr (qP (caps:=[]) (own:=["row"]) (ix:=[]) rfl ⟨rfl,rfl,rfl,rfl,rfl,rfl⟩ (qae (qc 0)) (λ_ _ _ _=>(qw (i:=0) (show Zm (["row"]:List Str) by decide))) (λ_ _ _ _=>(qwt qd (qc 0)))))))),?_⟩;have inner:∀ws∈L,JoinOk (" " : String) ws=true/\(Y8 (" " : String) ws).length<=60000:=λws hw=>by
   have a:=l2 ws hw;have e:(Qc " ").length=1:=rfl;have m:ws.length*4000<=12*4000:=Qhq _ a;refine⟨qwf (l3 ws hw) (by rw[e];omega),?_⟩;have:=zqg (s:=(" " : String)) (l3 ws hw);rw[e]at this;omega
  refine⟨_,rfl,?_⟩;refine qO ((L.map (Y8 (" " : String))).map Zc) (by simp) (qx (by simp;omega)) (λe =>∃s,e=[s]) ⟨_,rfl⟩ ?_ ?_
  ·rintro i x ys e hx hys ⟨s,rfl⟩;rw[Qg]at hx;cases er:L[i]? with
   |none=>rw[er]at hx;cases hx
   |some ws =>
    rw[er]at hx;cases hx;refine⟨_,rfl,ws,rfl,(inner ws (Qz er)).1,qy ?_ hys,_,rfl⟩;rw[Qg,Qg,er];rfl
  ·refine⟨L.map (Y8 (" " : String)),rfl,qwf (B:=60000) (λy hy=>?_) ?_,h⟩
   ·obtain⟨ws,hw,rfl⟩:=Q1.mp hy;exact(inner ws hw).2
   ·have e:(Qc " | ").length=3:=rfl;rw[Qj,e,<- Nat.mul_add];exact Qk (Qhq _ l1) (by decide)
def tTx(b:Int)(R:LL):Str:=xcx (R.map (rTx b))
def qej(ds:List Qh)(k:Qh->Prop):Prop :=∃(b:Int)(R:LL),ds=[qba b R]/\(1<=b/\intBits b<=300/\R.length<=12 /\ ∀r∈R,r.length<=12 /\ ∀x∈r,intBits x<=300)/\k (.str (tTx b R))
def qto:FnScope ["glass"] ["glass"] (defScope qkq):=sc0
def qtk(F:Def K mg "show_glass" qkq ["glass"])(T:Txt w K mg cs)(O_show_row:Ok P w K mg base "show_row" 4 ["row","bottom"] (FSp K qog))(O_laid_out:Ok P w K mg base "laid_out" 1 ["rows"] (PSp K qny)):Ok P w K mg base "show_glass" 5 ["glass"] (PSp K qej):=by
  refine F.vok qto (by rintro ds q ⟨_,_,h,_⟩;rw[h];rfl) λf cdv A outer s H E hr ds k h=>?_;obtain⟨b,R,rfl,⟨b1,zb,lR,hR⟩,h⟩:=h;refine⟨_,(qm (qu (qB O_laid_out.c hr.m (qa (qr (qP (caps:=["glass"]) (own:=["row"]) (ix:=[0]) rfl ⟨rfl,rfl,rfl,rfl,rfl,rfl⟩ (qae (qz (qc 0) ql)) (λ_ _ _ _=>(qw (i:=1) (show Zm (["glass","row"]:List Str) by decide))) (λ_ _ _ _=>(qr (zdj O_show_row.c hr.m (qa (qc 1) (qa (qz (qc 0) ql) qe))))))) qe)))),?_⟩;have sh:∀r∈R,∀x∈rTx b r,x.length<=4000:=λr hr x hx=>by
   obtain⟨y,hy,rfl⟩:=Q1.mp hx;exact zqj (qai (zbe ((hR r hr).2 y hy)) (by decide)) (qai (zam zb) (by decide))
  refine⟨_,rfl,qO ((R.map (rTx b)).map λws=>Qfw (ws.map .str)) (by simp) (qx (by simp;omega)) (λe =>∃s,e=[.val (qba b R),s]) ⟨_,rfl⟩ ?_ ?_⟩
  ·rintro i x ys e hx hys ⟨s,rfl⟩;rw[Qg]at hx;cases er:R[i]? with
   |none=>rw[er]at hx;cases hx
   |some r =>
    rw[er]at hx;cases hx;have hr:=hR r (Qz er);refine⟨_,rfl,b,r,rfl,⟨b1,zb,hr.1,hr.2⟩,qy ?_ hys,_,rfl⟩;rw[Qg,Qg,er];rfl
  ·refine⟨R.map (rTx b),rfl,⟨by rw[Qj];exact lR,λws hw=>?_,λws hw x hx=>?_⟩,h⟩
   ·obtain⟨r,hr,rfl⟩:=Q1.mp hw;unfold rTx;rw[Qj];exact(hR r hr).1
   ·obtain⟨r,hr,rfl⟩:=Q1.mp hw;exact sh r hr x hx
def qbp(C:Addr)(ds:List Qh)(q:Qh->Prop)(e:Addr->Prop):Prop :=∃(w:Str)(th:List Qh),ds=[.str w,.list th] /\
 ((w=Qc "show" /\ qej th q)\/(w=Qc "best" /\ qsg C th q e)\/(w=Qc "compare" /\ qdd C th q e)\/(w=Qc "by" /\ qdd C th q e)\/(w=Qc "alike" /\ qdd C th q e)\/(w=Qc "curve" /\ qmx C th q e))
def qvn:FnScope ["word","things"] ["word","things"] (defScope qok):=sc0
def qwa(F:Def K mg "answer_to" qok ["word","things"])(T:Txt w K mg cs)(O_compared:OkX P w K mg base "compared" 3 ["one","other"] (XSp K (qdd cs.NoFit)))(O_alike:OkX P w K mg base "alike" 5 ["one","other"] (XSp K (qdd cs.NoFit)))(O_curve:OkX P w K mg base "curve" 2 ["glass"] (XSp K (qmx cs.NoFit)))(O_best:OkX P w K mg base "best" 3 ["glass","payoffs"] (XSp K (qsg cs.NoFit)))(O_show_glass:Ok P w K mg base "show_glass" 5 ["glass"] (PSp K qej)):OkX P w K mg base "answer_to" 6 ["word","things"] (XSp K (qbp cs.NoFit)):=by
  refine F.vokX qvn (by rintro ds q e ⟨_,_,h,_⟩;rw[h];rfl) λf cdv A outer s H E hr hp ht ds q e h=>?_;obtain⟨w,th,rfl,h⟩:=h;refine⟨_,(qg (qex (qbw (qA (qdk hr.units) (qc 0) qd) (qm (qu (qB O_show_glass.c hr.m (qa (qz (qc 1) ql) qe)))) qj))
   (qg (qN (qA (qdk hr.units) (qc 0) qd) (qg (qaz (qlk T.show_best_ T.show_best_kp (qT hp O_best.c hr.m (qa (qz (qc 1) ql) (qa (qz (qc 1) ql) qe)))))
   (qk qj)) (qk qj))
   (qg (qN (qA (qdk hr.units) (qc 0) qd) (qg (qaz (qlk T.show_compared_ T.show_compared_kp (qT hp O_compared.c hr.m (qa (qz (qc 1) ql) (qa (qz (qc 1) ql) qe)))))
   (qk qj)) (qk qj))
   (qg (qN (qA (qdk hr.units) (qc 0) qd) (qg (qaz (qlk T.show_dulling_ T.show_dulling_kp (qT hp O_compared.c hr.m (qa (qz (qc 1) ql) (qa (qz (qc 1) ql) qe)))))
   (qk qj)) (qk qj))
   (qg (qN (qA (qdk hr.units) (qc 0) qd) (qg (qaz (zbr (qT hp O_alike.c hr.m (qa (qz (qc 1) ql) (qa (qz (qc 1) ql) qe)))))
   (qk qj)) (qk qj))
   (qg (qaz (qlk T.show_curve_ T.show_curve_kp (qT hp O_curve.c hr.m (qa (qz (qc 1) ql) qe))))
   (qk qj))))))),?_⟩
  have shS:=qcd (x := "show") 0 (by decide +kernel);have shB:=qcd (x := "best") 0 (by decide +kernel);have shC:=qcd (x := "compare") 0 (by decide +kernel);have shY:=qcd (x := "by") 0 (by decide +kernel);have shA:=qcd (x := "alike") 0 (by decide +kernel);have shV:=qcd (x := "curve") 0 (by decide +kernel);rcases h with⟨rfl,h⟩|⟨rfl,h⟩|⟨rfl,h⟩|⟨rfl,h⟩|⟨rfl,h⟩|⟨rfl,h⟩
  ·obtain⟨b,R,rfl,h⟩:=h;exact⟨shS.ok,shS.ok,qqv shS.refl ⟨_,qM _ _,b,R,rfl,h⟩⟩
  ·obtain⟨b,R,Y,rfl,h⟩:=h;exact⟨shB.ok,shS.ok,qca (by decide +kernel) ⟨shB.ok,shB.ok,qqv shB.refl ⟨_,qM _ _,_,qK (j:=1) rfl,b,R,Y,rfl,h⟩⟩⟩
  ·obtain⟨b,R,c,S,rfl,h⟩:=h;exact⟨shC.ok,shS.ok,qca (by decide +kernel) ⟨shC.ok,shB.ok,qca (by decide +kernel) ⟨shC.ok,shC.ok,qqv shC.refl ⟨_,qM _ _,_,qK (j:=1) rfl,b,R,c,S,rfl,h⟩⟩⟩⟩
  ·obtain⟨b,R,c,S,rfl,h⟩:=h;exact⟨shY.ok,shS.ok,qca (by decide +kernel) ⟨shY.ok,shB.ok,qca (by decide +kernel) ⟨shY.ok,shC.ok,qca (by decide +kernel) ⟨shY.ok,shY.ok,qqv shY.refl ⟨_,qM _ _,_,qK (j:=1) rfl,b,R,c,S,rfl,h⟩⟩⟩⟩⟩
  ·obtain⟨b,R,c,S,rfl,h⟩:=h;exact⟨shA.ok,shS.ok,qca (by decide +kernel) ⟨shA.ok,shB.ok,qca (by decide +kernel) ⟨shA.ok,shC.ok,qca (by decide +kernel) ⟨shA.ok,shY.ok,qca (by decide +kernel) ⟨shA.ok,shA.ok,qqv shA.refl ⟨_,qM _ _,_,qK (j:=1) rfl,b,R,c,S,rfl,h⟩⟩⟩⟩⟩⟩
  ·obtain⟨b,R,rfl,h⟩:=h;exact⟨shV.ok,shS.ok,qca (by decide +kernel) ⟨shV.ok,shB.ok,qca (by decide +kernel) ⟨shV.ok,shC.ok,qca (by decide +kernel) ⟨shV.ok,shY.ok,qca (by decide +kernel) ⟨shV.ok,shA.ok,qca (by decide +kernel) ⟨_,qM _ _,b,R,rfl,h⟩⟩⟩⟩⟩⟩
def qeo(cN cT:Addr)(es:DS):List (Str×Str)->List Qh->(List Qh->Prop)->(Addr->Prop)->Prop
 |[],acc,q,_=>q acc
 |p::ps,acc,q,e=>qau cN cT es [.str p.1,.str p.2] (λd=>qeo cN cT es ps (acc++[d]) q e) e
def qpf(cF cN cM:Addr)(es:DS)(w0:Str)(fm ws:List Str)(th:List Qh)(q:Qh->DS->Prop)(e:Addr->Prop):Prop :=
 ((Zc (fm.headD Zf)).eqv (.str (Qc "new"))=false/\qbp cN [.str w0,.list th] (λd=>q d es) e)\/((Zc (fm.headD Zf)).eqv (.str (Qc "new"))=true /\ ∃w1 r,ws=w1::r /\
  ((atE es w1=none/\20<=es.length/\e cF)\/(((atE es w1).isSome=true\/es.length<20)/\qcv cN cM [.str w0,.list (th.drop 1)] (λd=>q (.str (Qc "ok")) (qng es w1 d)) e)))
def qjc(cR cN cT cF cNf cM:Addr)(es:DS)(ds:List Qh)(q:Qh->DS->Prop)(e:Addr->Prop):Prop:=es.length<=100 /\ ∃d,ds=[d]/\((qjx "str" d=false/\e cR) \/ ∃x:Str,d = .str x/\AscW x/\((atL FRM (hd1 x)=none/\e cR) \/ ∃fm,atL FRM (hd1 x)=some fm/\((qtx x fm=false/\e cR)\/(qtx x fm=true /\
 ∃w0 ws,qdf x fm=w0::ws/\atL FRM w0=some fm/\qeo cN cT es (fm.zip ws) [] (λth=>qpf cF cNf cM es w0 fm ws th q e) e))))
def qqu{C:Addr}{ok:Qh->Bool}{ds:List Qh}{q q':Qh->Prop}{e e':Addr->Prop}(h:qcc C ok ds q e)(hq:∀d,q d->q' d)(he:∀C,e C->e' C):qcc C ok ds q' e':=by
 obtain⟨d,hd,h⟩:=h;refine⟨d,hd,?_⟩;rcases h with⟨h1,h⟩|⟨x,hx,tx,h⟩
 ·exact .inl ⟨h1,he _ h⟩
 refine .inr ⟨x,hx,tx,?_⟩;rcases h with⟨h1,h⟩|⟨V,D0,hV,hd,h⟩
 ·exact .inl ⟨h1,he _ h⟩
 ·exact .inr ⟨V,D0,hV,hd,λB hB=>⟨λz=>he _ ((h B hB).1 z),λz y=>hq _ ((h B hB).2 z y)⟩⟩
def qrn{cN cT:Addr}{es:DS}{ds:List Qh}{q q':Qh->Prop}{e e':Addr->Prop}(h:qau cN cT es ds q e)(hq:∀d,q d->q' d)(he:∀C,e C->e' C):qau cN cT es ds q' e':=by
 obtain⟨kd,w,hd,h⟩:=h;refine⟨kd,w,hd,?_⟩;rcases h with⟨h1,s,hs,h⟩|⟨h1,n,a,b,h⟩|⟨h1,h⟩|⟨h1,h⟩|⟨h1,d,hd,h⟩|⟨h1,h⟩
 ·refine .inl ⟨h1,s,hs,?_⟩;rcases h with⟨a,h⟩|⟨d,a,h⟩
  ·exact .inl ⟨a,he _ h⟩
  ·exact .inr ⟨d,a,hq _ h⟩
 ·exact .inr (.inl ⟨h1,n,a,b,hq _ h⟩)
 ·exact .inr (.inr (.inl ⟨h1,qqu h hq he⟩))
 ·exact .inr (.inr (.inr (.inl ⟨h1,qqu h hq he⟩)))
 ·refine .inr (.inr (.inr (.inr (.inl ⟨h1,d,hd,?_⟩))));rcases h with⟨a,h⟩|⟨x,hx,tx,h⟩
  ·exact .inl ⟨a,he _ h⟩
  refine .inr ⟨x,hx,tx,?_⟩;rcases h with⟨a,h⟩|⟨Y,hY,h1,h2⟩
  ·exact .inl ⟨a,he _ h⟩
  ·exact .inr ⟨Y,hY,λz=>he _ (h1 z),λz=>hq _ (h2 z)⟩
 ·exact .inr (.inr (.inr (.inr (.inr ⟨h1,hq _ h⟩))))
def qom{C:Addr}{ds:List Qh}{q q':Qh->Prop}{e e':Addr->Prop}(h:qbp C ds q e)(hq:∀d,q d->q' d)(he:∀C,e C->e' C):qbp C ds q' e':=by
 obtain⟨w,th,hd,h⟩:=h;refine⟨w,th,hd,?_⟩;rcases h with⟨a,b,R,x,y,h⟩|⟨a,b,R,Y,x,y,h⟩|⟨a,b,R,c,S,x,y,h⟩|⟨a,b,R,c,S,x,y,h⟩|⟨a,b,R,c,S,x,y,h⟩|⟨a,b,R,x,y,h⟩
 ·exact .inl ⟨a,b,R,x,y,hq _ h⟩
 ·exact .inr (.inl ⟨a,b,R,Y,x,y,he _ h⟩)
 ·exact .inr (.inr (.inl ⟨a,b,R,c,S,x,y,he _ h⟩))
 ·exact .inr (.inr (.inr (.inl ⟨a,b,R,c,S,x,y,he _ h⟩)))
 ·exact .inr (.inr (.inr (.inr (.inl ⟨a,b,R,c,S,x,y,he _ h⟩))))
 ·exact .inr (.inr (.inr (.inr (.inr ⟨a,b,R,x,y,he _ h⟩))))
def qvl{C C2:Addr}{ds:List Qh}{q q':Qh->Prop}{e e':Addr->Prop}(h:qcv C C2 ds q e)(hq:∀d,q d->q' d)(he:∀C,e C->e' C):qcv C C2 ds q' e':=by
 obtain⟨w,th,hd,h⟩:=h;refine⟨w,th,hd,?_⟩;rcases h with⟨a,b,r,R,c,D,x,y,h⟩|⟨a,b,r,R,c,s,S,x,y,h⟩|⟨a,b,r,R,i,j,x,y,h⟩|⟨a,x,h⟩|⟨a,d,x,h⟩
 ·exact .inl ⟨a,b,r,R,c,D,x,y,he _ h⟩
 ·refine .inr (.inl ⟨a,b,r,R,c,s,S,x,y,?_⟩);rcases h with⟨h1,h⟩|⟨h1,h2,h⟩
  ·exact .inl ⟨h1,he _ h⟩
  ·exact .inr ⟨h1,h2,he _ h⟩
 ·exact .inr (.inr (.inl ⟨a,b,r,R,i,j,x,y,he _ h⟩))
 ·exact .inr (.inr (.inr (.inl ⟨a,x,λd=>hq _ (h d)⟩)))
 ·exact .inr (.inr (.inr (.inr ⟨a,d,x,hq _ h⟩)))
def xbo{b:Bool}{A B:Prop}(h:b=false)(k:A):if(!b)=true then A else B:=by rw[h];exact qho k
def qdb:FnScope ["self","row","words","form","things","made"] ["self","row"] (defScope qrq):=sc0
def qzf(F:MDef K cs.Desk "say" "Desk.say" qrq ["self","row"])(T:Txt w K mg cs)(O_Desk_thing_meant:OkMX P w K mg base cs.Desk "thing_meant" 7 ["self","kind","word"] (zfi K cs.Desk "glasses" (qau cs.NoName cs.NoText)))(O_Desk_check_room:OkMX P w K mg base cs.Desk "check_room" 1 ["self","name"] (zfi K cs.Desk "glasses" (qjg cs.Full)))(O_words_of:OkX P w K mg base "words_of" 4 ["row"] (XSp K (qnh cs.NoRow)))(O_made_by:OkX P w K mg base "made_by" 6 ["word","things"] (qkt [cs.tb] (XSp K (qcv cs.NoFit cs.TooMany))))(O_answer_to:OkX P w K mg base "answer_to" 6 ["word","things"] (XSp K (qbp cs.NoFit))):OkMX P w K mg base cs.Desk "say" 8 ["self","row"] (qkt [cs.tb] (qva K cs.Desk "glasses" (qjc cs.NoRow cs.NoName cs.NoText cs.Full cs.NoFit cs.TooMany))):=by
  refine F.vokC qdb (λes ds q e xx255=>by obtain⟨_,_,h,_⟩:=xx255;rw[h];rfl) λf cdv A outer s H E hr hp ht hTb a g es ds q e h=>?_;obtain⟨l100,d,rfl,h⟩:=h;refine⟨_,(qg (qiu (i:=2) qdb.nd (qT hp O_words_of.c hr.m (qa (qc 1) qe)))
   (qg (qex (qt (i:=3) qdb.nd (zfh T.FORMS_d T.FORMS_ (qz (qc 2) ql))))
   (qg (zlu (caps:=["self"]) (own:=["kind","word"]) (ix:=[0]) (i:=4) (λ_=>qkd) ⟨_,_,_,rfl,rfl,rfl⟩ qdb.nd rfl ⟨rfl,rfl,rfl,rfl,rfl,rfl⟩ (zdr (zel T.zip_ (qc 3) (qr (qlr (qc 2) (qlz ql) qlv)))) (λ_ _ _ _=>(qts (n:=2) rfl (qax (qw (i:=1) (show Zm (["self","kind","word"]:List Str) by decide)) (qax (qw (i:=2) (show Zm (["self","kind","word"]:List Str) by decide)) qix)))) (λ_ _ _ _ _ _ hB=>(qsn 0 (λσ=>(hB σ).at) O_Desk_thing_meant.c T.Desk_c hr.m (qa (qc 1) (qa (qc 2) qe)))))
   (qg (qN (qA (qmt hr.units) (qz (qc 3) ql) qd) (qg (qaz (qT hp O_answer_to.c hr.m (qa (qz (qc 2) ql) (qa (qc 4) qe))))
   (qk qj)) (qk qj))
   (qg (qfb (qsn 0 hp O_Desk_check_room.c T.Desk_c hr.m (qa (qz (qc 2) ql) qe)))
   (qg (qiu (i:=5) qdb.nd (qT hp (O_made_by.t hTb) hr.m (qa (qz (qc 2) ql) (qa (qr (qlr (qc 4) (qlz ql) qlv)) qe))))
   (qk (qi (zid 0 hr.u2 T.Desk_c T.Desk_n_glasses (qz (qc 2) ql) (qc 5))
   (qm (qu qd)))))))))),?_⟩
  rcases h with⟨h1,h⟩|⟨x,rfl,ax,h⟩
  ·exact⟨_,rfl,.inl ⟨h1,rfl,h⟩⟩
  rcases h with⟨h1,h⟩|⟨fm,hf,h⟩
  ·exact⟨_,rfl,.inr ⟨x,rfl,ax,.inl ⟨h1,rfl,h⟩⟩⟩
  rcases h with⟨h1,h⟩|⟨h1,w0,ws,ew,hw0,h⟩
  ·exact⟨_,rfl,.inr ⟨x,rfl,ax,.inr ⟨fm,hf,.inl ⟨h1,rfl,h⟩⟩⟩⟩
  refine⟨_,rfl,.inr ⟨x,rfl,ax,.inr ⟨fm,hf,.inr ⟨h1,?_⟩⟩⟩⟩;rw[ew];refine⟨_,qM _ _,w0,fm,rfl,hw0,λr hr=>?_⟩;have hr:r=ws.map Zc:=by
   have hr:r=zkb ((w0::ws).map Zc) (some 1) none:=hr;rw[hr,qws _ (by decide)];rfl
  subst hr;obtain⟨f0,f4,fo⟩:=zou hf;have ok2:=h1;unfold qtx at ok2;rw[ew,Qy,decide_eq_true_eq,Zl]at ok2;have lw:ws.length=fm.length:=by omega
  have lz:(zfl (fm.map Zc) (ws.map Zc)).length=fm.length:=by rw[qhj,Qj,Qj];omega
  have sh:∀w∈fm,Shp 0 (.str w):=λw hw=>qcd (x:=w) 0 (fo w hw);have shN:=qcd (x := "new") 0 (by decide +kernel);refine⟨qx (by rw[lz];omega),λi ys e1=>qeo cs.NoName cs.NoText es ((fm.zip ws).drop i) ys (λth=>qpf cs.Full cs.NoFit cs.TooMany es w0 fm ws th q e) e /\ ∃s t,e1=[.dsk false a g cs.Desk "glasses" es,s,t],⟨h,_,_,rfl⟩,?_,?_⟩
  ·rintro i d ys e1 hx ⟨hi,s1,t1,rfl⟩;obtain⟨y1,y2,g1,g2,rfl⟩:=zaw hx;rw[Qg]at g1 g2;cases k1:fm[i]? with
   |none=>rw[k1]at g1;cases g1
   |some kd =>
    cases k2:ws[i]? with
    |none=>rw[k2]at g2;cases g2
    |some w =>
     rw[k1]at g1;rw[k2]at g2;cases g1;cases g2;have hz:(fm.zip ws)[i]?=some (kd,w):=Qbb.mpr ⟨k1,k2⟩;have hd:(fm.zip ws).drop i=(kd,w)::(fm.zip ws).drop (i+1):=by
      obtain⟨hl,he⟩:=Q6.mp hz;rw[List.drop_eq_getElem_cons hl,he]
     rw[hd]at hi;exact⟨rfl,rfl,false,a,g,es,rfl,rfl,qrn hi (λd hd=>⟨hd,_,_,rfl⟩) (λC hC=>⟨rfl,hC⟩)⟩
  ·rintro th e1 ⟨hi,_⟩;rw[lz]at hi;have hd:(fm.zip ws).drop fm.length=[]:=List.drop_eq_nil_of_le (by rw[List.length_zip];omega);rw[hd]at hi;have hi:qpf cs.Full cs.NoFit cs.TooMany es w0 fm ws th q e:=hi;obtain⟨k0,fm',rfl⟩:=Ys f0;refine⟨_,qM _ _,(sh k0 (by simp)).ok,shN.ok,?_⟩;rcases hi with⟨hn,hj⟩|⟨hn,w1,r,rfl,hj⟩
   ·exact xbo hn ⟨_,qM _ _,qom hj (λd hd=>⟨_,_,rfl,rfl,hd⟩) (λC hC=>⟨rfl,hC⟩)⟩
   refine zkd hn ⟨true,a,g,es,rfl,_,qK (j:=1) rfl,rfl,w1,rfl,?_⟩;rcases hj with⟨h1,h2,hk⟩|⟨h1,hk⟩
   ·exact .inl ⟨h1,h2,rfl,hk⟩
   refine .inr ⟨h1,_,qM _ _,λr2 hr2=>?_⟩;have hr2:r2=th.drop 1:=by
    have hr2:r2=zkb th (some 1) none:=hr2;rw[hr2,qws _ (by decide)];rfl
   subst hr2;refine qvl hk (λd hd=>?_) (λC hC=>⟨rfl,hC⟩);exact⟨a,g,es,rfl,_,qK (j:=1) rfl,rfl,w1,rfl,⟨qx (by omega),λj hj=>by rcases j with _|_|_|_|_|_|j <;> first|exact absurd rfl hj|rfl⟩,_,_,rfl,rfl,hd⟩
def qkl(ds:List Qh)(q:Qh->Prop):Prop :=∃(ns:LI)(k:Int),ds=[.list (ns.map .int),.int k]/\(0<=k/\k<=1000/\ns.length<=63) /\ ∀z:Int,q (.int z)
def qwd:FnScope ["_law_script","_law_k"] ["_law_script","_law_k"] (defScope qns):=sc0
def qwc(F:Def K mg "_law_cell" qns ["_law_script","_law_k"])(T:Txt w K mg cs):Ok P w K mg base "_law_cell" 1 ["_law_script","_law_k"] (PSp K qkl):=by
  refine F.vok qwd (by rintro ds q ⟨_,_,h,_⟩;rw[h];rfl) λf cdv A outer s H E hr ds q h=>?_;obtain⟨ns,k,rfl,⟨k0,k1,hl⟩,h⟩:=h;refine⟨_,(qi (qbw (qA zsc (qc 1) (qv qbj T.len_ L2.boot_len (qa (qc 0) qe))) (qm (qu (qz (qc 0) (qc 1)))) qj)
   (qi (qbw (qA (qdk hr.units) (qv qbj T.len_ L2.boot_len (qa (qc 0) qe)) ql) (qm (qu (qf qh (qf qh (qf qeg (qf qeg (qc 1) (qc 1)) ql) (qf qeg ql (qc 1))) ql))) qj)
   (qm (qu (qf qh (qf qeg (qz (qc 0) (qf qjz (qc 1) (qv qbj T.len_ L2.boot_len (qa (qc 0) qe)))) (qf qh (qc 1) ql)) (qf qeg (qf qeg (qc 1) (qc 1)) ql)))))),?_⟩
  refine qod (λhlt=>?_) (λhge=>?_)
  ·obtain⟨n,en⟩:=zaa (ns:=ns) k0 (by simpa using hlt);exact⟨_,en,h n⟩
  refine⟨rfl,rfl,qsv (λz=>?_) (λz=>?_)⟩
  ·exact⟨Qgc (qcl (by omega) (by omega)),Qfh (by decide),Qgc (by decide),h _⟩
  ·have hp:0<(((ns.map Yp).length:Nat):Int):=by omega
   obtain⟨n,en⟩:=zaa (ns:=ns) (i:=k%(((ns.map Yp).length:Nat):Int)) (Yy _ (by omega)) (by have:=Yw k hp;simpa using this);exact⟨hp,_,en,Qfh (qcl (by omega) (by omega)),Qgc (qcl (by omega) (by omega)),Qfh (by decide),h _⟩
def ltr(i:Int):Nat:=97+(i%26).toNat
def qgq(c:Int)(n:Nat):List Nat:=(Z9 n).map λk:Nat=>ltr (c/(3*(k:Int)+5))
def qgo(c:Int)(n a:Nat)(k:Nat):List Nat:=(qgq c n).set a (ltr (c/64+5*(k:Int)))
def qif(c:Int)(n a:Nat)(k:Nat):Str:=⟨(qgo c n a k).toArray⟩
def qiy(ds:List Qh)(q:List Qh->Prop):Prop :=∃c:Int,ds=[.int c] /\ ∀(n a:Nat),a<n->n<=8->q ((Z9 26).map λk => .str (qif c n a k))
def zov(i:Int):atI (Qc "abcdefghijklmnopqrstuvwxyz").cps.toList (i%26)=some (ltr i):=by
 have h0:=Yy i (show(26:Int)≠0 by decide);have h1:=Yw i (show(0:Int)<26 by decide);have all:∀k:Nat,k<26->(Qc "abcdefghijklmnopqrstuvwxyz").cps.toList[k]?=some (97+k):=by decide +kernel
 obtain⟨k,hk⟩:=Yr h0;unfold ltr;rw[hk];exact qK (all k (by omega))
def zcz(l:List Nat):Y8 Zf (l.map chS)=⟨l.toArray⟩:=by
 have e:Y8 Zf (l.map chS)=Q8 Zf (l.map chS):=V2 _ _;rw[e];have e0:Zf.cps.toList=[]:=rfl;have key:∀l:List Nat,(Q8 Zf (l.map chS)).cps.toList=l:=λl=>by
  induction l with
  |nil=>rfl
  |cons a l ih =>
   cases l with
   |nil=>rfl
   |cons b l =>
    rw[Qr,Qr,qbh,e0,Qkv];rw[Qr]at ih;rw[ih];rfl
 exact qbk (key l)
def qab:FnScope ["_law_cell_here","_law_letters","_law_size","_law_at","_law_stem","_law_names_here","_law_k","_law_word"] ["_law_cell_here"] (defScope qkw):=sc0
def qso(F:Def K mg "_law_names" qkw ["_law_cell_here"])(T:Txt w K mg cs):Ok P w K mg base "_law_names" 1 ["_law_cell_here"] (FSp K qiy):=by
  refine F.vokF qab (by rintro ds q ⟨_,h,_⟩;rw[h];rfl) λf cdv A outer s H E hr ds q h=>?_;obtain⟨c,rfl,h⟩:=h;refine⟨_,(qi (qt (i:=1) qab.nd qd)
   (qi (qt (i:=2) qab.nd (qf qh ql (qf qjz (qc 0) ql)))
   (qi (qt (i:=3) qab.nd (qf qjz (qf qot (qc 0) ql) (qc 2)))
   (qi (zsr (caps:=["_law_cell_here","_law_letters"]) (own:=["_law_k"]) (ix:=[0,1]) (i:=4) qab.nd rfl ⟨rfl,rfl,rfl,rfl,rfl,rfl⟩ (qbs T.range_ (qc 2)) (λ_ _ _ _=>(qw (i:=2) (show Zm (["_law_cell_here","_law_letters","_law_k"]:List Str) by decide))) (λ_ _ _ _=>(znv (qc 1) (qf qjz (qf qot (qc 0) (qf qh (qf qeg ql (qc 2)) ql)) ql))))
   (qi (zef (i:=5) qab.nd (qC qe))
   (qi (qgn rfl (qbs T.range_ ql) (qw (i:=6) qab.nd) (qi (zef (i:=7) qab.nd (zim zxa T.list_ L2.boot_list (qa (qc 4) qe)))
   (qi (zyc 7 (znv (qc 1) (qf qjz (qf qh (qf qot (qc 0) ql) (qf qeg ql (qc 6))) ql)) (qc 3))
   (zwm 7 (qm (zik 5 (qwt qd (qc 7))))))))
   (qm (zsh 5)))))))),?_⟩
  have s0:=Yy c (show(8:Int)≠0 by decide);have s1:=Yw c (show(0:Int)<8 by decide);have a0:=Yy (c/8) (show(1+c%8:Int)≠0 by omega);have a1:=Yw (c/8) (show(0:Int)<1+c%8 by omega);obtain⟨a,ea⟩:=Yr a0;have l26:(Qc "abcdefghijklmnopqrstuvwxyz").length<=Qo:=qH (k:=26) (by decide) (by decide);have sm:∀x:Int,0<=x->x<=100->intBits x<=4000:=λx h1 h2=>qai (qcl (by omega) (by omega)) (by decide);have hl:(qgq c (1+c%8).toNat).length=(1+c%8).toNat:=by unfold qgq;rw[Qj,Qfg]
  refine⟨(show(0:Int)<8 by decide),⟨by decide,by decide⟩,(show(0:Int)<1+c%8 by omega),⟨by omega,by omega⟩,?_⟩;refine qO ((qgq c (1+c%8).toNat).map λx=>Zc (chS x)) ?_ (qx ?_) (λe =>∃s,e=[.val (.int c),.val (.str (Qc "abcdefghijklmnopqrstuvwxyz")),s]) ⟨_,rfl⟩ ?_ ?_
  ·rw[Qj,hl,qbg]
  ·rw[Qj,hl];omega
  ·rintro i x ys e hx hys ⟨s,rfl⟩;obtain⟨hi,rfl⟩:=qcm hx;rw[Qel];refine⟨zch (sm 3 (by decide) (by decide)) (sm _ (by omega) (by omega)),⟨by omega,qai (sm _ (by omega) (by omega)) (by decide)⟩,(show(0:Int)<26 by decide),_,⟨l26,zov _⟩,qy ?_ hys,_,rfl⟩;unfold qgq;rw[Qg,Qg,Vt hi];rfl
  refine⟨szl,⟨by decide,by decide⟩,λi e =>∃s6 s7,e=[.val (.int c),.val (.str (Qc "abcdefghijklmnopqrstuvwxyz")),.val (.int (1+c%8)),.val (.int (c/8%(1+c%8))),.val (.list ((qgq c (1+c%8).toNat).map λx=>Zc (chS x))),.own (((Z9 26).map λk=>Zc (qif c (1+c%8).toNat a k)).take i),s6,s7],⟨_,_,rfl⟩,?_,?_⟩
  ·rintro i d e hd ⟨s6,s7,rfl⟩;obtain⟨hi,rfl⟩:=qcm hd;rw[Qel];have ix:ixN (((qgq c (1+c%8).toNat).map λx=>Zc (chS x)).length) (c/8%(1+c%8))=some a:=by
    rw[Qj,hl,ea];unfold ixN;rw[if_pos (by omega),if_pos (by omega)];rfl
   refine⟨⟨by decide,by decide⟩,zch (sm 5 (by decide) (by decide)) (sm _ (by omega) (by omega)),(show(0:Int)<26 by decide),_,⟨l26,zov _⟩,rfl,rfl,a,ix,?_⟩;have em:(((qgq c (1+c%8).toNat).map λx=>Zc (chS x)).set a (.str (chS (ltr (c/64+5*(i:Int))))))=((qgo c (1+c%8).toNat a i).map chS).map Zc:=by
    unfold qgo;rw[Zi,List.map_set];rfl
   have ln:(qgo c (1+c%8).toNat a i).length<=8:=by unfold qgo;rw[Yk,hl];omega
   refine⟨rfl,_,rfl,_,congrArg Qfw em,qwf (B:=1) (λy hy=>?_) ?_,?_⟩
   ·obtain⟨x,_,rfl⟩:=Q1.mp hy;exact Qn 1
   ·rw[Qj];show(qgo c (1+c%8).toNat a i).length*1+(qgo c (1+c%8).toNat a i).length*0<=16777216;omega
   ·rw[show Qc "" = Zf from by decide +kernel,zcz];refine⟨rfl,qx (by show(List.take i _).length<=1000;rw[Qga];omega),?_⟩;have et:((Z9 26).map λk=>Zc (qif c (1+c%8).toNat a k)).take (i+1)=((Z9 26).map λk=>Zc (qif c (1+c%8).toNat a k)).take i++[.str (qif c (1+c%8).toNat a i)]:=by
     rw[Vp,Qg,Vt (by omega)];rfl
    show∃s6 s7:Sl,_=[_,_,_,_,_,Sl.own (List.take (i+1) _),s6,s7];rw[et];exact⟨_,_,rfl⟩
  ·rintro e ⟨s6,s7,rfl⟩;refine⟨_,?_,h (1+c%8).toNat a (by omega) (by omega)⟩;rw[qbg];rfl
def KW(cR cN cT cF cNf cM:Addr)(C:Addr)(w:Str):Prop:=(C=cR/\w=Qc "row")\/(C=cN/\w=Qc "name")\/(C=cT/\w=Qc "text")\/(C=cF/\w=Qc "full")\/(C=cNf/\w=Qc "fit")\/(C=cM/\w=Qc "many")
def qnw(cR cN cT cF cNf cM:Addr)(es:DS)(ds:List Qh)(q:Qh->DS->Prop)(_:Addr->Prop):Prop :=∃(d:Qh)(C:Addr)(w:Str),ds=[d]/\KW cR cN cT cF cNf cM C w/\qjc cR cN cT cF cNf cM es [d] (λ_ _=>False) (λC'=>C'=C)/\q (.str w) es
def qni{cN cT:Addr}{es:DS}{q q':List Qh->Prop}{e e':Addr->Prop}(hq:∀th,q th->q' th)(he:∀C,e C->e' C):∀{ps:List (Str×Str)}{acc:List Qh},qeo cN cT es ps acc q e->qeo cN cT es ps acc q' e'
 |[],_,h=>hq _ h
 |_::_,_,h=>qrn h (λ_ hd=>qni hq he hd) he
def zcu{cF cN cM:Addr}{es:DS}{w0:Str}{fm ws:List Str}{th:List Qh}{q q':Qh->DS->Prop}{e e':Addr->Prop}(hq:∀d s,q d s->q' d s)(he:∀C,e C->e' C)(h:qpf cF cN cM es w0 fm ws th q e):qpf cF cN cM es w0 fm ws th q' e':=by
 rcases h with⟨a,h⟩|⟨a,w1,r,b,h⟩
 ·exact .inl ⟨a,qom h (λd=>hq d es) he⟩
 ·refine .inr ⟨a,w1,r,b,?_⟩;rcases h with⟨h1,h2,h⟩|⟨h1,h⟩
  ·exact .inl ⟨h1,h2,he _ h⟩
  ·exact .inr ⟨h1,qvl h (λd=>hq _ _) he⟩
def zmi{cR cN cT cF cNf cM:Addr}{es:DS}{ds:List Qh}{q q':Qh->DS->Prop}{e e':Addr->Prop}(h:qjc cR cN cT cF cNf cM es ds q e)(hq:∀d s,q d s->q' d s)(he:∀C,e C->e' C):qjc cR cN cT cF cNf cM es ds q' e':=by
 obtain⟨l,d,hd,h⟩:=h;refine⟨l,d,hd,?_⟩;rcases h with⟨a,h⟩|⟨x,hx,ax,h⟩
 ·exact .inl ⟨a,he _ h⟩
 refine .inr ⟨x,hx,ax,?_⟩;rcases h with⟨a,h⟩|⟨fm,hf,h⟩
 ·exact .inl ⟨a,he _ h⟩
 refine .inr ⟨fm,hf,?_⟩;rcases h with⟨a,h⟩|⟨a,w0,ws,b,c,h⟩
 ·exact .inl ⟨a,he _ h⟩
 ·exact .inr ⟨a,w0,ws,b,c,qni (λth=>zcu hq he) he h⟩
def zoh:List Str:=["row","name","text","full","fit","many"]
def qff{D:WEnds}{s0 s1 s2 s3:Sl}{bs:List Bool}{j:Nat}{w:Str}(hl:bs.length=6)(h1:(bs.filter id).length=1)(hj:bs[j]?=some true)(hn:∀m,m<j->bs[m]?≠some true)(hw:zoh[j]?=some w)(h:D.rt (.val (.str w)) [s0,s1,s2,s3,.val (.list (bs.map .bool))]):
 zkg (wIf (qrb (wOp dNe (qgp zpy (qeu (wL (qwu [] 1 (zpo (qui 4)) (qxs 0) (qrb (qui 0)) (qui 0))) zca)) (wC (.int 1)))) (zta (wC (.str (Qc "none")))) qyg)
 (zta (wOp dIx (wL (xde (qeu (wC (.str (Qc "row"))) (qeu (wC (.str (Qc "name"))) (qeu (wC (.str (Qc "text"))) (qeu (wC (.str (Qc "full"))) (qeu (wC (.str (Qc "fit"))) (qeu (wC (.str (Qc "many"))) zca)))))))) (zvn 4 zgg (wC (.bool true)))))
 D [s0,s1,s2,s3,.val (.list (bs.map .bool))]:=by
  refine⟨qx (by simp;omega),λi ys e=>ys=((bs.take i).filter id).map .bool /\ ∃s,e=[s],⟨by simp,_,rfl⟩,?_,?_⟩
  ·rintro i d ys e hd ⟨rfl,s,rfl⟩;rw[Qg]at hd;cases hb:bs[i]? with
   |none=>rw[hb]at hd;cases hd
   |some b =>
    rw[hb]at hd;cases hd;have et:bs.take (i+1)=bs.take i++[b]:=by rw[Vp,hb];rfl
    cases b with
    |true=>exact⟨by rw[et,Qik,V1];rfl,_,rfl⟩
    |false=>exact⟨by rw[et,Qik];simp,_,rfl⟩
  ·rintro ys e ⟨rfl,_⟩;rw[Qj,J6];have ln:(((bs.filter id).map Qbi).length:Int)=1:=by rw[Qj,h1];rfl
   refine⟨rfl,rfl,qey (λz=>absurd ln z) (λ_=>?_)⟩;refine⟨szl,_,rfl,bs,true,j,rfl,rfl,hj,hn,.str w,qK (xs:=zoh.map Zc) (by rw[Qg,hw];rfl),h⟩
def qbq:FnScope ["_law_desk","_law_row","_law_caught","error","_law_marks"] ["_law_desk","_law_row"] (defScope qnx):=sc0
def qvx(F:Def K mg "_law_kind" qnx ["_law_desk","_law_row"])(T:Txt w K mg cs)(O_Desk_say:OkMX P w K mg base cs.Desk "say" 8 ["self","row"] (qkt [cs.tb] (qva K cs.Desk "glasses" (qjc cs.NoRow cs.NoName cs.NoText cs.Full cs.NoFit cs.TooMany)))):Ok P w K mg base "_law_kind" 9 ["_law_desk","_law_row"] (qkt [cs.tb] (qva K cs.Desk "glasses" (qnw cs.NoRow cs.NoName cs.NoText cs.Full cs.NoFit cs.TooMany))):=by
  refine F.vokD qbq (λes ds q e xx256=>by obtain⟨_,_,_,h,_⟩:=xx256;rw[h];rfl) λf cdv A outer s H E hr hTb a g es ds q e h=>?_;obtain⟨d,C,wd,rfl,hk,hs,h⟩:=h;refine⟨_,(qi (qt (i:=2) qbq.nd znt)
   (qi (zyf (i:=3) (C':=cs.GlassError) rfl rfl qbq.nd T.GlassError_ T.GlassError_e (λ_ _ _ hp=>(qg (qfb (zab 0 hp (O_Desk_say.t hTb) T.Desk_c hr.m (qa (qc 1) qe)))
   (qk qj))) (λ_ _=>(qm (zsv (i:=2) 3 qbq.nd))))
   (qi (qbw (VW.pt (qee (qW (qV (qlc 2 T.isinstance_ (qpr (v :=.ty "ValueError") rfl T.ValueError_ L2.boot_ValueError rfl) rfl))) (qde (qV (zsk 2 T.isinstance_ (zvt (qbt (v :=.ref cs.NoBeliefs) rfl T.NoBeliefs_ rfl) (zvt (qbt (v :=.ref cs.NoDulling) rfl T.NoDulling_ rfl) (zvt (qbt (v :=.ref cs.NoGlass) rfl T.NoGlass_ rfl) (zvt (qbt (v :=.ref cs.NoShare) rfl T.NoShare_ rfl) xbi)))) rfl (szl (h:=rfl))))))) (qm (qu qd)) qj)
   (qi (qt (i:=4) qbq.nd (qr (qC (qa (qlc 2 T.isinstance_ (qbt (v :=.ref cs.NoRow) rfl T.NoRow_ rfl) rfl) (qa (qlc 2 T.isinstance_ (qbt (v :=.ref cs.NoName) rfl T.NoName_ rfl) rfl) (qa (qlc 2 T.isinstance_ (qbt (v :=.ref cs.NoText) rfl T.NoText_ rfl) rfl) qe))))))
   (qi (qt (i:=4) qbq.nd (qr (qR (qc 4) (qr (qC (qa (qlc 2 T.isinstance_ (qbt (v :=.ref cs.Full) rfl T.Full_ rfl) rfl) (qa (qlc 2 T.isinstance_ (qbt (v :=.ref cs.NoFit) rfl T.NoFit_ rfl) rfl) (qa (qlc 2 T.isinstance_ (qbt (v :=.ref cs.TooMany) rfl T.TooMany_ rfl) rfl) qe))))))))
   (qi (qbw (qA (qmt hr.units) (qv qbj T.len_ L2.boot_len (qa (qr (zgp (caps:=[]) (own:=["_law_mark"]) (ix:=[]) rfl ⟨rfl,rfl,rfl,rfl,rfl,rfl⟩ (qae (qc 4)) (λ_ _ _ _=>(qw (i:=0) (show Zm (["_law_mark"]:List Str) by decide))) (λ_ _ _ _=>(qV (qc 0))) (λ_ _ _ _=>(qc 0)))) qe)) ql) (qm (qu qd)) qj)
   (qm (qu (qz (qr (qC (qa qd (qa qd (qa qd (qa qd (qa qd (qa qd qe)))))))) (zia 4 qgc)))))))))),?_⟩
  refine⟨a,g,es,rfl,rfl,λj hj=>by rcases j with _|_|_|_|_|j <;> first|exact absurd rfl hj|rfl,zmi hs (λ_ _ z=>z.elim) (λC' hC=>?_)⟩;subst hC;have sz6:6<=Qo:=qH (k:=6) (Qn _) (by decide);rcases hk with⟨rfl,rfl⟩|⟨rfl,rfl⟩|⟨rfl,rfl⟩|⟨rfl,rfl⟩|⟨rfl,rfl⟩|⟨rfl,rfl⟩
  ·refine⟨T.u_NoRow_GlassError,T.NoRow_x,_,T.k_NoRow_ValueError,qdl ⟨T.NoRow_x,_,T.k_NoRow_NoBeliefs_NoDulling_NoGlass_NoShare,qdl ⟨T.NoRow_x,_,T.k_NoRow_NoRow,T.NoRow_x,_,T.k_NoRow_NoName,T.NoRow_x,_,T.k_NoRow_NoText,szl,T.NoRow_x,_,T.k_NoRow_Full,T.NoRow_x,_,T.k_NoRow_NoFit,T.NoRow_x,_,T.k_NoRow_TooMany,szl,sz6,?_⟩⟩⟩;exact qff (bs:=[true,false,false,false,false,false]) (j:=0) rfl rfl rfl (by decide) rfl ⟨_,_,rfl,rfl,h⟩
  ·refine⟨T.u_NoName_GlassError,T.NoName_x,_,T.k_NoName_ValueError,qdl ⟨T.NoName_x,_,T.k_NoName_NoBeliefs_NoDulling_NoGlass_NoShare,qdl ⟨T.NoName_x,_,T.k_NoName_NoRow,T.NoName_x,_,T.k_NoName_NoName,T.NoName_x,_,T.k_NoName_NoText,szl,T.NoName_x,_,T.k_NoName_Full,T.NoName_x,_,T.k_NoName_NoFit,T.NoName_x,_,T.k_NoName_TooMany,szl,sz6,?_⟩⟩⟩;exact qff (bs:=[false,true,false,false,false,false]) (j:=1) rfl rfl rfl (by decide) rfl ⟨_,_,rfl,rfl,h⟩
  ·refine⟨T.u_NoText_GlassError,T.NoText_x,_,T.k_NoText_ValueError,qdl ⟨T.NoText_x,_,T.k_NoText_NoBeliefs_NoDulling_NoGlass_NoShare,qdl ⟨T.NoText_x,_,T.k_NoText_NoRow,T.NoText_x,_,T.k_NoText_NoName,T.NoText_x,_,T.k_NoText_NoText,szl,T.NoText_x,_,T.k_NoText_Full,T.NoText_x,_,T.k_NoText_NoFit,T.NoText_x,_,T.k_NoText_TooMany,szl,sz6,?_⟩⟩⟩;exact qff (bs:=[false,false,true,false,false,false]) (j:=2) rfl rfl rfl (by decide) rfl ⟨_,_,rfl,rfl,h⟩
  ·refine⟨T.u_Full_GlassError,T.Full_x,_,T.k_Full_ValueError,qdl ⟨T.Full_x,_,T.k_Full_NoBeliefs_NoDulling_NoGlass_NoShare,qdl ⟨T.Full_x,_,T.k_Full_NoRow,T.Full_x,_,T.k_Full_NoName,T.Full_x,_,T.k_Full_NoText,szl,T.Full_x,_,T.k_Full_Full,T.Full_x,_,T.k_Full_NoFit,T.Full_x,_,T.k_Full_TooMany,szl,sz6,?_⟩⟩⟩;exact qff (bs:=[false,false,false,true,false,false]) (j:=3) rfl rfl rfl (by decide) rfl ⟨_,_,rfl,rfl,h⟩
  ·refine⟨T.u_NoFit_GlassError,T.NoFit_x,_,T.k_NoFit_ValueError,qdl ⟨T.NoFit_x,_,T.k_NoFit_NoBeliefs_NoDulling_NoGlass_NoShare,qdl ⟨T.NoFit_x,_,T.k_NoFit_NoRow,T.NoFit_x,_,T.k_NoFit_NoName,T.NoFit_x,_,T.k_NoFit_NoText,szl,T.NoFit_x,_,T.k_NoFit_Full,T.NoFit_x,_,T.k_NoFit_NoFit,T.NoFit_x,_,T.k_NoFit_TooMany,szl,sz6,?_⟩⟩⟩;exact qff (bs:=[false,false,false,false,true,false]) (j:=4) rfl rfl rfl (by decide) rfl ⟨_,_,rfl,rfl,h⟩
  ·refine⟨T.u_TooMany_GlassError,T.TooMany_x,_,T.k_TooMany_ValueError,qdl ⟨T.TooMany_x,_,T.k_TooMany_NoBeliefs_NoDulling_NoGlass_NoShare,qdl ⟨T.TooMany_x,_,T.k_TooMany_NoRow,T.TooMany_x,_,T.k_TooMany_NoName,T.TooMany_x,_,T.k_TooMany_NoText,szl,T.TooMany_x,_,T.k_TooMany_Full,T.TooMany_x,_,T.k_TooMany_NoFit,T.TooMany_x,_,T.k_TooMany_TooMany,szl,sz6,?_⟩⟩⟩;exact qff (bs:=[false,false,false,false,false,true]) (j:=5) rfl rfl rfl (by decide) rfl ⟨_,_,rfl,rfl,h⟩
def qmi(s sub:Str)(hi k K:Nat)(hk:k<=K):∀(l:List Nat)(st st':Array Nat×Nat),st.fst.toList=st'.fst.toList.take k->(st'.fst.size<k->st.snd=st'.snd) ->
 (forIn l st (Qdz s sub hi k)).run.fst.toList=((forIn l st' (Qdz s sub hi K)).run.fst.toList).take k
  |[],_,_,h,_=>h
  |a::l,st,st',h,hs=>by
   rw[Qdw,Qdw];have sz:st.fst.size=min k st'.fst.size:=by rw[<- Zw,h,Qga,Zw]
   by_cases c:st'.fst.size<k
   ·have e1:st.fst.size=st'.fst.size:=by omega
    have e2:=hs c;have e3:st.fst.toList=st'.fst.toList:=by rw[h,Vm (by rw[Zw];omega)]
    unfold Qdz;split
    ·rename_i hc;rw[if_pos (show _ from⟨⟨⟨by omega,by rw[<- e2];exact hc.1.1.2⟩,hc.1.2⟩,hc.2⟩)];refine qmi s sub hi k K hk l _ _ ?_ (λ_=>rfl);show(st.fst.push a).toList=(st'.fst.push a).toList.take k;rw[Qfi,Qfi,e3,Vm (by rw[Yu,Zw];simp;omega)]
    ·rename_i hc;rw[if_neg (λz=>hc ⟨⟨⟨by omega,by rw[e2];exact z.1.1.2⟩,z.1.2⟩,z.2⟩)];exact qmi s sub hi k K hk l _ _ h hs
   ·unfold Qdz;rw[if_neg (λz=>by have:=z.1.1.1;omega)];split
    ·refine qmi s sub hi k K hk l _ _ ?_ (λz=>?_)
     ·show st.fst.toList=(st'.fst.push a).toList.take k;rw[Qfi,List.take_append_of_le_length (by rw[Zw];omega)];exact h
     ·have z:(st'.fst.push a).size<k:=z;rw[Qkt]at z;omega
    ·exact qmi s sub hi k K hk l _ _ h hs
def zad(x y:Str){k K:Nat}(hk:k<=K):Q5 x y 0 x.length k=(Q5 x y 0 x.length K).take k:=by
 rw[Qlk,Qlk];exact qmi x y x.length k K hk _ _ _ (by simp) (λ_=>rfl)
def qrt(x y:Str):∀(k:Nat)(cuts:List Nat)(a f:Nat),StrLaws.ChainTo x y x.length a cuts f->Y7 x y.length a (cuts.take k)=if cuts.length<=k then Y7 x y.length a cuts else(Y7 x y.length a cuts).take k++[Q8 y ((Y7 x y.length a cuts).drop k)]
 |0,[],a,f,h=>rfl
 |0,c::r,a,f,h=>by
  rw[if_neg (by simp)];show[Q9 x a x.length]=[]++[Q8 y (Y7 x y.length a (c::r))];rw[StrLaws.join_partsFrom x y _ a f h];rfl
 |k+1,[],a,f,h=>by rw[if_pos (by simp)];rfl
 |k+1,c::r,a,f,h=>by
  have ih:=qrt x y k r (c+y.length) f h.2.2;show Q9 x a c::Y7 x y.length (c+y.length) (r.take k)=_;rw[ih];by_cases z:r.length<=k
  ·rw[if_pos z,if_pos (by simp;omega)];rfl
  ·rw[if_neg z,if_neg (by simp;omega)];rfl
def bl1:Str:=Qc " "
def NB(ws:List Str):Prop:=ws≠[] /\ ∀w∈ws,32∉w.cps.toList
def qwn(ws:List Str):Y8 (Qc " ") ws=Q8 bl1 ws:=V2 _ _
def qnl{ws:List Str}(h:NB ws):Z8 (Q8 bl1 ws) (Qc " ")=ws:=by
 rw[<- qwn];exact(qqc h.1 h.2).2
def zif{ws:List Str}(h:NB ws){k:Nat}(k1:1<=k)(hk:k<=(Q8 bl1 ws).length+1):Yl (Q8 bl1 ws) (Qc " ") k=if ws.length<=k+1 then ws else ws.take k++[Q8 bl1 (ws.drop k)]:=by
 have hs:=qnl h;have hp:=(qqc h.1 h.2).1;rw[qwn]at hp;have e:Qha (Q8 bl1 ws) (k:Int)=k:=by unfold Qha;rw[if_neg (by omega)];rfl
 have ot:=zad (Q8 bl1 ws) (Qc " ") hk;obtain⟨f,hc⟩:=StrLaws.occ_chain (Q8 bl1 ws) (Qc " ") ((Q8 bl1 ws).length+1);have lp:=J9 (Q8 bl1 ws) (Q5 (Q8 bl1 ws) (Qc " ") 0 (Q8 bl1 ws).length ((Q8 bl1 ws).length+1)) (Qc " ").length;rw[hp]at lp;unfold Yl;unfold Z8 at hs;rw[e,ot,V9];rw[V9]at hp hs;have pt:=qrt (Q8 bl1 ws) (Qc " ") k _ 0 f hc;rw[hp]at pt;rw[pt];split
 ·rename_i z;rw[if_pos z]at hs;rw[hs,if_pos (by rw[<- hs];simp)]
 ·rename_i z;rw[if_neg z]at hs;split
  ·rename_i y;have y0:(Q5 (Q8 bl1 ws) (Qc " ") 0 (Q8 bl1 ws).length ((Q8 bl1 ws).length+1))=[]:=by
    have y:=Qkf.mp y;rcases List.take_eq_nil_iff.mp y with y|y
    ·omega
    ·exact y
   rw[y0]at hs lp;have hs:[Q8 bl1 ws]=ws:=hs;rw[hs,if_pos (by rw[<- hs];simp)]
  ·by_cases c:ws.length<=k+1
   ·rw[if_pos (by omega),if_pos c]
   ·rw[if_neg (by omega),if_neg c];rfl
def zml{w:Str}{ws:List Str}(h:NB (w::ws)):hd1 (Q8 bl1 (w::ws))=w:=by
 have hp:=(qqc h.1 h.2).1;rw[qwn,V9]at hp;have ot:=zad (Q8 bl1 (w::ws)) (Qc " ") (k:=1) (K:=(Q8 bl1 (w::ws)).length+1) (by omega);unfold hd1 qet;rw[ot];cases ho:Q5 (Q8 bl1 (w::ws)) (Qc " ") 0 (Q8 bl1 (w::ws)).length ((Q8 bl1 (w::ws)).length+1)with
 |nil =>
  rw[ho]at hp;have hp:[Q9 (Q8 bl1 (w::ws)) 0 (Q8 bl1 (w::ws)).length]=w::ws:=hp;rw[Qjh]at hp;injection hp with h1 h2
 |cons i r =>
  rw[ho]at hp;have hp:Q9 (Q8 bl1 (w::ws)) 0 i::Y7 (Q8 bl1 (w::ws)) (Qc " ").length (i+(Qc " ").length) r=w::ws:=hp;injection hp with h1 h2
def qxn(ws fm:List Str):List Str:=if TXS.any (· == qxg fm)=true then(if ws.length<=fm.length+1 then ws else ws.take fm.length++[Q8 bl1 (ws.drop fm.length)])else ws
def zdk{ws fm:List Str}(h:NB ws)(f1:1<=fm.length)(hk:fm.length<=(Q8 bl1 ws).length+1):qdf (Q8 bl1 ws) fm=qxn ws fm:=by
 unfold qdf qxn;split
 ·exact zif h f1 hk
 ·exact qnl h
inductive Prt where
 |c (s:String)
 |n (i:Nat)
 |m (s:String) (k:Nat)
def prS(ν:Nat->Str):Prt->Str
 |.c s=>Qc s
 |.n i=>ν i
 |.m s k=>Qjc (Qc s) k
def zke(ν:Nat->Str):List Prt->Str
 |[]=>Zf
 |p::ps=>ps.foldl (λx q=>x++prS ν q) (prS ν p)
inductive RowP where
 |t (ps:List Prt)
 |z (k:Nat)
def qmf(ν:Nat->Str):RowP->Qh
 |.t ps => .str (zke ν ps)
 |.z 0 => .none
 |.z 1 => .int 5
 |.z 2 => .list [.str (ν 0)]
 |.z _ => .bool true
def cl{s:String}(h:(Qc s).length<=60):(Qc s).length<=60:=h
def ca{x y:Str}{m n:Nat}(h1:x.length<=m)(h2:y.length<=n):(x++y).length<=m+n:=by rw[Qat];omega
def cz{x y:Str}{m n:Nat}(h1:x.length<=m)(h2:y.length<=n)(h:m+n<=100000:=by decide):x.length+y.length<=Qo:=qH (k:=100000) (by omega) (by decide)
def qoy:List RowP:=[.z 0,.z 1,.z 2,.z 3,.t [.c ""],.t [.c " "],.t [.c "show"],.t [.c "show  ",.n 0],.t [.c "show ",.n 0,.c " "],.t [.c " show ",.n 0],.t [.c "Show ",.n 0],.t [.c "shows ",.n 0],.t [.c "show ",.n 0,.c " ",.n 1],.t [.c "glass"],.t [.c "glass ",.n 0],.t [.c "dull ",.n 0,.c " ",.n 1],.t [.c "beside ",.n 0,.c " ",.n 1],.t [.c "join"],.t [.c "join ",.n 0,.c " ",.n 1,.c " 0"],.t [.c "join ",.n 0,.c " ",.n 1,.c " 0 1 2"],.t [.c "join ",.n 0,.c " ",.n 1,.c " 0 x"],.t [.c "join ",.n 0,.c " ",.n 1,.c " 00 1"],.t [.c "join ",.n 0,.c " ",.n 1,.c " 1000000 1"],.t [.c "join ",.n 0,.c " ",.n 1,.c " 0 -0"],.t [.c "least ",.n 0],.t [.c "least ",.n 0,.c " ",.n 1,.c " ",.n 1],.t [.c "best ",.n 0],.t [.c "compare ",.n 0],.t [.c "alike ",.n 0],.t [.c "by ",.n 0],.t [.c "compare ",.n 0,.c " ",.n 1,.c " ",.n 0],.t [.c "curve"],.t [.c "curve ",.n 0,.c " 1"],.t [.c "glass Big 1 | 1"],.t [.c "show\n",.n 0],.t [.c "glass abcdefghi 1 | 1"],.t [.c "glass a1 1 | 1"],.t [.c "glass  1 | 1"],.t [.c "beside A ",.n 0,.c " ",.n 1],.t [.c "least a_b ",.n 0],.t [.c "dull a- ",.n 0,.c " 1"],.t [.c "join a.b ",.n 0,.c " 0 1"],.t [.c "join ",.n 0,.c " ",.n 1,.c " 0 +1"],.t [.c "glass 1 1 | 1 | x"]]
def qio:List RowP:=[.t [.c "show ",.n 2],.t [.c "best ",.n 2,.c " 1 | 1"],.t [.c "best ",.n 2,.c " x"],.t [.c "compare ",.n 2,.c " ",.n 0],.t [.c "compare ",.n 0,.c " ",.n 2],.t [.c "by ",.n 2,.c " ",.n 2],.t [.c "alike ",.n 0,.c " ",.n 2],.t [.c "curve ",.n 2],.t [.c "dull ",.n 0,.c " ",.n 2,.c " 1"],.t [.c "show A1"],.t [.c "dull ",.n 2,.c " ",.n 2,.c " x"],.t [.c "beside ",.n 2,.c " ",.n 0,.c " ",.n 2],.t [.c "join ",.n 0,.c " ",.n 2,.c " 0 1"],.t [.c "least ",.n 0,.c " ",.n 2],.t [.c "show "],.t [.c "best  1 | 1"],.t [.c "curve a_b"],.t [.c "beside ",.n 0,.c "  ",.n 0],.t [.c "alike ",.n 2,.c " A"]]
def qje:List RowP:=[.t [.c "glass ",.n 2,.c " "],.t [.c "glass ",.n 2,.c " 1"],.t [.c "glass ",.n 0,.c " 1/2 1/2 | 1"],.t [.c "glass ",.n 2,.c " 2/4 1/2 | 0 1"],.t [.c "glass ",.n 2,.c " 1 |1"],.t [.c "glass ",.n 2,.c " 1 | 1 "],.t [.c "dull ",.n 2,.c " ",.n 0,.c " "],.t [.c "dull ",.n 2,.c " ",.n 0,.c " 2"],.t [.c "dull ",.n 0,.c " ",.n 0,.c " 1 | 1 1"],.t [.c "best ",.n 0,.c " "],.t [.c "best ",.n 0,.c " 1"],.t [.c "best ",.n 0,.c " 1/2 | 0"],.t [.c "best ",.n 0,.c " 1 2 | 3"],.t [.c "best ",.n 0,.c " 1000001 | 0"],.t [.c "glass ",.n 2,.c " ",.m "1 | " 4,.c "1"]]
def qti:List (String×RowP):=[("fit",.t [.c "dull ",.n 2,.c " ",.n 0,.c " 1 | 1 | 1 | 1 | 1"]),("fit",.t [.c "join ",.n 2,.c " ",.n 0,.c " 1 0"]),("fit",.t [.c "join ",.n 2,.c " ",.n 0,.c " 0 4"]),("fit",.t [.c "join ",.n 2,.c " ",.n 0,.c " -1 0"]),("fit",.t [.c "join ",.n 0,.c " ",.n 1,.c " 1 1"]),("fit",.t [.c "best ",.n 0,.c " 1 | 1 | 1 | 1"]),("fit",.t [.c "compare ",.n 0,.c " ",.n 1]),("fit",.t [.c "beside ",.n 2,.c " ",.n 0,.c " ",.n 1]),("fit",.t [.c "by ",.n 1,.c " ",.n 0]),("fit",.t [.c "alike ",.n 0,.c " ",.n 1]),("fit",.t [.c "curve ",.n 1]),("many",.t [.c "beside ",.n 2,.c " ",.n 0,.c " ",.n 0])]
def qfk(ds:List Qh)(k:Qh->Prop):Prop :=∃ν:Nat->Str,ds=[.str (ν 0),.str (ν 1)]/\(∀i,(ν i).length<=8)/\k (.list (qoy.map (qmf ν)))
def qE:FnScope ["_law_a","_law_b","_law_some"] ["_law_a","_law_b"] (defScope qgz):=sc0
def qor(F:Def K mg "_law_no_rows" qgz ["_law_a","_law_b"])(T:Txt w K mg cs):Ok P w K mg base "_law_no_rows" 1 ["_law_a","_law_b"] (PSp K qfk):=by
  refine F.vok qE (by rintro ds q ⟨_,h,_⟩;rw[h];rfl) λf cdv A outer s H E hr ds k h=>?_;obtain⟨ν,rfl,hν,h⟩:=h;refine⟨_,(qi (qt (i:=2) qE.nd (qr (qC (qa znt (qa ql (qa (qr (qC (qa (qc 0) qe))) (qa qgc (qa qd (qa qd (qa qd (qa (qf qh qd (qc 0)) (qa (qf qh (qf qh qd (qc 0)) qd) (qa (qf qh qd (qc 0)) qe)))))))))))))
   (qi (qt (i:=2) qE.nd (qr (qR (qc 2) (qr (qC (qa (qf qh qd (qc 0)) (qa (qf qh qd (qc 0)) (qa (qf qh (qf qh (qf qh qd (qc 0)) qd) (qc 1)) (qa qd (qa (qf qh qd (qc 0)) qe))))))))))
   (qi (qt (i:=2) qE.nd (qr (qR (qc 2) (qr (qC (qa (qf qh (qf qh (qf qh qd (qc 0)) qd) (qc 1)) (qa (qf qh (qf qh (qf qh qd (qc 0)) qd) (qc 1)) (qa qd (qa (qf qh (qf qh (qf qh (qf qh qd (qc 0)) qd) (qc 1)) qd) qe)))))))))
   (qi (qt (i:=2) qE.nd (qr (qR (qc 2) (qr (qC (qa (qf qh (qf qh (qf qh (qf qh qd (qc 0)) qd) (qc 1)) qd) (qa (qf qh (qf qh (qf qh (qf qh qd (qc 0)) qd) (qc 1)) qd) qe)))))))
   (qi (qt (i:=2) qE.nd (qr (qR (qc 2) (qr (qC (qa (qf qh (qf qh (qf qh (qf qh qd (qc 0)) qd) (qc 1)) qd) (qa (qf qh (qf qh (qf qh (qf qh qd (qc 0)) qd) (qc 1)) qd) qe)))))))
   (qi (qt (i:=2) qE.nd (qr (qR (qc 2) (qr (qC (qa (qf qh (qf qh (qf qh (qf qh qd (qc 0)) qd) (qc 1)) qd) (qa (qf qh qd (qc 0)) (qa (qf qh (qf qh (qf qh (qf qh (qf qh qd (qc 0)) qd) (qc 1)) qd) (qc 1)) qe))))))))
   (qi (qt (i:=2) qE.nd (qr (qR (qc 2) (qr (qC (qa (qf qh qd (qc 0)) (qa (qf qh qd (qc 0)) (qa (qf qh qd (qc 0)) (qa (qf qh qd (qc 0)) qe)))))))))
   (qi (qt (i:=2) qE.nd (qr (qR (qc 2) (qr (qC (qa (qf qh (qf qh (qf qh (qf qh (qf qh qd (qc 0)) qd) (qc 1)) qd) (qc 0)) (qa qd (qa (qf qh (qf qh qd (qc 0)) qd) (qa qd qe)))))))))
   (qi (qt (i:=2) qE.nd (qr (qR (qc 2) (qr (qC (qa (qf qh qd (qc 0)) (qa qd (qa qd (qa qd qe)))))))))
   (qi (qt (i:=2) qE.nd (qr (qR (qc 2) (qr (qC (qa (qf qh (qf qh (qf qh qd (qc 0)) qd) (qc 1)) (qa (qf qh qd (qc 0)) (qa (qf qh (qf qh qd (qc 0)) qd) qe))))))))
   (qm (qu (qr (qR (qc 2) (qr (qC (qa (qf qh (qf qh qd (qc 0)) qd) (qa (qf qh (qf qh (qf qh (qf qh qd (qc 0)) qd) (qc 1)) qd) (qa qd qe))))))))))))))))))),?_⟩
  have h0:=hν 0;have h1:=hν 1;have z:100<=Qo:=qH (k:=100) (Qn _) (by decide);exact⟨szl,(cz (cl (by decide)) h0),(cz (cl (by decide)) h0),(cz (ca (cl (by decide)) h0) (cl (by decide))),(cz (cl (by decide)) h0),szl,(cz (cl (by decide)) h0),(cz (cl (by decide)) h0),(cz (cl (by decide)) h0),(cz (ca (cl (by decide)) h0) (cl (by decide))),(cz (ca (ca (cl (by decide)) h0) (cl (by decide))) h1),(cz (cl (by decide)) h0),szl,Qk (Qu rfl:_<=100) z,(cz (cl (by decide)) h0),(cz (ca (cl (by decide)) h0) (cl (by decide))),(cz (ca (ca (cl (by decide)) h0) (cl (by decide))) h1),(cz (cl (by decide)) h0),(cz (ca (cl (by decide)) h0) (cl (by decide))),(cz (ca (ca (cl (by decide)) h0) (cl (by decide))) h1),(cz (cl (by decide)) h0),(cz (ca (cl (by decide)) h0) (cl (by decide))),(cz (ca (ca (cl (by decide)) h0) (cl (by decide))) h1),(cz (ca (ca (ca (cl (by decide)) h0) (cl (by decide))) h1) (cl (by decide))),szl,Qk (Qu rfl:_<=100) z,(cz (cl (by decide)) h0),(cz (ca (cl (by decide)) h0) (cl (by decide))),(cz (ca (ca (cl (by decide)) h0) (cl (by decide))) h1),(cz (ca (ca (ca (cl (by decide)) h0) (cl (by decide))) h1) (cl (by decide))),(cz (cl (by decide)) h0),(cz (ca (cl (by decide)) h0) (cl (by decide))),(cz (ca (ca (cl (by decide)) h0) (cl (by decide))) h1),(cz (ca (ca (ca (cl (by decide)) h0) (cl (by decide))) h1) (cl (by decide))),szl,Qk (Qu rfl:_<=100) z,(cz (cl (by decide)) h0),(cz (ca (cl (by decide)) h0) (cl (by decide))),(cz (ca (ca (cl (by decide)) h0) (cl (by decide))) h1),(cz (ca (ca (ca (cl (by decide)) h0) (cl (by decide))) h1) (cl (by decide))),(cz (cl (by decide)) h0),(cz (ca (cl (by decide)) h0) (cl (by decide))),(cz (ca (ca (cl (by decide)) h0) (cl (by decide))) h1),(cz (ca (ca (ca (cl (by decide)) h0) (cl (by decide))) h1) (cl (by decide))),szl,Qk (Qu rfl:_<=100) z,(cz (cl (by decide)) h0),(cz (ca (cl (by decide)) h0) (cl (by decide))),(cz (ca (ca (cl (by decide)) h0) (cl (by decide))) h1),(cz (ca (ca (ca (cl (by decide)) h0) (cl (by decide))) h1) (cl (by decide))),(cz (cl (by decide)) h0),(cz (cl (by decide)) h0),(cz (ca (cl (by decide)) h0) (cl (by decide))),(cz (ca (ca (cl (by decide)) h0) (cl (by decide))) h1),(cz (ca (ca (ca (cl (by decide)) h0) (cl (by decide))) h1) (cl (by decide))),(cz (ca (ca (ca (ca (cl (by decide)) h0) (cl (by decide))) h1) (cl (by decide))) h1),szl,Qk (Qu rfl:_<=100) z,(cz (cl (by decide)) h0),(cz (cl (by decide)) h0),(cz (cl (by decide)) h0),(cz (cl (by decide)) h0),szl,Qk (Qu rfl:_<=100) z,(cz (cl (by decide)) h0),(cz (ca (cl (by decide)) h0) (cl (by decide))),(cz (ca (ca (cl (by decide)) h0) (cl (by decide))) h1),(cz (ca (ca (ca (cl (by decide)) h0) (cl (by decide))) h1) (cl (by decide))),(cz (ca (ca (ca (ca (cl (by decide)) h0) (cl (by decide))) h1) (cl (by decide))) h0),(cz (cl (by decide)) h0),(cz (ca (cl (by decide)) h0) (cl (by decide))),szl,Qk (Qu rfl:_<=100) z,(cz (cl (by decide)) h0),szl,Qk (Qu rfl:_<=100) z,(cz (cl (by decide)) h0),(cz (ca (cl (by decide)) h0) (cl (by decide))),(cz (ca (ca (cl (by decide)) h0) (cl (by decide))) h1),(cz (cl (by decide)) h0),(cz (cl (by decide)) h0),(cz (ca (cl (by decide)) h0) (cl (by decide))),szl,Qk (Qu rfl:_<=100) z,(cz (cl (by decide)) h0),(cz (ca (cl (by decide)) h0) (cl (by decide))),(cz (cl (by decide)) h0),(cz (ca (cl (by decide)) h0) (cl (by decide))),(cz (ca (ca (cl (by decide)) h0) (cl (by decide))) h1),(cz (ca (ca (ca (cl (by decide)) h0) (cl (by decide))) h1) (cl (by decide))),szl,Qk (Qu rfl:_<=100) z,h⟩
def qes(ds:List Qh)(k:Qh->Prop):Prop :=∃ν:Nat->Str,ds=[.str (ν 0),.str (ν 2)]/\(∀i,(ν i).length<=8)/\k (.list (qio.map (qmf ν)))
def qag:FnScope ["_law_a","_law_u","_law_some"] ["_law_a","_law_u"] (defScope qfu):=sc0
def qmo(F:Def K mg "_law_no_names" qfu ["_law_a","_law_u"])(T:Txt w K mg cs):Ok P w K mg base "_law_no_names" 1 ["_law_a","_law_u"] (PSp K qes):=by
  refine F.vok qag (by rintro ds q ⟨_,h,_⟩;rw[h];rfl) λf cdv A outer s H E hr ds k h=>?_;obtain⟨ν,rfl,hν,h⟩:=h;refine⟨_,(qi (qt (i:=2) qag.nd (qr (qC (qa (qf qh qd (qc 1)) (qa (qf qh (qf qh qd (qc 1)) qd) (qa (qf qh (qf qh qd (qc 1)) qd) (qa (qf qh (qf qh (qf qh qd (qc 1)) qd) (qc 0)) qe)))))))
   (qi (qt (i:=2) qag.nd (qr (qR (qc 2) (qr (qC (qa (qf qh (qf qh (qf qh qd (qc 0)) qd) (qc 1)) (qa (qf qh (qf qh (qf qh qd (qc 1)) qd) (qc 1)) (qa (qf qh (qf qh (qf qh qd (qc 0)) qd) (qc 1)) (qa (qf qh qd (qc 1)) qe)))))))))
   (qi (qt (i:=2) qag.nd (qr (qR (qc 2) (qr (qC (qa (qf qh (qf qh (qf qh (qf qh qd (qc 0)) qd) (qc 1)) qd) (qa qd (qa (qf qh (qf qh (qf qh (qf qh qd (qc 1)) qd) (qc 1)) qd) qe))))))))
   (qi (qt (i:=2) qag.nd (qr (qR (qc 2) (qr (qC (qa (qf qh (qf qh (qf qh (qf qh (qf qh qd (qc 1)) qd) (qc 0)) qd) (qc 1)) (qa (qf qh (qf qh (qf qh (qf qh qd (qc 0)) qd) (qc 1)) qd) qe)))))))
   (qi (qt (i:=2) qag.nd (qr (qR (qc 2) (qr (qC (qa (qf qh (qf qh (qf qh qd (qc 0)) qd) (qc 1)) (qa qd (qa qd (qa qd qe)))))))))
   (qm (qu (qr (qR (qc 2) (qr (qC (qa (qf qh (qf qh (qf qh qd (qc 0)) qd) (qc 0)) (qa (qf qh (qf qh qd (qc 1)) qd) qe))))))))))))),?_⟩
  have h0:=hν 0;have h2:=hν 2;have z:100<=Qo:=qH (k:=100) (Qn _) (by decide);exact⟨(cz (cl (by decide)) h2),(cz (cl (by decide)) h2),(cz (ca (cl (by decide)) h2) (cl (by decide))),(cz (cl (by decide)) h2),(cz (ca (cl (by decide)) h2) (cl (by decide))),(cz (cl (by decide)) h2),(cz (ca (cl (by decide)) h2) (cl (by decide))),(cz (ca (ca (cl (by decide)) h2) (cl (by decide))) h0),szl,(cz (cl (by decide)) h0),(cz (ca (cl (by decide)) h0) (cl (by decide))),(cz (ca (ca (cl (by decide)) h0) (cl (by decide))) h2),(cz (cl (by decide)) h2),(cz (ca (cl (by decide)) h2) (cl (by decide))),(cz (ca (ca (cl (by decide)) h2) (cl (by decide))) h2),(cz (cl (by decide)) h0),(cz (ca (cl (by decide)) h0) (cl (by decide))),(cz (ca (ca (cl (by decide)) h0) (cl (by decide))) h2),(cz (cl (by decide)) h2),szl,Qk (Qu rfl:_<=100) z,(cz (cl (by decide)) h0),(cz (ca (cl (by decide)) h0) (cl (by decide))),(cz (ca (ca (cl (by decide)) h0) (cl (by decide))) h2),(cz (ca (ca (ca (cl (by decide)) h0) (cl (by decide))) h2) (cl (by decide))),(cz (cl (by decide)) h2),(cz (ca (cl (by decide)) h2) (cl (by decide))),(cz (ca (ca (cl (by decide)) h2) (cl (by decide))) h2),(cz (ca (ca (ca (cl (by decide)) h2) (cl (by decide))) h2) (cl (by decide))),szl,Qk (Qu rfl:_<=100) z,(cz (cl (by decide)) h2),(cz (ca (cl (by decide)) h2) (cl (by decide))),(cz (ca (ca (cl (by decide)) h2) (cl (by decide))) h0),(cz (ca (ca (ca (cl (by decide)) h2) (cl (by decide))) h0) (cl (by decide))),(cz (ca (ca (ca (ca (cl (by decide)) h2) (cl (by decide))) h0) (cl (by decide))) h2),(cz (cl (by decide)) h0),(cz (ca (cl (by decide)) h0) (cl (by decide))),(cz (ca (ca (cl (by decide)) h0) (cl (by decide))) h2),(cz (ca (ca (ca (cl (by decide)) h0) (cl (by decide))) h2) (cl (by decide))),szl,Qk (Qu rfl:_<=100) z,(cz (cl (by decide)) h0),(cz (ca (cl (by decide)) h0) (cl (by decide))),(cz (ca (ca (cl (by decide)) h0) (cl (by decide))) h2),szl,Qk (Qu rfl:_<=100) z,(cz (cl (by decide)) h0),(cz (ca (cl (by decide)) h0) (cl (by decide))),(cz (ca (ca (cl (by decide)) h0) (cl (by decide))) h0),(cz (cl (by decide)) h2),(cz (ca (cl (by decide)) h2) (cl (by decide))),szl,Qk (Qu rfl:_<=100) z,h⟩
def qen(ds:List Qh)(k:Qh->Prop):Prop :=∃ν:Nat->Str,ds=[.str (ν 0),.str (ν 2)]/\(∀i,(ν i).length<=8)/\k (.list (qje.map (qmf ν)))
def qaf:FnScope ["_law_a","_law_u","_law_some"] ["_law_a","_law_u"] (defScope qfv):=sc0
def qmn(F:Def K mg "_law_no_texts" qfv ["_law_a","_law_u"])(T:Txt w K mg cs):Ok P w K mg base "_law_no_texts" 1 ["_law_a","_law_u"] (PSp K qen):=by
  refine F.vok qaf (by rintro ds q ⟨_,h,_⟩;rw[h];rfl) λf cdv A outer s H E hr ds k h=>?_;obtain⟨ν,rfl,hν,h⟩:=h;refine⟨_,(qi (qt (i:=2) qaf.nd (qr (qC (qa (qf qh (qf qh qd (qc 1)) qd) (qa (qf qh (qf qh qd (qc 1)) qd) (qa (qf qh (qf qh qd (qc 0)) qd) qe))))))
   (qi (qt (i:=2) qaf.nd (qr (qR (qc 2) (qr (qC (qa (qf qh (qf qh qd (qc 1)) qd) (qa (qf qh (qf qh qd (qc 1)) qd) (qa (qf qh (qf qh qd (qc 1)) qd) qe))))))))
   (qi (qt (i:=2) qaf.nd (qr (qR (qc 2) (qr (qC (qa (qf qh (qf qh (qf qh (qf qh qd (qc 1)) qd) (qc 0)) qd) (qa (qf qh (qf qh (qf qh (qf qh qd (qc 1)) qd) (qc 0)) qd) qe)))))))
   (qi (qt (i:=2) qaf.nd (qr (qR (qc 2) (qr (qC (qa (qf qh (qf qh (qf qh (qf qh qd (qc 0)) qd) (qc 0)) qd) (qa (qf qh (qf qh qd (qc 0)) qd) (qa (qf qh (qf qh qd (qc 0)) qd) qe))))))))
   (qi (qt (i:=2) qaf.nd (qr (qR (qc 2) (qr (qC (qa (qf qh (qf qh qd (qc 0)) qd) (qa (qf qh (qf qh qd (qc 0)) qd) (qa (qf qh (qf qh qd (qc 0)) qd) qe))))))))
   (qm (qu (qr (qR (qc 2) (qr (qC (qa (qf qh (qf qh (qf qh (qf qh qd (qc 1)) qd) (qf zwl qd ql)) qd) qe)))))))))))),?_⟩
  have h0:=hν 0;have h2:=hν 2;have z:100<=Qo:=qH (k:=100) (Qn _) (by decide);have mk:MulOk (Qc "1 | ") 4:=⟨by decide,λ_ _=>by decide,λ_ _=>by decide +kernel⟩
  have mulL:(Qjc (Qc "1 | ") 4).length<=60:=by decide +kernel
  exact⟨(cz (cl (by decide)) h2),(cz (ca (cl (by decide)) h2) (cl (by decide))),(cz (cl (by decide)) h2),(cz (ca (cl (by decide)) h2) (cl (by decide))),(cz (cl (by decide)) h0),(cz (ca (cl (by decide)) h0) (cl (by decide))),szl,(cz (cl (by decide)) h2),(cz (ca (cl (by decide)) h2) (cl (by decide))),(cz (cl (by decide)) h2),(cz (ca (cl (by decide)) h2) (cl (by decide))),(cz (cl (by decide)) h2),(cz (ca (cl (by decide)) h2) (cl (by decide))),szl,Qk (Qu rfl:_<=100) z,(cz (cl (by decide)) h2),(cz (ca (cl (by decide)) h2) (cl (by decide))),(cz (ca (ca (cl (by decide)) h2) (cl (by decide))) h0),(cz (ca (ca (ca (cl (by decide)) h2) (cl (by decide))) h0) (cl (by decide))),(cz (cl (by decide)) h2),(cz (ca (cl (by decide)) h2) (cl (by decide))),(cz (ca (ca (cl (by decide)) h2) (cl (by decide))) h0),(cz (ca (ca (ca (cl (by decide)) h2) (cl (by decide))) h0) (cl (by decide))),szl,Qk (Qu rfl:_<=100) z,(cz (cl (by decide)) h0),(cz (ca (cl (by decide)) h0) (cl (by decide))),(cz (ca (ca (cl (by decide)) h0) (cl (by decide))) h0),(cz (ca (ca (ca (cl (by decide)) h0) (cl (by decide))) h0) (cl (by decide))),(cz (cl (by decide)) h0),(cz (ca (cl (by decide)) h0) (cl (by decide))),(cz (cl (by decide)) h0),(cz (ca (cl (by decide)) h0) (cl (by decide))),szl,Qk (Qu rfl:_<=100) z,(cz (cl (by decide)) h0),(cz (ca (cl (by decide)) h0) (cl (by decide))),(cz (cl (by decide)) h0),(cz (ca (cl (by decide)) h0) (cl (by decide))),(cz (cl (by decide)) h0),(cz (ca (cl (by decide)) h0) (cl (by decide))),szl,Qk (Qu rfl:_<=100) z,(cz (cl (by decide)) h2),(cz (ca (cl (by decide)) h2) (cl (by decide))),mk,(cz (ca (ca (cl (by decide)) h2) (cl (by decide))) mulL),(cz (ca (ca (ca (cl (by decide)) h2) (cl (by decide))) mulL) (cl (by decide))),szl,Qk (Qu rfl:_<=100) z,h⟩
def qfm(ds:List Qh)(k:Qh->Prop):Prop :=∃ν:Nat->Str,ds=[.str (ν 0),.str (ν 1),.str (ν 2)]/\(∀i,(ν i).length<=8)/\k (.list (qti.map λp => .tuple [.str (Qc p.1),qmf ν p.2]))
def qU:FnScope ["_law_a","_law_b","_law_u","_law_some"] ["_law_a","_law_b","_law_u"] (defScope qgs):=sc0
def qop(F:Def K mg "_law_no_fits" qgs ["_law_a","_law_b","_law_u"])(T:Txt w K mg cs):Ok P w K mg base "_law_no_fits" 1 ["_law_a","_law_b","_law_u"] (PSp K qfm):=by
  refine F.vok qU (by rintro ds q ⟨_,h,_⟩;rw[h];rfl) λf cdv A outer s H E hr ds k h=>?_;obtain⟨ν,rfl,hν,h⟩:=h;refine⟨_,(qi (qt (i:=3) qU.nd (qr (qC (qa (qac (qa qd (qa (qf qh (qf qh (qf qh (qf qh qd (qc 2)) qd) (qc 0)) qd) qe))) qe))))
   (qi (qt (i:=3) qU.nd (qr (qR (qc 3) (qr (qC (qa (qac (qa qd (qa (qf qh (qf qh (qf qh (qf qh qd (qc 2)) qd) (qc 0)) qd) qe))) (qa (qac (qa qd (qa (qf qh (qf qh (qf qh (qf qh qd (qc 2)) qd) (qc 0)) qd) qe))) qe)))))))
   (qi (qt (i:=3) qU.nd (qr (qR (qc 3) (qr (qC (qa (qac (qa qd (qa (qf qh (qf qh (qf qh (qf qh qd (qc 2)) qd) (qc 0)) qd) qe))) (qa (qac (qa qd (qa (qf qh (qf qh (qf qh (qf qh qd (qc 0)) qd) (qc 1)) qd) qe))) qe)))))))
   (qi (qt (i:=3) qU.nd (qr (qR (qc 3) (qr (qC (qa (qac (qa qd (qa (qf qh (qf qh qd (qc 0)) qd) qe))) (qa (qac (qa qd (qa (qf qh (qf qh (qf qh qd (qc 0)) qd) (qc 1)) qe))) qe)))))))
   (qi (qt (i:=3) qU.nd (qr (qR (qc 3) (qr (qC (qa (qac (qa qd (qa (qf qh (qf qh (qf qh (qf qh (qf qh qd (qc 2)) qd) (qc 0)) qd) (qc 1)) qe))) (qa (qac (qa qd (qa (qf qh (qf qh (qf qh qd (qc 1)) qd) (qc 0)) qe))) qe)))))))
   (qi (qt (i:=3) qU.nd (qr (qR (qc 3) (qr (qC (qa (qac (qa qd (qa (qf qh (qf qh (qf qh qd (qc 0)) qd) (qc 1)) qe))) (qa (qac (qa qd (qa (qf qh qd (qc 1)) qe))) qe)))))))
   (qm (qu (qr (qR (qc 3) (qr (qC (qa (qac (qa qd (qa (qf qh (qf qh (qf qh (qf qh (qf qh qd (qc 2)) qd) (qc 0)) qd) (qc 0)) qe))) qe))))))))))))),?_⟩
  have h0:=hν 0;have h1:=hν 1;have h2:=hν 2;have z:100<=Qo:=qH (k:=100) (Qn _) (by decide);exact⟨(cz (cl (by decide)) h2),(cz (ca (cl (by decide)) h2) (cl (by decide))),(cz (ca (ca (cl (by decide)) h2) (cl (by decide))) h0),(cz (ca (ca (ca (cl (by decide)) h2) (cl (by decide))) h0) (cl (by decide))),szl,szl,(cz (cl (by decide)) h2),(cz (ca (cl (by decide)) h2) (cl (by decide))),(cz (ca (ca (cl (by decide)) h2) (cl (by decide))) h0),(cz (ca (ca (ca (cl (by decide)) h2) (cl (by decide))) h0) (cl (by decide))),szl,(cz (cl (by decide)) h2),(cz (ca (cl (by decide)) h2) (cl (by decide))),(cz (ca (ca (cl (by decide)) h2) (cl (by decide))) h0),(cz (ca (ca (ca (cl (by decide)) h2) (cl (by decide))) h0) (cl (by decide))),szl,szl,Qk (Qu rfl:_<=100) z,(cz (cl (by decide)) h2),(cz (ca (cl (by decide)) h2) (cl (by decide))),(cz (ca (ca (cl (by decide)) h2) (cl (by decide))) h0),(cz (ca (ca (ca (cl (by decide)) h2) (cl (by decide))) h0) (cl (by decide))),szl,(cz (cl (by decide)) h0),(cz (ca (cl (by decide)) h0) (cl (by decide))),(cz (ca (ca (cl (by decide)) h0) (cl (by decide))) h1),(cz (ca (ca (ca (cl (by decide)) h0) (cl (by decide))) h1) (cl (by decide))),szl,szl,Qk (Qu rfl:_<=100) z,(cz (cl (by decide)) h0),(cz (ca (cl (by decide)) h0) (cl (by decide))),szl,(cz (cl (by decide)) h0),(cz (ca (cl (by decide)) h0) (cl (by decide))),(cz (ca (ca (cl (by decide)) h0) (cl (by decide))) h1),szl,szl,Qk (Qu rfl:_<=100) z,(cz (cl (by decide)) h2),(cz (ca (cl (by decide)) h2) (cl (by decide))),(cz (ca (ca (cl (by decide)) h2) (cl (by decide))) h0),(cz (ca (ca (ca (cl (by decide)) h2) (cl (by decide))) h0) (cl (by decide))),(cz (ca (ca (ca (ca (cl (by decide)) h2) (cl (by decide))) h0) (cl (by decide))) h1),szl,(cz (cl (by decide)) h1),(cz (ca (cl (by decide)) h1) (cl (by decide))),(cz (ca (ca (cl (by decide)) h1) (cl (by decide))) h0),szl,szl,Qk (Qu rfl:_<=100) z,(cz (cl (by decide)) h0),(cz (ca (cl (by decide)) h0) (cl (by decide))),(cz (ca (ca (cl (by decide)) h0) (cl (by decide))) h1),szl,(cz (cl (by decide)) h1),szl,szl,Qk (Qu rfl:_<=100) z,(cz (cl (by decide)) h2),(cz (ca (cl (by decide)) h2) (cl (by decide))),(cz (ca (ca (cl (by decide)) h2) (cl (by decide))) h0),(cz (ca (ca (ca (cl (by decide)) h2) (cl (by decide))) h0) (cl (by decide))),(cz (ca (ca (ca (ca (cl (by decide)) h2) (cl (by decide))) h0) (cl (by decide))) h0),szl,szl,Qk (Qu rfl:_<=100) z,h⟩
def zuo(due:String)(r:RowP):Prop:=(due = "row" /\ r∈qoy)\/(due = "name" /\ r∈qio)\/(due = "text" /\ r∈qje)\/(due,r)∈qti
def qgu(ds:List Qh)(k:Qh->Prop):Prop :=∃(ν:Nat->Str)(c:Int),ds=[.str (ν 0),.str (ν 1),.str (ν 2),.int c]/\(∀i,(ν i).length<=8) /\ ∀due r,zuo due r->k (.tuple [.str (Qc due),qmf ν r])
def qhy{α:Type}{f:α->Qh}{L:List α}(h:0<L.length)(c:Int):∃x∈L,atI (L.map f) (c%(((L.map f).length:Nat):Int))=some (f x):=by
 have h':(0:Int)<(((L.map f).length:Nat):Int):=by rw[Qj];omega
 have a0:=Yy c (show(((L.map f).length:Nat):Int)≠0 by omega);have a1:=Yw c h';obtain⟨j,ej⟩:=Yr a0;rw[ej]at a1 ⊢;rw[Qj]at a1;have hj:j<L.length:=by omega
 exact⟨L[j],Qdd hj,qK (by rw[Qg,Qp hj];rfl)⟩
def qcj:FnScope ["_law_a","_law_b","_law_u","_law_cell_here","_law_kind_here","_law_some"] ["_law_a","_law_b","_law_u","_law_cell_here"] (defScope qjl):=sc0
def qpo(F:Def K mg "_law_picked" qjl ["_law_a","_law_b","_law_u","_law_cell_here"])(T:Txt w K mg cs)(O__law_no_rows:Ok P w K mg base "_law_no_rows" 1 ["_law_a","_law_b"] (PSp K qfk))(O__law_no_names:Ok P w K mg base "_law_no_names" 1 ["_law_a","_law_u"] (PSp K qes))(O__law_no_texts:Ok P w K mg base "_law_no_texts" 1 ["_law_a","_law_u"] (PSp K qen))(O__law_no_fits:Ok P w K mg base "_law_no_fits" 1 ["_law_a","_law_b","_law_u"] (PSp K qfm)):Ok P w K mg base "_law_picked" 2 ["_law_a","_law_b","_law_u","_law_cell_here"] (PSp K qgu):=by
  refine F.vok qcj (by rintro ds q ⟨_,_,h,_⟩;rw[h];rfl) λf cdv A outer s H E hr ds k h=>?_;obtain⟨ν,c,rfl,hν,h⟩:=h;refine⟨_,(qi (qt (i:=4) qcj.nd (qf qjz (qc 3) ql))
   (qi (qbw (qA (qdk hr.units) (qc 4) ql) (qi (qt (i:=5) qcj.nd (qB O__law_no_fits.c hr.m (qa (qc 0) (qa (qc 1) (qa (qc 2) qe)))))
   (qm (qu (qz (qc 5) (qf qjz (qf qot (qc 3) ql) (qv qbj T.len_ L2.boot_len (qa (qc 5) qe))))))) qj)
   (qi (qt (i:=5) qcj.nd (qz (qr (qC (qa (qB O__law_no_rows.c hr.m (qa (qc 0) (qa (qc 1) qe))) (qa (qB O__law_no_names.c hr.m (qa (qc 0) (qa (qc 2) qe))) (qa (qB O__law_no_texts.c hr.m (qa (qc 0) (qa (qc 2) qe))) qe))))) (qc 4)))
   (qm (qu (qac (qa (qz (qr (qC (qa qd (qa qd (qa qd qe))))) (qc 4)) (qa (qz (qc 5) (qf qjz (qf qot (qc 3) ql) (qv qbj T.len_ L2.boot_len (qa (qc 5) qe)))) qe)))))))),?_⟩
  have a0:=Yy c (show(4:Int)≠0 by decide);have a1:=Yw c (show(0:Int)<4 by decide);refine⟨(show(0:Int)<4 by decide),rfl,rfl,qsv (λz=>?_) (λz=>?_)⟩
  ·obtain⟨x,hx,hp⟩:=qhy (L:=qti) (f:=λp=>Qjm [.str (Qc p.1),qmf ν p.2]) (by decide) (c/4);exact⟨ν,rfl,hν,⟨by decide,by decide⟩,(show(0:Int)<((qti.map _).length:Nat) by rw[Qj];decide),_,hp,h x.1 x.2 (.inr (.inr (.inr hx)))⟩
  ·refine⟨ν,rfl,hν,ν,rfl,hν,ν,rfl,hν,szl,?_⟩;have k3:c%4=0\/c%4=1\/c%4=2:=by omega
   rcases k3 with e|e|e
   ·obtain⟨x,hx,hp⟩:=qhy (L:=qoy) (f:=qmf ν) (by decide) (c/4);exact⟨.list (qoy.map (qmf ν)),by rw[e];exact qK (j:=0) rfl,szl,.str (Qc "row"),by rw[e];exact qK (j:=0) rfl,⟨by decide,by decide⟩,(show(0:Int)<((qoy.map (qmf ν)).length:Nat) by rw[Qj];decide),_,hp,szl,h "row" x (.inl ⟨rfl,hx⟩)⟩
   ·obtain⟨x,hx,hp⟩:=qhy (L:=qio) (f:=qmf ν) (by decide) (c/4);exact⟨.list (qio.map (qmf ν)),by rw[e];exact qK (j:=1) rfl,szl,.str (Qc "name"),by rw[e];exact qK (j:=1) rfl,⟨by decide,by decide⟩,(show(0:Int)<((qio.map (qmf ν)).length:Nat) by rw[Qj];decide),_,hp,szl,h "name" x (.inr (.inl ⟨rfl,hx⟩))⟩
   ·obtain⟨x,hx,hp⟩:=qhy (L:=qje) (f:=qmf ν) (by decide) (c/4);exact⟨.list (qje.map (qmf ν)),by rw[e];exact qK (j:=2) rfl,szl,.str (Qc "text"),by rw[e];exact qK (j:=2) rfl,⟨by decide,by decide⟩,(show(0:Int)<((qje.map (qmf ν)).length:Nat) by rw[Qj];decide),_,hp,szl,h "text" x (.inr (.inr (.inl ⟨rfl,hx⟩)))⟩
inductive Atm where
 |ch (c:Nat)
 |nm (i:Nat)
deriving DecidableEq
def qxc:Prt->List Atm
 |.c s=>(Qc s).cps.toList.map .ch
 |.n i=>[.nm i]
 |.m s k=>(Qjc (Qc s) k).cps.toList.map .ch
def zbq(ν:Nat->Str):Atm->List Nat
 |.ch c=>[c]
 |.nm i=>(ν i).cps.toList
def qhi(ν:Nat->Str)(w:List Atm):List Nat:=w.flatMap (zbq ν)
def qZ(ν:Nat->Str)(w:List Atm):Str:=⟨(qhi ν w).toArray⟩
def qwr(ν:Nat->Str)(l:List Nat):qhi ν (l.map .ch)=l:=by
 unfold qhi
 induction l with
 |nil=>rfl
 |cons a l ih=>rw[Qr,Qcp,ih];rfl
def qln(ν:Nat->Str)(l m:List Atm):qhi ν (l++m)=qhi ν l++qhi ν m:=by unfold qhi;rw[List.flatMap_append]
def qsa(ν:Nat->Str)(p:Prt):(prS ν p).cps.toList=qhi ν (qxc p):=by
 cases p with
 |c s=>exact(qwr ν _).symm
 |n i=>show(ν i).cps.toList=(ν i).cps.toList++[];rw[Yc]
 |m s k=>exact(qwr ν _).symm
def qwb(x y:Str):(x++y).cps.toList=x.cps.toList++y.cps.toList:=by
 show(x.cps++y.cps).toList=_;rw[Qds]
def zbn(ν:Nat->Str):∀(ps:List Prt),(zke ν ps).cps.toList=qhi ν (ps.flatMap qxc)
 |[]=>rfl
 |p::ps=>by
  have key:∀(ps:List Prt)(x:Str),(ps.foldl (λx q=>x++prS ν q) x).cps.toList=x.cps.toList++qhi ν (ps.flatMap qxc):=λps=>by
   induction ps with
   |nil=>intro x;show x.cps.toList=x.cps.toList++[];rw[Yc]
   |cons q ps ih =>
    intro x;rw[List.foldl_cons,ih,qwb,qsa,Qcp,qln,Vs]
  show(ps.foldl (λx q=>x++prS ν q) (prS ν p)).cps.toList=_;rw[key,qsa,Qcp,qln]
def qjh:List Atm->List Atm×List (List Atm)
 |[]=>([],[])
 |x::r=>if x = .ch 32 then([],(qjh r).1::(qjh r).2)else(x::(qjh r).1,(qjh r).2)
def qlh(as:List Atm):List (List Atm):=(qjh as).1::(qjh as).2
def qqn(r:List Atm):qjh (.ch 32::r)=([],(qjh r).1::(qjh r).2):=if_pos rfl
def qpy{x:Atm}(h:x≠.ch 32)(r:List Atm):qjh (x::r)=(x::(qjh r).1,(qjh r).2):=if_neg h
def qX(ν:Nat->Str)(w:List Atm):(qZ ν w).cps.toList=qhi ν w:=by unfold qZ;rw[J0]
def zan(ν:Nat->Str):∀as:List Atm,(Q8 bl1 ((qlh as).map (qZ ν))).cps.toList=qhi ν as
 |[]=>rfl
 |x::r=>by
  have ih:=zan ν r;have e32:bl1.cps.toList=[32]:=by decide +kernel
  unfold qlh at ih ⊢;rw[Qr]at ih;by_cases h:x = .ch 32
  ·subst h;rw[qqn,Qr,Qr,qbh,ih,qX,e32];rfl
  ·rw[qpy h,Qr];show(Q8 bl1 (qZ ν (x::(qjh r).1)::((qjh r).2.map (qZ ν)))).cps.toList=zbq ν x++qhi ν r;rw[<- ih];cases e:(qjh r).2.map (qZ ν)with
   |nil =>
    show(qZ ν (x::(qjh r).1)).cps.toList=zbq ν x++(qZ ν (qjh r).1).cps.toList;rw[qX,qX];rfl
   |cons w ws =>
    rw[qbh,qbh,qX,qX];show(zbq ν x++qhi ν (qjh r).1)++_=_;rw[Vs]
def zky(ν:Nat->Str)(ps:List Prt):zke ν ps=Q8 bl1 ((qlh (ps.flatMap qxc)).map (qZ ν)):=qbk (by rw[zbn,zan])
def zog:∀(as:List Atm),(∀x∈(qjh as).1,x≠.ch 32) /\ ∀w∈(qjh as).2,∀x∈w,x≠.ch 32
 |[]=>⟨λx h=>(by cases h),λw h=>(by cases h)⟩
 |y::r=>by
  obtain⟨h1,h2⟩:=zog r;by_cases h:y = .ch 32
  ·subst h;rw[qqn];refine⟨λx h=>(by cases h),λw hw=>?_⟩;rcases Q2.mp hw with z|z
   ·rw[z];exact h1
   ·exact h2 w z
  ·rw[qpy h];refine⟨λx hx=>?_,h2⟩;rcases Q2.mp hx with z|z
   ·rw[z];exact h
   ·exact h1 x z
def zlk{ν:Nat->Str}(hν:∀i,32∉(ν i).cps.toList)(as:List Atm):NB ((qlh as).map (qZ ν)):=by
 refine⟨by unfold qlh;simp,λw hw=>?_⟩;obtain⟨v,hv,rfl⟩:=Q1.mp hw;rw[qX];intro z;unfold qhi at z;obtain⟨x,hx,z⟩:=Qkg.mp z;have hne:x≠.ch 32:=by
  obtain⟨h1,h2⟩:=zog as;rcases Q2.mp hv with e|e
  ·rw[e]at hx;exact h1 x hx
  ·exact h2 v e x hx
 cases x with
 |ch c =>
  have z:32∈[c]:=z;rw[Ze]at z;exact hne (by rw[z])
 |nm i=>exact hν i z
def qqk(ν:Nat->Str)(i:Nat):qZ ν [.nm i]=ν i:=qbk (by rw[qX];show(ν i).cps.toList++[]=_;rw[Yc])
def zqw(ν:Nat->Str)(l:List Nat):qZ ν (l.map .ch)=⟨l.toArray⟩:=qbk (by rw[qX,qwr,J0])
structure Nam(w:Str):Prop where
 l1:1<=w.length
 l8:w.length<=8
 lt:∀c∈w.cps.toList,97<=c/\c<=122
def zjr:Prt->Bool
 |.n _=>true
 |p=>((prS (λ_=>Zf) p).cps.toList.all (· < 128))&&decide ((prS (λ_=>Zf) p).length<=60)
def zyw{ν:Nat->Str}(hν:∀i,Nam (ν i)){p:Prt}(h:zjr p=true):(qhi ν (qxc p)).length<=60 /\ ∀c∈qhi ν (qxc p),c<128:=by
 rw[<- qsa];cases p with
 |n i =>
  have:=(hν i).l8;rw[qad]at this;exact⟨by show(ν i).cps.toList.length<=60;omega,λc hc=>by have:=((hν i).lt c hc).2;omega⟩
 |c s =>
  have h:((Qc s).cps.toList.all (· < 128)&&decide ((Qc s).length<=60))=true:=h;rw[Qy,decide_eq_true_eq,Q4,qad]at h;exact⟨h.2,λc hc=>by simpa using h.1 c hc⟩
 |m s k =>
  have h:((Qjc (Qc s) k).cps.toList.all (· < 128)&&decide ((Qjc (Qc s) k).length<=60))=true:=h;rw[Qy,decide_eq_true_eq,Q4,qad]at h;exact⟨h.2,λc hc=>by simpa using h.1 c hc⟩
def zqo{ν:Nat->Str}(hν:∀i,Nam (ν i)){ps:List Prt}(h:(ps.all zjr&&decide (ps.length<=12))=true):AscW (zke ν ps):=by
 rw[Qy,decide_eq_true_eq]at h;obtain⟨h1,h2⟩:=h;have key:∀ps:List Prt,ps.all zjr=true->(qhi ν (ps.flatMap qxc)).length<=60*ps.length /\ ∀c∈qhi ν (ps.flatMap qxc),c<128:=λps=>by
  induction ps with
  |nil=>intro _;exact⟨Vb _,λc hc=>by cases hc⟩
  |cons p ps ih =>
   intro h;rw[Qbt,Qy]at h;obtain⟨a1,a2⟩:=ih h.2;obtain⟨b1,b2⟩:=zyw hν h.1;rw[Qcp,qln];refine⟨by rw[Yu,Zl];omega,λc hc=>?_⟩;rcases Zz.mp hc with z|z
   ·exact b2 c z
   ·exact a2 c z
 obtain⟨a1,a2⟩:=key ps h1;rw[<- zbn]at a1 a2;exact⟨qcs.mpr a2,by rw[qad];omega⟩
def zfo:List Atm->Option (List Nat)
 |[]=>some []
 |.ch c::r=>(zfo r).map (c :: ·)
 |.nm _::_=>none
def zbm:∀{w:List Atm}{l:List Nat},zfo w=some l->w=l.map .ch
 |[],l,h=>by cases h;rfl
 |.ch c::r,l,h=>by
  have h:(zfo r).map (c :: ·)=some l:=h;obtain⟨m,hm,rfl⟩:=Qgf.mp h;rw[zbm hm];rfl
 |.nm _::_,_,h=>by cases h
def qdq{ν:Nat->Str}{w:List Atm}{l:List Nat}(h:zfo w=some l):qZ ν w=⟨l.toArray⟩:=by rw[zbm h,zqw]
def zka:List (List Atm)->List Atm
 |[]=>[]
 |[w]=>w
 |w::v::r=>w++(.ch 32::zka (v::r))
def qpz(ν:Nat->Str):∀ws:List (List Atm),qZ ν (zka ws)=Q8 bl1 (ws.map (qZ ν))
 |[]=>rfl
 |[w]=>rfl
 |w::v::r=>by
  refine qbk ?_;have e32:bl1.cps.toList=[32]:=by decide +kernel
  have ih:=qpz ν (v::r);rw[qX,Qr,Qr,qbh,<- Qr,<- ih,qX,qX,e32];show qhi ν (w++(.ch 32::zka (v::r)))=_;rw[qln];rfl
def qbf(ws:List (List Atm))(fm:List Str):List (List Atm):=if TXS.any (· == qxg fm)=true then(if ws.length<=fm.length+1 then ws else ws.take fm.length++[zka (ws.drop fm.length)])else ws
def qzn(ν:Nat->Str)(ws:List (List Atm))(fm:List Str):qxn (ws.map (qZ ν)) fm=(qbf ws fm).map (qZ ν):=by
 unfold qxn qbf;rw[Qj];split
 ·split
  ·rfl
  ·rw[V1,Qr,Qbl,qpz,List.map_take,Qlv]
 ·rfl
def zth{s:Str}{fm:List Str}(h:atL FRM s=some fm):1<=fm.length/\fm.length<=s.length:=by
 have:FRM.all (λp=>decide (1<=p.2.length)&&decide (p.2.length<=p.1.length))=true:=by decide +kernel
 have:=Q4.mp this _ (qqe h);simpa using this
def zqp(w:Str)(ws:List Str):w.length<=(Q8 bl1 (w::ws)).length:=by
 cases ws with
 |nil=>exact Qn _
 |cons v ws=>rw[qad,qad,qbh,Yu];omega
def zgi(V:List (List (Int×Int))):Int:=V.flatten.foldl (λB y=>B*y.2/(Vc B y.2:Int)) 1
def xdf:∀{ys xs:List (Int×Int)}{B:Int},LcmL xs B->(∀y∈ys,0<y.2)->LcmL (xs++ys) (ys.foldl (λB y=>B*y.2/(Vc B y.2:Int)) B)
 |[],xs,B,h,_=>by simpa using h
 |y::ys,xs,B,h,hp=>by
  have:=xdf (ys:=ys) (h.snoc (y:=y) (hp y (by simp))) λz hz=>hp z (Qt _ hz);rw[Vs]at this;exact this
def zfp{V:List (List (Int×Int))}(h:∀r∈V,∀z∈r,0<z.2):LcmB V (zgi V):=by
 have:=xdf (ys:=V.flatten) LcmL.nil λy hy=>by
  obtain⟨r,hr,hz⟩:=Qfz.mp hy;exact h r hr y hz
 rw[Qkv]at this;exact this.b
def qzz{V:List (List (Int×Int))}{B C:Int}(h:LcmB V B)(k:LcmB V C):B=C :=
 Int.dvd_antisymm (Qbn h.pos) (Qbn k.pos) (h.un C k.dv) (k.un B h.dv)
def zas{x:Str}{V:List (List (Int×Int))}(h:zck x V):∀r∈V,∀z∈r,0<z.2:=λr hr z hz=>by
 obtain⟨i,hi⟩:=Vi hr;obtain⟨vl,vat⟩:=qma h;have li:i<(qY x).length:=by rw[<- vl];exact(Q6.mp hi).1
 obtain⟨v,v1,v2⟩:=vat i _ (Qp li);rw[hi]at v1;cases v1;obtain⟨w,_,e⟩:=(qez v2).2.2 z hz;have:=(qqq e).2.1.pos;omega
def valV(x:Str):List (List (Int×Int)):=(qY x).map λr=>r.map λw=>(qhz w).getD (0,1)
def clB(ok:Qh->Bool)(yes:Bool)(x:Str):Bool:=(x.cps.all (· < 128)&&decide (x.length<=800))&&(decide ((qY x).map (λr=>r.map qhz)=(valV x).map λr=>r.map some)&&(decide (zgi (valV x)<2^60)&&((decide (zgi (valV x)<=999999)&&ok (qba (zgi (valV x)) ((valV x).map (qfr (zgi (valV x))))))==yes)))
def zoq{ok:Qh->Bool}{yes:Bool}{x:Str}(h:clB ok yes x=true):qxy x/\zck x (valV x)/\xdg (valV x) (zgi (valV x)) /\ ∀B,LcmB (valV x) B->(decide (B<=999999)&&ok (qba B ((valV x).map (qfr B))))=yes:=by
 unfold clB at h;simp only[Qy,decide_eq_true_eq,beq_iff_eq]at h;obtain⟨⟨h1,h2⟩,h3,h4,h5⟩:=h;have hb:=zfp (zas (x:=x) h3);have:=hb.pos;exact⟨⟨h1,h2⟩,h3,⟨hb.pos,qai (qcl (by omega) (by omega)) (by decide),hb.dv⟩,λB hB=>by rw[qzz hB hb];exact h5⟩
def zpn(x:Str):Bool:=(x.cps.all (· < 128)&&decide (x.length<=800))&&(qY x).any λr=>r.any λw=>(qhz w).isNone
def zks{x:Str}(h:zpn x=true):qxy x/\zte x:=by
 unfold zpn at h;simp only[Qy,decide_eq_true_eq,Vk,Vv]at h;exact h
def zqn(x:Str):LL:=(qY x).map λr=>r.map λw=>(qid w).getD 0
def xcw(x:Str):Bool:=(x.cps.all (· < 128)&&decide (x.length<=800))&&((qY x).any (λr=>r.any λw=>(qid w).isNone)||(decide ((qY x).map (λr=>r.map qid)=(zqn x).map λr=>r.map some) && !zdl (zqn x)))
def zvc(x:Str):Bool:=(x.cps.all (· < 128)&&decide (x.length<=800))&&(decide ((qY x).map (λr=>r.map qid)=(zqn x).map λr=>r.map some)&&zdl (zqn x))
inductive AT where
 |tab (b:Int) (R:LL)
 |int (n:Int)
 |pay (Y:LL)
 |new (w:List Atm)
deriving DecidableEq
def atD(ν:Nat->Str):AT->Qh
 |.tab b R=>qba b R
 |.int n => .int n
 |.pay Y=>zvv Y
 |.new w => .str (qZ ν w)
inductive Lk where
 |no
 |tab (b:Int) (R:LL)
 |any
def qrf(ok:Qh->Bool)(x:Str):Option (Option (Int×LL)):=if clB ok true x=true then some (some (zgi (valV x),(valV x).map (qfr (zgi (valV x)))))else if clB ok false x=true then some none else if zpn x=true then some none else none
def zbj{ok:Qh->Bool}{x:Str}{b:Int}{R:LL}{C:Addr}{q:Qh->Prop}{e:Addr->Prop}(h:qrf ok x=some (some (b,R)))(hq:q (qba b R)):qcc C ok [.str x] q e:=by
 unfold qrf at h;split at h
 ·rename_i z;obtain⟨h1,h2,h3,h4⟩:=zoq z;have hb:=zfp (zas h2);injection h with h;injection h with h;injection h with e1 e2;refine⟨_,rfl,.inr ⟨x,rfl,h1,.inr ⟨_,_,h2,h3,λB hB=>?_⟩⟩⟩;have:=h4 B hB;rw[Qy,decide_eq_true_eq]at this;rw[qzz hB hb]at this ⊢;refine⟨λz=>?_,λ_ _=>by rw[e1,<- e1,e2];rw[e1];exact hq⟩;rcases z with z|z
  ·omega
  ·rw[this.2]at z;cases z
 ·split at h
  ·cases h
  ·split at h <;> cases h
def zau{ok:Qh->Bool}{x:Str}{C:Addr}{q:Qh->Prop}{e:Addr->Prop}(h:qrf ok x=some none)(he:e C):qcc C ok [.str x] q e:=by
 unfold qrf at h;split at h
 ·cases h
 ·split at h
  ·rename_i z;obtain⟨h1,h2,h3,h4⟩:=zoq z;refine⟨_,rfl,.inr ⟨x,rfl,h1,.inr ⟨_,_,h2,h3,λB hB=>⟨λ_=>he,λy1 y2=>?_⟩⟩⟩⟩;have:=h4 B hB;rw[decide_eq_true y1,y2]at this;cases this
  ·split at h
   ·rename_i z;obtain⟨h1,h2⟩:=zks z;exact⟨_,rfl,.inr ⟨x,rfl,h1,.inl ⟨h2,he⟩⟩⟩
   ·cases h
def zod(x:Str):Option (Option LL):=if xcw x=true then some none else if zvc x=true then some (some (zqn x))else none
def zsz{x:Str}{Y:LL}{C:Addr}{q:Qh->Prop}{e:Addr->Prop}(h:zod x=some (some Y))(hq:q (zvv Y)):qat C [.str x] q e:=by
 unfold zod at h;split at h
 ·cases h
 ·split at h
  ·rename_i z;unfold zvc at z;simp only[Qy,decide_eq_true_eq]at z;cases h;exact⟨_,rfl,.inr ⟨x,rfl,z.1,.inr ⟨_,z.2.1,(λy=>by rw[z.2.2]at y;cases y),λ_=>hq⟩⟩⟩
  ·cases h
def zsq{x:Str}{C:Addr}{q:Qh->Prop}{e:Addr->Prop}(h:zod x=some none)(he:e C):qat C [.str x] q e:=by
 unfold zod at h;split at h
 ·rename_i z;unfold xcw at z;simp only[Qy,Qam,decide_eq_true_eq,Vk,Vv,Qcn]at z;obtain⟨h1,h3|⟨h3,h4⟩⟩:=z
  ·exact⟨_,rfl,.inr ⟨x,rfl,h1,.inl ⟨h3,he⟩⟩⟩
  ·exact⟨_,rfl,.inr ⟨x,rfl,h1,.inr ⟨_,h3,λ_=>he,λy=>by rw[h4]at y;cases y⟩⟩⟩
 ·split at h <;> cases h
def zzf(l:List Nat):Bool:=l.isEmpty||l.any λc=>decide (c<97)||decide (122<c)
def qyb(A:Nat->Lk)(w:List Atm):Option (Option (Int×LL)):=match w with
 |[.nm i]=>if i<26 then(match A i with
  |.no=>some none
  |.tab b R=>some (some (b,R))
  |.any=>none)else none
 |_=>match zfo w with
  |some l=>if zzf l=true then some none else none
  |none=>none
structure DOk(ν:Nat->Str)(A:Nat->Lk)(z:Nat)(es:DS):Prop where
 nam:∀i,Nam (ν i)
 inj:∀i j,i<26->j<26->ν i=ν j->i=j
 no:∀i,i<26->A i = .no->atE es (ν i)=none
 tab:∀i b R,i<26->A i = .tab b R->atE es (ν i)=some (qba b R)
 any:∀i,i<26->A i = .any->(atE es (ν i)).isSome=true
 key:∀s,(atE es s).isSome=true ->∃i,i<26/\s=ν i
 len:es.length=z
 small:z<=20
def xca{ν:Nat->Str}{A:Nat->Lk}{z:Nat}{es:DS}(h:DOk ν A z es){l:List Nat}(hl:zzf l=true):atE es ⟨l.toArray⟩=none:=by
 cases e:atE es ⟨l.toArray⟩with
 |none=>rfl
 |some d =>
  obtain⟨i,_,hi⟩:=h.key ⟨l.toArray⟩ (by rw[e];rfl);have hn:=h.nam i;have el:(ν i).cps.toList=l:=by rw[<- hi]
  unfold zzf at hl;rw[Qam]at hl;rcases hl with y|y
  ·have:=hn.l1;rw[qad,el,Qkf.mp y]at this;exact absurd this (by decide)
  ·obtain⟨c,hc,y⟩:=Vk.mp y;have:=hn.lt c (by rw[el];exact hc);rw[Qam,decide_eq_true_eq,decide_eq_true_eq]at y;omega
def zkm{ν:Nat->Str}{A:Nat->Lk}{z:Nat}{es:DS}(h:DOk ν A z es){w:List Atm}{b:Int}{R:LL}(hl:qyb A w=some (some (b,R))):atE es (qZ ν w)=some (qba b R):=by
 unfold qyb at hl;split at hl
 ·rename_i i;split at hl
  ·rename_i hi;rw[qqk];split at hl
   ·cases hl
   ·rename_i y;cases hl;exact h.tab i _ _ hi y
   ·cases hl
  ·cases hl
 ·split at hl
  ·split at hl <;> cases hl
  ·cases hl
def zkp{ν:Nat->Str}{A:Nat->Lk}{z:Nat}{es:DS}(h:DOk ν A z es){w:List Atm}(hl:qyb A w=some none):atE es (qZ ν w)=none:=by
 unfold qyb at hl;split at hl
 ·rename_i i;split at hl
  ·rename_i hi;rw[qqk];split at hl
   ·rename_i y;exact h.no i hi y
   ·cases hl
   ·cases hl
  ·cases hl
 ·split at hl
  ·rename_i l el;split at hl
   ·rename_i y;rw[qdq el];exact xca h y
   ·cases hl
  ·cases hl
inductive Rs where
 |bad (k:Nat)
 |ans (x:Str)
 |put (i:Nat) (b:Int) (R:LL)
 |any (i:Nat)
deriving DecidableEq
def zvf{α:Type}(k:Nat)(f:α->AT):Option (Option α)->Option (Nat ⊕ AT)
 |none=>none
 |some none=>some (.inl k)
 |some (some a)=>some (.inr (f a))
def qyf(A:Nat->Lk)(kd:Str)(w:List Atm):Option (Nat ⊕ AT) :=
 if kd=Qc "new" then some (.inr (.new w))else if kd=Qc "name" then zvf 1 (λp => .tab p.1 p.2) (qyb A w)else match zfo w with
 |none=>none
 |some l=>if kd=Qc "number" then(match Zd ⟨l.toArray⟩with
  |some n=>if l.length<=640 then some (.inr (.int n))else none
  |none=>none)else if kd=Qc "glass" then zvf 2 (λp => .tab p.1 p.2) (qrf (qbc · 2 4) ⟨l.toArray⟩)else if kd=Qc "dulling" then zvf 2 (λp => .tab p.1 p.2) (qrf (qbc · 1 12) ⟨l.toArray⟩)else if kd=Qc "payoffs" then zvf 2 .pay (zod ⟨l.toArray⟩)else none
structure Cl where
 r:Addr
 n:Addr
 t:Addr
 f:Addr
 nf:Addr
 m:Addr
def Cl.at(c:Cl):Nat->Addr
 |0=>c.r
 |1=>c.n
 |2=>c.t
 |3=>c.f
 |4=>c.nf
 |_=>c.m
def znk{c:Cl}{ν:Nat->Str}{A:Nat->Lk}{z:Nat}{es:DS}(h:DOk ν A z es){kd:Str}{w:List Atm}{q:Qh->Prop}{e:Addr->Prop}{r:Nat ⊕ AT}(hr:qyf A kd w=some r)(hk:match r with |.inl k=>e (c.at k) |.inr a=>q (atD ν a)):qau c.n c.t es [.str kd,.str (qZ ν w)] q e:=by
 unfold qyf at hr;refine⟨kd,qZ ν w,rfl,?_⟩;split at hr
 ·rename_i y;cases hr;exact .inr (.inr (.inr (.inr (.inr ⟨y,hk⟩))))
 split at hr
 ·rename_i y;refine .inl ⟨y,_,rfl,?_⟩;cases el:qyb A w with
  |none=>rw[el]at hr;cases hr
  |some o =>
   rw[el]at hr;cases o with
   |none=>cases hr;exact .inl ⟨zkp h el,hk⟩
   |some p=>cases hr;exact .inr ⟨_,zkm h el,hk⟩
 split at hr
 ·cases hr
 rename_i l el;rw[qdq el];split at hr
 ·rename_i y;split at hr
  ·rename_i n en;split at hr
   ·rename_i hl;cases hr;exact .inr (.inl ⟨y,n,en,by rw[qad];simpa using hl,hk⟩)
   ·cases hr
  ·cases hr
 split at hr
 ·rename_i y;refine .inr (.inr (.inl ⟨y,?_⟩));cases eo:qrf (qbc · 2 4) ⟨l.toArray⟩with
  |none=>rw[eo]at hr;cases hr
  |some o =>
   rw[eo]at hr;cases o with
   |none=>cases hr;exact zau eo hk
   |some p=>cases hr;exact zbj eo hk
 split at hr
 ·rename_i y;refine .inr (.inr (.inr (.inl ⟨y,?_⟩)));cases eo:qrf (qbc · 1 12) ⟨l.toArray⟩with
  |none=>rw[eo]at hr;cases hr
  |some o =>
   rw[eo]at hr;cases o with
   |none=>cases hr;exact zau eo hk
   |some p=>cases hr;exact zbj eo hk
 split at hr
 ·rename_i y;refine .inr (.inr (.inr (.inr (.inl ⟨y,?_⟩))));cases eo:zod ⟨l.toArray⟩with
  |none=>rw[eo]at hr;cases hr
  |some o =>
   rw[eo]at hr;cases o with
   |none=>cases hr;exact zsq eo hk
   |some p=>cases hr;exact zsz eo hk
 ·cases hr
def qmw(A:Nat->Lk):List (Str×List Atm)->Option (Nat ⊕ List AT)
 |[]=>some (.inr [])
 |p::ps=>match qyf A p.1 p.2 with
  |none=>none
  |some (.inl k)=>some (.inl k)
  |some (.inr a)=>match qmw A ps with
   |none=>none
   |some (.inl k)=>some (.inl k)
   |some (.inr as)=>some (.inr (a::as))
def qia{c:Cl}{ν:Nat->Str}{A:Nat->Lk}{z:Nat}{es:DS}(h:DOk ν A z es){q:List Qh->Prop}{e:Addr->Prop}:∀{ps:List (Str×List Atm)}{acc:List Qh}{r:Nat ⊕ List AT},qmw A ps=some r->(match r with |.inl k=>e (c.at k) |.inr as=>q (acc++as.map (atD ν)))->qeo c.n c.t es (ps.map λp=>(p.1,qZ ν p.2)) acc q e
 |[],acc,r,hr,hk=>by
  cases hr;have hk:q (acc++[]):=hk;rw[Yc]at hk;exact hk
 |p::ps,acc,r,hr,hk=>by
  unfold qmw at hr;rw[Qr];cases e1:qyf A p.1 p.2 with
  |none=>rw[e1]at hr;cases hr
  |some o =>
   rw[e1]at hr;refine znk (c:=c) h (q:=λd=>qeo c.n c.t es (ps.map λp=>(p.1,qZ ν p.2)) (acc++[d]) q e) (e:=e) e1 ?_;cases o with
   |inl k=>cases hr;exact hk
   |inr a =>
    show qeo c.n c.t es (ps.map λp=>(p.1,qZ ν p.2)) (acc++[atD ν a]) q e;cases e2:qmw A ps with
    |none=>simp only[e2]at hr;cases hr
    |some o2 =>
     simp only[e2]at hr;cases o2 with
     |inl k=>cases hr;exact qia h e2 hk
     |inr as =>
      cases hr;refine qia h e2 ?_;show q (acc++[atD ν a]++as.map (atD ν));rw[Vs];exact hk
def zpi(b:Int)(R:LL):Bool:=(decide (1<=b)&&decide (b<2^60))&&(decide (R.length<=12)&&R.all λr=>decide (r.length<=12)&&r.all λx=>decide (0<=x)&&decide (x<2^60))
def zkl{b:Int}{R:LL}(h:zpi b R=true):1<=b/\intBits b<=300/\R.length<=12 /\ ∀r∈R,r.length<=12 /\ ∀x∈r,intBits x<=300:=by
 unfold zpi at h;simp only[Qy,decide_eq_true_eq,Q4]at h;obtain⟨⟨h1,h2⟩,h3,h4⟩:=h;refine⟨h1,qai (qcl (by omega) (by omega)) (by decide),h3,λr hr=>⟨(h4 r hr).1,λx hx=>?_⟩⟩;obtain⟨y1,y2⟩:=(h4 r hr).2 x hx;exact qai (qcl (by omega) (by omega)) (by decide)
def qwv(w0:Str)(th:List AT):Option (Nat ⊕ Str):=if w0=Qc "show" then(match th with
 |[.tab b R]=>if zpi b R=true then some (.inr (tTx b R))else none
 |_=>none)else if w0=Qc "best" then(match th with
 |[.tab _ R,.pay Y]=>if Y.length≠R.length then some (.inl 4)else none
 |_=>none)else if w0=Qc "curve" then(match th with
 |[.tab _ R]=>if R.length≠2 then some (.inl 4)else none
 |_=>none)else if w0=Qc "compare" \/ w0=Qc "by" \/ w0=Qc "alike" then(match th with
 |[.tab _ R,.tab _ S]=>if R.length≠S.length then some (.inl 4)else none
 |_=>none)else none
def quj{c:Cl}{ν:Nat->Str}{w0:Str}{th:List AT}{r:Nat ⊕ Str}(hr:qwv w0 th=some r){q:Qh->Prop}{e:Addr->Prop}(hk:match r with |.inl k=>e (c.at k) |.inr x=>q (.str x)):qbp c.nf [.str w0,.list (th.map (atD ν))] q e:=by
 unfold qwv at hr;refine⟨w0,_,rfl,?_⟩;split at hr
 ·rename_i y;split at hr
  ·split at hr
   ·rename_i z;cases hr;exact .inl ⟨y,_,_,rfl,zkl z,hk⟩
   ·cases hr
  ·cases hr
 split at hr
 ·rename_i y;split at hr
  ·split at hr
   ·rename_i z;cases hr;exact .inr (.inl ⟨y,_,_,_,rfl,z,hk⟩)
   ·cases hr
  ·cases hr
 split at hr
 ·rename_i y;split at hr
  ·split at hr
   ·rename_i z;cases hr;exact .inr (.inr (.inr (.inr (.inr ⟨y,_,_,rfl,z,hk⟩))))
   ·cases hr
  ·cases hr
 split at hr
 ·rename_i y;split at hr
  ·split at hr
   ·rename_i z;cases hr;rcases y with y|y|y
    ·exact .inr (.inr (.inl ⟨y,_,_,_,_,rfl,z,hk⟩))
    ·exact .inr (.inr (.inr (.inl ⟨y,_,_,_,_,rfl,z,hk⟩)))
    ·exact .inr (.inr (.inr (.inr (.inl ⟨y,_,_,_,_,rfl,z,hk⟩))))
   ·cases hr
  ·cases hr
 ·cases hr
def zpk(w0:Str)(th:List AT):Option (Nat ⊕ Option (Int×LL)):=if w0=Qc "dull" then(match th with
 |[.tab _ (r0::_),.tab _ D]=>if r0.length≠D.length then some (.inl 4)else none
 |_=>none)else if w0=Qc "beside" then(match th with
 |[.tab _ (r0::R0),.tab _ (s0::S0)]=>if r0.length<=12/\s0.length<=12 then(if R0.length≠S0.length then some (.inl 4)else if 12<r0.length*s0.length then some (.inl 5)else none)else none
 |_=>none)else if w0=Qc "join" then(match th with
 |[.tab _ (r0::_),.int i,.int j]=>if ¬ (0<=i/\i<j/\j<r0.length)then some (.inl 4)else none
 |_=>none)else if w0=Qc "least" then(match th with
 |[.tab b R]=>if b=14/\R=gb then some (.inr none)else none
 |_=>none)else if w0=Qc "glass" then(match th with
 |[.tab b R]=>some (.inr (some (b,R)))
 |_=>none)else none
def qwy{c:Cl}{ν:Nat->Str}{w0:Str}{th:List AT}{r:Nat ⊕ Option (Int×LL)}(hr:zpk w0 th=some r){q:Qh->Prop}{e:Addr->Prop}(hk:match r with |.inl k=>e (c.at k) |.inr none =>∀d,q d |.inr (some p)=>q (qba p.1 p.2)):qcv c.nf c.m [.str w0,.list (th.map (atD ν))] q e:=by
 unfold zpk at hr;refine⟨w0,_,rfl,?_⟩;split at hr
 ·rename_i y;split at hr
  ·split at hr
   ·rename_i z;cases hr;exact .inl ⟨y,_,_,_,_,_,rfl,z,hk⟩
   ·cases hr
  ·cases hr
 split at hr
 ·rename_i y;split at hr
  ·split at hr
   ·rename_i l;split at hr
    ·rename_i z;cases hr;exact .inr (.inl ⟨y,_,_,_,_,_,_,rfl,l,.inl ⟨z,hk⟩⟩)
    ·rename_i z;split at hr
     ·rename_i z2;cases hr;exact .inr (.inl ⟨y,_,_,_,_,_,_,rfl,l,.inr ⟨Qji.mp z,z2,hk⟩⟩)
     ·cases hr
   ·cases hr
  ·cases hr
 split at hr
 ·rename_i y;split at hr
  ·split at hr
   ·rename_i z;cases hr;exact .inr (.inr (.inl ⟨y,_,_,_,_,_,rfl,z,hk⟩))
   ·cases hr
  ·cases hr
 split at hr
 ·rename_i y;split at hr
  ·split at hr
   ·rename_i z;cases hr;obtain⟨rfl,rfl⟩:=z;exact .inr (.inr (.inr (.inl ⟨y,rfl,hk⟩)))
   ·cases hr
  ·cases hr
 split at hr
 ·rename_i y;split at hr
  ·cases hr;exact .inr (.inr (.inr (.inr ⟨y,_,rfl,hk⟩)))
  ·cases hr
 ·cases hr
def Lk.isNo:Lk->Bool
 |.no=>true
 |_=>false
def zdx(A:Nat->Lk)(z:Nat)(w0:Str)(fm:List Str)(ws:List (List Atm))(th:List AT):Option Rs:=if(Zc (fm.headD Zf)).eqv (.str (Qc "new"))=true then(match ws with
 |[.nm i]::_=>if i<26 then(if(A i).isNo=true/\20<=z then some (.bad 3)else(match zpk w0 (th.drop 1)with
  |some (.inl k)=>some (.bad k)
  |some (.inr (some p))=>some (.put i p.1 p.2)
  |some (.inr none)=>some (.any i)
  |none=>none))else none
 |_=>none)else(match qwv w0 th with
 |some (.inl k)=>some (.bad k)
 |some (.inr x)=>some (.ans x)
 |none=>none)
def Kp(c:Cl)(ν:Nat->Str)(es:DS)(q:Qh->DS->Prop)(e:Addr->Prop):Rs->Prop
 |.bad k=>e (c.at k)
 |.ans x=>q (.str x) es
 |.put i b R=>q (.str (Qc "ok")) (qng es (ν i) (qba b R))
 |.any i =>∀d,q (.str (Qc "ok")) (qng es (ν i) d)
def quv{ν:Nat->Str}{A:Nat->Lk}{z:Nat}{es:DS}(h:DOk ν A z es){i:Nat}(hi:i<26)(hA:(A i).isNo=false):(atE es (ν i)).isSome=true:=by
 cases e:A i with
 |no=>rw[e]at hA;cases hA
 |tab b R=>rw[h.tab i b R hi e];rfl
 |any=>exact h.any i hi e
def zek{ν:Nat->Str}{A:Nat->Lk}{z:Nat}{es:DS}(h:DOk ν A z es){i:Nat}(hi:i<26)(hA:(A i).isNo=true):atE es (ν i)=none:=by
 cases e:A i with
 |no=>exact h.no i hi e
 |tab b R=>rw[e]at hA;cases hA
 |any=>rw[e]at hA;cases hA
def znd{c:Cl}{ν:Nat->Str}{A:Nat->Lk}{z:Nat}{es:DS}(h:DOk ν A z es){w0:Str}{fm:List Str}{ws:List (List Atm)}{th:List AT}{r:Rs}(hr:zdx A z w0 fm ws th=some r){q:Qh->DS->Prop}{e:Addr->Prop}(hk:Kp c ν es q e r):qpf c.f c.nf c.m es w0 fm (ws.map (qZ ν)) (th.map (atD ν)) q e:=by
 unfold zdx at hr;split at hr
 ·rename_i y;split at hr
  ·rename_i i r';split at hr
   ·rename_i hi;refine .inr ⟨y,ν i,r'.map (qZ ν),by rw[Qr,qqk],?_⟩;have hl:=h.len;split at hr
    ·rename_i z1;cases hr;exact .inl ⟨zek h hi z1.1,by omega,hk⟩
    ·rename_i z1;refine .inr ⟨?_,?_⟩
     ·cases en:(A i).isNo with
      |false=>exact .inl (quv h hi en)
      |true=>exact .inr (by have : ¬ 20<=z:=λz2=>z1 ⟨en,z2⟩;omega)
     ·rw[<- Qlv];split at hr
      ·rename_i em;cases hr;exact qwy (c:=c) em hk
      ·rename_i em;cases hr;exact qwy (c:=c) em hk
      ·rename_i em;cases hr;exact qwy (c:=c) em hk
      ·cases hr
   ·cases hr
  ·cases hr
 ·rename_i y;refine .inl ⟨by simpa using y,?_⟩;split at hr
  ·rename_i em;cases hr;exact quj (c:=c) em hk
  ·rename_i em;cases hr;exact quj (c:=c) em hk
  ·cases hr
def zjn(kd:Str)(w:List Atm):Option Bool:=match zfo w with
 |some l=>some (qfz kd ⟨l.toArray⟩)
 |none=>if(Zc kd).eqv (.str (Qc "number"))=true then none else if(Zc kd).eqv (.str (Qc "new"))=true then(match w with
  |[.nm _]=>some true
  |_=>none)else some true
def zsy{w:Str}(h:Nam w):mdo w zrt=true:=by
 unfold mdo;have ne:Yx (.str w) (.str "")=false:=by
  cases z:Yx (.str w) (.str "")with
  |false=>rfl
  |true =>
   have l:=h.l1;rw[qpt.mp z]at l;exact absurd l (by decide)
 rw[ne];show(true&&_)=true;rw[Yq,Q4];intro c hc;have r:=h.lt c hc;rw[zgc,decide_eq_true_eq];have all:∀k:Nat,k<26->97+k∈zrt.cps.toList:=by decide +kernel
 have:=all (c-97) (by omega)
 rwa [show 97+(c-97)=c by omega]at this
def zku{ν:Nat->Str}(hν:∀i,Nam (ν i)){kd:Str}{w:List Atm}{b:Bool}(h:zjn kd w=some b):qfz kd (qZ ν w)=b:=by
 unfold zjn at h;split at h
 ·rename_i l el;cases h;rw[qdq el]
 ·split at h
  ·cases h
  ·rename_i y1;have y1:(Zc kd).eqv (.str (Qc "number"))=false:=by simpa using y1
   split at h
   ·rename_i y2;split at h
    ·rename_i i _;cases h;unfold qfz;rw[if_pos y2,qqk,zsy (hν i),Yq,decide_eq_true_eq];have:=(hν i).l8;omega
    ·cases h
   ·rename_i y2;cases h;unfold qfz;rw[if_neg y2,y1];rfl
def qmh:List (Str×List Atm)->Option Bool
 |[]=>some true
 |p::ps=>match zjn p.1 p.2 with
  |none=>none
  |some b=>match qmh ps with
   |none=>if b=false then some false else none
   |some b2=>some (b&&b2)
def qka{ν:Nat->Str}(hν:∀i,Nam (ν i)):∀{ps:List (Str×List Atm)}{b:Bool},qmh ps=some b->(ps.map λp=>(p.1,qZ ν p.2)).all (λp=>qfz p.1 p.2)=b
 |[],b,h=>by cases h;rfl
 |p::ps,b,h=>by
  unfold qmh at h;rw[Qr,Qbt];cases e1:zjn p.1 p.2 with
  |none=>rw[e1]at h;cases h
  |some b1 =>
   rw[e1]at h;rw[zku hν e1];cases e2:qmh ps with
   |none =>
    simp only[e2]at h;split at h
    ·rename_i z;cases h;rw[z];rfl
    ·cases h
   |some b2 =>
    simp only[e2]at h;cases h;rw[qka hν e2]
def xct(A:Nat->Lk)(z:Nat)(ws:List (List Atm)):Option Rs:=match ws with
 |[]=>none
 |w0::r=>match zfo w0 with
  |none=>if w0.any (λa=>decide (a = .ch 10))=true then some (.bad 0)else none
  |some l=>match atL FRM ⟨l.toArray⟩with
   |none=>some (.bad 0)
   |some fm=>if(qbf (w0::r) fm).length≠fm.length+1 then some (.bad 0)else match qmh (fm.zip (qbf (w0::r) fm).tail)with
    |none=>none
    |some false=>some (.bad 0)
    |some true=>match qmw A (fm.zip (qbf (w0::r) fm).tail)with
     |none=>none
     |some (.inl k)=>some (.bad k)
     |some (.inr th)=>zdx A z ⟨l.toArray⟩ fm (qbf (w0::r) fm).tail th
def zat(A:Nat->Lk)(z:Nat)(ps:List Prt):Option Rs:=if(ps.all zjr&&decide (ps.length<=12))=true then xct A z (qlh (ps.flatMap qxc))else none
def zmq{w:Str}{fm:List Str}(h:atL FRM w=some fm):10∉w.cps.toList:=by
 have:FRM.all (λp=>p.1.cps.toList.all (· != 10))=true:=by decide +kernel
 have:=Q4.mp (Q4.mp this _ (qqe h));intro z;have:=this 10 z;simp at this
def qwe(w0:List Atm)(r:List (List Atm)){fm:List Str}(f1:1<=fm.length):qbf (w0::r) fm=w0::(qbf (w0::r) fm).tail:=by
 unfold qbf;split
 ·split
  ·rfl
  ·obtain⟨n,hn⟩:=Nat.exists_eq_add_of_le f1;rw[hn,Nat.add_comm,List.take_succ_cons];rfl
 ·rfl
def qjf{c:Cl}{ν:Nat->Str}{A:Nat->Lk}{z:Nat}{es:DS}(h:DOk ν A z es){ps:List Prt}{r:Rs}(hr:zat A z ps=some r){q:Qh->DS->Prop}{e:Addr->Prop}(hk:Kp c ν es q e r):qjc c.r c.n c.t c.f c.nf c.m es [.str (zke ν ps)] q e:=by
 unfold zat at hr;split at hr
 ·rename_i hp;have h32:∀i,32∉(ν i).cps.toList:=λi z=>by have:=(h.nam i).lt 32 z;omega
  have ax:=zqo h.nam hp;have nb:=zlk h32 (ps.flatMap qxc);refine⟨by have:=h.len;have:=h.small;omega,_,rfl,.inr ⟨_,rfl,ax,?_⟩⟩;rw[zky];generalize qlh (ps.flatMap qxc)=ws at hr nb ⊢;cases ws with
  |nil=>cases hr
  |cons w0 r' =>
   unfold xct at hr;rw[Qr]at nb ⊢;rw[zml nb];simp only at hr;split at hr
   ·split at hr
    ·rename_i y;cases hr;refine .inl ⟨?_,hk⟩;cases ea:atL FRM (qZ ν w0)with
     |none=>rfl
     |some fm =>
      refine absurd ?_ (zmq ea);obtain⟨a,ha,y⟩:=Vk.mp y;rw[decide_eq_true_eq]at y;subst y;rw[qX];unfold qhi;exact Qkg.mpr ⟨_,ha,by simp[zbq]⟩
    ·cases hr
   ·rename_i l el;rw[qdq el]at nb ⊢;split at hr
    ·rename_i ea;cases hr;exact .inl ⟨ea,hk⟩
    ·rename_i fm ea;refine .inr ⟨fm,ea,?_⟩;obtain⟨f1,f2⟩:=zth ea;have ew:qdf (Q8 bl1 (⟨l.toArray⟩::r'.map (qZ ν))) fm=(qbf (w0::r') fm).map (qZ ν):=by
      rw[zdk nb f1 (by have:=zqp ⟨l.toArray⟩ (r'.map (qZ ν));omega),<- qzn,Qr,qdq el]
     have eh:=qwe w0 r' f1;have ez:fm.zip ((qbf (w0::r') fm).map (qZ ν)).tail=(fm.zip (qbf (w0::r') fm).tail).map λp=>(p.1,qZ ν p.2):=by
      rw[<- Qlu,Qil];rfl
     unfold qtx;rw[ew,ez,Qj];split at hr
     ·rename_i y;cases hr;exact .inl ⟨by rw[decide_eq_false y];rfl,hk⟩
     ·rename_i y;rw[decide_eq_true (Qji.mp y),Yq];split at hr
      ·cases hr
      ·rename_i ea2;cases hr;exact .inl ⟨qka h.nam ea2,hk⟩
      ·rename_i ea2;refine .inr ⟨qka h.nam ea2,⟨l.toArray⟩,(qbf (w0::r') fm).tail.map (qZ ν),by rw[eh,Qr,qdq el];rfl,ea,?_⟩;have ez2:fm.zip ((qbf (w0::r') fm).tail.map (qZ ν))=(fm.zip (qbf (w0::r') fm).tail).map λp=>(p.1,qZ ν p.2):=by
        rw[Qil];rfl
       rw[ez2];split at hr
       ·cases hr
       ·rename_i et;cases hr;exact qia h et hk
       ·rename_i th et;refine qia h et ?_;exact znd h hr hk
 ·cases hr
def tA:Int×LL:=(24,[[12,6,3,3],[0,8,8,8]])
def tB:Int×LL:=(14,[[7,7],[2,12],[0,14]])
def AD(m j:Nat):Nat->Lk:=λi=>if i=0 then(if 0<m then .tab tA.1 tA.2 else .no)else if i=1 then(if 1<m then .tab tB.1 tB.2 else .no)else if 3<=i/\i<3+j then .tab 1 [[1],[1]]else .no
def zjy(k:Nat):Option Rs->Bool
 |some (.bad j)=>j==k
 |_=>false
def zbg{k:Nat}{o:Option Rs}(h:zjy k o=true):o=some (.bad k):=by
 unfold zjy at h;split at h
 ·rw[eq_of_beq h]
 ·cases h
def zoe(A:Nat->Lk)(z k:Nat):RowP->Bool
 |.t ps=>zjy k (zat A z ps)
 |.z _=>k==0
def znc:qoy.all (zoe (AD 2 0) 2 0)=true:=by decide +kernel
def zjh:qio.all (zoe (AD 2 0) 2 1)=true:=by decide +kernel
def zho:qje.all (zoe (AD 2 0) 2 2)=true:=by decide +kernel
def zpp(s:String):Nat:=if s = "row" then 0 else if s = "name" then 1 else if s = "text" then 2 else if s = "full" then 3 else if s = "fit" then 4 else 5
def znh:qti.all (λp=>(p.1 == "fit" || p.1 == "many")&&zoe (AD 2 0) 2 (zpp p.1) p.2)=true:=by decide +kernel
def qls(i:Nat):List (String×List Prt):=[("full",[.c "least ",.n i,.c " ",.n 0]),("full",[.c "glass ",.n i,.c " 1 | 1"]),("text",[.c "glass ",.n i,.c " 1"]),("name",[.c "least ",.n i,.c " ",.n 2]),("full",[.c "beside ",.n i,.c " ",.n 0,.c " ",.n 1]),("full",[.c "join ",.n i,.c " ",.n 0,.c " 1 0"]),("row",[.c "least ",.n i]),("name",[.c "show ",.n i])]
def zko:(Z9 4).all (λj=>(qls (21+j)).all λp=>zjy (zpp p.1) (zat (AD 2 18) 20 p.2))=true:=by decide +kernel
def zqh:zat (AD 0 0) 0 [.c "glass ",.n 0,.c " ",.c "1/2 1/4 1/8 1/8 | 0 1/3 1/3 1/3"]=some (.put 0 tA.1 tA.2):=by decide +kernel
def zqv:zat (AD 1 0) 1 [.c "glass ",.n 1,.c " ",.c "1/2 1/2 | 1/7 6/7 | 0 1"]=some (.put 1 tB.1 tB.2):=by decide +kernel
def zss:∀k,k<18->zat (AD 2 k) (2+k) [.c "glass ",.n (3+k),.c " 1 | 1"]=some (.put (3+k) 1 [[1],[1]]):=by decide +kernel
def zuj:zat (AD 2 18) 20 [.c "least ",.n 3,.c " ",.n 1]=some (.any 3):=by decide +kernel
def AL:Nat->Lk:=λi=>if i=3 then .any else AD 2 18 i
def zyy:zat AL 20 [.c "show ",.n 0]=some (.ans (Qc "1/2 1/4 1/8 1/8 | 0 1/3 1/3 1/3")):=by decide +kernel
def zxi:zat AL 20 [.c "show ",.n 1]=some (.ans (Qc "1/2 1/2 | 1/7 6/7 | 0 1")):=by decide +kernel
def zew{s t:Str}{d:Qh}:∀{es:DS},(atE es s).isSome=true->atE (es.map λe=>if e.1=s then(e.1,d)else e) t=if t=s then some d else atE es t
 |[],h=>by cases h
 |e::es,h=>by
  have key:∀es:DS,t≠s->atE (es.map λe=>if e.1=s then(e.1,d)else e) t=atE es t:=λes hts=>by
   induction es with
   |nil=>rfl
   |cons x es ih =>
    rw[Qr];unfold atE;rw[ih];by_cases hx:x.1=s
    ·rw[if_pos hx,if_neg (show ¬ x.1=t from λz=>hts (by rw[<- z,hx])),if_neg (show ¬ x.1=t from λz=>hts (by rw[<- z,hx]))]
    ·rw[if_neg hx]
  by_cases ht:t=s
  ·subst ht;rw[if_pos rfl,Qr];by_cases he:e.1=t
   ·rw[if_pos he];unfold atE;exact if_pos he
   ·rw[if_neg he];unfold atE;rw[if_neg he];have h2:(atE es t).isSome=true:=by unfold atE at h;rw[if_neg he]at h;exact h
    rw[zew h2,if_pos rfl]
  ·rw[if_neg ht];exact key _ ht
def zaz{s t:Str}{d:Qh}:∀{es:DS},atE es s=none->atE (es++[(s,d)]) t=if t=s then some d else atE es t
 |[],_=>by
  show(if s=t then some d else none)=if t=s then some d else none
  by_cases h:s=t
  ·rw[if_pos h,if_pos h.symm]
  ·rw[if_neg h,if_neg λz=>h z.symm]
 |e::es,h=>by
  unfold atE at h;split at h
  ·cases h
  ·rename_i he;have ih:=zaz (t:=t) (d:=d) h;show(if e.1=t then some e.2 else atE (es++[(s,d)]) t)=if t=s then some d else(if e.1=t then some e.2 else atE es t)
   rw[ih];by_cases h1:e.1=t
   ·rw[if_pos h1,if_pos h1,if_neg λz=>he (by rw[h1,z])]
   ·rw[if_neg h1,if_neg h1]
def qww(es:DS)(s t:Str)(d:Qh):atE (qng es s d) t=if t=s then some d else atE es t:=by
 unfold qng;split
 ·rename_i h;exact zew h
 ·rename_i h;exact zaz (by simpa using h)
def DOk.put{ν:Nat->Str}{A A':Nat->Lk}{z z':Nat}{es:DS}(h:DOk ν A z es){i:Nat}(hi:i<26){d:Qh}(hA:∀j,j<26->j≠i->A' j=A j)(hd:A' i = .any \/ ∃b R,A' i = .tab b R/\d=qba b R)(hz:z'=(if(A i).isNo=true then z+1 else z))(hs:z'<=20):DOk ν A' z' (qng es (ν i) d):=by
 have at1:∀j,j<26->j≠i->atE (qng es (ν i) d) (ν j)=atE es (ν j):=λj hj hn=>by rw[qww,if_neg λz=>hn (h.inj j i hj hi z)]
 have at2:atE (qng es (ν i) d) (ν i)=some d:=by rw[qww,if_pos rfl]
 refine⟨h.nam,h.inj,λj hj e=>?_,λj b R hj e=>?_,λj hj e=>?_,λs hs=>?_,?_,hs⟩
 ·by_cases hn:j=i
  ·subst hn;rcases hd with y|⟨_,_,y,_⟩ <;> rw[y]at e <;> cases e
  ·rw[at1 j hj hn];exact h.no j hj (by rw[<- hA j hj hn];exact e)
 ·by_cases hn:j=i
  ·subst hn;rcases hd with y|⟨_,_,y,y2⟩
   ·rw[y]at e;cases e
   ·rw[y]at e;cases e;rw[at2,y2]
  ·rw[at1 j hj hn];exact h.tab j b R hj (by rw[<- hA j hj hn];exact e)
 ·by_cases hn:j=i
  ·subst hn;rw[at2];rfl
  ·rw[at1 j hj hn];exact h.any j hj (by rw[<- hA j hj hn];exact e)
 ·rw[qww]at hs;split at hs
  ·rename_i y;exact⟨i,hi,y⟩
  ·exact h.key s hs
 ·unfold qng;rw[hz];split
  ·rename_i y;rw[Qj,h.len,if_neg λy2=>by rw[zek h hi y2]at y;cases y]
  ·rename_i y;rw[Yu,h.len];cases en:(A i).isNo with
   |true=>rfl
   |false=>exact absurd (quv h hi en) y
def zbp(c:Int)(n:Nat):(qgq c n).length=n:=by unfold qgq;rw[Qj,Qfg]
def zob(i:Int):97<=ltr i/\ltr i<=122:=by
 have h0:=Yy i (show(26:Int)≠0 by decide);have h1:=Yw i (show(0:Int)<26 by decide);unfold ltr;omega
def zli(c:Int){n a:Nat}(k:Nat)(h1:a<n)(h8:n<=8):Nam (qif c n a k):=by
 have l:(qif c n a k).length=n:=by rw[qad];show(qgo c n a k).length=n;unfold qgo;rw[Yk,zbp]
 refine⟨by omega,by omega,λx hx=>?_⟩;have hx:x∈(qgq c n).set a (ltr (c/64+5*(k:Int))):=hx;rcases List.mem_or_eq_of_mem_set hx with y|y
 ·unfold qgq at y;obtain⟨j,_,rfl⟩:=Q1.mp y;exact zob _
 ·rw[y];exact zob _
def zkq(c:Int){n a:Nat}(h1:a<n){i j:Nat}(hi:i<26)(hj:j<26)(h:qif c n a i=qif c n a j):i=j:=by
 have h:qgo c n a i=qgo c n a j:=by
  have:=congrArg (λs:Str=>s.cps.toList) h;simpa[qif]using this
 have ha:a<(qgq c n).length:=by rw[zbp];exact h1
 have e:∀k,(qgo c n a k)[a]?=some (ltr (c/64+5*(k:Int))):=λk=>by unfold qgo;rw[Qci ha]
 have:=e i;rw[h,e j]at this;have this:=Za this;unfold ltr at this;have:=Yy (c/64+5*(i:Int)) (show(26:Int)≠0 by decide);have:=Yy (c/64+5*(j:Int)) (show(26:Int)≠0 by decide);omega
def xeb{ν:Nat->Str}(h:∀i,Nam (ν i))(hi:∀i j,i<26->j<26->ν i=ν j->i=j):DOk ν (AD 0 0) 0 []:=by
 refine⟨h,hi,λ_ _ _=>rfl,λi b R hi e=>?_,λi hi e=>?_,λs h=>?_,rfl,by decide⟩
 ·have all:∀i,i<26->(AD 0 0 i).isNo=true:=by decide +kernel
  have:=all i hi;rw[e]at this;cases this
 ·have all:∀i,i<26->(AD 0 0 i).isNo=true:=by decide +kernel
  have:=all i hi;rw[e]at this;cases this
 ·cases h
def xdh{ν:Nat->Str}{es:DS}(h:DOk ν (AD 0 0) 0 es):DOk ν (AD 1 0) 1 (qng es (ν 0) (qba tA.1 tA.2)) :=
 h.put (by decide) (λj _ hn=>by unfold AD;rw[if_neg hn,if_neg hn];simp) (.inr ⟨_,_,rfl,rfl⟩) rfl (by decide)
def xdp{ν:Nat->Str}{es:DS}(h:DOk ν (AD 1 0) 1 es):DOk ν (AD 2 0) 2 (qng es (ν 1) (qba tB.1 tB.2)) :=
 h.put (by decide) (λj _ hn=>by unfold AD;rw[if_neg hn,if_neg hn];simp) (.inr ⟨_,_,rfl,rfl⟩) rfl (by decide)
def xfo{ν:Nat->Str}{es:DS}{k:Nat}(hk:k<18)(h:DOk ν (AD 2 k) (2+k) es):DOk ν (AD 2 (k+1)) (2+(k+1)) (qng es (ν (3+k)) (qba 1 [[1],[1]])):=by
 refine h.put (by omega) (λj _ hn=>?_) (.inr ⟨1,[[1],[1]],?_,rfl⟩) ?_ (by omega)
 ·unfold AD;by_cases y:3<=j/\j<3+k
  ·rw[if_pos (show 3<=j/\j<3+(k+1) by omega),if_pos y]
  ·rw[if_neg (show ¬ (3<=j/\j<3+(k+1)) by omega),if_neg y]
 ·unfold AD;rw[if_neg (by omega),if_neg (by omega),if_pos (by omega)]
 ·rw[show AD 2 k (3+k) = .no by unfold AD;rw[if_neg (by omega),if_neg (by omega),if_neg (by omega)]];rfl
def xdn{ν:Nat->Str}{es:DS}(h:DOk ν (AD 2 18) 20 es)(d:Qh):DOk ν AL 20 (qng es (ν 3) d) :=
 h.put (by decide) (λj _ hn=>by unfold AL;rw[if_neg hn]) (.inl rfl) rfl (by decide)
def qmv(ν:Nat->Str){i:Int}{k:Nat}(hi:i=(k:Int))(hk:k<26):atI ((Z9 26).map λk=>Zc (ν k)) i=some (.str (ν k)):=by
 rw[hi];exact qK (by rw[Qg,Vt hk];rfl)
def zuv{cR cN cT cF cNf cM C:Addr}{w:Str}(h:KW cR cN cT cF cNf cM C w):Qal w=true:=by
 rcases h with⟨_,rfl⟩|⟨_,rfl⟩|⟨_,rfl⟩|⟨_,rfl⟩|⟨_,rfl⟩|⟨_,rfl⟩ <;> decide +kernel
def zze(c:Cl)(es:DS)(w:Str)(d:Qh):Prop :=∃C,KW c.r c.n c.t c.f c.nf c.m C w/\qjc c.r c.n c.t c.f c.nf c.m es [d] (λ_ _=>False) (λC'=>C'=C)
def qhn{c:Cl}{ν:Nat->Str}{A:Nat->Lk}{z k:Nat}{es:DS}(h:DOk ν A z es){r:RowP}(hr:zoe A z k r=true){w:Str}(hw:KW c.r c.n c.t c.f c.nf c.m (c.at k) w):zze c es w (qmf ν r):=by
 cases r with
 |t ps=>exact⟨_,hw,qjf h (zbg hr) rfl⟩
 |z j =>
  have hk:k=0:=by simpa[zoe]using hr
  subst hk;refine⟨_,hw,by have:=h.len;have:=h.small;omega,_,rfl,.inl ⟨?_,rfl⟩⟩
  match j with
  |0=>rfl
  |1=>rfl
  |2=>rfl
  |_+3=>rfl
def xdz{c:Cl}{ν:Nat->Str}{es:DS}(h:DOk ν (AD 2 0) 2 es){due:String}{r:RowP}(ha:zuo due r):zze c es (Qc due) (qmf ν r):=by
 rcases ha with⟨rfl,hm⟩|⟨rfl,hm⟩|⟨rfl,hm⟩|hm
 ·exact qhn h (Q4.mp znc r hm) (.inl ⟨rfl,rfl⟩)
 ·exact qhn h (Q4.mp zjh r hm) (.inr (.inl ⟨rfl,rfl⟩))
 ·exact qhn h (Q4.mp zho r hm) (.inr (.inr (.inl ⟨rfl,rfl⟩)))
 ·have:=Q4.mp znh _ hm;simp only[Qy,Qam,beq_iff_eq]at this;obtain⟨h1|h1,h2⟩:=this
  ·subst h1;exact qhn h h2 (.inr (.inr (.inr (.inr (.inl ⟨rfl,rfl⟩)))))
  ·subst h1;exact qhn h h2 (.inr (.inr (.inr (.inr (.inr ⟨rfl,rfl⟩)))))
def zhd{c:Cl}{ν:Nat->Str}{es:DS}(h:DOk ν (AD 2 18) 20 es){j:Nat}(hj:j<4){p:String×List Prt}(hp:p∈qls (21+j)):zze c es (Qc p.1) (.str (zke ν p.2)):=by
 have hb:=zbg (Q4.mp (Q4.mp zko j (Qba.mpr hj)) p hp);have hs:=qjf (c:=c) h hb (q:=λ_ _=>False) (e:=λC'=>C'=c.at (zpp p.1)) rfl;refine⟨_,?_,hs⟩;unfold qls at hp;simp only[Q2,J7,or_false]at hp;rcases hp with rfl|rfl|rfl|rfl|rfl|rfl|rfl|rfl
 ·exact .inr (.inr (.inr (.inl ⟨rfl,rfl⟩)))
 ·exact .inr (.inr (.inr (.inl ⟨rfl,rfl⟩)))
 ·exact .inr (.inr (.inl ⟨rfl,rfl⟩))
 ·exact .inr (.inl ⟨rfl,rfl⟩)
 ·exact .inr (.inr (.inr (.inl ⟨rfl,rfl⟩)))
 ·exact .inr (.inr (.inr (.inl ⟨rfl,rfl⟩)))
 ·exact .inl ⟨rfl,rfl⟩
 ·exact .inr (.inl ⟨rfl,rfl⟩)
def qxu{e:Sto}{i k:Nat}{d:Qh}(h:∀j,j≠i->(gS e j).isDsk=false):∀j,j≠i->(gS (e.set k (.val d)) j).isDsk=false:=λj hj=>by
 rw[qbm];split
 ·rfl
 ·exact h j hj
def qxr{e:Sto}{i:Nat}{x:Sl}(h:∀j,j≠i->(gS e j).isDsk=false):∀j,j≠i->(gS (e.set i x) j).isDsk=false:=λj hj=>by
 rw[qbm,if_neg λz=>hj z.1.symm];exact h j hj
def qbn:FnScope ["_law_script","_law_names_here","_law_a","_law_b","_law_u","_law_texts","_law_desk","_law_k","_law_due","_law_row","_law_last","_law_some"] ["_law_script"] (defScope qxv):=sc0
def zxo{f:Addr}{fd:J5}(F:Fun K "law" "law" qxv f fd)(T:Txt w K mg cs)(O_Desk___init__:OkM P w K mg base cs.Desk "__init__" 1 ["self"] (zjv cs.Desk "glasses"))(O_Desk_say:OkMX P w K mg base cs.Desk "say" 8 ["self","row"] (qkt [cs.tb] (qva K cs.Desk "glasses" (qjc cs.NoRow cs.NoName cs.NoText cs.Full cs.NoFit cs.TooMany))))(O__law_cell:Ok P w K mg base "_law_cell" 1 ["_law_script","_law_k"] (PSp K qkl))(O__law_names:Ok P w K mg base "_law_names" 1 ["_law_cell_here"] (FSp K qiy))(O__law_kind:Ok P w K mg base "_law_kind" 9 ["_law_desk","_law_row"] (qkt [cs.tb] (qva K cs.Desk "glasses" (qnw cs.NoRow cs.NoName cs.NoText cs.Full cs.NoFit cs.TooMany))))(O__law_picked:Ok P w K mg base "_law_picked" 2 ["_law_a","_law_b","_law_u","_law_cell_here"] (PSp K qgu)):FnOk P w K mg base CX0 10 f fd ["_law_script"] (qtg [cs.tb] K):=by
  refine F.vlawT qbn rfl λcdv A outer s H E hr hTb ns hlen=>?_;refine⟨_,(qi (qt (i:=1) qbn.nd (qr (zdj O__law_names.c hr.m (qa (qB O__law_cell.c hr.m (qa (qc 0) (qa ql qe))) qe))))
   (qi (zdy (qr (qlr (qc 1) qlv (qlz ql))) (zyo (n:=3) rfl (qax (qw (i:=2) qbn.nd) (qax (qw (i:=3) qbn.nd) (qax (qw (i:=4) qbn.nd) qix)))))
   (qi (qt (i:=5) qbn.nd (qr (qC (qa qd (qa qd qe)))))
   (qi (zwy (i:=6) qbn.nd O_Desk___init__ T.Desk_mk T.Desk_kp hr.m T.Desk_)
   (qi (qgn rfl (qbs T.range_ ql) (qw (i:=7) qbn.nd) (qm (qbw (qA (qmt hr.units) (qlw 6 (O_Desk_say.t hTb) T.Desk_c hr.m (qa (qf qh (qf qh (qf qh qd (qz (qc 1) (qc 7))) qd) (qz (qc 5) (qc 7))) qe)) qd) (qm (qu qgc)) qj)))
   (qi (qgn rfl (qbs T.range_ ql) (qw (i:=7) qbn.nd) (qi (zdy (qB O__law_picked.c hr.m (qa (qc 2) (qa (qc 3) (qa (qc 4) (qa (qB O__law_cell.c hr.m (qa (qc 0) (qa (qf qh ql (qc 7)) qe))) qe))))) (qts (n:=2) rfl (qax (qw (i:=8) qbn.nd) (qax (qw (i:=9) qbn.nd) qix))))
   (qm (qbw (qA (qmt hr.units) (zok 6 (O__law_kind.t hTb) hr.m (qa (qc 9) qe)) (qc 8)) (qm (qu qgc)) qj))))
   (qi (qgn rfl (qbs T.range_ ql) (qw (i:=7) qbn.nd) (qm (qbw (qA (qmt hr.units) (qlw 6 (O_Desk_say.t hTb) T.Desk_c hr.m (qa (qf qh (qf qh qd (qz (qc 1) (qf qh ql (qc 7)))) qd) qe)) qd) (qm (qu qgc)) qj)))
   (qi (qt (i:=10) qbn.nd (qz (qc 1) (qf qh ql (qf qjz (qB O__law_cell.c hr.m (qa (qc 0) (qa ql qe))) ql))))
   (qi (qt (i:=11) qbn.nd (qr (qC (qa (qac (qa qd (qa (qf qh (qf qh (qf qh qd (qc 10)) qd) (qc 2)) qe))) (qa (qac (qa qd (qa (qf qh (qf qh qd (qc 10)) qd) qe))) (qa (qac (qa qd (qa (qf qh (qf qh qd (qc 10)) qd) qe))) qe))))))
   (qi (qt (i:=11) qbn.nd (qr (qR (qc 11) (qr (qC (qa (qac (qa qd (qa (qf qh (qf qh (qf qh qd (qc 10)) qd) (qc 4)) qe))) (qa (qac (qa qd (qa (qf qh (qf qh (qf qh (qf qh (qf qh qd (qc 10)) qd) (qc 2)) qd) (qc 3)) qe))) qe)))))))
   (qi (qt (i:=11) qbn.nd (qr (qR (qc 11) (qr (qC (qa (qac (qa qd (qa (qf qh (qf qh (qf qh (qf qh qd (qc 10)) qd) (qc 2)) qd) qe))) (qa (qac (qa qd (qa (qf qh qd (qc 10)) qe))) (qa (qac (qa qd (qa (qf qh qd (qc 10)) qe))) qe))))))))
   (qi (zdy (qz (qc 11) (qf qjz (qB O__law_cell.c hr.m (qa (qc 0) (qa ql qe))) (qv qbj T.len_ L2.boot_len (qa (qc 11) qe)))) (qts (n:=2) rfl (qax (qw (i:=8) qbn.nd) (qax (qw (i:=9) qbn.nd) qix))))
   (qi (qbw (VW.pt (qee (qA (qmt hr.units) (zok 6 (O__law_kind.t hTb) hr.m (qa (qc 9) qe)) (qc 8)) (qde (qA (qmt hr.units) (qlw 6 (O_Desk_say.t hTb) T.Desk_c hr.m (qa (qf qh (qf qh (qf qh qd (qz (qc 1) ql)) qd) (qc 3)) qe)) qd)))) (qm (qu qgc)) qj)
   (qm (qu (qpd (qds (qdk hr.units) (qlw 6 (O_Desk_say.t hTb) T.Desk_c hr.m (qa (qf qh qd (qc 2)) qe)) (qz (qc 5) ql)) (qjk (qds (qdk hr.units) (qlw 6 (O_Desk_say.t hTb) T.Desk_c hr.m (qa (qf qh qd (qc 3)) qe)) (qz (qc 5) ql))))))))))))))))))),?_⟩
  refine⟨ns,0,rfl,⟨by decide,by decide,hlen⟩,λz0=>⟨z0,rfl,λn a ha hn=>?_⟩⟩;have hν:∀i,Nam (qif z0 n a i):=λi=>zli z0 i ha hn;have hD0:=xeb hν (λi j hi hj=>zkq z0 ha hi hj);generalize qif z0 n a=ν at hν hD0;have l8:∀i,(ν i).length<=8:=λi=>(hν i).l8;have shO:=qcd (x := "ok") 0 (by decide +kernel);intro r hr;have hr:r=[.str (ν 0),.str (ν 1),.str (ν 2)]:=hr.trans rfl;subst hr;have z:100<=Qo:=qH (k:=100) (Qn _) (by decide);refine⟨rfl,rfl,szl,λdA dG=>?_⟩;refine⟨⟨by decide,by decide⟩,λi e =>∃es s7,(DOk ν (AD i 0) i es/\s7.isDsk=false)/\e=[.val (.list (ns.map .int)),.val (.list ((Z9 26).map λk=>Zc (ν k))),.val (.str (ν 0)),.val (.str (ν 1)),.val (.str (ν 2)),.val (.list [.str (Qc "1/2 1/4 1/8 1/8 | 0 1/3 1/3 1/3"),.str (Qc "1/2 1/2 | 1/7 6/7 | 0 1")]),.dsk true dA dG cs.Desk "glasses" es,s7,.non,.non,.non,.non],⟨[],_,⟨hD0,rfl⟩,rfl⟩,?_,?_⟩
  ·rintro i d e hd ⟨es,s7,⟨hD,_⟩,rfl⟩;obtain⟨hi,rfl⟩:=qcm hd;have hi:i<2:=by simpa using hi
   rcases(show i=0\/i=1 by omega)with rfl|rfl
   ·refine⟨dA,dG,es,rfl,_,qmv ν (k:=0) rfl (by decide),cz (cl (by decide)) (l8 0),cz (ca (cl (by decide)) (l8 0)) (cl (by decide)),_,qM _ _,cz (ca (ca (cl (by decide)) (l8 0)) (cl (by decide))) (cl (by decide)),rfl,λj hj=>by rcases j with _|_|_|_|_|_|_|_|_|_|_|_|j <;> first|exact absurd rfl hj|rfl,?_⟩;exact qjf (c:=⟨cs.NoRow,cs.NoName,cs.NoText,cs.Full,cs.NoFit,cs.TooMany⟩) hD zqh ⟨shO.ok,shO.ok,zkd shO.refl ⟨_,_,⟨xdh hD,rfl⟩,rfl⟩⟩
   ·refine⟨dA,dG,es,rfl,_,qmv ν (k:=1) rfl (by decide),cz (cl (by decide)) (l8 1),cz (ca (cl (by decide)) (l8 1)) (cl (by decide)),_,qK (j:=1) rfl,cz (ca (ca (cl (by decide)) (l8 1)) (cl (by decide))) (cl (by decide)),rfl,λj hj=>by rcases j with _|_|_|_|_|_|_|_|_|_|_|_|j <;> first|exact absurd rfl hj|rfl,?_⟩;exact qjf (c:=⟨cs.NoRow,cs.NoName,cs.NoText,cs.Full,cs.NoFit,cs.TooMany⟩) hD zqv ⟨shO.ok,shO.ok,zkd shO.refl ⟨_,_,⟨xdp hD,rfl⟩,rfl⟩⟩
  rintro e ⟨es,s7,⟨hD,d7⟩,rfl⟩;have hD:DOk ν (AD 2 0) 2 es:=hD;refine⟨⟨by decide,by decide⟩,λi e =>∃s7 s8 s9,e=[.val (.list (ns.map .int)),.val (.list ((Z9 26).map λk=>Zc (ν k))),.val (.str (ν 0)),.val (.str (ν 1)),.val (.str (ν 2)),.val (.list [.str (Qc "1/2 1/4 1/8 1/8 | 0 1/3 1/3 1/3"),.str (Qc "1/2 1/2 | 1/7 6/7 | 0 1")]),.dsk true dA dG cs.Desk "glasses" es,s7,s8,s9,.non,.non]/\s7.isDsk=false/\s8.isDsk=false/\s9.isDsk=false,⟨_,_,_,rfl,d7,rfl,rfl⟩,?_,?_⟩
  ·rintro i d e hd ⟨s7,s8,s9,rfl,_,_,_⟩;obtain⟨hi,rfl⟩:=qcm hd;have hi:i<16:=by simpa using hi
   refine⟨ns,_,rfl,⟨by omega,by omega,hlen⟩,λc=>⟨ν,c,rfl,l8,λdue r ha=>⟨rfl,rfl,dA,dG,es,rfl,rfl,?_,?_⟩⟩⟩
   ·exact λj hj=>by rcases j with _|_|_|_|_|_|_|_|_|_|_|_|j <;> first|exact absurd rfl hj|rfl
   ·obtain⟨C,hw,hs⟩:=xdz (c:=⟨cs.NoRow,cs.NoName,cs.NoText,cs.Full,cs.NoFit,cs.TooMany⟩) hD ha;have shW:=qcd (x:=Qc due) 0 (zuv hw);exact⟨_,C,_,rfl,hw,hs,shW.ok,shW.ok,zkd shW.refl ⟨_,_,_,rfl,rfl,rfl,rfl⟩⟩
  rintro e ⟨s7,s8,s9,rfl,d7,d8,d9⟩;refine⟨⟨by decide,by decide⟩,λi e =>∃es s7,(DOk ν (AD 2 i) (2+i) es/\s7.isDsk=false)/\e=[.val (.list (ns.map .int)),.val (.list ((Z9 26).map λk=>Zc (ν k))),.val (.str (ν 0)),.val (.str (ν 1)),.val (.str (ν 2)),.val (.list [.str (Qc "1/2 1/4 1/8 1/8 | 0 1/3 1/3 1/3"),.str (Qc "1/2 1/2 | 1/7 6/7 | 0 1")]),.dsk true dA dG cs.Desk "glasses" es,s7,s8,s9,.non,.non],⟨es,_,⟨hD,d7⟩,rfl⟩,?_,?_⟩
  ·rintro i d e hd ⟨es,s7,⟨hD,_⟩,rfl⟩;obtain⟨hi,rfl⟩:=qcm hd;have hi:i<18:=by simpa using hi
   refine⟨dA,dG,es,rfl,_,qmv ν (k:=3+i) (by omega) (by omega),cz (cl (by decide)) (l8 _),cz (ca (cl (by decide)) (l8 _)) (cl (by decide)),rfl,(λj hj=>by rcases j with _|_|_|_|_|_|_|_|_|_|_|_|j <;> first|exact absurd rfl hj|rfl|exact d8|exact d9),?_⟩;exact qjf (c:=⟨cs.NoRow,cs.NoName,cs.NoText,cs.Full,cs.NoFit,cs.TooMany⟩) hD (zss i hi) ⟨shO.ok,shO.ok,zkd shO.refl ⟨_,_,⟨xfo hi hD,rfl⟩,rfl⟩⟩
  rintro e ⟨es,s7',⟨hD,d7⟩,rfl⟩;have hD:DOk ν (AD 2 18) 20 es:=hD;refine⟨ns,20,rfl,⟨by decide,by decide,hlen⟩,λz4=>⟨(show(0:Int)<4 by decide),?_⟩⟩;have hnd:∀j,j≠6->(gS [.val (.list (ns.map .int)),.val (.list ((Z9 26).map λk=>Zc (ν k))),.val (.str (ν 0)),.val (.str (ν 1)),.val (.str (ν 2)),.val (.list [.str (Qc "1/2 1/4 1/8 1/8 | 0 1/3 1/3 1/3"),.str (Qc "1/2 1/2 | 1/7 6/7 | 0 1")]),.dsk true dA dG cs.Desk "glasses" es,s7',s8,s9,.non,.non] j).isDsk=false:=λj hj=>by rcases j with _|_|_|_|_|_|_|_|_|_|_|_|j <;> first|exact absurd rfl hj|rfl|exact d7|exact d8|exact d9
  have a0:=Yy z4 (show(4:Int)≠0 by decide);have a1:=Yw z4 (show(0:Int)<4 by decide);obtain⟨j,ej⟩:=Yr a0;have hj:j<4:=by omega
  refine⟨_,qmv ν (k:=21+j) (by omega) (by omega),?_⟩;have h0:=l8 0;have h1:=l8 1;have h2:=l8 2;have hL:=l8 (21+j);refine⟨cz (cl (by decide)) hL,cz (ca (cl (by decide)) hL) (cl (by decide)),cz (ca (ca (cl (by decide)) hL) (cl (by decide))) h0,szl,cz (cl (by decide)) hL,cz (ca (cl (by decide)) hL) (cl (by decide)),szl,cz (cl (by decide)) hL,cz (ca (cl (by decide)) hL) (cl (by decide)),szl,szl,cz (cl (by decide)) hL,cz (ca (cl (by decide)) hL) (cl (by decide)),cz (ca (ca (cl (by decide)) hL) (cl (by decide))) h2,szl,cz (cl (by decide)) hL,cz (ca (cl (by decide)) hL) (cl (by decide)),cz (ca (ca (cl (by decide)) hL) (cl (by decide))) h0,cz (ca (ca (ca (cl (by decide)) hL) (cl (by decide))) h0) (cl (by decide)),cz (ca (ca (ca (ca (cl (by decide)) hL) (cl (by decide))) h0) (cl (by decide))) h1,szl,szl,Qk (Qu rfl:_<=100) z,cz (cl (by decide)) hL,cz (ca (cl (by decide)) hL) (cl (by decide)),cz (ca (ca (cl (by decide)) hL) (cl (by decide))) h0,cz (ca (ca (ca (cl (by decide)) hL) (cl (by decide))) h0) (cl (by decide)),szl,cz (cl (by decide)) hL,szl,cz (cl (by decide)) hL,szl,szl,Qk (Qu rfl:_<=100) z,?_⟩;refine⟨ns,21,rfl,⟨by decide,by decide,hlen⟩,λz5=>?_⟩;obtain⟨p,hp,ep⟩:=qhy (L:=qls (21+j)) (f:=λp=>Qjm [.str (Qc p.1),.str (zke ν p.2)]) (show 0<8 by decide) z5;obtain⟨C,hw,hs⟩:=zhd (c:=⟨cs.NoRow,cs.NoName,cs.NoText,cs.Full,cs.NoFit,cs.TooMany⟩) hD hj hp;have shW:=qcd (x:=Qc p.1) 0 (zuv hw);refine⟨(show(0:Int)<8 by decide),_,ep,rfl,rfl,dA,dG,es,rfl,rfl,(by repeat' (first|exact hnd|refine qxr ?_|refine qxu ?_)),?_⟩;refine⟨_,C,_,rfl,hw,hs,shW.ok,shW.ok,zkd shW.refl ⟨dA,dG,es,rfl,_,qmv ν (k:=3) rfl (by decide),cz (cl (by decide)) (l8 3),cz (ca (cl (by decide)) (l8 3)) (cl (by decide)),cz (ca (ca (cl (by decide)) (l8 3)) (cl (by decide))) h1,rfl,(by repeat' (first|exact hnd|refine qxr ?_|refine qxu ?_)),?_⟩⟩;refine qjf (c:=⟨cs.NoRow,cs.NoName,cs.NoText,cs.Full,cs.NoFit,cs.TooMany⟩) hD zuj λd=>⟨shO.ok,shO.ok,zkd shO.refl ?_⟩
  have hD:=xdn hD d;have shA:=qcd (x := "1/2 1/4 1/8 1/8 | 0 1/3 1/3 1/3") 0 (by decide +kernel);have shB:=qcd (x := "1/2 1/2 | 1/7 6/7 | 0 1") 0 (by decide +kernel);refine⟨dA,dG,_,rfl,cz (cl (by decide)) h0,rfl,(by repeat' (first|exact hnd|refine qxr ?_|refine qxu ?_)),?_⟩;refine qjf (c:=⟨cs.NoRow,cs.NoName,cs.NoText,cs.Full,cs.NoFit,cs.TooMany⟩) hD zyy ⟨_,qM _ _,shA.ok,shA.ok,?_⟩;rw[shA.refl];refine⟨dA,dG,_,rfl,cz (cl (by decide)) h1,rfl,(by repeat' (first|exact hnd|refine qxr ?_|refine qxu ?_)),?_⟩;refine qjf (c:=⟨cs.NoRow,cs.NoName,cs.NoText,cs.Full,cs.NoFit,cs.TooMany⟩) hD zxi ⟨_,qK (j:=1) rfl,shB.ok,shB.ok,?_⟩;rw[shB.refl];rfl
end
def walk{l:Qgs}{q:Zk}{loose:List Str}{XP:(Str->Option Value)->Heap->Prop}{YP:World->Heap->Prop}{d:DefRec}{K:Qby->Qa}{tbs:List Addr}(hn:l.most=some 63)(hdf:d.params.defaults=[])(hY:∀(w:World)(h:Heap),YP w h->(K w.params).In h /\ ∀b∈tbs,∃c,h.TableAt c b #[])(hKt:∀P,∀b∈tbs,(K P).lookup b=none)(F:∀(w:World)(mg:Str->Option Value)(fa:Addr)(h:Heap),(K w.params).In h->h.Ns Zg mg->mg d.name=some (.ref fa) ->
 ∃fd:J5,(∀(s:Ql)(u:Value),Qjj s fd ⟨[u],[]⟩ [("_law_script",u)]) /\ ∀base:Heap,(K w.params).In base->base.Ns Zg mg->FnOk l.prog w (K w.params) mg base CX0 10 fa fd ["_law_script"] (qtg tbs (K w.params))):
 Qlr q loose XP YP l.row.toRowW d [] (λf vs=>Qll f vs) :=
  L2.walk_ofT (n:=63) (k:=10) (x := "_law_script") (tbs:=λ_=>tbs) (CX:=λ_=>CX0) (sp:=λw=>qtg tbs (K w.params)) hn (by decide) hdf ⟨rfl,by decide,by decide⟩ hY hKt F (λ_ _ a ns hl ht hS=>⟨ht,a,ns,rfl,hS,hl,λ_=>rfl⟩) λ_ _ _ _ _ z=>z
def zbf{α:Type}{n:Nat}{us:List α}(h:us.length=n+1):∃a r,us=a::r/\r.length=n:=by
 cases us with
 |nil=>cases h
 |cons a r=>grind
def us1{α:Type}{us:List α}(h:us.length=1):∃a0:α,us=[a0]:=by
 obtain⟨a0,u0,rfl,h0⟩:=zbf h;grind
def us2{α:Type}{us:List α}(h:us.length=2):∃a0 a1:α,us=[a0,a1]:=by
 obtain⟨a0,u0,rfl,h0⟩:=zbf h;obtain⟨a1,u1,rfl,h1⟩:=zbf h0;grind
def us3{α:Type}{us:List α}(h:us.length=3):∃a0 a1 a2:α,us=[a0,a1,a2]:=by
 obtain⟨a0,u0,rfl,h0⟩:=zbf h;obtain⟨a1,u1,rfl,h1⟩:=zbf h0;obtain⟨a2,u2,rfl,h2⟩:=zbf h1;grind
def us4{α:Type}{us:List α}(h:us.length=4):∃a0 a1 a2 a3:α,us=[a0,a1,a2,a3]:=by
 obtain⟨a0,u0,rfl,h0⟩:=zbf h;obtain⟨a1,u1,rfl,h1⟩:=zbf h0;obtain⟨a2,u2,rfl,h2⟩:=zbf h1;obtain⟨a3,u3,rfl,h3⟩:=zbf h2;grind
def pv0(K:Qa)(f:Nat):Value:=match K.lookup f with|some ⟨_,_,.func d,_⟩=>d.pyModule|_ => .none
def tk0(K:Qa)(x:Str):Nat:=match Qan K Zg x with|some (some (.int _ t))=>t|some (some (.str _ t))=>t|_=>0
abbrev lo0(K:Qa)(q:Str)(f c:Nat):=(K.lookup f,Qcs K (.ref c) q,Z4 K (.ref f))
abbrev fo9(K:Qa)(x q:Str)(st:Stmt)(f c:Nat):=(some (fo0 x q st (pv0 K f) c),true,true)
abbrev Hb9(x q:Str)(st:Stmt)(ps:List Str):Prop :=∀(kV doc pm:Value)(an:Option Addr)(cdv ct:Value)(us:List Value),us.length=ps.length->Qhi (Vx x q (defArgs st) (defBody st) (defScope st) .none kV doc pm an cdv ct) ⟨us,[]⟩=pure (ps.zip us)
section
variable{K:Qa}{mg:Str->Option Value}{h:Heap}{x m q:Str}{st:Stmt}{ps:List Str}{f c C:Nat}
def lk9(h:lo0 K q f c=fo9 K x q st f c):Fun K x q st f (Vx x q (defArgs st) (defBody st) (defScope st) .none .none .none (pv0 K f) none (.ref c) .none)/\Z4 K (.ref f)=true:=⟨zye (congrArg (·.1) h) (congrArg (·.2.1) h) (congrArg (·.2.2) h),congrArg (·.2.2) h⟩
def df9(f:Nat)(X:K.In h)(G:h.Ns Zg mg)(e:(Qan K Zg x,lo0 K x f (f-1))=(some (some (.ref f)),fo9 K x x st f (f-1)):=by kernel_rfl)(hb:Hb9 x x st ps:=by(intro _ _ _ _ _ _ us hl;first|(obtain⟨_,rfl⟩:=us1 hl;rfl)|(obtain⟨_,_,rfl⟩:=us2 hl;rfl)|(obtain⟨_,_,_,rfl⟩:=us3 hl;rfl)|(obtain⟨_,_,_,_,rfl⟩:=us4 hl;rfl))):Def K mg x st ps :=
 have F:=(lk9 (congrArg (·.2) e)).1
 ⟨_,_,F,Qbx X G (congrArg (·.1) e),F.binds hb⟩
def dt9(f:Nat)(X:K.In h)(G:h.Ns Zg mg)(e:(Qan K Zg x,lo0 K x f c)=(some (some (.ref f)),fo9 K x x st f c):=by kernel_rfl)(hb:Hb9 x x st ps:=by(intro _ _ _ _ _ _ us hl;first|(obtain⟨_,rfl⟩:=us1 hl;rfl)|(obtain⟨_,_,rfl⟩:=us2 hl;rfl)|(obtain⟨_,_,_,rfl⟩:=us3 hl;rfl)|(obtain⟨_,_,_,_,rfl⟩:=us4 hl;rfl))):DefT K mg x st ps c :=
 have z:=congrArg (·.2) e
 ⟨_,_,_,_,_,_,_,_,_,congrArg (·.1) z,congrArg (·.2.1) z,congrArg (·.2.2) z,Qbx X G (congrArg (·.1) e),(lk9 z).1.binds hb⟩
def md9(f:Nat)(e:(Ye K (.ref C) m,Qgl K (.ref f),lo0 K q f (f-1))=(some (some (.ref f)),true,fo9 K m q st f (f-1)):=by kernel_rfl)(hb:Hb9 m q st ps:=by(intro _ _ _ _ _ _ us hl;first|(obtain⟨_,rfl⟩:=us1 hl;rfl)|(obtain⟨_,_,rfl⟩:=us2 hl;rfl)|(obtain⟨_,_,_,rfl⟩:=us3 hl;rfl)|(obtain⟨_,_,_,_,rfl⟩:=us4 hl;rfl))):MDef K C m q st ps :=
 have F:=lk9 (congrArg (·.2.2) e)
 ⟨_,_,F.1,⟨congrArg (·.1) e,congrArg (·.2.1) e,F.2⟩,F.1.binds hb⟩
def kr9{α:Type}{a b:α}(e:a=b:=by kernel_rfl):a=b:=e
def mn9(X:K.In h)(G:h.Ns Zg mg)(e:Qan K Zg x=some none:=by kernel_rfl):mg x=none:=PySem.W.mg_none_of X G e
def mi9(X:K.In h)(G:h.Ns Zg mg){n:Int}(e:Qan K Zg x=some (some (.int n (tk0 K x))):=by kernel_rfl):∃t,mg x=some (.int n t):=⟨_,Qbx X G e⟩
def ms9(X:K.In h)(G:h.Ns Zg mg){n:Str}(e:Qan K Zg x=some (some (.str n (tk0 K x))):=by kernel_rfl):∃t,mg x=some (.str n t):=⟨_,Qbx X G e⟩
def mo9(X:K.In h)(G:h.Ns Zg mg){v:Value}(e:Qan K Zg x=some (some v):=by kernel_rfl):mg x=some v:=Qbx X G e
end
def all_mk{l:Qgs}{w:World}{h:Heap}{mg:Str->Option Value}{fa:Addr}(X:(K0 w.params).In h)(G:h.Ns Zg mg)(hfa:mg "law" = some (.ref fa)):∃fd:J5,(∀(s:Ql)(v:Value),Qjj s fd ⟨[v],[]⟩ [("_law_script",v)]) /\ ∀base:Heap,(K0 w.params).In base->base.Ns Zg mg->FnOk l.prog w (K0 w.params) mg base CX0 10 fa fd ["_law_script"] (qtg [483] (K0 w.params)):=by
 have a:(Qan (K0 w.params) Zg "law",lo0 (K0 w.params) "law" 819 818)=(some (some (.ref 819)),fo9 (K0 w.params) "law" "law" qxv 819 818):=by kernel_rfl
 have e:=hfa.symm.trans (Qbx X G (congrArg (·.1) a));cases e;have T:Txt w (K0 w.params) mg ⟨706,652,145,24,85,61,73,49,133,121,37,109,651,97,741,748,760,755,483,487,4⟩:=⟨mo9 X G,mo9 X G,mo9 X G,mo9 X G,mo9 X G,mo9 X G,mo9 X G,mo9 X G,mo9 X G,mo9 X G,mo9 X G,mo9 X G,mo9 X G,mo9 X G,mo9 X G,mo9 X G,mo9 X G,mo9 X G,⟨[("glass",1042,653),("dull",1045,654),("beside",1049,655),("join",1053,656),("least",1058,657),("show",1061,658),("best",1063,659),("compare",1066,660),("by",1069,661),("alike",1072,662),("curve",1075,663)],11,kr9,kr9,by decide,kr9⟩,kr9,kr9,kr9,kr9,kr9,⟨kr9,kr9,kr9,kr9⟩,kr9,kr9,kr9,kr9,kr9,kr9,kr9,kr9,kr9,kr9,⟨kr9,kr9,kr9,kr9⟩,⟨kr9,kr9⟩,kr9,kr9,kr9,kr9,kr9,kr9,kr9,kr9,⟨kr9,kr9,kr9,kr9⟩,⟨kr9,kr9⟩,kr9,kr9,kr9,kr9,kr9,kr9,kr9,kr9,⟨kr9,kr9,kr9,kr9⟩,⟨kr9,kr9⟩,kr9,kr9,kr9,kr9,kr9,kr9,kr9,kr9,⟨kr9,kr9,kr9,kr9⟩,⟨kr9,kr9⟩,kr9,kr9,kr9,kr9,kr9,kr9,kr9,kr9,⟨kr9,kr9,kr9,kr9⟩,⟨kr9,kr9⟩,kr9,kr9,kr9,kr9,kr9,kr9,kr9,kr9,⟨kr9,kr9,kr9,kr9⟩,⟨kr9,kr9⟩,kr9,kr9,kr9,kr9,kr9,kr9,kr9,kr9,kr9,kr9,mo9 X G,mn9 X G,mn9 X G,mn9 X G,mn9 X G,mn9 X G,mn9 X G,mn9 X G,mn9 X G,mn9 X G,mn9 X G,mn9 X G,mn9 X G,mn9 X G,mn9 X G,mn9 X G,mn9 X G,mi9 X G,ms9 X G,ms9 X G,mi9 X G,mi9 X G,mi9 X G,mi9 X G,mi9 X G,mi9 X G,mi9 X G,mi9 X G,mi9 X G⟩
 refine⟨Vx "law" "law" (defArgs qxv) (defBody qxv) (defScope qxv) .none .none .none (pv0 (K0 w.params) 819) none (.ref 818) .none,λs v => .of_eq rfl,λbase KB _=>?_⟩;have O0:=qmd (P:=l.prog) (w:=w) (base:=base) (md9 677) T;have O1:=qzg (P:=l.prog) (w:=w) (base:=base) (df9 154 X G) T;have O2:=qvs (df9 220 X G) T O1;have O3:=qpi (df9 215 X G) T O1 O2;have O4:=zbz (P:=l.prog) (w:=w) (base:=base) (df9 161 X G) T;have O5:=qki (df9 232 X G) T O4;have O6:=qza (df9 225 X G) T O3 O5;have O7:=qzl (df9 203 X G) T O6;have O8:=qpl (P:=l.prog) (w:=w) (base:=base) (df9 252 X G) T;have O9:=qjo (df9 247 X G) T O4 O8;have O10:=qmr (P:=l.prog) (w:=w) (base:=base) (df9 619 X G) T;have O11:=zdh (df9 175 X G) T O4;have O12:=zld (df9 168 X G) T O1 O11;have O13:=qtn (P:=l.prog) (w:=w) (base:=base) (df9 575 X G) T;have O14:=qsp (P:=l.prog) (w:=w) (base:=base) (df9 638 X G) T;have O15:=qvz (df9 633 X G) T O14;have O16:=qtr (df9 626 X G) T O12 O13 O15;have O17:=qta (df9 614 X G) T O9 O10 O16;have O18:=qtl (df9 602 X G) T O7 O17;have O19:=qsz (df9 210 X G) T O6;have O20:=qox (df9 609 X G) T O17 O19;have O21:=qph (df9 650 X G) T O15;have O22:=qow (df9 643 X G) T O10 O21;have O23:=qhm (P:=l.prog) (w:=w) (base:=base) (md9 696) T;have O24:=qhs (md9 689) T O18 O20 O22 O23;have O25:=qjn (P:=l.prog) (w:=w) (base:=base) (md9 703) T;have O26:=qjq (df9 722 X G) T O14 O15;have O27:=qze (df9 715 X G) T O26;have O28:=zkz (P:=l.prog) (w:=w) (base:=base) (df9 266 X G) T;have O29:=qvo (df9 293 X G) T O28;have O30:=zit (df9 288 X G) T O29;have O31:=zhs (P:=l.prog) (w:=w) (base:=base) (df9 259 X G) T;have O32:=qgf (df9 322 X G) T O31;have O33:=qge (P:=l.prog) (w:=w) (base:=base) (df9 329 X G) T;have O34:=zgs (df9 303 X G) T O28 O32 O33;have O35:=zij (df9 334 X G) T O1 O28;have O36:=zbv (P:=l.prog) (w:=w) (base:=base) (df9 242 X G) T;have O37:=qou (df9 237 X G) T O5 O36;have O38:=qyv (P:=l.prog) (w:=w) (base:=base) (df9 281 X G) T;have O39:=zhh (P:=l.prog) (w:=w) (base:=base) (df9 271 X G) T;have O40:=qly (P:=l.prog) (w:=w) (base:=base) (df9 503 X G) T;have O41:=qms (df9 493 X G) T O40;have O42:=qmq (dt9 488 X G) T KB O5 O28 O36 O39 O41;have O43:=qkh (df9 498 X G) T O40;have O44:=qyp (P:=l.prog) (w:=w) (base:=base) (df9 510 X G) T;have O45:=qyq (df9 515 X G) T O12 O28 O39 O41;have O46:=zmn (df9 481 X G) T O9 O28 O37 O38 O42 O43 O44 O45;have O47:=zco (df9 729 X G) T O30 O34 O35 O46;have O48:=qzc (df9 425 X G) T O32;have O49:=qtq (df9 439 X G) T O48;have O50:=znj (df9 432 X G) T O49;have O51:=zll (df9 520 X G) T O31;have O52:=qlu (df9 551 X G) T O31;have O53:=zst (df9 544 X G) T O52;have O54:=qzh (df9 585 X G) T O12 O13;have O55:=qzi (P:=l.prog) (w:=w) (base:=base) (df9 595 X G) T;have O56:=qtk (df9 580 X G) T O54 O55;have O57:=qwa (df9 736 X G) T O48 O50 O51 O53 O56;have O58:=qzf (md9 682) T O24 O25 O27 O47 O57;have O59:=qwc (P:=l.prog) (w:=w) (base:=base) (df9 767 X G) T;have O60:=qso (P:=l.prog) (w:=w) (base:=base) (df9 772 X G) T;have O61:=qvx (df9 805 X G) T O58;have O62:=qor (P:=l.prog) (w:=w) (base:=base) (df9 779 X G) T;have O63:=qmo (P:=l.prog) (w:=w) (base:=base) (df9 786 X G) T;have O64:=qmn (P:=l.prog) (w:=w) (base:=base) (df9 793 X G) T;have O65:=qop (P:=l.prog) (w:=w) (base:=base) (df9 800 X G) T;have O66:=qpo (df9 812 X G) T O62 O63 O64 O65;exact zxo (P:=l.prog) (w:=w) (K:=(K0 w.params)) (mg:=mg) (base:=base) (lk9 (congrArg (·.2) a)).1 T O0 O58 O59 O60 O61 O66
def tq0(P:Qby):(([(483,487),(522,526)]:List (Addr×Addr)).all λp=>L2.codeTb (K0 P) p.2 p.1)=true:=by kernel_rfl
end My
open PySem PySem.W PyProof.Rows
set_option maxRecDepth 100000 in
set_option maxHeartbeats 0 in
theorem PySem.Challenge.cw_dullglass_k54_desk_rows_refused_holds : PySem.Challenge.rw_dullglass_k54_desk_rows_refused.Holds := by
 w_on
 refine holds_law My.sd0 λsaid=>?_;refine holds_open (q:=view Qd [135]) (XP:=λ_ _=>True) (YP:=InK My.K1) My.left0 (InK.of My.ik0) InK.keeps (λ_ _=>Vh) (λ_ _ _ _ _=>Vh) (by rfl) (by rfl) (by rfl) (λs _=>recFacts_nil rfl) (by rfl) (by assumption) (by decide +kernel) ⟨rfl,rfl,rfl,rfl,rfl,by decide +kernel⟩ ?hw ?hc
 case hw=>w_witness2
 k_fill
 exact My.walk (l:=Ym) (K:=My.K0) (tbs:=[483]) rfl rfl (λw h Y=>let Z:=L2.tabs_in (ts:=[(483,487),(522,526)]) (My.tn0 _) (My.tq0 _) Y; ⟨Z.1,λb hb=>Z.2 b (by revert b;decide)⟩) (λ_=>L2.none_all (ts:=[(483,487)]) (by kernel_rfl)) λw mg fa h KX G hmg=>My.all_mk KX G hmg
